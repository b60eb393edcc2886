import PyProof.Rows.All
import Wide.All
import OpenK.AllK
import Wide.FinOn
import Lean
import PyProof.EqAt
import PyProof.EqKinds
import PyProof.TupleCall
import PyProof.NeKinds
import KE.KDictSum
import PySem.Challenge.RW_delve_k56_whole_good_dealings
namespace PySem.W.Fast
def tw10870334240934518291:=0
def tw6722874030919240209:=0
def tw13851792547669309532:=0
def tw16615900001189022381:=0
def tw6041380692912996118:=0
def tw15610881412382999914:=0
def tw11728510611996320884:=0
def tw3067623144231390540:=0
def tw9383734650327485379:=0
def tw16301760852006454676:=0
def tw12400993381157969856:=0
def tw717171766237003806:=0
def tw1345690502818726496:=0
def tw671695190559400816:=0
def tw6509276755479074990:=0
def tw13926861610076675885:=0
def tw10455281944528456752:=0
def tw10825593793668236016:=0
def tw7669200653283534440:=0
def tw12548594047914691731:=0
def tw9325490742940606380:=0
def tw14979897110716458595:=0
def tw8945245590472232991:=0
def tw13141567412794623888:=0
def tw11229859495219290381:=0
def tw11308911773255095374:=0
def tw17067727093074243110:=0
def tw1848494674872682743:=0
def tw14046515933816295524:=0
def tw17396735403036694085:=0
def tw18332848960775810482:=0
def tw1408375842417250424:=0
def tw6058851801795411080:=0
def tw15960515501858982219:=0
def tw9727328597266713218:=0
def tw11875940386359881173:=0
def tw3229536515255344019:=0
def tw5636291988437319715:=0
def tw14955588031534343118:=0
def tw13693202383097948458:=0
def tw10664057317768487971:=0
def tw16370896114631678315:=0
def tw16948556675979030609:=0
def tw7227996271185967470:=0
def tw17553564012893341636:=0
def tw8020247495993246415:=0
def tw9564063575640921126:=0
def tw231100020414855154:=0
def tw16720735244996910134:=0
def tw17709239598379560821:=0
def tw16808140932884947671:=0
def tw14597930187419610772:=0
def tw14239334297761111338:=0
def tw15371256951252941999:=0
def tw9892717044843067515:=0
def tw4529301335264355566:=0
def tw12257819367345028704:=0
def tw1656927348705355204:=0
def tw16234550899420657936:=0
def tw17732518976294495033:=0
def tw1040857302397170577:=0
def tw3885606880843769308:=0
def tw1823850179334531182:=0
def tw12442242161399584300:=0
def tw12481629931084920189:=0
def tw11850420360165723740:=0
def tw3416732818321119889:=0
def tw17960966591865119095:=0
def tw12560096420064442128:=0
def tw11940332787320418085:=0
def tw8908642302408580822:=0
def tw9289324829606606983:=0
def tw1250439565144634371:=0
def tw9755261582947424513:=0
def tw14483680721931590624:=0
def tw1245526069786018899:=0
def tw10718340347932421951:=0
def tw9563316315202197178:=0
def tw12463539307530905943:=0
def tw6350449632518912729:=0
def tw14364794104678532735:=0
def tw17864724505602116222:=0
def tw7841949623362491596:=0
def tw1413035470828234072:=0
def tw1939193682163384843:=0
def tw972429846394825149:=0
def tw12159645037062761866:=0
def tw2989736598963223812:=0
def tw12679977350832902497:=0
def tw4035738324148367881:=0
def tw4194247954141697373:=0
def tw15569102349657508614:=0
def tw15849995750551049561:=0
def tw14482929375859406206:=0
def tw8985943216809161491:=0
def tw8318321013568680505:=0
def tw14500200668095155946:=0
def tw10878002969247949459:=0
def tw17069475326453118163:=0
def tw14241110309395091021:=0
def tw13898405101244222826:=0
def tw6521046447966137763:=0
def tw13491845090951343981:=0
def tw3608797237750543646:=0
def tw7814780642658255025:=0
def tw3176574258363915654:=0
def tw7502290714582387697:=0
def tw4394718611560323403:=0
def tw10774649508792711444:=0
def tw8691334515229478158:=0
def tw16370016463198777701:=0
def tw16010869377493813732:=0
def tw17016290297749185577:=0
def tw7545882812074910148:=0
def tw10072616477720317104:=0
def tw15396404424673113038:=0
def tw1600059344005415927:=0
def tw14595945983024398337:=0
def tw4130221371490838565:=0
def tw802928942889832249:=0
def tw4416195953833137373:=0
def tw11878702823576622896:=0
def tw13896553736866875911:=0
def tw12081963495752744820:=0
def tw7726761081807765328:=0
def tw16545513490183538356:=0
def tw12213103395306209386:=0
def tw10619928981158877075:=0
def tw8413416917487332214:=0
def tw4227970638398364048:=0
def tw14924553761955400559:=0
def tw13739934132714455144:=0
def tw14951744297076679675:=0
def tw8025459255416192974:=0
def tw13560836913628365307:=0
def tw2083597451625581506:=0
def tw18118945796583507683:=0
def tw5361990483315998493:=0
def tw17957914843562324260:=0
def tw14080269207238347616:=0
def tw6660638157969058510:=0
def tw3927781940162142078:=0
def tw13842889900542676034:=0
def tw7280461327577878024:=0
def tw12994210438399893390:=0
def tw12324958162769539402:=0
def tw11042290396517204264:=0
def tw1550541666228276537:=0
def tw1688097607010052019:=0
def tw18207038585433771692:=0
def tw16359914621207522473:=0
def tw941180457839940367:=0
def tw15804927489686569775:=0
def tw114502106048597470:=0
def tw17812224158676422596:=0
def tw11667183214264449659:=0
def tw6478193897174911313:=0
def tw9083703349457166810:=0
def tw10964997730866578043:=0
def tw2773018735623996574:=0
def tw15407585283598001947:=0
def tw9352441856732155978:=0
def tw12685473370098602341:=0
def tw5246030615271676997:=0
def tw9782365999599969452:=0
def tw7647884408594162336:=0
def tw18176396485576926072:=0
def tw9065780205120091088:=0
def tw10287953464168996464:=0
def tw5823407696232811442:=0
def tw14394627408610519761:=0
def tw16036802611388857849:=0
def tw10703517958870853801:=0
def tw11495458125552022024:=0
def tw12132538125232252301:=0
def tw12281453680066261458:=0
def tw8421482999183939697:=0
def tw276044155519723204:=0
def tw17160046327656695459:=0
def tw17423406279664178454:=0
def tw3554036252347177241:=0
def tw10563510657613101445:=0
def tw9351402705755188296:=0
def tw5283836803862889944:=0
def tw3815618738921953402:=0
def tw17351510731739860902:=0
def tw17553903381612014073:=0
def tw3426472030997146669:=0
def tw10507814038664678201:=0
def tw10445223364566667884:=0
def tw7792038915831675215:=0
def tw6063292570655263091:=0
def tw17113593004112966065:=0
def tw3228253779933469716:=0
def tw13753236384137136956:=0
def tw4285446577767227837:=0
def tw4547911400974319708:=0
def tw10600162207620904486:=0
def tw10694135124910060544:=0
def tw8508863445588460632:=0
def tw3483734495099555963:=0
def tw15727565284537008244:=0
def tw9314110215397223023:=0
def tw406067173514940407:=0
def tw18438565597005773608:=0
def tw7873828031152231202:=0
def tw13004304036212825125:=0
def tw11929203692091813541:=0
def tw17135079486391762586:=0
def tw18157874330412743604:=0
def tw18102849423349040775:=0
def tw6446281889538834341:=0
def tw9760170006113726905:=0
def tw8336889091437111587:=0
def tw12218489416190426336:=0
def tw5489928432418659227:=0
def tw10992361513748091858:=0
def tw12511222613419362353:=0
def tw766013219962788099:=0
def tw15853573666981456143:=0
def tw11107837529372284445:=0
def tw7234255613387112087:=0
def tw10224860359324569107:=0
def tw6470251664980371401:=0
def tw9056106289973587829:=0
def tw11077467585754072359:=0
def tw11600730777820821683:=0
def tw14082822178893904245:=0
def tw6990889314939302902:=0
def tw8314895817279729508:=0
def tw2237732058842613281:=0
def tw14096357475469725481:=0
def tw5730463354935324302:=0
def tw13024910833182621093:=0
def tw7311901357565625052:=0
def tw10196865111081131425:=0
def tw1109442180184212743:=0
def tw1873434991611793957:=0
def tw8635913293009887909:=0
def tw12488687336500768298:=0
def tw5850943082174443474:=0
def tw5083131615395510631:=0
def tw13509428476490883526:=0
def tw168030266369271931:=0
def tw17635204862267387963:=0
def tw5594787813417937708:=0
def tw10823214568820286301:=0
def tw8529160941323903414:=0
def tw13991081128273403031:=0
def tw3870345000807739413:=0
def tw7524011256603366960:=0
def tw6139241797375565061:=0
def tw1293331362465806146:=0
def tw8985574050094518174:=0
def tw6373357068563463999:=0
def tw8808678635413985990:=0
def tw14391017544997038417:=0
def tw16452235171636861519:=0
def tw15501136830404305913:=0
def tw9131741272054295488:=0
def tw12369670252793273845:=0
def tw3455159856649161034:=0
def tw11859648601562013300:=0
def tw8959900123601758718:=0
def tw9716522234253981538:=0
def tw2751839991402344090:=0
def tw17928935705918288175:=0
def tw17288041260837073889:=0
def tw8466619600241636459:=0
def tw4889186845274538278:=0
def tw3827588269964247844:=0
def tw9665885714107085263:=0
def tw12493041754528251988:=0
def tw10749400058790447632:=0
def tw17576563345370488530:=0
def tw7871741370930618047:=0
def tw12667422063747222593:=0
def tw13957531884358137675:=0
def tw16988150828450408480:=0
def tw10840093290436021000:=0
def tw11281939083490780623:=0
def tw13486798907316698610:=0
def tw10503231520059644950:=0
def tw543532367146954724:=0
def tw5444848284362626911:=0
def tw3068193600546628429:=0
def tw2764648955069081842:=0
def tw15211179914323954908:=0
def tw4177990799552514800:=0
def tw10229075374348938397:=0
def tw10396369753986039711:=0
def tw11409820025057785580:=0
def tw4913545192786573589:=0
def tw9429119271032739680:=0
def tw5280867870011099900:=0
def tw2529018796445312864:=0
def tw3020598965713871735:=0
def tw885904019594449276:=0
def tw10402741521987287088:=0
def tw8980999091301056876:=0
def tw4077165756622585522:=0
def tw12960784105753016487:=0
def tw8850162075615638930:=0
def tw16587689267602912365:=0
def tw4986676310979240262:=0
def tw9439997722652330648:=0
def tw1155257778023294144:=0
def tw3887297451785824547:=0
def tw11638261092419129896:=0
def tw9155787102291589720:=0
def tw475769301567342107:=0
def tw16485418298128855976:=0
def tw8149641412074750127:=0
def tw12775404758818133282:=0
def tw8751318553987210389:=0
def tw6543761384038622054:=0
def tw9645333386594790382:=0
def tw11271140677465285362:=0
def tw681030725011392995:=0
def tw9763307726768243755:=0
def tw12812311018297684324:=0
def tw7013979310586859857:=0
def tw11695479675427578979:=0
def tw6778154964886601808:=0
def tw16395452512265651975:=0
def tw8401972958554515573:=0
def tw7348672894052689029:=0
def tw13763850566341082685:=0
def tw6592358326273621051:=0
def tw13647903682061364937:=0
def tw17718067544973291979:=0
def tw4000892488227280359:=0
def tw13109661732404221628:=0
def tw16087193271480103180:=0
def tw10606838736557275453:=0
def tw16677108629820253431:=0
def tw7174247295046848717:=0
def tw7427265019317102042:=0
def tw1076750265386441529:=0
def tw12122265405710052241:=0
def tw2417066707792884180:=0
def tw3002630989150455563:=0
def tw783205564120845599:=0
def tw14229828160694253575:=0
def tw16088990639923725857:=0
def tw930277038365397525:=0
def tw2187697422698621456:=0
def tw3619484271615177940:=0
def tw549743829895630784:=0
def tw11567988780705289678:=0
def tw14027489667734395275:=0
def tw3517531792180677649:=0
def tw14210059458979838732:=0
def tw1531069296335300162:=0
def tw885178488203609488:=0
def tw17736033151188420284:=0
def tw14010966662938992631:=0
def tw1023280122323068643:=0
def tw7140586844775360764:=0
def tw15141582540477421662:=0
def tw853288358825963043:=0
def tw4490343768916242267:=0
def tw2943295235960378567:=0
def tw8973750874420989196:=0
def tw10915635836750106820:=0
def tw8210281519598649985:=0
def tw9940287783754684871:=0
def tw3517426861338357611:=0
def tw2097111438517802327:=0
def tw4450294530804518176:=0
def tw5242363843867743717:=0
def tw9289611171098391319:=0
def tw494255105770644818:=0
def tw1287305146908112505:=0
def tw12916962471510264641:=0
def tw6658859135198385494:=0
def tw15919164500416888165:=0
def tw14991408263151691687:=0
def tw11633822852212442669:=0
def tw12444422311065459266:=0
def tw18102943163686532956:=0
def tw14068981450396340412:=0
def tw8648809047699436160:=0
def tw11167959728837136230:=0
def tw5460006760128915467:=0
def tw15658200612729295212:=0
def tw17069444462660037734:=0
def tw13947295312560931980:=0
def tw4813869952708458727:=0
def tw635381349766885665:=0
def tw14842781640418173664:=0
def tw114387858831853409:=0
def tw13560493714182419529:=0
def tw7031203598516245496:=0
def tw16231824253133347837:=0
def tw7679889138088667021:=0
def tw271970006538634470:=0
def tw15410976915588245281:=0
def tw14285232683307235283:=0
def tw16670605721475065706:=0
def tw12643764306427589940:=0
def tw13060207619089287936:=0
def tw2487236797646150671:=0
def tw4305909696770380005:=0
def tw2817393542201261638:=0
def tw15538898901306053754:=0
def tw7904262957437461607:=0
def tw903708323035501945:=0
def tw5886097160448859852:=0
def tw13279419457051021959:=0
def tw16048191303913738700:=0
def tw659944820523661506:=0
def tw3008916804830901692:=0
def tw6459751938156793586:=0
def tw17858579251185876307:=0
def tw11632956809145954392:=0
def tw9209922979911042685:=0
def tw9161377500740493753:=0
def tw13433218710921503324:=0
def tw9093968301162611540:=0
def tw14113936319302821813:=0
def tw13488145624260155893:=0
def tw5446821161040534539:=0
def tw8138082961332469714:=0
def tw2313990949438551970:=0
def tw3297011891328990646:=0
def tw1918562568147586300:=0
def tw5017078095059038334:=0
def tw9764624047669403530:=0
def tw5420171076425800944:=0
def tw7610927883561978156:=0
def tw16573902385472643800:=0
def tw9993472666059716926:=0
def tw1204773780579584359:=0
def tw13072084998650565362:=0
def tw14846931501642289951:=0
def tw9211139922406229444:=0
def tw1847646406877744800:=0
def tw13877258378224302245:=0
def tw2235476704623887226:=0
def tw8739520415873357090:=0
def tw308190058253310838:=0
def tw12847495522354456464:=0
def tw12244359122776988957:=0
def tw12456874559726442648:=0
def tw6517686382769571757:=0
def tw12477955148520130699:=0
def tw1520816416628542436:=0
def tw17847197833319931476:=0
def tw8354814660709876488:=0
def tw8561344579316938509:=0
def tw17323235872372163506:=0
def tw7644485741473961816:=0
def tw1147551013605584665:=0
def tw4709962901230749973:=0
def tw16507051426562076142:=0
def tw7056606244282351915:=0
def tw15511039687006413784:=0
def tw16166269075221102117:=0
def tw6437705385429229657:=0
def tw3328838711111415429:=0
def tw6403047586321492703:=0
def tw11677080951616097358:=0
def tw2116768058068351732:=0
def tw11868757815630529016:=0
def tw5346615261086013723:=0
def tw8292699922825468925:=0
def tw4340649043484048003:=0
def tw3367729230012878302:=0
def tw10782102420857334599:=0
def tw15274305415097203425:=0
def tw12005685992227041467:=0
def tw14465081410887574026:=0
def tw12967396543824596088:=0
def tw17947898572896526082:=0
def tw9171434702769770055:=0
def tw9471861397019468876:=0
def tw8968652844741084820:=0
def tw16094210934720649032:=0
def tw13892145843697610735:=0
def tw12278782869582266642:=0
def tw1133804418635242848:=0
def tw5140611208797558250:=0
def tw13831172964727808056:=0
def tw11506223584662661160:=0
def tw2831235626902558332:=0
def tw5612424842657424032:=0
def tw14241311908144859866:=0
def tw10176219025098087143:=0
def tw16483266350821728110:=0
def tw1401463322955966594:=0
def tw14541934782446398702:=0
def tw8993645209600943909:=0
def tw13427423230297928049:=0
def tw8780455570344537122:=0
def tw12939300294122581694:=0
def tw7762138280549760751:=0
def tw13446840856253611523:=0
def tw15656722617568520227:=0
def tw7009688158020209501:=0
def tw2055592818316536836:=0
def tw9305234240963172375:=0
def tw3788569504544678595:=0
def tw9070447464941407440:=0
def tw16398077162880919052:=0
def tw12178779333393631886:=0
def tw6611930015995882290:=0
def tw16399208527774420874:=0
def tw5540427037034010758:=0
def tw2351085806768287682:=0
def tw9745816722459578042:=0
def tw4698964776905432240:=0
def tw7078307991633376961:=0
def tw1790020146401566936:=0
def tw11136789086998001804:=0
def tw16568970822121450034:=0
def tw14777733291918159359:=0
def tw339161657425988703:=0
def tw2530377132225757814:=0
def tw6446618866286076827:=0
def tw18331674329442602969:=0
def tw376864575411270756:=0
def tw8244713649785199344:=0
def tw11963452676471848119:=0
def tw7948566876826860624:=0
def tw3093162284445433025:=0
def tw9299119337520966832:=0
def tw846725365600603814:=0
def tw10510913966854380394:=0
def tw12042689093205781674:=0
def tw3823285375152116219:=0
def tw5001436432024983966:=0
def tw14202760138098143665:=0
def tw7130507598095539519:=0
def tw6883933516165475159:=0
def tw3446984532608676766:=0
def tw18278600512406756880:=0
def tw1617384169970410336:=0
def tw597685555159706501:=0
def tw11222177148041064042:=0
def tw2891728506275307964:=0
def tw13154293233834851274:=0
def tw16967407760574629537:=0
def tw5137748237826925348:=0
def tw11108635974824854969:=0
def tw18437362720668177135:=0
def tw1471526750787456182:=0
def tw5051575868011621224:=0
def tw17578801681524900036:=0
def tw16820961837178771956:=0
def tw1252671991889176701:=0
def tw13631157848990010821:=0
def tw9458073224589801072:=0
def tw10533316223331894548:=0
def tw12772178167989359482:=0
def tw10052540960694782837:=0
def tw7560256692519362042:=0
def tw317435361165438898:=0
def tw13646114099233890738:=0
def tw12887881462898239158:=0
def tw466728547234355980:=0
def tw14971471944947024211:=0
def tw17916846129434433498:=0
def tw9159446064394997408:=0
def tw13434646261066032825:=0
def tw10132967053051623795:=0
def tw14409862390294850602:=0
def tw2530570089699209456:=0
def tw6608448226968521016:=0
def tw13502166772632916649:=0
def tw642940586423975036:=0
def tw7252060893910841339:=0
def tw7070769071133427669:=0
def tw10164853272853547055:=0
def tw10600024410375844889:=0
def tw3476637266907585577:=0
def tw8805272478343025963:=0
def tw1490258808603711102:=0
def tw11506050051489999610:=0
def tw9958564646041181767:=0
def tw15208218198152106756:=0
def tw3904440903502726837:=0
def tw11153541173638261800:=0
def tw5138737578295630241:=0
def tw4324581345070596198:=0
def tw14391446091981546562:=0
def tw9906465303497464514:=0
def tw11637050179316729651:=0
def tw15661298446599394290:=0
def tw13183402193991686890:=0
def tw17169148751059792913:=0
def tw17199491538869144045:=0
def tw13192040678933888693:=0
def tw8473447185333690342:=0
def tw18104924428388567253:=0
def tw11027710000281117758:=0
def tw18199337641137691647:=0
def tw5475737050136351707:=0
def tw3375388640770767727:=0
def tw7105536990769052166:=0
def tw553332147093569102:=0
def tw7334503175472359839:=0
def tw988314613415708828:=0
def tw5958509628630183465:=0
def tw11964614782749398999:=0
def tw17474614737472411765:=0
def tw5649736091839879510:=0
def tw2794403040819405647:=0
def tw17850018474153936476:=0
def tw6719372742362415135:=0
def tw9881924168256887312:=0
def tw15580667762157463078:=0
def tw14823137601763328429:=0
def tw6336629955831062437:=0
def tw8856024187029238285:=0
def tw12402382586312750882:=0
def tw13628376795935607756:=0
def tw1426914203740161211:=0
def tw12750939069632128845:=0
def tw13787761793833077647:=0
def tw1938160715658423749:=0
def tw16551381853645034432:=0
def tw14447878265378476295:=0
def tw14197318603827361395:=0
def tw11247571591265050321:=0
def tw15712702174912801856:=0
def tw15773177385876824176:=0
def tw10136413809978206787:=0
def tw4092763972507136169:=0
def tw16958190171997686621:=0
def tw15555665015737976275:=0
def tw755397956901393507:=0
def tw8358813859177231269:=0
def tw3471666710830697175:=0
def tw17134996658961933875:=0
def tw8694228033770241789:=0
def tw5721956355968668563:=0
def tw5301167974650915689:=0
def tw1738207011533308676:=0
def tw12348361926894336962:=0
def tw9590281992420333535:=0
def tw1877509212825022597:=0
def tw10433499754761335338:=0
def tw3677103445696461805:=0
def tw514329403135067357:=0
def tw16268931464057959330:=0
def tw15365589827931936533:=0
def tw13315885160694007966:=0
def tw17920336723984705378:=0
def tw11522190418841804648:=0
def tw13855364422613052484:=0
def tw11090326588841803655:=0
def tw16932546365709611896:=0
def tw354931227064407684:=0
def tw15735266177720378137:=0
def tw2088988366625255121:=0
def tw17199961209817072149:=0
def tw13045077624995615328:=0
def tw7483094993881608745:=0
def tw11517125224099474255:=0
def tw9101843764782552692:=0
def tw17836022319553621682:=0
def tw15398306809056677764:=0
def tw8744062952334819326:=0
def tw8272824435259750046:=0
def tw12804584006830780970:=0
def tw14174221115754037090:=0
def tw4578652778440391390:=0
def tw5983309927821857950:=0
def tw18444390766774941515:=0
def tw12387805488345095012:=0
def tw8536329623494456677:=0
def tw17017440066294616550:=0
def tw10843621127972126598:=0
def tw9966354308299517254:=0
def tw2072691595146764334:=0
def tw11316953135111792148:=0
def tw2887313996098733936:=0
def tw16102317591884794893:=0
def tw12021388758952844707:=0
def tw956178420430765821:=0
def tw7228750682728702097:=0
def tw11794583168331343790:=0
def tw8260944598811588568:=0
def tw6868435268635053295:=0
def tw12480319415062197729:=0
def tw2104957142188667252:=0
def tw14123706423238701075:=0
def tw7917069240769019100:=0
def tw12517967693883303668:=0
def tw3933697269958789410:=0
def tw14751929869128550007:=0
def tw2220613851475036658:=0
def tw16530962077973373145:=0
def tw4155875987927820487:=0
def tw12011778198490109598:=0
def tw3833978923226860964:=0
def tw6976619482506444157:=0
def tw890727251528063026:=0
def tw6761659994982285708:=0
def tw1652474815651631682:=0
def tw16897652369398153889:=0
def tw4359333896236087699:=0
end PySem.W.Fast
set_option compiler.extract_closed false
set_option Elab.async false
set_option linter.all false
set_option maxRecDepth 100000
namespace L2
open PySem PySem.Spec PyProof.Rows
abbrev Key:=Sum Int Str
def q6Q:Key->Value->Bool
 | .inl k,v=>Value.isInt k v
 | .inr x,v=>Value.isStrOf x v
def keyH (w:World):Key->Int
 | .inl k=>hashInt k
 | .inr x=>hashStr w x
theorem q08:∀{k:Key} {v:Value},q6Q k v=true->(∃i t,k=Sum.inl i/\v=Value.int i t)\/(∃x t,k=Sum.inr x/\v=Value.str x t)
 | .inl i,v,h=>by
  obtain⟨t,e⟩:=Value.isInt_shape (k:=i) (v:=v) h
  exact .inl ⟨i,t,rfl,e⟩
 | .inr x,v,h=>by
  obtain⟨t,e⟩:=Value.isStrOf_shape (x:=x) (v:=v) h
  exact .inr ⟨x,t,rfl,e⟩
theorem q7J (i:Int)(t:Tok):q6Q (.inl i) (.int i t)=true:=by simp[q6Q,Value.isInt]
theorem q7I (x:Str)(t:Tok):q6Q (.inr x) (.str x t)=true:=by simp[q6Q,Value.isStrOf]
theorem key_ll (a b:Int):decide ((Sum.inl a:Key)=Sum.inl b)=(a==b):=by
 by_cases e:a=b
 ·subst e;simp
 ·have h:¬(Sum.inl a:Key)=Sum.inl b:=fun q=>e (Sum.inl.inj q)
  rw[decide_eq_false h]
  exact(beq_eq_false_iff_ne.mpr e).symm
theorem key_rr (a b:Str):decide ((Sum.inr a:Key)=Sum.inr b)=decide (a=b):=by
 by_cases e:a=b
 ·subst e;simp
 ·have h:¬(Sum.inr a:Key)=Sum.inr b:=fun q=>e (Sum.inr.inj q)
  rw[decide_eq_false h,decide_eq_false e]
theorem key_lr (a:Int)(b:Str):decide ((Sum.inl a:Key)=Sum.inr b)=false:=decide_eq_false (fun q=>nomatch q)
theorem key_rl (a:Str)(b:Int):decide ((Sum.inr a:Key)=Sum.inl b)=false:=decide_eq_false (fun q=>nomatch q)
def q0w (prog:Program)(w:World):PySem.KeyKind prog w Key where
 is:=q6Q
 hash:=keyH w
 inj:=fun v a b ha hb=>by
  rcases q08 ha with⟨i,t,rfl,rfl⟩|⟨x,t,rfl,rfl⟩
  ·rcases q08 hb with⟨j,u,rfl,e⟩|⟨y,u,rfl,e⟩
   ·injection e with e1 _;rw[e1]
   ·exact nomatch e
  ·rcases q08 hb with⟨j,u,rfl,e⟩|⟨y,u,rfl,e⟩
   ·exact nomatch e
   ·injection e with e1 _;rw[e1]
 byValue:=fun k v h=>by
  rcases q08 h with⟨i,t,rfl,rfl⟩|⟨x,t,rfl,rfl⟩<;>rfl
 pyHash:=fun hv h=>by
  rcases q08 hv with⟨i,t,rfl,rfl⟩|⟨x,t,rfl,rfl⟩
  ·exact wpAny_pyHash_int h
  ·exact wpAny_pyHash_str h
 eqBool:=fun hu hv h=>by
  rcases q08 hu with⟨i,t,rfl,rfl⟩|⟨x,t,rfl,rfl⟩
  ·rcases q08 hv with⟨j,u,rfl,rfl⟩|⟨y,u,rfl,rfl⟩
   ·rw [key_ll] at h;exact wpAny_eqBool_int h
   ·rw [key_lr] at h;exact SeqAt.EqAt.int_str i t y u _ _ _ _ h
  ·rcases q08 hv with⟨j,u,rfl,rfl⟩|⟨y,u,rfl,rfl⟩
   ·rw [key_rl] at h;exact SeqAt.EqAt.str_int x t j u _ _ _ _ h
   ·rw [key_rr] at h;exact wpAny_eqBool_str h
 «strs» :=fun k x t v h=>by
  rcases q08 h with⟨i,u,rfl,e⟩|⟨y,u,rfl,e⟩
  ·exact nomatch e
  ·injection e with e1 _
   subst e1
   cases v<;>rfl
theorem q5H (prog:Program)(w:World)(i:Int)(t:Tok):(q0w prog w).is (.inl i) (.int i t)=true:=q7J i t
theorem q5G (prog:Program)(w:World)(x:Str)(t:Tok):(q0w prog w).is (.inr x) (.str x t)=true:=q7I x t
end L2
namespace L2
open PySem PySem.Spec PyProof.Rows
inductive V where
 |non|bl (b:Bool)|int (i:Int)|str (x:Str)|byt (b:Array UInt8)|flt (b:UInt64)|ref (a:Addr)|ty (n:String)
 deriving DecidableEq
def RelV:V->Value->Prop
 | .non,u=>u=Value.none
 | .bl b,u=>u=Value.bool b
 | .int i,u=>∃t,u=Value.int i t
 | .str x,u=>∃t,u=Value.str x t
 | .byt b,u=>∃t,u=Value.bytes b t
 | .flt b,u=>∃t,u=Value.float b t
 | .ref a,u=>u=Value.ref a
 | .ty n,u=>u=Value.type n
abbrev Vals:List V->List Value->Prop:=Paired RelV
theorem Vals.length {xs:List V}{us:List Value}(r:Vals xs us):xs.length=us.length:=Paired.length r
theorem Vals.get:∀{xs:List V} {us:List Value} {i:Nat} {x:V},Vals xs us->xs[i]? =some x->∃u,us[i]? =some u/\RelV x u
 |_,_,_,_,.nil,e=>by simp at e
 |_,_,0,_,.cons r _,e=>by simp at e;subst e;exact⟨_,rfl,r⟩
 |_,_,i+1,x,.cons _ t,e=>by
  obtain⟨u,h1,h2⟩:=Vals.get (i:=i) (x:=x) t (by simpa using e)
  exact⟨u,by simpa using h1,h2⟩
theorem Vals.set {x:V}{u:Value}(r:RelV x u):∀{xs:List V} {us:List Value} (i:Nat),Vals xs us->Vals (xs.set i x) (us.set i u)
 |_,_,_,.nil=> .nil
 |_,_,0,.cons _ t=> .cons r t
 |_,_,i+1,.cons q t=> .cons q (Vals.set r i t)
theorem Vals.append:∀{xs ys:List V} {us ws:List Value},Vals xs us->Vals ys ws->Vals (xs++ys) (us++ws)
 |_,_,_,_,.nil,s=>s
 |_,_,_,_,.cons r t,s=> .cons r (Vals.append t s)
theorem Vals.take:∀{xs:List V} {us:List Value} (n:Nat),Vals xs us->Vals (xs.take n) (us.take n)
 |_,_,0,_=> .nil
 |_,_,_+1,.nil=> .nil
 |_,_,n+1,.cons r t=> .cons r (Vals.take n t)
theorem Vals.drop:∀{xs:List V} {us:List Value} (n:Nat),Vals xs us->Vals (xs.drop n) (us.drop n)
 |_,_,0,r=>r
 |_,_,_+1,.nil=> .nil
 |_,_,n+1,.cons _ t=>Vals.drop n t
def RelO:Option V->Option Value->Prop
 |some v,some u=>RelV v u
 |none,none=>True
 |_,_=>False
def KV {κ:Type}:List (κ×V)->List (κ×Value)->Prop:=Paired fun(p:κ×V) (q:κ×Value)=>p.1=q.1/\RelV p.2 q.2
def kV:Key->V
 | .inl i=> .int i
 | .inr x=> .str x
inductive HO where
 /-- a list -/
 |lst (xs:List V)
 /-- a tuple (never changes) -/
 |tup (xs:List V)
 /-- a dict whose keys are ints and texts;one whose keys are tuples of ints and texts (the empty one is both) -/
 |dK (kvs:List (Key×V))|dT (kvs:List (List Key×V))
 /-- a set of ints: its members,its size -/
 |set (S:Int->Bool) (n:Nat)
 /-- an instance of the class at C,its dict at dx,its attributes -/
 |ins (C dx:Addr) (fs:List (Str×V))
 /-- the dict of the instance at x -/
 |own (x:Addr)
 /-- the dict of an exception -/
 |xd (fs:List (Str×V))
 /-- a bound method,f of x -/
 |met (f x:Addr)
 /-- a range object lo,lo+1,.. below hi -/
 |rng (lo hi:Int)
 /-- a thing that is known to the object (the script;a dict while a loop walks it):read,never written while it is so -/
 |frz (o:Obj) (u:HO)
 /-- a code object's table -/
 |tbl (ps:Array Value)
 /-- any other thing,by what is true of its one object (a def of one's own: SetO a S n:=HO.ext fun h=> ..) -/
 |ext (φ:Heap->Prop)
abbrev Hp:=Addr->Option HO
def upd (H:Hp)(a:Addr)(o:HO):Hp:=fun b=>if b=a then some o else H b
theorem qg {H:Hp}{a:Addr}{o:HO}:upd H a o a=some o:=by unfold upd;rw[if_pos rfl]
theorem qp {H:Hp}{a b:Addr}{o:HO}(h:b≠a):upd H a o b=H b:=by unfold upd;rw[if_neg h]
theorem q1F {H:Hp}{a:Addr}{o u:HO}:upd (upd H a o) a u=upd H a u:=by
 funext b;unfold upd;split<;>rfl
theorem q3y {H:Hp}{a b:Addr}{o u:HO}(h:H a=some o)(h':H b=some u)(d:o≠u):a≠b:=by
 intro e;subst e;rw[h] at h';exact d (Option.some.inj h')
theorem qv {H:Hp}{a b:Addr}{o:HO}(h:H a=some o)(h':H b=none):a≠b:=by
 intro e;subst e;rw[h] at h';cases h'
section
variable (P:Program)(w:World)
def q0l (H:Hp)(h:Heap)(a:Addr):HO->Prop
 | .lst xs=>xs.length<=sizeLine/\∃(its:List Value) (n:Nat),Vals xs its/\h.get? a=some {cls:= .type "list",data:= .seq its.toArray n}
 | .tup xs=>xs.length<=sizeLine/\∃its:List Value,Vals xs its/\IsTup h a its.toArray
 | .dK kvs=>kvs.length<=sizeLine/\(a==sysModules)=false/\∃vs,KV kvs vs/\h.DictOf (q0w P w) a vs
 | .dT kvs=>kvs.length<=sizeLine/\(a==sysModules)=false/\∃xs:List (List Key×Addr×Value),
   Paired (fun(p:List Key×V) (q:List Key×Addr×Value)=>p.1=q.1/\H q.2.1=some (.tup (p.1.map kV))/\RelV p.2 q.2.2) kvs xs/\
   ∃o es ep,h.get? a=some o/\o.ExactDict/\o.data= .dict es ep/\es.toList=xs.map (entryOfKey (tupleKind (q0w P w)))/\(xs.map (·.1)).Nodup
 | .set S n=>h.SetOf (intKind P w) a S n
 | .ins C dx fs=>H dx=some (.own a)/\fs.length<=1000/\dx≠a/\h.get? a=some (PySem.W.instObj C dx)/\
   ∃mA,h.Ns1 dx mA/\(∀f,RelO (fs.lookup f) (mA f))/\PySem.Within mA (fs.map (·.1))
 | .own _=>∃o,h.get? a=some o
 | .xd fs=>∃mA,h.Ns1 a mA/\∀f,RelO (fs.lookup f) (mA f)
 | .rng lo hi=>∃t u v,h.get? a=some {cls:= .type "range",data:= .fields #[.int lo t,.int hi u,.int 1 v]}
 | .frz o u=>h.get? a=some o/\q0l H h a u
 | .tbl ps=>h.get? a=some {cls:= .none,data:= .fields ps}
 | .met f x=>h.get? a=some (PySem.W.methodObj (.ref f) (.ref x))
 | .ext φ=>φ h/\(∃o,h.get? a=some o)/\∀h1 h2:Heap,φ h1->(∀o,h1.get? a=some o->h2.get? a=some o)->φ h2
def HOk (H:Hp)(h:Heap):Prop:=∀a o,H a=some o->q0l P w H h a o
end
section
variable {P:Program}{w:World}{H H':Hp}{h h':Heap}{a:Addr}{o:HO}
theorem q0l.lt (x:q0l P w H h a o):a<h.objs.size:=by
 cases o with
 |lst xs=>obtain⟨_,_,_,_,e⟩:=x;exact Heap.lt_size e
 |tup xs=>obtain⟨_,_,_,p⟩:=x;exact p.lt
 |dK kvs=>obtain⟨_,_,_,_,o,_,_,e,_⟩:=x;exact Heap.lt_size e
 |dT kvs=>obtain⟨_,_,_,_,o,_,_,e,_⟩:=x;exact Heap.lt_size e
 |set S n=>obtain⟨o,_,_,_,e,_⟩:=x;exact Heap.lt_size e
 |ins C dx fs=>obtain⟨_,_,_,e,_⟩:=x;exact Heap.lt_size e
 |own y=>obtain⟨_,e⟩:=x;exact Heap.lt_size e
 |xd fs=>obtain⟨_,⟨_,_,_,e,_⟩,_⟩:=x;exact Heap.lt_size e
 |rng lo hi=>obtain⟨_,_,_,e⟩:=x;exact Heap.lt_size e
 |frz ob u=>obtain⟨e,_⟩:=x;exact Heap.lt_size e
 |tbl ps=>exact Heap.lt_size (show h.get? a=some _ from x)
 |met f y=>exact Heap.lt_size (show h.get? a=some _ from x)
 |ext φ=>obtain⟨_,⟨_,e⟩,_⟩:=x;exact Heap.lt_size e
theorem Paired.mapP {α β:Type}{F G:α->β->Prop}:∀{l₁:List α} {l₂:List β},Paired F l₁ l₂->(∀a b,F a b->G a b)->Paired G l₁ l₂
 |_,_,.nil,_=> .nil
 |_,_,.cons r t,f=> .cons (f _ _ r) (Paired.mapP t f)
theorem q0l.stay (x:q0l P w H h a o)(k:∀b u,(b=a\/H b=some (.own a))->h.get? b=some u->h'.get? b=some u)
  (ho:∀b,H b=some (.own a)->H' b=some (.own a))(ht:∀b xs,H b=some (.tup xs)->H' b=some (.tup xs)):q0l P w H' h' a o:=by
 induction o with
 |lst xs=>obtain⟨z,its,n,r,e⟩:=x;exact⟨z,its,n,r,k _ _ (.inl rfl) e⟩
 |tup xs=>obtain⟨z,its,r,ob,e,c⟩:=x;exact⟨z,its,r,ob,k _ _ (.inl rfl) e,c⟩
 |dK kvs=>obtain⟨z,y,vs,r,ob,es,ep,e,c⟩:=x;exact⟨z,y,vs,r,ob,es,ep,k _ _ (.inl rfl) e,c⟩
 |dT kvs=>
  obtain⟨z,y,xs,r,ob,es,ep,e,c⟩:=x
  exact⟨z,y,xs,Paired.mapP r fun p q z=>⟨z.1,ht _ _ z.2.1,z.2.2⟩,ob,es,ep,k _ _ (.inl rfl) e,c⟩
 |set S n=>obtain⟨ob,es,ep,t,e,c⟩:=x;exact⟨ob,es,ep,t,k _ _ (.inl rfl) e,c⟩
 |ins C dx fs=>
  obtain⟨d,z,ne,e,mA,⟨od,es,ep,e2,c⟩,r⟩:=x
  exact⟨ho _ d,z,ne,k _ _ (.inl rfl) e,mA,⟨od,es,ep,k _ _ (.inr d) e2,c⟩,r⟩
 |own y=>obtain⟨ob,e⟩:=x;exact⟨ob,k _ _ (.inl rfl) e⟩
 |xd fs=>obtain⟨mA,⟨od,es,ep,e,c⟩,r⟩:=x;exact⟨mA,⟨od,es,ep,k _ _ (.inl rfl) e,c⟩,r⟩
 |rng lo hi=>obtain⟨t,u,v,e⟩:=x;exact⟨t,u,v,k _ _ (.inl rfl) e⟩
 |frz ob u ih=>obtain⟨e,q⟩:=x;exact⟨k _ _ (.inl rfl) e,ih q⟩
 |tbl ps=>
  have e:h.get? a=some {cls:= .none,data:= .fields ps}:=x
  show h'.get? a=some {cls:= .none,data:= .fields ps}
  exact k a _ (.inl rfl) e
 |met f y=>
  have e:h.get? a=some (PySem.W.methodObj (.ref f) (.ref y)):=x
  show h'.get? a=some (PySem.W.methodObj (.ref f) (.ref y))
  exact k a _ (.inl rfl) e
 |ext φ=>obtain⟨p,⟨o,e⟩,st⟩:=x;exact⟨st _ _ p fun o q=>k _ _ (.inl rfl) q,⟨o,k _ _ (.inl rfl) e⟩,st⟩
theorem HOk.lt (x:HOk P w H h)(e:H a=some o):a<h.objs.size:=(x a o e).lt
theorem HOk.fresh (x:HOk P w H h)(e:h.objs.size<=a):H a=none:=by
 cases q:H a with
 |none=>rfl
 |some u=>exact absurd (Nat.lt_of_lt_of_le (x.lt q) e) (Nat.lt_irrefl _)
theorem HOk.kept (x:HOk P w H h)(k:∀b u,h.get? b=some u->h'.get? b=some u):HOk P w H h':=fun a o e=>
 (x a o e).stay (fun b u _ q=>k b u q) (fun _ q=>q) fun _ _ q=>q
theorem HOk.laid (x:HOk P w H h)(k:∀b u,h.get? b=some u->h'.get? b=some u)(hp:h.objs.size<=a)(new:q0l P w (upd H a o) h' a o):HOk P w (upd H a o) h':=fun b u e=>by
 have hn:=x.fresh hp
 by_cases hb:b=a
 ·subst hb;rw[qg] at e;cases e;exact new
 ·rw [qp hb] at e
  exact(x b u e).stay (fun c v _ q=>k c v q) (fun c q=>by rw[qp (qv q hn)];exact q) fun c xs q=>by rw[qp (qv q hn)];exact q
end
def Rd (H:Hp)(a:Addr)(u:HO):Prop:=H a=some u\/∃o,H a=some (.frz o u)
theorem Rd.ok {P:Program}{w:World}{H:Hp}{h:Heap}{a:Addr}{u:HO}(r:Rd H a u)(x:HOk P w H h):q0l P w H h a u:=by
 rcases r with r|⟨o,r⟩
 ·exact x a u r
 ·obtain ⟨_,q⟩:=x a _ r
  exact q
def Mut:Option HO->Prop
 |some (.lst _)=>True
 |some (.dK _)=>True
 |some (.dT _)=>True
 |some (.set _ _)=>True
 |some (.ins _ _ _)=>True
 |some (.ext _)=>True
 |_=>False
section
variable {P:Program}{w:World}{H:Hp}{h h':Heap}{x e:Addr}{o':HO}
theorem HOk.write (ok:HOk P w H h)(mu:Mut (H x))(he:e=x\/H e=some (.own x))(k:∀b u,b≠e->h.get? b=some u->h'.get? b=some u)(heo:∃u,h'.get? e=some u)
  (new:q0l P w (upd H x o') h' x o'):HOk P w (upd H x o') h':=fun b u q=>by
 have nown:∀c y,H c=some (.own y)->c≠x:=fun c y r z=>by subst z;rw[r] at mu;exact mu
 have ntup:∀c xs,H c=some (.tup xs)->c≠x:=fun c xs r z=>by subst z;rw[r] at mu;exact mu
 by_cases hb:b=x
 ·subst hb;rw[qg] at q;cases q;exact new
 ·rw [qp hb] at q
  by_cases hbe:b=e
  ·have q':H b=some (.own x):=by
    rcases he with z|z
    ·exact absurd (hbe.trans z) hb
    ·rw [hbe];exact z
   rw[q] at q';cases q'
   obtain⟨v,hv⟩:=heo
   exact⟨v,by rw[hbe];exact hv⟩
  ·refine (ok b u q).stay (fun c v hc r=>k c v ?_ r) (fun c r=>by rw[qp (nown c b r)];exact r) fun c xs r=>by rw[qp (ntup c xs r)];exact r
   rcases hc with rfl|hc
   ·exact hbe
   ·rintro rfl
    rcases he with z|z
    ·exact nown c b hc z
    ·rw [hc] at z;cases z;exact hb rfl
end
structure Un (fs ex:List Addr)(H H':Hp)(h h':Heap):Prop where
 keep:∀b o,h.get? b=some o->H b=none->b∉fs->b∉ex->h'.get? b=some o
 slot:∀b o,h.get? b=some o->H b=none->b∈fs->b∉ex->∃sl,h'.get? b=some {o with slots:=sl}
 free:∀b o,h.get? b=some o->H b=none->b∉ex->H' b=none
 there:∀b o,h.get? b=some o->b∉ex->∃o',h'.get? b=some o'
 tups:∀b xs,H b=some (.tup xs)->H' b=some (.tup xs)
 frzs:∀b o u,H b=some (.frz o u)->H' b=some (.frz o u)
 tbls:∀b ps,H b=some (.tbl ps)->∃more,H' b=some (.tbl (ps++more))
section
variable {fs fs' ex ex':List Addr}{H H1 H2:Hp}{h h1 h2 h':Heap}{a x e:Addr}{o:HO}
theorem Un.any (u:Un fs ex H H1 h h1){b:Addr}{ob:Obj}(q:h.get? b=some ob)(n:H b=none)(hx:b∉ex):∃sl,h1.get? b=some {ob with slots:=sl}:=by
 by_cases hb:b∈fs
 ·exact u.slot b ob q n hb hx
 ·exact ⟨ob.slots,u.keep b ob q n hb hx⟩
theorem Un.kept (k:∀b u,h.get? b=some u->h'.get? b=some u):Un fs ex H H h h':=
 ⟨fun b ob q _ _ _=>k b ob q,fun b ob q _ _ _=>⟨ob.slots,k b ob q⟩,fun _ _ _ n _=>n,fun b ob q _=>⟨ob,k b ob q⟩,fun _ _ q=>q,fun _ _ _ q=>q,fun _ ps q=>⟨#[],by rw[q];simp⟩⟩
theorem Un.refl:Un fs ex H H h h:=Un.kept fun _ _ q=>q
theorem Un.laid (k:∀b u,h.get? b=some u->h'.get? b=some u)(hp:h.objs.size<=a)(hn:H a=none):Un fs ex H (upd H a o) h h' where
 keep:=fun b u q _ _ _=>k b u q
 slot:=fun b u q _ _ _=>⟨u.slots,k b u q⟩
 free:=fun b u q n _=>by rw[qp (Nat.ne_of_lt (Nat.lt_of_lt_of_le (Heap.lt_size q) hp))];exact n
 there:=fun b u q _=>⟨u,k b u q⟩
 tups:=fun b xs q=>by rw[qp (qv q hn)];exact q
 frzs:=fun b u xs q=>by rw[qp (qv q hn)];exact q
 tbls:=fun b ps q=>⟨#[],by rw[qp (qv q hn),q];simp⟩
theorem Un.write (mu:Mut (H x))(he:e=x\/H e=some (.own x))(k:∀b u,b≠e->h.get? b=some u->h'.get? b=some u)(heo:∃u,h'.get? e=some u):Un fs ex H (upd H x o) h h':=by
 have hx:∀b,H b=none->b≠x:=fun b n z=>by subst z;rw[n] at mu;exact mu
 have hb:∀b,H b=none->b≠e:=fun b n z=>by
  subst z
  rcases he with r|r
  ·exact hx b n r
  ·rw [n] at r;cases r
 have hm:∀b u,H b=some u->¬Mut (some u)->b≠x:=fun b u q nm z=>by subst z;rw[q] at mu;exact nm mu
 refine⟨fun b u q n _ _=>k b u (hb b n) q,fun b u q n _ _=>⟨u.slots,k b u (hb b n) q⟩,fun b u q n _=>by rw[qp (hx b n)];exact n,fun b u q _=>?_,
  fun b xs q=>by rw[qp (hm b _ q fun z=>z)];exact q,fun b u xs q=>by rw[qp (hm b _ q fun z=>z)];exact q,fun b ps q=>⟨#[],by rw[qp (hm b _ q fun z=>z),q];simp⟩⟩
 by_cases hbe:b=e
 ·subst hbe;exact heo
 ·exact ⟨u,k b u hbe q⟩
end
def trk (h:Heap)(H:Hp):List Addr:=(List.range h.objs.size).filter fun a=>(H a).isSome
def hidT (h:Heap)(H:Hp):Heap:=PySem.W.hideAll h (trk h H)
theorem q7T (h:Heap)(H:Hp):(hidT h H).objs.size=h.objs.size:=PySem.W.hideAll_size _ _
theorem q9p {h:Heap}{H:Hp}{b:Addr}{o:Obj}(e:h.get? b=some o)(n:H b=none):(hidT h H).get? b=some o:=
 PySem.W.hideAll_get _ e fun hm=>by
  have q:(H b).isSome=true:=(List.mem_filter.mp hm).2
  rw[n] at q;simp at q
theorem qaO {h:Heap}{H:Hp}{b:Addr}{o:Obj}(e:(hidT h H).get? b=some o):h.get? b=some o/\H b=none:=by
 have e':h.get? b=some o:=PySem.W.of_hideAll (trk h H) e
 refine⟨e',?_⟩
 cases q:H b with
 |none=>rfl
 |some x=>
  have hm:b∈trk h H:=List.mem_filter.mpr ⟨List.mem_range.mpr (Heap.lt_size e'),by simp[q]⟩
  have z:(hidT h H).get? b=none:=PySem.W.hideAll_none (trk h H) hm
  rw[z] at e;cases e
def qbs (g h:Heap)(L:Addr):List (Addr×Obj):=(List.range h.objs.size).filterMap fun a=>if a=L\/(g.get? a).isSome=true then none else(h.get? a).map fun o=>(a,o)
def rest (g h:Heap)(L d:Addr):List (Addr×Obj):=(qbs g h L).filter fun p=>decide (p.1≠d)
end L2
namespace L2
open PySem PySem.Spec PyProof.Rows
structure Mod (K:PySem.W.Frag)(mg:Str->Option Value)(base:Heap):Prop where
 kin:K.In base
 glob:base.Ns mainGlobals mg
 blt:∃mb,base.Ns builtinsNs mb/\∀x:Str,x≠"__name__"->mb x=bootBuiltins x
 nolimit:base.NoLimit
structure Cx where
 prog:Program
 w:World
 K:PySem.W.Frag
 mg:Str->Option Value
 base:Heap
 A:Around
 N:List Str
 s₀:Shared
 H₀:Hp
 env:Env
 outer:List Env
 stack:List Env
 ex:List Addr
 fn:Str->Bool
 calm:Bool
 pn:List (Addr×Obj)
 xe:Value->Shared->Prop
def frs (l:List Env):List Addr:=l.filterMap (·.frame)
abbrev Cx.fs (X:Cx):List Addr:=frs X.outer
def Vis (sc:Scope)(x:Str):Prop:=sc.names.lookup x=some .local\/sc.names.lookup x=some .cell\/sc.names.lookup x=some .free
def Loc (sc:Scope)(x:Str):Prop:=sc.names.lookup x=some .local\/sc.names.lookup x=some .cell
def Look (env:Env)(h:Heap)(m:Str->Option Value)(x:Str)(u:Value):Prop:=
 (env.kindOf x=some .local/\m x=some u)\/((env.kindOf x=some .cell\/env.kindOf x=some .free)/\∃c,env.cells.lookup x=some c/\h.IsCell c (some u))
structure Cx.Ok (X:Cx):Prop where
 mod:Mod X.K X.mg X.base
 kind:X.env.scope.kind= .function
 glob:X.env.globals=mainGlobals
 blt:X.env.builtins=builtinsNs
 above:X.s₀.heap.objs.size<=X.env.locals
 inj:∀x y c,X.env.cells.lookup x=some c->X.env.cells.lookup y=some c->x=y
 has:∀x,(X.env.kindOf x=some .cell\/X.env.kindOf x=some .free)->∃c,X.env.cells.lookup x=some c
 cab:∀x c,X.fn x=true->X.env.cells.lookup x=some c->X.s₀.heap.objs.size<=c
 hd:X.calm=true->X.A.handled=none
 frames:X.A.frames=some X.stack
 stk:X.stack=X.outer\/(X.stack=X.env::X.outer/\X.env.frame=some X.env.locals)
 exf:∀b∈X.ex,b≠X.env.locals/\∀x c,X.env.cells.lookup x=some c->c≠b
 bs:∀b o,X.base.get? b=some o->X.s₀.heap.get? b=some o/\X.H₀ b=none
 bsz:X.base.objs.size<=X.s₀.heap.objs.size
 noex:∀b o,X.base.get? b=some o->b∉X.ex
 exfs:∀b∈X.ex,b∉X.fs
 funs:X.s₀.heap.FunFrames X.base X.outer
 frf:∀b∈X.fs,X.H₀ b=none
structure Inv (X:Cx)(pins:List (Addr×Obj))(σ:List (Option V))(H:Hp)(s:Shared):Prop where
 ok:X.Ok
 os:s.os=X.s₀.os
 bare:AllBare s.gens
 base:Un X.fs X.ex X.H₀ H X.s₀.heap s.heap
 loc:∃m,s.heap.Ns X.env.locals m/\∀(i:Nat) (x:Str) (v:V),X.N[i]? =some x->σ[i]? =some (some v)->Vis X.env.scope x->∃u,RelV v u/\Look X.env s.heap m x u
 cell:∀x c,X.env.cells.lookup x=some c->∃v,s.heap.IsCell c v
 free:H X.env.locals=none
 freeC:∀x c,X.env.cells.lookup x=some c->H c=none
 pin:∀p∈X.pn++pins,s.heap.get? p.1=some p.2/\H p.1=none/\p.1≠X.env.locals/\p.1∉X.fs/\∀v,p.2.data≠ .cell v
 hok:HOk X.prog X.w H s.heap
 len:σ.length=X.N.length
section
variable {X:Cx}{pins:List (Addr×Obj)}{σ:List (Option V)}{H H':Hp}{s:Shared}{h':Heap}
theorem Cx.Ok.nofr (ok:X.Ok){b:Addr}{o:Obj}(e:X.base.get? b=some o):b∉X.fs:=fun hb=>by
 have:=(ok.funs.mem hb).1
 rw[e] at this;cases this
theorem Inv.bs (I:Inv X pins σ H s):∀b o,X.base.get? b=some o->s.heap.get? b=some o/\H b=none:=fun b o e=>
 ⟨I.base.keep b o (I.ok.bs b o e).1 (I.ok.bs b o e).2 (I.ok.nofr e) (I.ok.noex b o e),I.base.free b o (I.ok.bs b o e).1 (I.ok.bs b o e).2 (I.ok.noex b o e)⟩
theorem Inv.bk (I:Inv X pins σ H s):∀b o,X.base.get? b=some o->s.heap.get? b=some o:=fun b o e=>(I.bs b o e).1
theorem Inv.mod (I:Inv X pins σ H s):Mod X.K X.mg X.base:=I.ok.mod
theorem Inv.kIn (I:Inv X pins σ H s):X.K.In s.heap:=I.ok.mod.kin.keeps I.bk
theorem Inv.lt (I:Inv X pins σ H s):X.env.locals<s.heap.objs.size:=let ⟨_,hn,_⟩:=I.loc;hn.lt
theorem Inv.sz (I:Inv X pins σ H s):X.s₀.heap.objs.size<=s.heap.objs.size:=Nat.le_trans I.ok.above (Nat.le_of_lt I.lt)
theorem Inv.nofs (I:Inv X pins σ H s){a:Addr}(h:s.heap.objs.size<=a):a∉X.fs:=fun hb=>by
 obtain⟨_,o,ho,_⟩:=I.ok.funs.mem hb
 exact absurd (Nat.lt_of_lt_of_le (Heap.lt_size ho) (Nat.le_trans I.sz h)) (Nat.lt_irrefl _)
theorem Inv.cne (I:Inv X pins σ H s):∀x c,X.env.cells.lookup x=some c->c≠X.env.locals:=fun x c e z=>by
 obtain⟨v,o,ho,hd⟩:=I.cell x c e
 obtain⟨m,⟨o',es,ep,ho',hd',_⟩,_⟩:=I.loc
 rw[z,ho'] at ho;cases ho;rw[hd'] at hd;cases hd
theorem Inv.funs (I:Inv X pins σ H s):s.heap.FunFrames X.base X.outer:=by
 have all:∀(l:List Env),(∀b∈frs l,b∈X.fs)->X.s₀.heap.FunFrames X.base l->s.heap.FunFrames X.base l:=by
  intro l
  induction l with
  |nil=>intro _ _;trivial
  |cons env r ih=>
   intro hs hl
   obtain⟨hk,⟨L,o,hf,hn,ho,hd⟩,hr⟩:=hl
   have hL:L∈X.fs:=hs L (by unfold frs;rw[List.filterMap_cons,hf];exact List.mem_cons_self)
   obtain⟨sl,e⟩:=I.base.slot L o ho (I.ok.frf L hL) hL fun z=>I.ok.exfs L z hL
   exact⟨hk,⟨L,_,hf,hn,e,hd⟩,ih (fun b hb=>hs b (by unfold frs;rw[List.filterMap_cons,hf];exact List.mem_cons_of_mem _ hb)) hr⟩
 exact all X.outer (fun _ hb=>hb) I.ok.funs
theorem Inv.stack (I:Inv X pins σ H s):s.heap.FunFrames X.base X.stack:=by
 rcases I.ok.stk with e|⟨e,hf⟩
 ·rw [e];exact I.funs
 ·rw [e]
  obtain⟨m,hn,_⟩:=I.loc
  refine .cons (by rw[I.ok.kind];decide) hf hn ?_ I.funs
  exact Heap.get?_none_of_le (Nat.le_trans I.ok.bsz I.ok.above)
theorem Inv.stkSub (I:Inv X pins σ H s):∀b∈frs X.stack,b∈X.env.locals::X.fs:=fun b hb=>by
 rcases I.ok.stk with e|⟨e,hf⟩
 ·rw [e] at hb;exact List.mem_cons_of_mem _ hb
 ·rw [e] at hb
  unfold frs at hb
  rw[List.filterMap_cons,hf] at hb
  exact hb
theorem Inv.stkFree (I:Inv X pins σ H s):∀b∈frs X.stack,H b=none:=fun b hb=>by
 rcases List.mem_cons.mp (I.stkSub b hb) with e|hb
 ·rw [e];exact I.free
 ·obtain ⟨_,o,ho,_⟩:=I.ok.funs.mem hb
  exact I.base.free b o ho (I.ok.frf b hb) fun z=>I.ok.exfs b z hb
theorem Inv.step {g':Array GenState}{t':Nat}{d':Drawn}{ch:List Addr}(I:Inv X pins σ H s)
  (hch:∀b∈ch,(b∈X.ex\/X.s₀.heap.objs.size<=b)/\b≠X.env.locals/\(∀x c,X.env.cells.lookup x=some c->c≠b)/\∀p∈X.pn++pins,p.1≠b)
  (keep:∀b o,b≠X.env.locals->b∉X.fs->b∉ch->s.heap.get? b=some o->H b=none->h'.get? b=some o)
  (slot:∀b o,b≠X.env.locals->b∈X.fs->b∉ch->s.heap.get? b=some o->H b=none->∃sl,h'.get? b=some {o with slots:=sl})(free:∀b o,b∉ch->s.heap.get? b=some o->H b=none->H' b=none)
  (there:∀b o,b∉ch->s.heap.get? b=some o->∃o',h'.get? b=some o')
  (tups:∀b xs,H b=some (.tup xs)->H' b=some (.tup xs))(frzs:∀b o u,H b=some (.frz o u)->H' b=some (.frz o u))(tbls:∀b ps,H b=some (.tbl ps)->∃more,H' b=some (.tbl (ps++more)))
  (ns:∀m,s.heap.Ns X.env.locals m->h'.Ns X.env.locals m)(hok:HOk X.prog X.w H' h')(hg:AllBare g'):
  Inv X pins σ H' {s with heap:=h',gens:=g',drawn:=d',toks:=t'}:=by
 have neL:∀b o,X.s₀.heap.get? b=some o->b≠X.env.locals:=fun b o e=>Nat.ne_of_lt (Nat.lt_of_lt_of_le (Heap.lt_size e) I.ok.above)
 have neC:∀b o,X.s₀.heap.get? b=some o->b∉X.ex->b∉ch:=fun b o e hx hb=>by
  rcases(hch b hb).1 with z|z
  ·exact hx z
  ·exact absurd (Nat.lt_of_lt_of_le (Heap.lt_size e) z) (Nat.lt_irrefl _)
 have cellK:∀x c,X.env.cells.lookup x=some c->∀v,s.heap.IsCell c v->h'.IsCell c v:=fun x c e v ⟨o,ho,hd⟩=>by
  have nch:c∉ch:=fun z=>(hch c z).2.2.1 x c e rfl
  by_cases hc:c∈X.fs
  ·obtain ⟨sl,q⟩:=slot c o (I.cne x c e) hc nch ho (I.freeC x c e)
   exact⟨_,q,hd⟩
  ·exact ⟨o,keep c o (I.cne x c e) hc nch ho (I.freeC x c e),hd⟩
 refine⟨I.ok,I.os,hg,⟨fun b o e n hb hx=>?_,fun b o e n hb hx=>?_,fun b o e n hx=>?_,fun b o e hx=>?_,fun b xs e=>tups b xs (I.base.tups b xs e),fun b o xs e=>frzs b o xs (I.base.frzs b o xs e),fun b ps e=>?_⟩,?_,fun x c e=>?_,?_,fun x c e=>?_,fun p hp=>?_,hok,I.len⟩
 ·exact keep b o (neL b o e) hb (neC b o e hx) (I.base.keep b o e n hb hx) (I.base.free b o e n hx)
 ·obtain ⟨sl,e1⟩:=I.base.slot b o e n hb hx
  obtain⟨sl',e2⟩:=slot b _ (neL b o e) hb (neC b o e hx) e1 (I.base.free b o e n hx)
  exact⟨sl',e2⟩
 ·obtain ⟨o',e1⟩:=I.base.there b o e hx
  exact free b o' (neC b o e hx) e1 (I.base.free b o e n hx)
 ·obtain ⟨o',e1⟩:=I.base.there b o e hx
  exact there b o' (neC b o e hx) e1
 ·obtain ⟨m1,e1⟩:=I.base.tbls b ps e
  obtain⟨m2,e2⟩:=tbls b _ e1
  exact⟨m1++m2,by rw[e2,Array.append_assoc]⟩
 ·obtain ⟨m,hn,hl⟩:=I.loc
  refine⟨m,ns m hn,fun i x v e1 e2 e3=>?_⟩
  obtain⟨u,r,l⟩:=hl i x v e1 e2 e3
  refine⟨u,r,?_⟩
  rcases l with l|⟨k,c,e,z⟩
  ·exact .inl l
  ·exact .inr ⟨k,c,e,cellK x c e _ z⟩
 ·obtain ⟨v,z⟩:=I.cell x c e
  exact⟨v,cellK x c e v z⟩
 ·obtain ⟨m,⟨o,_,_,ho,_⟩,_⟩:=I.loc
  exact free _ o (fun z=>(hch _ z).2.1 rfl) ho I.free
 ·obtain ⟨v,o,ho,hd⟩:=I.cell x c e
  exact free c o (fun z=>(hch c z).2.2.1 x c e rfl) ho (I.freeC x c e)
 ·obtain ⟨e,n,ne,nf,d⟩:=I.pin p hp
  have nch:p.1∉ch:=fun z=>(hch p.1 z).2.2.2 p hp rfl
  exact⟨keep p.1 p.2 ne nf nch e n,free p.1 p.2 nch e n,ne,nf,d⟩
theorem Inv.un {t':Nat}(I:Inv X pins σ H s)(u:Un X.fs [] H H' s.heap h')(hok:HOk X.prog X.w H' h'):Inv X pins σ H' {s with heap:=h',toks:=t'}:=by
 obtain⟨m,⟨o,es,ep,ho,r⟩,_⟩:=id I.loc
 obtain⟨sl,hL⟩:=u.any ho I.free (by simp)
 exact I.step (g':=s.gens) (d':=s.drawn) (ch:=[]) (fun _ z=>nomatch z) (fun b o _ hb _ e n=>u.keep b o e n hb (by simp)) (fun b o _ hb _ e n=>u.slot b o e n hb (by simp)) (fun b o _ e n=>u.free b o e n (by simp)) (fun b o _ e=>u.there b o e (by simp)) u.tups u.frzs u.tbls (fun m' hm=>by
  obtain⟨o',es',ep',ho',r'⟩:=hm
  rw[ho] at ho';cases ho'
  exact⟨_,es',ep',hL,r'⟩) hok I.bare
theorem Inv.call {g':Array GenState}{t':Nat}{d':Drawn}{ch:List Addr}(I:Inv X pins σ H s)(u:Un (frs X.stack) ch H H' s.heap h')(hok:HOk X.prog X.w H' h')(hg:AllBare g')
  (hch:∀b∈ch,(b∈X.ex\/X.s₀.heap.objs.size<=b)/\b≠X.env.locals/\(∀x c,X.env.cells.lookup x=some c->c≠b)/\∀p∈X.pn++pins,p.1≠b):
  Inv X pins σ H' {s with heap:=h',gens:=g',drawn:=d',toks:=t'}:=by
 obtain⟨m,⟨o,es,ep,ho,r⟩,_⟩:=id I.loc
 obtain⟨sl,hL⟩:=u.any ho I.free fun z=>(hch _ z).2.1 rfl
 exact I.step (ch:=ch) hch (fun b o hL hb hc e n=>u.keep b o e n (fun z=>(List.mem_cons.mp (I.stkSub b z)).elim hL hb) hc) (fun b o _ _ hc e n=>u.any e n hc) (fun b o hc e n=>u.free b o e n hc) (fun b o hc e=>u.there b o e hc) u.tups u.frzs u.tbls (fun m' hm=>by
  obtain⟨o',es',ep',ho',r'⟩:=hm
  rw[ho] at ho';cases ho'
  exact⟨_,es',ep',hL,r'⟩) hok hg
theorem Inv.turned {t':Nat}{it:Addr}(I:Inv X pins σ H s)(k:∀b o,b≠it->s.heap.get? b=some o->h'.get? b=some o)(hn:H it=none)(hL:it≠X.env.locals)
  (h1:it∈X.ex\/X.s₀.heap.objs.size<=it)(h2:∀x c,X.env.cells.lookup x=some c->c≠it)(h3:∀p∈X.pn++pins,p.1≠it):Inv X pins σ H {s with heap:=h',toks:=t'}:=by
 have nit:∀b u,H b=some u->b≠it:=fun b u e z=>by rw[z,hn] at e;cases e
 refine I.step (g':=s.gens) (d':=s.drawn) (ch:=[it]) (fun b hb=>?_) (fun b o _ _ hc e _=>k b o (fun z=>hc (by simp[z])) e) (fun b o _ _ hc e _=>⟨o.slots,k b o (fun z=>hc (by simp[z])) e⟩) (fun _ _ _ _ n=>n)
  (fun b o hc e=>⟨o,k b o (fun z=>hc (by simp[z])) e⟩) (fun _ _ e=>e) (fun _ _ _ e=>e) (fun b ps e=>⟨#[],by rw[e];simp⟩) (fun m hm=>?_) (fun b u e=>?_) I.bare
 ·have e:b=it:=by simpa using hb
  subst e
  exact⟨h1,hL,h2,h3⟩
 ·obtain ⟨o,es,ep,ho,r⟩:=hm
  exact⟨o,es,ep,k _ o (Ne.symm hL) ho,r⟩
 ·refine (I.hok b u e).stay (fun c v hc q=>k c v ?_ q) (fun _ q=>q) fun _ _ q=>q
  rcases hc with z|z
  ·rw [z];exact nit b u e
  ·exact nit c _ z
theorem Inv.tok (I:Inv X pins σ H s)(t:Nat):Inv X pins σ H {s with toks:=t}:=I.un (h':=s.heap) (t':=t) Un.refl I.hok
theorem Inv.kept {t':Nat}(I:Inv X pins σ H s)(k:∀b u,s.heap.get? b=some u->h'.get? b=some u):Inv X pins σ H {s with heap:=h',toks:=t'}:=I.un (Un.kept k) (I.hok.kept k)
theorem Inv.laid {a:Addr}{o:HO}{t':Nat}(I:Inv X pins σ H s)(k:∀b u,s.heap.get? b=some u->h'.get? b=some u)(hp:s.heap.objs.size<=a)(new:q0l X.prog X.w (upd H a o) h' a o):
  Inv X pins σ (upd H a o) {s with heap:=h',toks:=t'}:=I.un (Un.laid k hp (I.hok.fresh hp)) (I.hok.laid k hp new)
theorem Inv.write {x e:Addr}{o:HO}{t':Nat}(I:Inv X pins σ H s)(mu:Mut (H x))(he:e=x\/H e=some (.own x))(k:∀b u,b≠e->s.heap.get? b=some u->h'.get? b=some u)(heo:∃u,h'.get? e=some u)
  (new:q0l X.prog X.w (upd H x o) h' x o):Inv X pins σ (upd H x o) {s with heap:=h',toks:=t'}:=I.un (Un.write mu he k heo) (I.hok.write mu he k heo new)
theorem Inv.pins_of {pins':List (Addr×Obj)}(I:Inv X pins σ H s)(h:∀p∈pins',s.heap.get? p.1=some p.2/\H p.1=none/\p.1≠X.env.locals/\p.1∉X.fs/\∀v,p.2.data≠ .cell v):Inv X pins' σ H s:=
 ⟨I.ok,I.os,I.bare,I.base,I.loc,I.cell,I.free,I.freeC,fun p hp=>(List.mem_append.mp hp).elim (fun z=>I.pin p (List.mem_append_left _ z)) (h p),I.hok,I.len⟩
theorem q6c {N:List Str}(hN:N.Nodup){i j:Nat}{x:Str}(a:N[i]? =some x)(b:N[j]? =some x):i=j:=by
 obtain⟨h1,e1⟩:=List.getElem?_eq_some_iff.mp a
 obtain⟨h2,e2⟩:=List.getElem?_eq_some_iff.mp b
 exact(List.getElem_inj hN).mp (e1.trans e2.symm)
theorem q4B {M:Model}{A:Around}{E:Value->Shared->Prop}{i:Nat}{x:Str}{v:V}{u:Value}{Q:Unit->Shared->Prop}(I:Inv X pins σ H s)(hN:X.N.Nodup)(hi:X.N[i]? =some x)(hx:Loc X.env.scope x)(r:RelV v u)
  (h:∀s',Inv X pins (σ.set i (some v)) H s'->(∃a,Heap.SameBut a s.heap s'.heap/\(a=X.env.locals\/X.env.cells.lookup x=some a))->Q () s')(hf:X.fn x=true\/X.env.scope.names.lookup x=some .local:=by first|exact .inl rfl|exact .inr rfl|assumption):wpAny M A (storeName X.env x u) Q E s:=by
 obtain⟨m,hn,hl⟩:=id I.loc
 have hcls:(X.env.scope.kind== .class||(X.env.scope.kind== .module&&X.env.locals != X.env.globals))=false:=by rw[I.ok.kind];rfl
 have hiσ:i<σ.length:=by rw[I.len];exact(List.getElem?_eq_some_iff.mp hi).1
 have cne:=I.cne
 have tracked:∀{a:Addr} {h':Heap},(∃o,s.heap.get? a=some o/\H a=none)->Heap.SameBut a s.heap h'->HOk X.prog X.w H h':=fun {a h'} ha hs b ob e=>by
  obtain⟨_,_,hfree⟩:=ha
  refine(I.hok b ob e).stay (fun c w' hc q=>(hs.2 c ?_).trans q) (fun _ q=>q) fun _ _ q=>q
  rintro rfl
  rcases hc with rfl|hc
  ·rw [hfree] at e;cases e
  ·rw [hfree] at hc;cases hc
 rcases hx with hk|hk
 ·refine wpAny_storeName_local hk hn (fun h' hn' hs=>?_) hcls
  obtain⟨oL,_,_,hoL,_⟩:=id hn
  refine h _ ⟨I.ok,I.os,I.bare,⟨fun b o e n hb hx=>?_,fun b o e n hb hx=>?_,I.base.free,fun b o e hx=>?_,I.base.tups,I.base.frzs,I.base.tbls⟩,⟨_,hn',fun j y v' e1 e2 e3=>?_⟩,fun y c e=>?_,I.free,I.freeC,fun p hp=>?_,tracked ⟨oL,hoL,I.free⟩ hs,by simpa using I.len⟩ ⟨_,hs,.inl rfl⟩
  ·exact (hs.2 b (Nat.ne_of_lt (Nat.lt_of_lt_of_le (Heap.lt_size e) I.ok.above))).trans (I.base.keep b o e n hb hx)
  ·obtain ⟨sl,e1⟩:=I.base.slot b o e n hb hx
   exact⟨sl,(hs.2 b (Nat.ne_of_lt (Nat.lt_of_lt_of_le (Heap.lt_size e) I.ok.above))).trans e1⟩
  ·obtain ⟨o',e1⟩:=I.base.there b o e hx
   exact⟨o',(hs.2 b (Nat.ne_of_lt (Nat.lt_of_lt_of_le (Heap.lt_size e) I.ok.above))).trans e1⟩
  ·by_cases hj:j=i
   ·subst hj
    rw[hi] at e1;cases e1
    rw[List.getElem?_set_self hiσ] at e2
    cases e2
    exact⟨u,r,.inl ⟨hk,by simp⟩⟩
   ·rw [List.getElem?_set_ne (Ne.symm hj)] at e2
    obtain⟨u',r',q⟩:=hl j y v' e1 e2 e3
    refine⟨u',r',?_⟩
    rcases q with⟨k,e⟩|⟨k,c,e,z⟩
    ·refine .inl ⟨k,?_⟩
     have:y≠x:=fun e=>hj (q6c hN e1 (e▸hi))
     simp[this,e]
    ·exact .inr ⟨k,c,e,z.sameBut hs (cne y c e)⟩
  ·obtain ⟨w',z⟩:=I.cell y c e
   exact⟨w',z.sameBut hs (cne y c e)⟩
  ·obtain ⟨e,n,ne,nf,d⟩:=I.pin p hp
   exact⟨(hs.2 p.1 ne).trans e,n,ne,nf,d⟩
 ·have hfn:X.fn x=true:=by
   rcases hf with z|z
   ·exact z
   ·rw [z] at hk;cases hk
  obtain⟨c,hc⟩:=I.ok.has x (.inl hk)
  obtain⟨w',z⟩:=I.cell x c hc
  refine wpAny_storeName_cell I.ok.kind hk hc z (fun h' hc' hs=>?_)
  obtain⟨oc,hoc,hocd⟩:=id z
  refine h {s with heap:=h'} ⟨I.ok,I.os,I.bare,⟨fun b o e n hb hx=>?_,fun b o e n hb hx=>?_,I.base.free,fun b o e hx=>?_,I.base.tups,I.base.frzs,I.base.tbls⟩,⟨m,hn.sameBut hs (Ne.symm (cne x c hc)),fun j y v' e1 e2 e3=>?_⟩,fun y c' e=>?_,I.free,I.freeC,fun p hp=>?_,tracked ⟨oc,hoc,I.freeC x c hc⟩ hs,by simpa using I.len⟩ ⟨c,hs,.inr hc⟩
  ·exact (hs.2 b (Nat.ne_of_lt (Nat.lt_of_lt_of_le (Heap.lt_size e) (I.ok.cab x c hfn hc)))).trans (I.base.keep b o e n hb hx)
  ·obtain ⟨sl,e1⟩:=I.base.slot b o e n hb hx
   exact⟨sl,(hs.2 b (Nat.ne_of_lt (Nat.lt_of_lt_of_le (Heap.lt_size e) (I.ok.cab x c hfn hc)))).trans e1⟩
  ·obtain ⟨o',e1⟩:=I.base.there b o e hx
   exact⟨o',(hs.2 b (Nat.ne_of_lt (Nat.lt_of_lt_of_le (Heap.lt_size e) (I.ok.cab x c hfn hc)))).trans e1⟩
  ·by_cases hj:j=i
   ·subst hj
    rw[hi] at e1;cases e1
    rw[List.getElem?_set_self hiσ] at e2
    cases e2
    exact⟨u,r,.inr ⟨.inl hk,c,hc,hc'⟩⟩
   ·rw [List.getElem?_set_ne (Ne.symm hj)] at e2
    obtain⟨u',r',q⟩:=hl j y v' e1 e2 e3
    refine⟨u',r',?_⟩
    rcases q with q|⟨k,c',e,z'⟩
    ·exact .inl q
    ·refine .inr ⟨k,c',e,z'.sameBut hs ?_⟩
     rintro rfl
     exact hj (q6c hN e1 (I.ok.inj _ _ _ e hc▸hi))
  ·by_cases hcc:c'=c
   ·subst hcc;exact⟨_,hc'⟩
   ·obtain ⟨w2,z2⟩:=I.cell y c' e
    exact⟨w2,z2.sameBut hs hcc⟩
  ·obtain ⟨e,n,ne,nf,d⟩:=I.pin p hp
   refine⟨(hs.2 p.1 ?_).trans e,n,ne,nf,d⟩
   intro q
   rw[q,hoc] at e
   have q':oc=p.2:=Option.some.inj e
   exact d w' (by rw[<-q'];exact hocd)
theorem q3P {M:Model}{A:Around}{E:Value->Shared->Prop}{i:Nat}{x:Str}{v:V}{u:Value}{Q:Unit->Shared->Prop}(I:Inv X pins σ H s)(hN:X.N.Nodup)(hi:X.N[i]? =some x)(hx:Loc X.env.scope x)(r:RelV v u)
  (h:∀s',Inv X pins (σ.set i (some v)) H s'->Q () s')(hf:X.fn x=true\/X.env.scope.names.lookup x=some .local:=by first|exact .inl rfl|exact .inr rfl|assumption):wpAny M A (storeName X.env x u) Q E s:=
 q4B I hN hi hx r (fun s' I' _=>h s' I') hf
theorem Inv.call' {s':Shared}{ch:List Addr}(I:Inv X pins σ H s)(ho:s'.os=s.os)(u:Un (frs X.stack) ch H H' s.heap s'.heap)(hok:HOk X.prog X.w H' s'.heap)(hg:AllBare s'.gens)
  (hch:∀b∈ch,(b∈X.ex\/X.s₀.heap.objs.size<=b)/\b≠X.env.locals/\(∀x c,X.env.cells.lookup x=some c->c≠b)/\∀p∈X.pn++pins,p.1≠b):Inv X pins σ H' s':=by
 obtain⟨h',g',d',t',o'⟩:=s'
 have e:o'=s.os:=ho
 subst e
 exact I.call (g':=g') (t':=t') (d':=d') u hok hg hch
end
abbrev XK:=Value->Option Addr->Hp->Prop
abbrev St:=List (Option V)
abbrev VK:=V->Hp->Prop
abbrev TE:=St->Hp->VK->Prop
abbrev TT:=St->Hp->(Bool->Hp->Prop)->Prop
abbrev TA:=St->Hp->(List V->Hp->Prop)->Prop
structure Ends where
 nx:St->Hp->Prop
 rt:VK
 bk:St->Hp->Prop:=fun _ _=>False
 ct:St->Hp->Prop:=fun _ _=>False
abbrev TS:=Ends->St->Hp->Prop
def EP (X:Cx)(pins:List (Addr×Obj))(σ:St)(Q:VK)(u:Value)(s':Shared):Prop:=∃v H',Inv X pins σ H' s'/\RelV v u/\Q v H'
def TP (X:Cx)(pins:List (Addr×Obj))(σ:St)(Q:Bool->Hp->Prop)(b:Bool)(s':Shared):Prop:=∃H',Inv X pins σ H' s'/\Q b H'
def AP (X:Cx)(pins:List (Addr×Obj))(σ:St)(Q:List V->Hp->Prop)(us:List Value)(s':Shared):Prop:=∃vs H',Inv X pins σ H' s'/\Vals vs us/\Q vs H'
def SP (X:Cx)(pins:List (Addr×Obj))(D:Ends)(f:Flow)(s':Shared):Prop:=
 match f with
 | .next=>∃σ' H',Inv X pins σ' H' s'/\D.nx σ' H'
 | .brk=>∃σ' H',Inv X pins σ' H' s'/\D.bk σ' H'
 | .cont=>∃σ' H',Inv X pins σ' H' s'/\D.ct σ' H'
 | .ret u=>∃v σ' H',Inv X pins σ' H' s'/\RelV v u/\D.rt v H'
def PE (X:Cx)(e:Expr)(t:TE):Prop:=
 ∀(pins:List (Addr×Obj)) (s:Shared) (σ:St) (H:Hp) (Q:VK),Inv X pins σ H s->t σ H Q->wpAny (model X.prog X.w) X.A (eval e X.env) (EP X pins σ Q) X.xe s
def PT (X:Cx)(e:Expr)(t:TT):Prop:=
 ∀(pins:List (Addr×Obj)) (s:Shared) (σ:St) (H:Hp) (Q:Bool->Hp->Prop),Inv X pins σ H s->t σ H Q->wpAny (model X.prog X.w) X.A (isTrue e X.env (eval e X.env)) (TP X pins σ Q) X.xe s
def PW (X:Cx)(e:Expr)(t:TT):Prop:=
 ∀(whole:Sem Value) (pins:List (Addr×Obj)) (s:Shared) (σ:St) (H:Hp) (Q:Bool->Hp->Prop),Inv X pins σ H s->t σ H Q->wpAny (model X.prog X.w) X.A (isTrue e X.env whole) (TP X pins σ Q) X.xe s
theorem PW.pt {X:Cx}{e:Expr}{t:TT}(h:PW X e t):PT X e t:=h _
def PA (X:Cx)(es:List Expr)(t:TA):Prop:=
 ∀(pos:Pos) (pins:List (Addr×Obj)) (s:Shared) (σ:St) (H:Hp) (Q:List V->Hp->Prop),Inv X pins σ H s->t σ H Q->wpAny (model X.prog X.w) X.A (spliced (backTo pos (starEach es X.env))) (AP X pins σ Q) X.xe s
def PS (X:Cx)(st:Stmt)(t:TS):Prop:=
 ∀(pins:List (Addr×Obj)) (s:Shared) (σ:St) (H:Hp) (D:Ends),Inv X pins σ H s->t D σ H->wpAny (model X.prog X.w) X.A (exec st X.env) (SP X pins D) X.xe s
def PSs (X:Cx)(st:List Stmt)(t:TS):Prop:=
 ∀(pins:List (Addr×Obj)) (s:Shared) (σ:St) (H:Hp) (D:Ends),Inv X pins σ H s->t D σ H->wpAny (model X.prog X.w) X.A (execs st X.env) (SP X pins D) X.xe s
theorem thn {α:Type}{t:Sem α}{Q Q':α->Shared->Prop}{M:Model}{A:Around}{E:Value->Shared->Prop}{s:Shared}(h:wpAny M A t Q E s)(hQ:∀a s,Q a s->Q' a s):wpAny M A t Q' E s:=wpAny_mono h hQ fun _ _ x=>x
end L2
namespace L2
open PySem PySem.Spec PyProof.Rows
section
variable {X:Cx}
theorem bin {a b:Expr}{ta tb:TE}(ha:PE X a ta)(hb:PE X b tb){pins:List (Addr×Obj)}{s:Shared}{σ:St}{H:Hp}{R:V->V->Hp->Prop}(I:Inv X pins σ H s)(h:ta σ H fun x H1=>tb σ H1 fun y H2=>R x y H2)
  {α:Type}{Q:α->Shared->Prop}{f:Value->Value->Sem α}
  (hf:∀v u s2 x y H2,Inv X pins σ H2 s2->RelV x v->RelV y u->R x y H2->wpAny (model X.prog X.w) X.A (f v u) Q X.xe s2):
  wpAny (model X.prog X.w) X.A (eval a X.env) (fun v s₁=>wpAny (model X.prog X.w) X.A (eval b X.env) (fun u s₂=>wpAny (model X.prog X.w) X.A (f v u) Q X.xe s₂) X.xe s₁) X.xe s:=by
 refine thn (ha pins s σ H _ I h) fun v s1 ⟨x,H1,I1,r1,q1⟩=>?_
 refine thn (hb pins s1 σ H1 _ I1 q1) fun u s2 ⟨y,H2,I2,r2,q2⟩=>?_
 exact hf v u s2 x y H2 I2 r1 r2 q2
def tVar (i:Nat):TE:=fun σ H Q=>∃v,σ[i]? =some (some v)/\Q v H
def tC (v:V):TE:=fun _ H Q=>Q v H
theorem pe_var {i:Nat}{x:Str}{pos:Pos}(hN:X.N[i]? =some x)(hv:Vis X.env.scope x)(hd:(x==("__debug__":Str))=false:=by decide)(hcd:(x==("__classdict__":Str))=false:=by decide):PE X (.Name x pos) (tVar i):=by
 intro pins s σ H Q I h
 obtain⟨v,e,h⟩:=h
 obtain⟨m,hn,hl⟩:=I.loc
 obtain⟨u,r,l⟩:=hl i x v hN e hv
 have fin:EP X pins σ Q u s:=⟨v,H,I,r,h⟩
 rcases l with⟨hk,hm⟩|⟨hk,c,hc,hcell⟩
 ·exact wpAny_Name (wpAny_loadName_local I.ok.kind hk hn hm fin) hd
 ·rcases hk with hk|hk
  ·exact wpAny_Name (wpAny_loadName_cell I.ok.kind hk hc hcell fin) hd
  ·exact wpAny_Name (wpAny_loadName_free I.ok.kind hk hc hcell fin hcd) hd
theorem qi {i j pos}:PE X (.Constant (.int i) j pos) (tC (.int i)):=fun _ _ _ H _ I h=>wpAny_Constant_int ⟨.int i,H,I.tok _,⟨_,rfl⟩,h⟩
theorem q3e {b j pos}:PE X (.Constant (.bool b) j pos) (tC (.bl b)):=fun _ _ _ H _ I h=>Constant_bool ⟨.bl b,H,I,rfl,h⟩
theorem q9Q {j pos}:PE X (.Constant .none j pos) (tC .non):=fun _ _ _ H _ I h=>Constant_none ⟨.non,H,I,rfl,h⟩
theorem qQ {x j pos}:PE X (.Constant (.str x) j pos) (tC (.str x)):=fun _ _ _ H _ I h=>Calls.Constant_str ⟨.str x,H,I.tok _,⟨_,rfl⟩,h⟩
def Gl (X:Cx)(x:Str):Prop:=X.env.kindOf x=some .globalImplicit
theorem q3j {E:Value->Shared->Prop}{pins:List (Addr×Obj)}{s:Shared}{σ:St}{H:Hp}{x:Str}{u:Value}{pos:Pos}{Q:Value->Shared->Prop}(I:Inv X pins σ H s)(hg:Gl X x)(hm:X.mg x=some u)(h:Q u s)
  (hd:(x==("__debug__":Str))=false:=by decide):wpAny (model X.prog X.w) X.A (eval (.Name x pos) X.env) Q E s:=
 Calls.Name_function_global I.ok.kind hg (Calls.loadGlobal_global (by rw[I.ok.glob];exact I.mod.glob.keeps I.bk) hm h) hd
theorem q24 {E:Value->Shared->Prop}{pins:List (Addr×Obj)}{s:Shared}{σ:St}{H:Hp}{x:Str}{u:Value}{pos:Pos}{Q:Value->Shared->Prop}(I:Inv X pins σ H s)(hg:Gl X x)(hm:X.mg x=none)(hv:bootBuiltins x=some u)(h:Q u s)
  (hn:x≠"__name__":=by decide)(hd:(x==("__debug__":Str))=false:=by decide):wpAny (model X.prog X.w) X.A (eval (.Name x pos) X.env) Q E s:=by
 obtain⟨mb,h1,h2⟩:=I.mod.blt
 exact Calls.Name_function_global I.ok.kind hg (Calls.loadGlobal_builtin (by rw[I.ok.glob];exact I.mod.glob.keeps I.bk) hm (by rw[I.ok.blt];exact h1.keeps I.bk) ((h2 x hn).trans hv) h) hd
theorem qk {x:Str}{v:V}{u:Value}{pos:Pos}(hg:Gl X x)(hm:X.mg x=some u)(r:RelV v u)(hd:(x==("__debug__":Str))=false:=by decide):PE X (.Name x pos) (tC v):=
 fun _ _ _ H _ I h=>q3j I hg hm ⟨v,H,I,r,h⟩ hd
theorem q46 {x:Str}{v:V}{u:Value}{pos:Pos}(hg:Gl X x)(hm:X.mg x=none)(hv:bootBuiltins x=some u)(r:RelV v u)(hn:x≠"__name__":=by decide)(hd:(x==("__debug__":Str))=false:=by decide):PE X (.Name x pos) (tC v):=
 fun _ _ _ H _ I h=>q24 I hg hm hv ⟨v,H,I,r,h⟩ hn hd
variable {a b:Expr}{ta tb:TE}{pos:Pos}
def PC (X:Cx)(op:CmpOp)(a b:Expr)(t:TE):Prop:=
 ∀(pins:List (Addr×Obj)) (s:Shared) (σ:St) (H:Hp) (Q:VK),Inv X pins σ H s->t σ H Q->
  wpAny (model X.prog X.w) X.A (eval a X.env) (fun v s₁=>wpAny (model X.prog X.w) X.A (eval b X.env) (fun u s₂=>wpAny (model X.prog X.w) X.A (compareOp op v u) (EP X pins σ Q) X.xe s₂) X.xe s₁) X.xe s
theorem q9c (b:Expr){op:CmpOp}(h:op≠ .In)(h2:op≠ .NotIn):behindInMarks op b=false:=by
 have e1:(op==CmpOp.In)=false:=by cases op<;>first|rfl|exact absurd rfl h
 have e2:(op==CmpOp.NotIn)=false:=by cases op<;>first|rfl|exact absurd rfl h2
 cases b<;>simp[behindInMarks,e1,e2]
def tIsN (ta:TE):TE:=fun σ H Q=>ta σ H fun x H1=>Q (.bl (decide (x= .non))) H1
def tNotN (ta:TE):TE:=fun σ H Q=>ta σ H fun x H1=>Q (.bl (!decide (x= .non))) H1
theorem RelV.none_iff {x:V}{v:Value}(r:RelV x v):(v==Value.none)=decide (x= .non):=by
 cases x with
 |non=>cases r;rfl
 |bl _=>cases r;rfl
 |int _=>obtain⟨t,rfl⟩:=r;rfl
 |str _=>obtain⟨t,rfl⟩:=r;rfl
 |byt _=>obtain⟨t,rfl⟩:=r;rfl
 |flt _=>obtain⟨t,rfl⟩:=r;rfl
 |ref _=>cases r;rfl
 |ty _=>cases r;rfl
theorem pc_isN {j pos'}(ha:PE X a ta):PC X .Is a (.Constant .none j pos') (tIsN ta):=by
 intro pins s σ H Q I h
 refine thn (ha pins s σ H _ I h) fun v s1 ⟨x,H1,I1,r1,q1⟩=>?_
 exact Constant_none (is_none_gen ⟨.bl _,H1,I1,by rw[r1.none_iff];rfl,q1⟩)
theorem q5E {j pos'}(ha:PE X a ta):PC X .IsNot a (.Constant .none j pos') (tNotN ta):=by
 intro pins s σ H Q I h
 refine thn (ha pins s σ H _ I h) fun v s1 ⟨x,H1,I1,r1,q1⟩=>?_
 exact Constant_none (isnot_none_gen ⟨.bl _,H1,I1,by rw[r1.none_iff];rfl,q1⟩)
def tB (t:TE):TT:=fun σ H Q=>t σ H fun x H1=>∃c,x= .bl c/\Q c H1
theorem q3E {op:CmpOp}{t:TE}(h:PC X op a b t)(h1:behindInMarks op b=false:=by first|exact q9c _ (by decide) (by decide)|rfl):PT X (.Compare a [op] [b] pos) (tB t):=by
 intro pins s σ H Q I hw
 refine wpAny_isTrue_Compare1 (thn (h pins s σ H _ I hw) fun v s1 h1=>thn h1 fun u s2 h2=>thn h2 fun c s3 ⟨x,H1,I1,r1,q1⟩=>?_) h1
 obtain⟨d,rfl,q⟩:=q1
 cases r1
 exact wpAny_truthy_bool ⟨H1,I1,q⟩
theorem q0q {e:Expr}{t:TE}(h:PE X e t)(he:∀whole,isTrue e X.env whole=(do let v<-whole;standAt e.pos;holding [v] (truthy v)):=by intro _;rfl):PT X e (tB t):=by
 intro pins s σ H Q I hw
 refine isTrue_plain (thn (h pins s σ H _ I hw) fun v s1 ⟨x,H1,I1,r1,q1⟩=>?_) (he _)
 obtain⟨d,rfl,q⟩:=q1
 cases r1
 exact wpAny_truthy_bool ⟨H1,I1,q⟩
variable {tA tB':TT}{rest:List Expr}
def tAnd (t u:TT):TT:=fun σ H Q=>t σ H fun c H1=>if c=true then u σ H1 Q else Q false H1
def tOr (t u:TT):TT:=fun σ H Q=>t σ H fun c H1=>if c=true then Q true H1 else u σ H1 Q
def tNot (t:TT):TT:=fun σ H Q=>t σ H fun c H1=>Q (!c) H1
theorem q3b (ha:PT X a tA):PW X (.BoolOp .And [a] pos) tA:=by
 intro wh pins s σ H Q I h
 refine isTrue_and (thn (ha pins s σ H Q I h) fun c s1 e=>?_)
 cases c with
 |true=>exact isTrue_and_nil e
 |false=>exact e
theorem q4Z (ha:PT X a tA):PW X (.BoolOp .Or [a] pos) tA:=by
 intro wh pins s σ H Q I h
 refine isTrue_or (thn (ha pins s σ H Q I h) fun c s1 e=>?_)
 cases c with
 |false=>exact isTrue_or_nil e
 |true=>exact e
theorem q50 (ha:PT X a tA)(hb:PW X (.BoolOp .And (b::rest) pos) tB'):PW X (.BoolOp .And (a::b::rest) pos) (tAnd tA tB'):=by
 intro wh pins s σ H Q I h
 refine isTrue_and (thn (ha pins s σ H _ I h) fun c s1 ⟨H1,I1,q1⟩=>?_)
 cases c with
 |true=>exact hb wh pins s1 σ H1 Q I1 q1
 |false=>exact⟨H1,I1,q1⟩
theorem q5C (ha:PT X a tA)(hb:PW X (.BoolOp .Or (b::rest) pos) tB'):PW X (.BoolOp .Or (a::b::rest) pos) (tOr tA tB'):=by
 intro wh pins s σ H Q I h
 refine isTrue_or (thn (ha pins s σ H _ I h) fun c s1 ⟨H1,I1,q1⟩=>?_)
 cases c with
 |true=>exact⟨H1,I1,q1⟩
 |false=>exact hb wh pins s1 σ H1 Q I1 q1
theorem q2n (ha:PT X a tA):PT X (.UnaryOp .Not a pos) (tNot tA):=by
 intro pins s σ H Q I h
 exact isTrue_not (ha pins s σ H (fun c H1=>Q (!c) H1) I h)
def tAndV (ta tb:TE):TE:=fun σ H Q=>ta σ H fun x H1=>∃c,x= .bl c/\if c=true then tb σ H1 Q else Q (.bl false) H1
def tOrV (ta tb:TE):TE:=fun σ H Q=>ta σ H fun x H1=>∃c,x= .bl c/\if c=true then Q (.bl true) H1 else tb σ H1 Q
def tNotV (ta:TE):TE:=fun σ H Q=>ta σ H fun x H1=>∃c,x= .bl c/\Q (.bl (!c)) H1
theorem q2I {op}{t:TE}(h:PE X a t):PE X (.BoolOp op [a] pos) t:=fun pins s σ H Q I hw=>BoolOp_one (h pins s σ H Q I hw)
theorem q6a (ha:PE X a ta)(hb:PE X (.BoolOp .And (b::rest) pos) tb):PE X (.BoolOp .And (a::b::rest) pos) (tAndV ta tb):=by
 intro pins s σ H Q I h
 refine BoolOp_and (thn (ha pins s σ H _ I h) fun v s1 ⟨x,H1,I1,r1,q1⟩=>?_)
 obtain⟨c,rfl,q1⟩:=q1
 cases r1
 refine wpAny_truthy_bool ?_
 cases c with
 |true=>exact hb pins s1 σ H1 Q I1 q1
 |false=>exact⟨.bl false,H1,I1,rfl,q1⟩
theorem q8W (ha:PE X a ta)(hb:PE X (.BoolOp .Or (b::rest) pos) tb):PE X (.BoolOp .Or (a::b::rest) pos) (tOrV ta tb):=by
 intro pins s σ H Q I h
 refine BoolOp_or (thn (ha pins s σ H _ I h) fun v s1 ⟨x,H1,I1,r1,q1⟩=>?_)
 obtain⟨c,rfl,q1⟩:=q1
 cases r1
 refine wpAny_truthy_bool ?_
 cases c with
 |false=>exact hb pins s1 σ H1 Q I1 q1
 |true=>exact⟨.bl true,H1,I1,rfl,q1⟩
theorem pe_not (ha:PE X a ta):PE X (.UnaryOp .Not a pos) (tNotV ta):=by
 intro pins s σ H Q I h
 refine UnaryOp_ (thn (ha pins s σ H _ I h) fun v s1 ⟨x,H1,I1,r1,q1⟩=>?_)
 obtain⟨c,rfl,q1⟩:=q1
 cases r1
 exact not_of (wpAny_truthy_bool ⟨.bl (!c),H1,I1,rfl,q1⟩)
def tIf (t:TT)(ta tb:TE):TE:=fun σ H Q=>t σ H fun c H1=>if c=true then ta σ H1 Q else tb σ H1 Q
theorem q32 {c:Expr}(hc:PT X c tA)(ha:PE X a ta)(hb:PE X b tb):PE X (.IfExp c a b pos) (tIf tA ta tb):=by
 intro pins s σ H Q I h
 refine wpAny_IfExp (thn (hc pins s σ H _ I h) fun d s1 ⟨H1,I1,q1⟩=>?_)
 cases d with
 |true=>exact ha pins s1 σ H1 Q I1 q1
 |false=>exact hb pins s1 σ H1 Q I1 q1
end
end L2
namespace L2
open PySem PySem.Spec PyProof.Rows
def SqL (K:PySem.W.Frag)(H:Hp)(a:Addr)(xs:List V):Prop:=
 Rd H a (.lst xs)\/
  ∃(o:Obj) (its:Array Value) (n:Nat),K.lookup a=some o/\o.cls= .type "list"/\o.dict=none/\o.data= .seq its n/\its.size<=sizeLine/\Vals xs its.toList
def SqT (K:PySem.W.Frag)(H:Hp)(a:Addr)(xs:List V):Prop:=
 Rd H a (.tup xs)\/
  ∃(o:Obj) (its:Array Value) (n:Nat),K.lookup a=some o/\o.cls= .type "tuple"/\o.data= .seq its n/\its.size<=sizeLine/\Vals xs its.toList
def absV:Value->Option V
 | .none=>some .non
 | .bool b=>some (.bl b)
 | .int i _=>some (.int i)
 | .str x _=>some (.str x)
 | .bytes b _=>some (.byt b)
 | .float b _=>some (.flt b)
 | .ref a=>some (.ref a)
 | .type n=>some (.ty n)
 |_=>none
theorem RelV.abs {x:V}{u:Value}(r:RelV x u):absV u=some x:=by
 cases x with
 |non=>cases r;rfl
 |bl _=>cases r;rfl
 |int _=>obtain⟨t,rfl⟩:=r;rfl
 |str _=>obtain⟨t,rfl⟩:=r;rfl
 |byt _=>obtain⟨t,rfl⟩:=r;rfl
 |flt _=>obtain⟨t,rfl⟩:=r;rfl
 |ref _=>cases r;rfl
 |ty _=>cases r;rfl
theorem RelV.inj {x y:V}{u:Value}(r:RelV x u)(q:RelV y u):x=y:=Option.some.inj (r.abs.symm.trans q.abs)
theorem Vals.inj:∀{xs ys:List V} {us:List Value},Vals xs us->Vals ys us->xs=ys
 |_,_,_,.nil,.nil=>rfl
 |_,_,_,.cons r t,.cons r' t'=>by rw[r.inj r',Vals.inj t t']
section
variable {X:Cx}{pins:List (Addr×Obj)}{σ:St}{H:Hp}{s:Shared}{a:Addr}{xs ys:List V}
theorem SqL.of {K:PySem.W.Frag}(h:H a=some (.lst xs)):SqL K H a xs:= .inl (.inl h)
theorem SqT.of {K:PySem.W.Frag}(h:H a=some (.tup xs)):SqT K H a xs:= .inl (.inl h)
theorem Inv.list (I:Inv X pins σ H s)(h:SqL X.K H a xs):∃its:List Value,Vals xs its/\PlainL s.heap a its.toArray/\xs.length<=sizeLine:=by
 rcases h with h|⟨o,its,n,hk,hc,hd,hs,hz,r⟩
 ·obtain ⟨z,its,n,r,e⟩:=h.ok I.hok
  exact⟨its,r,⟨_,n,e,rfl,rfl,rfl⟩,z⟩
 ·refine ⟨its.toList,r,⟨o,n,I.kIn a o hk,hc,hd,by simpa using hs⟩,?_⟩
  have e:=r.length
  simp only[Array.length_toList] at e
  omega
theorem Inv.tuple (I:Inv X pins σ H s)(h:SqT X.K H a xs):∃its:List Value,Vals xs its/\IsTup s.heap a its.toArray/\xs.length<=sizeLine:=by
 rcases h with h|⟨o,its,n,hk,hc,hs,hz,r⟩
 ·obtain ⟨z,its,r,p⟩:=h.ok I.hok
  exact⟨its,r,p,z⟩
 ·refine ⟨its.toList,r,⟨o,I.kIn a o hk,hc,n,by simpa using hs⟩,?_⟩
  have e:=r.length
  simp only[Array.length_toList] at e
  omega
theorem Inv.list_inj (I:Inv X pins σ H s)(h:SqL X.K H a xs)(h':SqL X.K H a ys):xs=ys:=by
 obtain⟨its,r,⟨o,n,e,_,_,d⟩,_⟩:=I.list h
 obtain⟨its',r',⟨o',n',e',_,_,d'⟩,_⟩:=I.list h'
 rw[e] at e';cases e'
 rw[d] at d'
 injection d' with d1 _
 have:its=its':=by simpa using congrArg Array.toList d1
 subst this
 exact r.inj r'
theorem Inv.tuple_inj (I:Inv X pins σ H s)(h:SqT X.K H a xs)(h':SqT X.K H a ys):xs=ys:=by
 obtain⟨its,r,⟨o,e,_,n,d⟩,_⟩:=I.tuple h
 obtain⟨its',r',⟨o',e',_,n',d'⟩,_⟩:=I.tuple h'
 rw[e] at e';cases e'
 rw[d] at d'
 injection d' with d1 _
 have:its=its':=by simpa using congrArg Array.toList d1
 subst this
 exact r.inj r'
end
abbrev Cx.wish (X:Cx)(E:Value->Shared->Prop):Cx:={X with xe:=E}
abbrev Cx.nox (X:Cx):Cx:=X.wish fun _ _=>False
theorem Cx.Ok.wish {X:Cx}(ok:X.Ok)(E:Value->Shared->Prop):(X.wish E).Ok:=
 ⟨ok.mod,ok.kind,ok.glob,ok.blt,ok.above,ok.inj,ok.has,ok.cab,ok.hd,ok.frames,ok.stk,ok.exf,ok.bs,ok.bsz,ok.noex,ok.exfs,ok.funs,ok.frf⟩
theorem Cx.Ok.unwish {X:Cx}{E:Value->Shared->Prop}(ok:(X.wish E).Ok):X.Ok:=
 ⟨ok.mod,ok.kind,ok.glob,ok.blt,ok.above,ok.inj,ok.has,ok.cab,ok.hd,ok.frames,ok.stk,ok.exf,ok.bs,ok.bsz,ok.noex,ok.exfs,ok.funs,ok.frf⟩
section
variable {X:Cx}{pins:List (Addr×Obj)}{σ:St}{H:Hp}{s:Shared}{E:Value->Shared->Prop}
theorem Inv.wish (I:Inv X pins σ H s)(E:Value->Shared->Prop):Inv (X.wish E) pins σ H s:=⟨I.ok.wish E,I.os,I.bare,I.base,I.loc,I.cell,I.free,I.freeC,I.pin,I.hok,I.len⟩
theorem Inv.unwish (I:Inv (X.wish E) pins σ H s):Inv X pins σ H s:=⟨I.ok.unwish,I.os,I.bare,I.base,I.loc,I.cell,I.free,I.freeC,I.pin,I.hok,I.len⟩
theorem SP.unwish {D:Ends}{f:Flow}{s':Shared}(h:SP (X.wish E) pins D f s'):SP X pins D f s':=by
 cases f with
 |next=>obtain⟨σ',H',I,q⟩:=h;exact⟨σ',H',I.unwish,q⟩
 |brk=>obtain⟨σ',H',I,q⟩:=h;exact⟨σ',H',I.unwish,q⟩
 |cont=>obtain⟨σ',H',I,q⟩:=h;exact⟨σ',H',I.unwish,q⟩
 |ret u=>obtain⟨v,σ',H',I,r,q⟩:=h;exact⟨v,σ',H',I.unwish,r,q⟩
theorem PSs.nox {st:List Stmt}{t:TS}(h:PSs X.nox st t):PSs X st t:=fun pins s σ H D I hw=>
 wpAny_mono (h pins s σ H D (I.wish _) hw) (fun _ _ q=>q.unwish) fun _ _ z=>False.elim z
end
section
variable {X:Cx}{st:Stmt}{rest:List Stmt}{t u:TS}{e:Expr}{te:TE}{pos:Pos}
def tNext:TS:=fun D σ H=>D.nx σ H
def tSeq (t u:TS):TS:=fun D σ H=>t {D with nx:=u D} σ H
theorem qD:PSs X [] tNext:=fun _ _ σ H _ I h=>wpAny_execs_nil ⟨σ,H,I,h⟩
theorem qe (h1:PS X st t)(h2:PSs X rest u):PSs X (st::rest) (tSeq t u):=by
 intro pins s σ H D I h
 refine wpAny_execs_cons (thn (h1 pins s σ H {D with nx:=u D} I h) fun f s1 q=>?_)
 cases f with
 |next=>
  obtain⟨σ',H',I',q⟩:=q
  exact h2 pins s1 σ' H' D I' q
 |ret v=>exact q
 |brk=>exact q
 |cont=>exact q
theorem qh (h1:PS X st t):PSs X [st] t:=by
 intro pins s σ H D I h
 refine wpAny_execs_cons (thn (h1 pins s σ H D I h) fun f s1 q=>?_)
 cases f with
 |next=>exact wpAny_execs_nil q
 |ret v=>exact q
 |brk=>exact q
 |cont=>exact q
theorem Inv.quiet {pins:List (Addr×Obj)}{σ:St}{H:Hp}{s:Shared}(I:Inv X pins σ H s):interactive X.env=false:=by simp[interactive,I.ok.kind]
def tDrop (te:TE):TS:=fun D σ H=>te σ H fun _ H1=>D.nx σ H1
theorem qK (he:PE X e te)(hs:swapsWith e none pos.line X.env=pure false:=by rfl):PS X (.Expr e pos) (tDrop te):=by
 intro pins s σ H D I h
 exact wpAny_Expr_any (thn (he pins s σ H _ I h) fun v s1 ⟨x,H1,I1,r1,q1⟩=>⟨σ,H1,I1,q1⟩) I.quiet hs
def tRet (te:TE):TS:=fun D σ H=>te σ H D.rt
theorem qz (he:PE X e te):PS X (.Return (some e) pos) (tRet te):=by
 intro pins s σ H D I h
 exact wpAny_Return_some (thn (he pins s σ H _ I h) fun v s1 ⟨x,H1,I1,r1,q1⟩=>⟨x,σ,H1,I1,r1,q1⟩)
def tIfS (c:TT)(t u:TS):TS:=fun D σ H=>c σ H fun b H1=>if b=true then t D σ H1 else u D σ H1
theorem q04 {c:Expr}{a b:List Stmt}{tc:TT}(hc:PT X c tc)(ha:PSs X a t)(hb:PSs X b u):PS X (.If c a b pos) (tIfS tc t u):=by
 intro pins s σ H D I h
 refine wpAny_If (thn (hc pins s σ H _ I h) fun d s1 ⟨H1,I1,q1⟩=>?_)
 cases d with
 |true=>exact ha pins s1 σ H1 D I1 q1
 |false=>exact hb pins s1 σ H1 D I1 q1
def tNever:TS:=fun _ _ _=>False
theorem q0r:PS X st tNever:=fun _ _ _ _ _ _ h=>h.elim
end
abbrev TG:=V->St->Hp->(St->Hp->Prop)->Prop
abbrev TGs:=List V->St->Hp->(St->Hp->Prop)->Prop
def PG (X:Cx)(target:Expr)(t:TG):Prop:=
 ∀(pins:List (Addr×Obj)) (s:Shared) (σ:St) (H:Hp) (v:V) (u:Value) (Q:St->Hp->Prop),Inv X pins σ H s->RelV v u->t v σ H Q->
  wpAny (model X.prog X.w) X.A (assign target X.env u) (fun _ s'=>∃σ' H',Inv X pins σ' H' s'/\Q σ' H') X.xe s
def PGs (X:Cx)(ts:List Expr)(t:TGs):Prop:=
 ∀(pins:List (Addr×Obj)) (s:Shared) (σ:St) (H:Hp) (vs:List V) (us:List Value) (Q:St->Hp->Prop),Inv X pins σ H s->Vals vs us->t vs σ H Q->
  wpAny (model X.prog X.w) X.A (assignInOrder ((assignEach ts X.env).map (·.2)) us) (fun _ s'=>∃σ' H',Inv X pins σ' H' s'/\Q σ' H') X.xe s
abbrev TSet:=V->V->V->Hp->(Hp->Prop)->Prop
def PSet (X:Cx)(t:TSet):Prop:=
 ∀(pins:List (Addr×Obj)) (s:Shared) (σ:St) (H:Hp) (o i v:V) (ov iv u:Value) (Q:Hp->Prop),Inv X pins σ H s->RelV o ov->RelV i iv->RelV v u->t o i v H Q->
  wpAny (model X.prog X.w) X.A (setItem ov iv u) (fun _ s'=>∃H',Inv X pins σ H' s'/\Q H') X.xe s
abbrev TIp:=V->V->Hp->VK->Prop
def PIp (X:Cx)(op:Operator)(t:TIp):Prop:=
 ∀(pins:List (Addr×Obj)) (s:Shared) (σ:St) (H:Hp) (x y:V) (v u:Value) (Q:VK),Inv X pins σ H s->RelV x v->RelV y u->t x y H Q->
  wpAny (model X.prog X.w) X.A (inplaceOp op v u) (EP X pins σ Q) X.xe s
section
variable {X:Cx}{pos:Pos}
def q9s (i:Nat):TG:=fun v σ H Q=>Q (σ.set i (some v)) H
theorem qu {i:Nat}{x:Str}(hN:X.N.Nodup)(hi:X.N[i]? =some x)(hx:Loc X.env.scope x)(hf:X.fn x=true\/X.env.scope.names.lookup x=some .local:=by first|exact .inl rfl|exact .inr rfl|assumption):PG X (.Name x pos) (q9s i):=by
 intro pins s σ H v u Q I r h
 exact wpAny_assign_Name (q3P I hN hi hx r (fun s' I'=>⟨_,H,I',h⟩) hf)
def gNil:TGs:=fun vs σ H Q=>vs=[]/\Q σ H
def gCons (t:TG)(u:TGs):TGs:=fun vs σ H Q=>∃v r,vs=v::r/\t v σ H fun σ' H'=>u r σ' H' Q
theorem q2a:PGs X [] gNil:=by
 intro pins s σ H vs us Q I r h
 obtain⟨e,h⟩:=h
 subst e
 cases r
 exact assignInOrder_nil ⟨σ,H,I,h⟩
theorem qP {e:Expr}{es:List Expr}{t:TG}{u:TGs}(h1:PG X e t)(h2:PGs X es u)
  (hs:(assignEach (e::es) X.env).map (·.2)=assign e X.env::(assignEach es X.env).map (·.2):=by rfl):PGs X (e::es) (gCons t u):=by
 intro pins s σ H vs us Q I r h
 obtain⟨v,vr,e1,h⟩:=h
 subst e1
 cases r with
 |cons r rr=>
  rw[hs]
  refine assignInOrder_cons (thn (h1 pins s σ H _ _ _ I r h) fun _ s1 ⟨σ1,H1,I1,q1⟩=>?_)
  exact h2 pins s1 σ1 H1 _ _ Q I1 rr q1
def gTup (K:PySem.W.Frag)(n:Nat)(t:TGs):TG:=fun v σ H Q=>∃a xs,v= .ref a/\SqT K H a xs/\xs.length=n/\t xs σ H Q
theorem pg_tup {es:List Expr}{k:Nat}{t:TGs}{n:Nat}(hc:X.calm=true)(h:PGs X es t)
  (hn:(assignEach es X.env).length=n:=by rfl)(hst:(assignEach es X.env).findIdx? (·.1)=none:=by rfl):PG X (.Tuple es k pos) (gTup X.K n t):=by
 intro pins s σ H v u Q I r hw
 obtain⟨a,xs,e1,hq,hl,hw⟩:=hw
 subst e1
 cases r
 obtain⟨its,rv,ht,hz⟩:=I.tuple hq
 refine assign_Tuple_tuple (I.ok.hd hc) ht (by simp[hn,<-hl,rv.length]) hst fun h' hx=>?_
 have I1:Inv X pins σ H {s with heap:=h'}:=I.kept (t':=s.toks) fun b o e=>hx b o (Nat.ne_of_lt (Heap.lt_size e)) e
 exact h pins _ σ H xs _ Q I1 (by simpa using rv) hw
def tAsg (te:TE)(g:TG):TS:=fun D σ H=>te σ H fun x H1=>g x σ H1 D.nx
theorem q9M {tg e:Expr}{te:TE}{g:TG}(he:PE X e te)(hg:PG X tg g)(hs:swapsWithSole [tg] e pos.line X.env=pure false:=by rfl)(hw:swappedStores [tg] e X.env=pure none:=by rfl)
  (h1:(assignEach [tg] X.env).map (·.2)=[assign tg X.env]:=by rfl):PS X (.Assign [tg] e pos) (tAsg te g):=by
 intro pins s σ H D I h
 refine wpAny_Assign_stores (thn (he pins s σ H _ I h) fun v s1 ⟨x,H1,I1,r1,q1⟩=>?_) hs hw
 rw[h1]
 exact thn (hg pins s1 σ H1 x v _ I1 r1 q1) fun _ s2 q=>q
theorem qA {i:Nat}{x:Str}{e:Expr}{te:TE}{pos':Pos}(hN:X.N.Nodup)(hi:X.N[i]? =some x)(hx:Loc X.env.scope x)(he:PE X e te)(hs:swapsWith e (some (.Name x pos')) pos.line X.env=pure false:=by rfl)(hf:X.fn x=true\/X.env.scope.names.lookup x=some .local:=by first|exact .inl rfl|exact .inr rfl|assumption):
  PS X (.Assign [.Name x pos'] e pos) (tAsg te (q9s i)):=by
 intro pins s σ H D I h
 refine wpAny_Assign_Name (thn (he pins s σ H _ I h) fun v s1 ⟨y,H1,I1,r1,q1⟩=>?_) hs
 exact q3P I1 hN hi hx r1 (fun s2 I2=>⟨_,H1,I2,q1⟩) hf
def tAug (i:Nat)(te:TE)(ti:TIp):TS:=fun D σ H=>∃x,σ[i]? =some (some x)/\te σ H fun y H1=>ti x y H1 fun z H2=>D.nx (σ.set i (some z)) H2
theorem q7k {i:Nat}{x:Str}{e:Expr}{te:TE}{op:Operator}{ti:TIp}{pos':Pos}(hN:X.N.Nodup)(hi:X.N[i]? =some x)(hx:Loc X.env.scope x)(he:PE X e te)(ho:PIp X op ti)(hf:X.fn x=true\/X.env.scope.names.lookup x=some .local:=by first|exact .inl rfl|exact .inr rfl|assumption):
  PS X (.AugAssign (.Name x pos') op e pos) (tAug i te ti):=by
 intro pins s σ H D I h
 obtain⟨v,e1,h⟩:=h
 obtain⟨m,hn,hl⟩:=I.loc
 have vis:Vis X.env.scope x:=by rcases hx with k|k;exact .inl k;exact .inr (.inl k)
 obtain⟨u,r,l⟩:=hl i x v hi e1 vis
 refine wpAny_AugAssign_Name ?_
 have go:wpAny (model X.prog X.w) X.A (eval e X.env) (fun w s₂=>wpAny (model X.prog X.w) X.A (inplaceOp op u w) (fun r s₃=>wpAny (model X.prog X.w) X.A (storeName X.env x r) (fun _=>SP X pins D .next) X.xe s₃) X.xe s₂) X.xe s:=by
  refine thn (he pins s σ H _ I h) fun w s1 ⟨y,H1,I1,r1,q1⟩=>?_
  refine thn (ho pins s1 σ H1 v y u w _ I1 r r1 q1) fun z s2 ⟨zv,H2,I2,r2,q2⟩=>?_
  exact q3P I2 hN hi hx r2 (fun s3 I3=>⟨_,H2,I3,q2⟩) hf
 rcases l with⟨hk,hm⟩|⟨hk,c,hc,hcell⟩
 ·exact wpAny_loadName_local I.ok.kind hk hn hm go
 ·rcases hk with hk|hk
  ·exact wpAny_loadName_cell I.ok.kind hk hc hcell go
  ·rcases hx with k|k
   ·have:X.env.scope.names.lookup x=some .free:=hk
    rw[k] at this;cases this
   ·have:X.env.scope.names.lookup x=some .free:=hk
    rw[k] at this;cases this
def tAugS (to ti te:TE)(tget:V->V->Hp->VK->Prop)(tip:TIp)(tset:TSet):TS:=fun D σ H=>to σ H fun o H1=>ti σ H1 fun i H2=>tget o i H2 fun x H3=>te σ H3 fun y H4=>tip x y H4 fun z H5=>tset o i z H5 fun H6=>D.nx σ H6
def PGet (X:Cx)(t:V->V->Hp->VK->Prop):Prop:=
 ∀(pins:List (Addr×Obj)) (s:Shared) (σ:St) (H:Hp) (o i:V) (ov iv:Value) (Q:VK),Inv X pins σ H s->RelV o ov->RelV i iv->t o i H Q->
  wpAny (model X.prog X.w) X.A (getItem ov iv) (EP X pins σ Q) X.xe s
theorem q42 {o i e:Expr}{to ti te:TE}{tget:V->V->Hp->VK->Prop}{tip:TIp}{tset:TSet}{op:Operator}{tpos:Pos}(ho:PE X o to)(hi:PE X i ti)(hg:PGet X tget)(he:PE X e te)(hp:PIp X op tip)(hs:PSet X tset)
  (ha:∀ov iv new,augStore i ov iv new=(do holding [new,ov,iv] (setItem ov iv new);release [new,ov,iv] [];pure .next):=by intros;rfl):PS X (.AugAssign (.Subscript o i tpos) op e pos) (tAugS to ti te tget tip tset):=by
 intro pins s σ H D I h
 refine wpAny_AugAssign_SubscriptAny (thn (ho pins s σ H _ I h) fun ov s1 ⟨x1,H1,I1,r1,q1⟩=>?_) ha
 refine thn (hi pins s1 σ H1 _ I1 q1) fun iv s2 ⟨x2,H2,I2,r2,q2⟩=>?_
 refine thn (hg pins s2 σ H2 x1 x2 ov iv _ I2 r1 r2 q2) fun old s3 ⟨x3,H3,I3,r3,q3⟩=>?_
 refine thn (he pins s3 σ H3 _ I3 q3) fun v s4 ⟨x4,H4,I4,r4,q4⟩=>?_
 refine thn (hp pins s4 σ H4 x3 x4 old v _ I4 r3 r4 q4) fun new s5 ⟨x5,H5,I5,r5,q5⟩=>?_
 exact thn (hs pins s5 σ H5 x1 x2 x5 ov iv new _ I5 r1 r2 r5 q5) fun _ s6 ⟨H6,I6,q6⟩=>⟨σ,H6,I6,q6⟩
def ipI (f:Int->Int->Int):TIp:=fun x y H Q=>∃i j,x= .int i/\y= .int j/\Q (.int (f i j)) H
theorem q6e:PIp X .Add (ipI fun i j=>i+j):=by
 intro pins s σ H x y v u Q I r1 r2 h
 obtain⟨i,j,e1,e2,q⟩:=h
 subst e1;subst e2
 obtain⟨t,rfl⟩:=r1
 obtain⟨t',rfl⟩:=r2
 exact iadd_int ⟨.int _,H,I.tok _,⟨_,rfl⟩,q⟩
theorem q7N:PIp X .Sub (ipI fun i j=>i - j):=by
 intro pins s σ H x y v u Q I r1 r2 h
 obtain⟨i,j,e1,e2,q⟩:=h
 subst e1;subst e2
 obtain⟨t,rfl⟩:=r1
 obtain⟨t',rfl⟩:=r2
 exact isub_int ⟨.int _,H,I.tok _,⟨_,rfl⟩,q⟩
end
section
variable {X:Cx}{pos:Pos}
def q9B (c:TT)(tb:TS):TS:=fun D σ H=>∃W:Nat->St->Hp->Prop,(∃m,W m σ H)/\∀m σ H,W m σ H->
 c σ H fun b H1=>if b=true then∃N:St->Hp->Prop,(∀σ' H',N σ' H'->∃m',m'<m/\W m' σ' H')/\tb {D with nx:=N,ct:=N,bk:=D.nx} σ H1 else D.nx σ H1
theorem q41 {c:Expr}{body:List Stmt}{tc:TT}{tb:TS}(hp:PassesOwn (model X.prog X.w) X.A X.env X.xe)(hc:PT X c tc)(hb:PSs X body tb):PS X (.While c body [] pos) (q9B tc tb):=by
 intro pins s σ H D I h
 obtain⟨W,⟨m0,w0⟩,turn⟩:=h
 refine wpAny_While (codeAny_whileLoop (fun n s'=>∃σ' H',Inv X pins σ' H' s'/\W n σ' H') ?_ m0 ⟨σ,H,I,w0⟩)
 rintro n s1 ⟨σ1,H1,I1,w1⟩
 refine wpAny_passesOwn hp (thn (hc pins s1 σ1 H1 _ I1 (turn n σ1 H1 w1)) fun b s2 ⟨H2,I2,q2⟩=>?_)
 cases b with
 |true=>
  obtain⟨N,hN,q2⟩:=q2
  rw[if_pos rfl]
  refine wpAny_passesOwn hp (thn (hb pins s2 σ1 H2 _ I2 q2) fun f s3 q3=>?_)
  cases f with
  |next=>
   obtain⟨σ3,H3,I3,n3⟩:=q3
   obtain⟨m',hm,w3⟩:=hN σ3 H3 n3
   exact⟨m',hm,σ3,H3,I3,w3⟩
  |cont=>
   obtain⟨σ3,H3,I3,n3⟩:=q3
   obtain⟨m',hm,w3⟩:=hN σ3 H3 n3
   exact⟨m',hm,σ3,H3,I3,w3⟩
  |brk=>exact q3
  |ret v=>exact q3
 |false=>
  rw[if_neg Bool.false_ne_true]
  exact wpAny_execs_nil ⟨σ1,H2,I2,q2⟩
end
structure It where
 go:Nat->Hp->Prop
 yld:Nat->Hp->V->Hp->Prop
 stop:Nat->Hp->Prop
def FpOk (X:Cx)(pins:List (Addr×Obj))(H:Hp)(b:Addr):Prop:=
 H b=none/\b≠X.env.locals/\b∉X.fs/\(b∈X.ex\/X.s₀.heap.objs.size<=b)/\(∀x c,X.env.cells.lookup x=some c->c≠b)/\∀p∈X.pn++pins,p.1≠b
theorem Inv.fpOk {X:Cx}{pins:List (Addr×Obj)}{σ:St}{H H':Hp}{s:Shared}{b:Addr}(I:Inv X pins σ H s)(hb:s.heap.objs.size<=b)(hn:H' b=none):FpOk X pins H' b:=by
 refine⟨hn,Nat.ne_of_gt (Nat.lt_of_lt_of_le I.lt hb),I.nofs hb,.inr (Nat.le_trans I.sz hb),fun x c e z=>?_,fun p hp z=>?_⟩
 ·obtain ⟨v,q⟩:=I.cell x c e
  exact absurd (Nat.lt_of_lt_of_le q.lt (by rw[z];exact hb)) (Nat.lt_irrefl _)
 ·exact absurd (Nat.lt_of_lt_of_le (Heap.lt_size (I.pin p hp).1) (by rw[z];exact hb)) (Nat.lt_irrefl _)
structure Turn (P:Program)(w:World)(K:PySem.W.Frag)(tg:Expr)(J:It)(fp:List Addr)(it:Addr)(tn:Nat->Heap->Prop):Prop where
 mem:it∈fp
 obj:∀i h,tn i h->∀b∈fp,∃o,h.get? b=some o/\∀v,o.data≠ .cell v
 keep:∀i h h',tn i h->(∀b∈fp,∀o,h.get? b=some o->h'.get? b=some o)->tn i h'
 item:∀(X:Cx),X.prog=P->X.w=w->X.K=K->X.calm=true->∀(i:Nat) (pins:List (Addr×Obj)) (s:Shared) (σ:St) (H:Hp) (E:Value->Shared->Prop),Inv X pins σ H s->(∀b∈fp,FpOk X pins H b)->tn i s.heap->J.go i H->
  wpAny (model P w) X.A (pyNext (.ref it)) (fun r s1=>∃u,r=some u/\
   wpAny (model P w) X.A (letOwnedTupleGo tg (.ref it) u) (fun _ s2=>∃x H',Inv X pins σ H' s2/\RelV x u/\J.yld i H x H'/\tn (i+1) s2.heap/\∀b∈fp,H' b=none) E s1) E s
 done:∀(X:Cx),X.prog=P->X.w=w->X.K=K->X.calm=true->∀(i:Nat) (pins:List (Addr×Obj)) (s:Shared) (σ:St) (H:Hp) (E:Value->Shared->Prop),Inv X pins σ H s->(∀b∈fp,FpOk X pins H b)->tn i s.heap->J.stop i H->
  wpAny (model P w) X.A (pyNext (.ref it)) (fun r s1=>r=none/\Inv X pins σ H s1) E s
 self:∀(A:Around) (i:Nat) (s:Shared) (Q:Value->Shared->Prop) (E:Value->Shared->Prop),tn i s.heap->Q (.ref it) s->wpAny (model P w) A (pyIter (.ref it)) Q E s
abbrev TI:=St->Hp->(It->Hp->Prop)->Prop
def PIE (X:Cx)(pins:List (Addr×Obj))(σ:St)(tg:Expr)(R:It->Hp->Prop)(itv:Value)(s2:Shared):Prop:=
 ∃(it:Addr) (fp:List Addr) (tn:Nat->Heap->Prop) (J:It) (H':Hp),itv= .ref it/\Inv X pins σ H' s2/\Turn X.prog X.w X.K tg J fp it tn/\tn 0 s2.heap/\(∀b∈fp,FpOk X pins H' b)/\R J H'
def PI (X:Cx)(tg iter:Expr)(wi:TI):Prop:=
 ∀(pins:List (Addr×Obj)) (s:Shared) (σ:St) (H:Hp) (R:It->Hp->Prop),Inv X pins σ H s->wi σ H R->
  wpAny (model X.prog X.w) X.A (eval iter X.env) (fun v s1=>wpAny (model X.prog X.w) X.A (pyIter v) (PIE X pins σ tg R) X.xe s1) X.xe s
theorem go_of {M:Model}{A:Around}{E:Value->Shared->Prop}{s:Shared}{tg:Expr}{it:Addr}{u:Value}{o:Obj}{n:String}{vs:Array Value}{Q:Unit->Shared->Prop}(ho:s.heap.get? it=some o)(hc:o.cls= .type n)(hd:o.data= .fields vs)
  (hn:["enumerate","zip","dict_itemiterator","dict_reverseitemiterator","odict_iterator","itertools.zip_longest","itertools.pairwise"].contains n=false)(hQ:Q () s):wpAny M A (letOwnedTupleGo tg (.ref it) u) Q E s:=by
 unfold letOwnedTupleGo
 cases tg<;>first
  |exact wpAny_pure hQ
  |(cases u<;>first
    |exact wpAny_pure hQ
    |(refine wpAny_bind (wpAny_load ho ?_)
      rw[hc,hd]
      show wpAny M A (if (["enumerate","zip","dict_itemiterator","dict_reverseitemiterator","odict_iterator","itertools.zip_longest","itertools.pairwise"].contains n&&vs[0]? ==some (rawInt _))=true then _ else _) Q E s
      rw[if_neg (by intro h;rw[hn,Bool.false_and] at h;cases h)]
      exact wpAny_pure hQ))
def Itl (K:PySem.W.Frag)(a:Addr):It:=
 ⟨fun i H=>∃xs x,SqL K H a xs/\xs[i]? =some x,fun i H x H'=>H'=H/\∀xs,SqL K H a xs->xs[i]? =some x,fun i H=>∃xs,SqL K H a xs/\xs.length<=i⟩
def Itt (K:PySem.W.Frag)(a:Addr):It:=
 ⟨fun i H=>∃xs x,SqT K H a xs/\xs[i]? =some x,fun i H x H'=>H'=H/\∀xs,SqT K H a xs->xs[i]? =some x,fun i H=>∃xs,SqT K H a xs/\xs.length<=i⟩
def Itr (lo:Int)(n:Nat):It:=⟨fun i _=>i<n,fun i H x H'=>H'=H/\x= .int (lo+i),fun i _=>n<=i⟩
theorem q6Y {P:Program}{w:World}{K:PySem.W.Frag}{tg:Expr}(a it:Addr):Turn P w K tg (Itl K a) [it] it (fun i h=>h.IsListIter it a i) where
 mem:=by simp
 obj:=fun i h st b hb=>by
  have e:b=it:=by simpa using hb
  subst e
  obtain⟨o,e,c,d⟩:=st
  exact⟨o,e,fun v z=>by rw[d] at z;cases z⟩
 keep:=fun i h h' st k=>st.at fun o e=>k it (by simp) o e
 item:=by
  intro X hP hw hK hc i pins s σ H E I hf st hg
  subst hP hw hK
  obtain⟨xs,x,hq,hx⟩:=hg
  obtain⟨its,rv,p,hz⟩:=I.list hq
  obtain⟨u,hu,ru⟩:=rv.get hx
  obtain⟨f0,f1,f2,f3,f4,f5⟩:=hf it (by simp)
  refine wpAny_pyNext_list_item st p.isList (x:=u) (by simpa using hu) fun h' st' sb=>?_
  have I1:Inv X pins σ H {s with heap:=h'}:=I.turned (t':=s.toks) (fun b o hb e=>(sb.2 b hb).trans e) f0 f1 f3 f4 f5
  obtain⟨o,e,c,d⟩:=id st'
  exact⟨u,rfl,go_of (s:={s with heap:=h'}) e c d (by decide) ⟨x,H,I1,ru,⟨rfl,fun ys hy=>by rw[I.list_inj hy hq];exact hx⟩,st',fun b hb=>(hf b hb).1⟩⟩
 done:=by
  intro X hP hw hK hc i pins s σ H E I hf st hg
  subst hP hw hK
  obtain⟨xs,hq,hx⟩:=hg
  obtain⟨its,rv,p,hz⟩:=I.list hq
  obtain⟨f0,f1,f2,f3,f4,f5⟩:=hf it (by simp)
  have hl:=rv.length
  exact wpAny_pyNext_list_end (I.ok.hd hc) st p.isList (by simp;omega) fun h' eb=>⟨rfl,I.turned (t':=s.toks) (fun b o hb e=>eb b o hb e) f0 f1 f3 f4 f5⟩
 self:=fun _ _ _ _ _ st h=>wpAny_pyIter_listiter st h
theorem q6w {P:Program}{w:World}{K:PySem.W.Frag}{tg:Expr}(a it:Addr):Turn P w K tg (Itt K a) [it] it (fun i h=>h.IsTupleIter it a i) where
 mem:=by simp
 obj:=fun i h st b hb=>by
  have e:b=it:=by simpa using hb
  subst e
  obtain⟨o,e,c,d⟩:=st
  exact⟨o,e,fun v z=>by rw[d] at z;cases z⟩
 keep:=fun i h h' st k=>st.at fun o e=>k it (by simp) o e
 item:=by
  intro X hP hw hK hc i pins s σ H E I hf st hg
  subst hP hw hK
  obtain⟨xs,x,hq,hx⟩:=hg
  obtain⟨its,rv,p,hz⟩:=I.tuple hq
  obtain⟨u,hu,ru⟩:=rv.get hx
  obtain⟨f0,f1,f2,f3,f4,f5⟩:=hf it (by simp)
  refine wpAny_pyNext_tuple_item st (show s.heap.IsTuple a its.toArray from p) (x:=u) (by simpa using hu) fun h' st' sb=>?_
  have I1:Inv X pins σ H {s with heap:=h'}:=I.turned (t':=s.toks) (fun b o hb e=>(sb.2 b hb).trans e) f0 f1 f3 f4 f5
  obtain⟨o,e,c,d⟩:=id st'
  exact⟨u,rfl,go_of (s:={s with heap:=h'}) e c d (by decide) ⟨x,H,I1,ru,⟨rfl,fun ys hy=>by rw[I.tuple_inj hy hq];exact hx⟩,st',fun b hb=>(hf b hb).1⟩⟩
 done:=by
  intro X hP hw hK hc i pins s σ H E I hf st hg
  subst hP hw hK
  obtain⟨xs,hq,hx⟩:=hg
  obtain⟨its,rv,p,hz⟩:=I.tuple hq
  obtain⟨f0,f1,f2,f3,f4,f5⟩:=hf it (by simp)
  have hl:=rv.length
  exact wpAny_pyNext_tuple_end (I.ok.hd hc) st (show s.heap.IsTuple a its.toArray from p) (by simp;omega) fun h' eb=>⟨rfl,I.turned (t':=s.toks) (fun b o hb e=>eb b o hb e) f0 f1 f3 f4 f5⟩
 self:=fun _ _ _ _ _ st h=>wpAny_pyIter_tupleiter st h
theorem q6x {P:Program}{w:World}{K:PySem.W.Frag}{tg:Expr}(it:Addr)(lo:Int)(n:Nat):Turn P w K tg (Itr lo n) [it] it (fun i h=>IsRangeIter h it (lo+(i:Nat)*1) ((n:Int) - (i:Nat)) 1) where
 mem:=by simp
 obj:=fun i h st b hb=>by
  have e:b=it:=by simpa using hb
  subst e
  exact⟨_,st,fun v z=>by
   have z':Data.fields _=Data.cell v:=z
   cases z'⟩
 keep:=fun i h h' st k=>k it (by simp) _ st
 item:=by
  intro X hP hw hK hc i pins s σ H E I hf st hg
  subst hP hw hK
  obtain⟨f0,f1,f2,f3,f4,f5⟩:=hf it (by simp)
  have W:=Walks.range (prog:=X.prog) (w:=X.w) (I.ok.hd hc) it lo 1 n
  refine W.item i s _ _ hg st fun v h' tk hv st' kk=>?_
  obtain⟨t,rfl⟩:=hv
  have I1:Inv X pins σ H {s with heap:=h',toks:=tk}:=I.turned (fun b o hb e=>kk b o (by simpa using hb) e) f0 f1 f3 f4 f5
  refine⟨_,rfl,go_of (s:={s with heap:=h',toks:=tk}) (n:="range_iterator") st' rfl rfl (by decide) ⟨.int (lo+i),H,I1,⟨t,?_⟩,⟨rfl,rfl⟩,st',fun b hb=>(hf b hb).1⟩⟩
  rw[Int.mul_one]
 done:=by
  intro X hP hw hK hc i pins s σ H E I hf st hg
  subst hP hw hK
  obtain⟨f0,f1,f2,f3,f4,f5⟩:=hf it (by simp)
  exact wpAny_pyNext_range_end (I.ok.hd hc) st (by have:n<=i:=hg;omega) fun h' eb=>⟨rfl,I.turned (t':=s.toks) (fun b o hb e=>eb b o hb e) f0 f1 f3 f4 f5⟩
 self:=fun _ _ _ _ _ st h=>wpAny_pyIter_rangeiter st h
end L2
namespace L2
open PySem PySem.Spec PyProof.Rows
section
variable {X:Cx}{tg:Expr}
def qb7 (K:PySem.W.Frag)(tl:TE):TI:=fun σ H R=>tl σ H fun x H1=>∃a,x= .ref a/\(∃xs,SqL K H1 a xs)/\R (Itl K a) H1
def iTup (K:PySem.W.Frag)(tl:TE):TI:=fun σ H R=>tl σ H fun x H1=>∃a,x= .ref a/\(∃xs,SqT K H1 a xs)/\R (Itt K a) H1
theorem qav {l:Expr}{tl:TE}(hl:PE X l tl):PI X tg l (qb7 X.K tl):=by
 intro pins s σ H R I h
 refine thn (hl pins s σ H _ I h) fun v s1 ⟨x,H1,I1,r1,q1⟩=>?_
 obtain⟨a,e,⟨xs,hq⟩,q⟩:=q1
 subst e
 cases r1
 obtain⟨its,rv,p,hz⟩:=I1.list hq
 refine wpAny_pyIter_list p.isList ?_
 refine⟨s1.heap.objs.size,[s1.heap.objs.size],_,_,H1,rfl,I1.kept (t':=s1.toks) fun b o e=>Heap.get?_push_of_some _ e,q6Y a _,⟨_,Heap.get?_push_size _ rfl,rfl,rfl⟩,fun b hb=>?_,q⟩
 have e:b=s1.heap.objs.size:=by simpa using hb
 subst e
 exact I1.fpOk (Nat.le_refl _) (I1.hok.fresh (Nat.le_refl _))
theorem pi_tup {l:Expr}{tl:TE}(hl:PE X l tl):PI X tg l (iTup X.K tl):=by
 intro pins s σ H R I h
 refine thn (hl pins s σ H _ I h) fun v s1 ⟨x,H1,I1,r1,q1⟩=>?_
 obtain⟨a,e,⟨xs,hq⟩,q⟩:=q1
 subst e
 cases r1
 obtain⟨its,rv,p,hz⟩:=I1.tuple hq
 refine wpAny_pyIter_tuple (show s1.heap.IsTuple a its.toArray from p) ?_
 refine⟨s1.heap.objs.size,[s1.heap.objs.size],_,_,H1,rfl,I1.kept (t':=s1.toks) fun b o e=>Heap.get?_push_of_some _ e,q6w a _,⟨_,Heap.get?_push_size _ rfl,rfl,rfl⟩,fun b hb=>?_,q⟩
 have e:b=s1.heap.objs.size:=by simpa using hb
 subst e
 exact I1.fpOk (Nat.le_refl _) (I1.hok.fresh (Nat.le_refl _))
theorem q67 {pins:List (Addr×Obj)}{σ:St}{H:Hp}{s:Shared}{R:It->Hp->Prop}{E:Value->Shared->Prop}{lo hi:Int}{t u v:Tok}{tk:Nat}(I:Inv X pins σ H s)(h1: -(2 ^ 62)<=lo)(h2:lo<2 ^ 62)(h3: -(2 ^ 62)<=hi)(h4:hi<2 ^ 62)
  (q:R (Itr lo (hi - lo).toNat) H):wpAny (model X.prog X.w) X.A (pyIter (.ref s.heap.objs.size)) (PIE X pins σ tg R) E {s with heap:=s.heap.push {cls:= .type "range",data:= .fields #[.int lo t,.int hi u,.int 1 v]},toks:=tk}:=by
 refine wpAny_pyIter_range (IsRange.new ..) (small_one h1 h2 h3 h4) ?_
 have I1:Inv X pins σ H {s with heap:=s.heap.push {cls:= .type "range",data:= .fields #[.int lo t,.int hi u,.int 1 v]},toks:=tk}:=I.kept fun b o e=>Heap.get?_push_of_some _ e
 refine⟨(s.heap.push {cls:= .type "range",data:= .fields #[.int lo t,.int hi u,.int 1 v]}).objs.size,[(s.heap.push {cls:= .type "range",data:= .fields #[.int lo t,.int hi u,.int 1 v]}).objs.size],_,_,H,rfl,
  I1.kept (t':=tk) fun b o e=>Heap.get?_push_of_some _ e,q6x _ lo (hi - lo).toNat,?_,fun b hb=>?_,q⟩
 ·have e1:lo+((0:Nat):Int)*1=lo:=by simp
  have e2:(((hi - lo).toNat:Nat):Int) - ((0:Nat):Int)=Builtin.Range.rangeSize lo hi 1:=by rw[rangeSize_one];split<;>omega
  show IsRangeIter _ _ (lo+((0:Nat):Int)*1) ((((hi - lo).toNat:Nat):Int) - ((0:Nat):Int)) 1
  rw[e1,e2]
  exact Heap.get?_push_size _ rfl
 ·have e:b=(s.heap.push {cls:= .type "range",data:= .fields #[.int lo t,.int hi u,.int 1 v]}).objs.size:=by simpa using hb
  subst e
  exact I1.fpOk (Nat.le_refl _) (I1.hok.fresh (Nat.le_refl _))
def iRng1 (ta:TA):TI:=fun σ H R=>ta σ H fun vs H1=>∃j:Int,vs=[.int j]/\ -(2 ^ 62)<=j/\j<2 ^ 62/\R (Itr 0 j.toNat) H1
def iRng2 (ta:TA):TI:=fun σ H R=>ta σ H fun vs H1=>∃i j:Int,vs=[.int i,.int j]/\(-(2 ^ 62)<=i/\i<2 ^ 62/\ -(2 ^ 62)<=j/\j<2 ^ 62)/\R (Itr i (j - i).toNat) H1
theorem qL {a:Expr}{ta:TA}{p pos:Pos}(hg:Gl X "range")(hm:X.mg "range"=none)(ha:PA X [a] ta)(hs:starEach [a] X.env=[(false,eval a X.env)]:=by rfl):PI X tg (.Call (.Name "range" p) [a] [] pos) (iRng1 ta):=by
 intro pins s σ H R I h
 refine Call_ (q24 I hg hm boot_range (PyProof.Rows.callWith_type1 (thn (ha pos pins s σ H _ I h) fun us s1 ⟨vs,H1,I1,r1,q1⟩=>?_) hs rfl))
 obtain⟨j,e,q1,q2,q⟩:=q1
 subst e
 cases r1 with
 |cons r rr=>
  cases rr
  obtain⟨t,rfl⟩:=r
  exact call_range_1 (q67 I1 (by omega) (by omega) q1 q2 (by simpa using q))
theorem q52 {a b:Expr}{ta:TA}{p pos:Pos}(hg:Gl X "range")(hm:X.mg "range"=none)(ha:PA X [a,b] ta)(hs:starEach [a,b] X.env=[(false,eval a X.env),(false,eval b X.env)]:=by rfl)(hs2:starEach [b] X.env=[(false,eval b X.env)]:=by rfl):
  PI X tg (.Call (.Name "range" p) [a,b] [] pos) (iRng2 ta):=by
 intro pins s σ H R I h
 refine Call_ (q24 I hg hm boot_range (PyProof.Rows.callWith_type1 (thn (ha pos pins s σ H _ I h) fun us s1 ⟨vs,H1,I1,r1,q1⟩=>?_) (by rw[hs,hs2]) (by rw[hs2];rfl)))
 obtain⟨i,j,e,⟨q1,q2,q3,q4⟩,q⟩:=q1
 subst e
 cases r1 with
 |cons r rr=>
  cases rr with
  |cons r' rr=>
   cases rr
   obtain⟨t,rfl⟩:=r
   obtain⟨t',rfl⟩:=r'
   exact call_range_2 (q67 I1 q1 q2 q3 q4 q)
def tFor (wi:TI)(g:TG)(tb:TS):TS:=fun D σ H=>wi σ H fun J H1=>∃W:Nat->Nat->St->Hp->Prop,(∃m,W 0 m σ H1)/\∀i m σ H,W i m σ H->
 (J.stop i H/\D.nx σ H)\/(J.go i H/\∃N:St->Hp->Prop,(∀σ' H',N σ' H'->∃m',m'<m/\W (i+1) m' σ' H')/\∀x H',J.yld i H x H'->g x σ H' fun σ2 H2=>tb {D with nx:=N,ct:=N,bk:=D.nx} σ2 H2)
def q51 (fp:List Addr)(h:Heap):List (Addr×Obj):=fp.filterMap fun b=>(h.get? b).map fun o=>(b,o)
theorem q1S {fp:List Addr}{h:Heap}{b:Addr}{o:Obj}(hb:b∈fp)(e:h.get? b=some o):(b,o)∈q51 fp h:=List.mem_filterMap.mpr ⟨b,hb,by rw[e];rfl⟩
theorem q7y {fp:List Addr}{h:Heap}{p:Addr×Obj}(hp:p∈q51 fp h):p.1∈fp/\h.get? p.1=some p.2:=by
 obtain⟨b,hb,e⟩:=List.mem_filterMap.mp hp
 cases q:h.get? b with
 |none=>rw[q] at e;cases e
 |some o=>
  rw[q] at e
  have e':(b,o)=p:=Option.some.inj e
  subst e'
  exact⟨hb,q⟩
theorem Inv.pinned {pins:List (Addr×Obj)}{σ:St}{H:Hp}{s:Shared}{fp:List Addr}(I:Inv X pins σ H s)(hf:∀b∈fp,FpOk X pins H b)(ho:∀b∈fp,∃o,s.heap.get? b=some o/\∀v,o.data≠ .cell v):Inv X (pins++q51 fp s.heap) σ H s:=
 I.pins_of fun p hp=>(List.mem_append.mp hp).elim (fun z=>I.pin p (List.mem_append_right _ z)) fun z=>by
  obtain⟨hb,e⟩:=q7y z
  obtain⟨f0,f1,f2,_⟩:=hf p.1 hb
  obtain⟨o,e',d⟩:=ho p.1 hb
  rw[e] at e';cases e'
  exact⟨e,f0,f1,f2,d⟩
theorem Inv.unpinned {pins pl:List (Addr×Obj)}{σ:St}{H:Hp}{s:Shared}(I:Inv X (pins++pl) σ H s):Inv X pins σ H s:=I.pins_of fun p hp=>I.pin p (List.mem_append_right _ (List.mem_append_left _ hp))
theorem q0j {iter:Expr}{body:List Stmt}{wi:TI}{g:TG}{tb:TS}{pos:Pos}(hp:PassesOwn (model X.prog X.w) X.A X.env X.xe)(hc:X.calm=true)(hi:PI X tg iter wi)(hg:PG X tg g)(hb:PSs X body tb)
  (hs:∀x,foldedSetIterable iter X.env x=pure x:=by intro _;rfl):PS X (.For tg iter body [] pos) (tFor wi g tb):=by
 intro pins s σ H D I h
 refine wpAny_For (thn (hi pins s σ H _ I h) fun v s1 h1=>thn h1 fun itv s2 h2=>?_) hs
 obtain⟨it,fp,tn,J,H2,e,I2,T,st2,f2,W,⟨m0,w0⟩,turn⟩:=h2
 subst e
 -- what stays true of the iterator's objects through the loop
 have stat:∀{H':Hp},(∀b∈fp,H' b=none)->∀b∈fp,FpOk X pins H' b:=fun hn b hb=>⟨hn b hb,(f2 b hb).2⟩
 refine codeAny_forLoop_any (fun n s'=>∃i σ' H',Inv X pins σ' H' s'/\tn i s'.heap/\(∀b∈fp,H' b=none)/\W i n σ' H') ?_ m0 ⟨0,σ,H2,I2,st2,fun b hb=>(f2 b hb).1,w0⟩
 rintro n s3 ⟨i,σ3,H3,I3,st3,fr3,w3⟩
 rcases turn i n σ3 H3 w3 with⟨stop,qn⟩|⟨go,N,hN,step⟩
 ·refine wpAny_passesOwn hp (thn (T.done X rfl rfl rfl hc i pins s3 σ3 H3 X.xe I3 (stat fr3) st3 stop) fun r s4 ⟨hr,I4⟩=>?_)
  subst hr
  exact wpAny_execs_nil ⟨σ3,H3,I4,qn⟩
 ·refine wpAny_passesOwn hp (thn (T.item X rfl rfl rfl hc i pins s3 σ3 H3 X.xe I3 (stat fr3) st3 go) fun r s4 ⟨u,hr,h4⟩=>?_)
  subst hr
  refine wpAny_passesOwn hp (thn h4 fun _ s5 ⟨x,H5,I5,r5,y5,st5,fr5⟩=>?_)
  have I5':=I5.pinned (stat fr5) (T.obj _ _ st5)
  refine wpAny_passesOwn hp (thn (hg _ s5 σ3 H5 x u _ I5' r5 (step x H5 y5)) fun _ s6 ⟨σ6,H6,I6,q6⟩=>?_)
  refine wpAny_passesOwn hp (thn (hb _ s6 σ6 H6 _ I6 q6) fun f s7 q7=>?_)
  have again:∀{σ7:St} {H7:Hp},Inv X (pins++q51 fp s5.heap) σ7 H7 s7->N σ7 H7->∃m,m<n/\∃i σ' H',Inv X pins σ' H' s7/\tn i s7.heap/\(∀b∈fp,H' b=none)/\W i m σ' H':=fun {σ7 H7} I7 n7=>by
   obtain⟨m',hm,w7⟩:=hN σ7 H7 n7
   refine⟨m',hm,i+1,σ7,H7,I7.unpinned,T.keep _ _ _ st5 fun b hb o e=>(I7.pin (b,o) (List.mem_append_right _ (List.mem_append_right _ (q1S hb e)))).1,fun b hb=>?_,w7⟩
   obtain⟨o,e,d⟩:=T.obj _ _ st5 b hb
   exact(I7.pin (b,o) (List.mem_append_right _ (List.mem_append_right _ (q1S hb e)))).2.1
  cases f with
  |next=>obtain⟨σ7,H7,I7,n7⟩:=q7;exact again I7 n7
  |cont=>obtain⟨σ7,H7,I7,n7⟩:=q7;exact again I7 n7
  |brk=>obtain⟨σ7,H7,I7,q7⟩:=q7;exact⟨σ7,H7,I7.unpinned,q7⟩
  |ret v=>obtain⟨x7,σ7,H7,I7,r7,q7⟩:=q7;exact⟨x7,σ7,H7,I7.unpinned,r7,q7⟩
end
end L2
namespace L2
open PySem PySem.Spec PyProof.Rows
abbrev R2:=V->V->Hp->VK->Prop
def OpR (X:Cx)(f:Value->Value->Sem Value)(r:R2):Prop:=
 ∀(pins:List (Addr×Obj)) (s:Shared) (σ:St) (H:Hp) (x y:V) (v u:Value) (Q:VK),Inv X pins σ H s->RelV x v->RelV y u->r x y H Q->
  wpAny (model X.prog X.w) X.A (f v u) (EP X pins σ Q) X.xe s
def q2F (X:Cx)(f:Value)(r:List V->Hp->VK->Prop):Prop:=
 ∀(pins:List (Addr×Obj)) (s:Shared) (σ:St) (H:Hp) (xs:List V) (us:List Value) (Q:VK),Inv X pins σ H s->Vals xs us->r xs H Q->
  wpAny (model X.prog X.w) X.A (call f us) (EP X pins σ Q) X.xe s
def tOp (r:R2)(ta tb:TE):TE:=fun σ H Q=>ta σ H fun x H1=>tb σ H1 fun y H2=>r x y H2 Q
def rI (C:Int->Int->Prop)(g:Int->Int->V):R2:=fun x y H Q=>∃i j,x= .int i/\y= .int j/\C i j/\Q (g i j) H
def rI0 (g:Int->Int->V):R2:=fun x y H Q=>∃i j,x= .int i/\y= .int j/\Q (g i j) H
section
variable {X:Cx}{a b c:Expr}{ta tb tc:TE}{pos:Pos}
theorem binT (ha:PE X a ta)(hb:PE X b tb){pins:List (Addr×Obj)}{s:Shared}{σ:St}{H:Hp}{R:V->V->Hp->Prop}(I:Inv X pins σ H s)
  (h:ta σ H fun x H1=>tb σ H1 fun y H2=>R x y H2){Q:Value->Shared->Prop}{f:Value->Value->Sem Value}
  (hf:∀v u s2 x y H2,Inv X pins σ H2 s2->RelV x v->RelV y u->R x y H2->wpAny (model X.prog X.w) X.A (f v u) Q X.xe s2):
  wpAny (model X.prog X.w) X.A (eval a X.env) (fun v s₁=>wpAny (model X.prog X.w) X.A (eval b X.env) (fun u s₂=>wpAny (model X.prog X.w) X.A (f v u) Q X.xe s₂) X.xe s₁) X.xe s:=by
 refine thn (ha pins s σ H _ I h) fun v s1 ⟨x,H1,I1,r1,q1⟩=>?_
 refine thn (hb pins s1 σ H1 _ I1 q1) fun u s2 ⟨y,H2,I2,r2,q2⟩=>?_
 exact hf v u s2 x y H2 I2 r1 r2 q2
theorem ql {op:Operator}{r:R2}(ho:OpR X (binaryOp op) r)(ha:PE X a ta)(hb:PE X b tb):PE X (.BinOp a op b pos) (tOp r ta tb):=by
 intro pins s σ H Q I h
 exact wpAny_BinOp (binT ha hb I h fun v u s2 x y H2 I2 rx ry q=>ho pins s2 σ H2 x y v u Q I2 rx ry q)
theorem opI {f:Value->Value->Sem Value}{C:Int->Int->Prop}{g:Int->Int->Int}
  (rule:∀(i j:Int) (t u:Tok) (s:Shared) (Q:Value->Shared->Prop) (E:Value->Shared->Prop),C i j->Q (.int (g i j) s.toks) {s with toks:=s.toks+1}->wpAny (model X.prog X.w) X.A (f (.int i t) (.int j u)) Q E s):
  OpR X f (rI C fun i j=> .int (g i j)):=by
 intro pins s σ H x y v u Q I rx ry h
 obtain⟨i,j,rfl,rfl,hc,q⟩:=h
 obtain⟨t,rfl⟩:=rx
 obtain⟨t',rfl⟩:=ry
 exact rule i j t t' s _ _ hc ⟨.int (g i j),H,I.tok _,⟨_,rfl⟩,q⟩
theorem opI0 {f:Value->Value->Sem Value}{g:Int->Int->Int}
  (rule:∀(i j:Int) (t u:Tok) (s:Shared) (Q:Value->Shared->Prop) (E:Value->Shared->Prop),Q (.int (g i j) s.toks) {s with toks:=s.toks+1}->wpAny (model X.prog X.w) X.A (f (.int i t) (.int j u)) Q E s):
  OpR X f (rI0 fun i j=> .int (g i j)):=by
 intro pins s σ H x y v u Q I rx ry h
 obtain⟨i,j,rfl,rfl,q⟩:=h
 obtain⟨t,rfl⟩:=rx
 obtain⟨t',rfl⟩:=ry
 exact rule i j t t' s _ _ ⟨.int (g i j),H,I.tok _,⟨_,rfl⟩,q⟩
theorem opB0 {f:Value->Value->Sem Value}{g:Int->Int->Bool}
  (rule:∀(i j:Int) (t u:Tok) (s:Shared) (Q:Value->Shared->Prop) (E:Value->Shared->Prop),Q (.bool (g i j)) s->wpAny (model X.prog X.w) X.A (f (.int i t) (.int j u)) Q E s):
  OpR X f (rI0 fun i j=> .bl (g i j)):=by
 intro pins s σ H x y v u Q I rx ry h
 obtain⟨i,j,rfl,rfl,q⟩:=h
 obtain⟨t,rfl⟩:=rx
 obtain⟨t',rfl⟩:=ry
 exact rule i j t t' s _ _ ⟨.bl (g i j),H,I,rfl,q⟩
def CDiv (i j:Int):Prop:=0<j/\j<1073741824
def CPow (i j:Int):Prop:=0<=j/\j<=1000000/\i.natAbs<2 ^ 64
def CMul (i j:Int):Prop:=(-(2 ^ 64)<i/\i<2 ^ 64)\/(-(2 ^ 64)<j/\j<2 ^ 64)
theorem CMul.ok {i j:Int}(h:CMul i j):IntMulOk i j:=by
 rcases h with⟨h1,h2⟩|⟨h1,h2⟩
 ·exact .of_left (intBits_le_64 h1 h2)
 ·exact .of_right (intBits_le_64 h1 h2)
theorem two_pow_nn (k:Nat):(0:Int)<=2 ^ k:=by
 rw[two_pow_cast]
 exact Int.natCast_nonneg _
theorem q0d:OpR X (binaryOp .Add) (rI0 fun i j=> .int (i+j)):=opI0 fun _ _ _ _ _ _ _ q=>add_int q
theorem q1N:OpR X (binaryOp .Sub) (rI0 fun i j=> .int (i - j)):=opI0 fun _ _ _ _ _ _ _ q=>sub_int q
theorem q21:OpR X (binaryOp .Mult) (rI CMul fun i j=> .int (i*j)):=opI fun _ _ _ _ _ _ _ hc q=>mul_int q hc.ok
theorem q06:OpR X (binaryOp .FloorDiv) (rI CDiv fun i j=> .int (i / j)):=opI fun i j _ _ _ _ _ hc q=>by
 have h1:(0:Int)<j:=hc.1
 have h2:j<1073741824:=hc.2
 exact floordiv_int (by omega) (by rw[Int.fdiv_eq_ediv_of_nonneg i (by omega)];exact q) (.inl (PyProof.noPylong_small (by omega)))
theorem q05:OpR X (binaryOp .Mod) (rI (fun _ j=>0<j) fun i j=> .int (i % j)):=opI fun i j _ _ _ _ _ hc q=>by
 have h1:(0:Int)<j:=hc
 exact mod_int' (by omega) (by rw[Int.fmod_eq_emod_of_nonneg i (by omega)];exact q)
theorem q6b:OpR X (binaryOp .LShift) (rI CPow fun i j=> .int (i*2 ^ j.toNat)):=opI fun _ _ _ _ _ _ _ hc q=>lshift_int_small hc.1 hc.2.1 hc.2.2 q
theorem q3F:OpR X (binaryOp .RShift) (rI (fun _ j=>0<=j) fun i j=> .int (i / 2 ^ j.toNat)):=opI fun i j _ _ _ _ _ hc q=>
 rshift_int hc (by rw[Int.fdiv_eq_ediv_of_nonneg i (two_pow_nn _)];exact q)
theorem q3H:OpR X (binaryOp .BitAnd) (rI0 fun i j=> .int (Builtin.bitAnd i j)):=opI0 fun _ _ _ _ _ _ _ q=>and_int q
theorem op_or:OpR X (binaryOp .BitOr) (rI0 fun i j=> .int (Builtin.bitOr i j)):=opI0 fun _ _ _ _ _ _ _ q=>or_int q
theorem q9R:OpR X (binaryOp .BitXor) (rI0 fun i j=> .int (Builtin.bitXor i j)):=opI0 fun _ _ _ _ _ _ _ q=>xor_int q
end
def scal:V->V->Bool
 | .non,.non=>true| .non,.int _=>true| .int _,.non=>true| .non,.bl _=>true| .bl _,.non=>true| .non,.str _=>true| .str _,.non=>true
 | .int _,.int _=>true| .bl _,.bl _=>true| .str _,.str _=>true| .byt _,.byt _=>true
 | .int _,.str _=>true| .str _,.int _=>true| .bl _,.str _=>true| .str _,.bl _=>true
 |_,_=>false
def rEq:R2:=fun x y H Q=>scal x y=true/\Q (.bl (decide (x=y))) H
def rNe:R2:=fun x y H Q=>scal x y=true/\Q (.bl (!decide (x=y))) H
theorem q89 {i j:Int}:decide (V.int i=V.int j)=(i==j):=by
 rw[Bool.eq_iff_iff]
 simp
theorem qa1 {i j:Bool}:decide (V.bl i=V.bl j)=(i==j):=by
 rw[Bool.eq_iff_iff]
 simp
theorem q88 {i j:Str}:decide (V.str i=V.str j)=(i==j):=by
 rw[Bool.eq_iff_iff]
 simp
theorem q8a {i j:Array UInt8}:decide (V.byt i=V.byt j)=(i.toList==j.toList):=by
 rw[Bool.eq_iff_iff]
 cases i
 cases j
 simp
section
variable {X:Cx}{a b c:Expr}{ta tb tc:TE}{pos:Pos}
theorem qZ {pins:List (Addr×Obj)}{σ:St}{H:Hp}{s:Shared}{Q:VK}{k k':Bool}(I:Inv X pins σ H s)(q:Q (.bl k) H)(e:k=k'):EP X pins σ Q (.bool k') s:=by
 subst e
 exact⟨.bl k,H,I,rfl,q⟩
theorem q07:OpR X (compareOp .Eq) rEq:=by
 intro pins s σ H x y v u Q I rx ry h
 obtain⟨hs,q⟩:=h
 cases x with
 |non=>
  cases rx
  cases y with
  |non=>cases ry;exact PySem.EqNone.eq_none_none (qZ I q (by simp))
  |bl j=>cases ry;exact PySem.EqNone.eq_none_bool (qZ I q (by simp))
  |int j=>obtain⟨t',rfl⟩:=ry;exact PySem.EqNone.eq_none_int (qZ I q (by simp))
  |str j=>obtain⟨t',rfl⟩:=ry;exact PySem.EqNone.eq_none_str (qZ I q (by simp))
  |_=>exact absurd (show false=true from hs) Bool.false_ne_true
 |bl i=>
  cases rx
  cases y with
  |non=>cases ry;exact PySem.EqNone.eq_bool_none (qZ I q (by simp))
  |bl j=>cases ry;exact eq_bool (qZ I q qa1)
  |str j=>obtain⟨t',rfl⟩:=ry;exact PySem.EqMixed.eq_bool_str (qZ I q (by simp))
  |_=>exact absurd (show false=true from hs) Bool.false_ne_true
 |int i=>
  obtain⟨t,rfl⟩:=rx
  cases y with
  |non=>cases ry;exact PySem.EqNone.eq_int_none (qZ I q (by simp))
  |int j=>obtain⟨t',rfl⟩:=ry;exact eq_int (qZ I q q89)
  |str j=>obtain⟨t',rfl⟩:=ry;exact PySem.EqMixed.eq_int_str (qZ I q (by simp))
  |_=>exact absurd (show false=true from hs) Bool.false_ne_true
 |str i=>
  obtain⟨t,rfl⟩:=rx
  cases y with
  |non=>cases ry;exact PySem.EqNone.eq_str_none (qZ I q (by simp))
  |bl j=>cases ry;exact PySem.EqMixed.eq_str_bool (qZ I q (by simp))
  |int j=>obtain⟨t',rfl⟩:=ry;exact PySem.EqMixed.eq_str_int (qZ I q (by simp))
  |str j=>obtain⟨t',rfl⟩:=ry;exact eq_str (qZ I q q88)
  |_=>exact absurd (show false=true from hs) Bool.false_ne_true
 |byt i=>
  obtain⟨t,rfl⟩:=rx
  cases y with
  |byt j=>obtain⟨t',rfl⟩:=ry;exact PySem.W.eq_bytes (qZ I q q8a)
  |_=>exact absurd (show false=true from hs) Bool.false_ne_true
 |_=>cases y<;>exact absurd (show false=true from hs) Bool.false_ne_true
theorem q8Z:OpR X (compareOp .NotEq) rNe:=by
 intro pins s σ H x y v u Q I rx ry h
 obtain⟨hs,q⟩:=h
 cases x with
 |non=>
  cases rx
  cases y with
  |non=>cases ry;exact PySem.EqNone.ne_none_none (qZ I q (by simp))
  |bl j=>cases ry;exact PySem.EqNone.ne_none_bool (qZ I q (by simp))
  |int j=>obtain⟨t',rfl⟩:=ry;exact PySem.EqNone.ne_none_int (qZ I q (by simp))
  |str j=>obtain⟨t',rfl⟩:=ry;exact PySem.EqNone.ne_none_str (qZ I q (by simp))
  |_=>exact absurd (show false=true from hs) Bool.false_ne_true
 |bl i=>
  cases rx
  cases y with
  |non=>cases ry;exact PySem.EqNone.ne_bool_none (qZ I q (by simp))
  |bl j=>cases ry;exact ne_bool (qZ I q (congrArg not qa1))
  |str j=>obtain⟨t',rfl⟩:=ry;exact PySem.EqMixed.ne_bool_str (qZ I q (by simp))
  |_=>exact absurd (show false=true from hs) Bool.false_ne_true
 |int i=>
  obtain⟨t,rfl⟩:=rx
  cases y with
  |non=>cases ry;exact PySem.EqNone.ne_int_none (qZ I q (by simp))
  |int j=>obtain⟨t',rfl⟩:=ry;exact ne_int (qZ I q (congrArg not q89))
  |str j=>obtain⟨t',rfl⟩:=ry;exact PySem.EqMixed.ne_int_str (qZ I q (by simp))
  |_=>exact absurd (show false=true from hs) Bool.false_ne_true
 |str i=>
  obtain⟨t,rfl⟩:=rx
  cases y with
  |non=>cases ry;exact PySem.EqNone.ne_str_none (qZ I q (by simp))
  |bl j=>cases ry;exact PySem.EqMixed.ne_str_bool (qZ I q (by simp))
  |int j=>obtain⟨t',rfl⟩:=ry;exact PySem.EqMixed.ne_str_int (qZ I q (by simp))
  |str j=>obtain⟨t',rfl⟩:=ry;exact ne_str (qZ I q (congrArg not q88))
  |_=>exact absurd (show false=true from hs) Bool.false_ne_true
 |byt i=>
  obtain⟨t,rfl⟩:=rx
  cases y with
  |byt j=>obtain⟨t',rfl⟩:=ry;exact PySem.W.ne_bytes (qZ I q (congrArg not q8a))
  |_=>exact absurd (show false=true from hs) Bool.false_ne_true
 |_=>cases y<;>exact absurd (show false=true from hs) Bool.false_ne_true
theorem qaB:OpR X (compareOp .Lt) (rI0 fun i j=> .bl (decide (i<j))):=opB0 fun _ _ _ _ _ _ _ q=>lt_int q
theorem q90:OpR X (compareOp .LtE) (rI0 fun i j=> .bl (decide (i<=j))):=opB0 fun _ _ _ _ _ _ _ q=>le_int q
theorem q2Q:OpR X (compareOp .Gt) (rI0 fun i j=> .bl (decide (j<i))):=opB0 fun _ _ _ _ _ _ _ q=>gt_int q
theorem qaC:OpR X (compareOp .GtE) (rI0 fun i j=> .bl (decide (j<=i))):=opB0 fun _ _ _ _ _ _ _ q=>ge_int q
theorem qy (b:Expr){op:CmpOp}(h:op≠ .In:=by decide)(h2:op≠ .NotIn:=by decide):behindInMarks op b=false:=by
 have e1:(op==CmpOp.In)=false:=by cases op<;>first|rfl|exact absurd rfl h
 have e2:(op==CmpOp.NotIn)=false:=by cases op<;>first|rfl|exact absurd rfl h2
 cases b<;>simp[behindInMarks,e1,e2]
theorem qX {op:CmpOp}{r:R2}(ho:OpR X (compareOp op) r)(ha:PE X a ta)(hb:PE X b tb)(hm:behindInMarks op b=false):PE X (.Compare a [op] [b] pos) (tOp r ta tb):=by
 intro pins s σ H Q I h
 exact wpAny_Compare1 (binT ha hb I h fun v u s2 x y H2 I2 rx ry q=>ho pins s2 σ H2 x y v u Q I2 rx ry q) hm
def tTest (t:TE):TT:=fun σ H Q=>t σ H fun x H'=>∃k,x= .bl k/\Q k H'
theorem qC {op:CmpOp}{r:R2}(ho:OpR X (compareOp op) r)(ha:PE X a ta)(hb:PE X b tb)(hm:behindInMarks op b=false):PT X (.Compare a [op] [b] pos) (tTest (tOp r ta tb)):=by
 intro pins s σ H Q I h
 refine wpAny_isTrue_Compare1 (thn (ha pins s σ H _ I h) fun v s1 ⟨x,H1,I1,r1,q1⟩=>thn (hb pins s1 σ H1 _ I1 q1) fun u s2 ⟨y,H2,I2,r2,q2⟩=>
  thn (ho pins s2 σ H2 x y v u _ I2 r1 r2 q2) fun c s3 ⟨z,H3,I3,r3,k,e,q3⟩=>?_) hm
 subst e
 cases r3
 exact wpAny_truthy_bool ⟨H3,I3,q3⟩
def q9D (r r':R2)(ta tb tc:TE):TE:=fun σ H Q=>ta σ H fun x H1=>tb σ H1 fun y H2=>r x y H2 fun z H3=>∃k,z= .bl k/\
 (if k=true then tc σ H3 fun w' H4=>r' y w' H4 Q else Q (.bl false) H3)
theorem q8Y {op op':CmpOp}{r r':R2}(ho:OpR X (compareOp op) r)(ho':OpR X (compareOp op') r')(ha:PE X a ta)(hb:PE X b tb)(hc:PE X c tc)
  (hm:lastMarks [op,op'] [b,c]=false:=by with_unfolding_all rfl):PE X (.Compare a [op,op'] [b,c] pos) (q9D r r' ta tb tc):=by
 intro pins s σ H Q I h
 refine Compare_chain (thn (ha pins s σ H _ I h) fun v s1 ⟨x,H1,I1,r1,q1⟩=>chain_link (thn (hb pins s1 σ H1 _ I1 q1) fun u s2 ⟨y,H2,I2,r2,q2⟩=>
  thn (ho pins s2 σ H2 x y v u _ I2 r1 r2 q2) fun d s3 ⟨z,H3,I3,r3,k,e,q3⟩=>?_)) hm
 subst e
 cases r3
 refine wpAny_truthy_bool ?_
 cases k with
 |false=>exact ite_ff ⟨.bl false,H3,I3,rfl,q3⟩
 |true=>exact ite_tt (chain_last (thn (hc pins s3 σ H3 _ I3 q3) fun w' s4 ⟨z',H4,I4,r4,q4⟩=>ho' pins s4 σ H4 y z' u w' Q I4 r2 r4 q4))
theorem q57:(sizeLine:Nat)<2 ^ 63:=by rw[sizeLine_eq];decide
theorem q6v {x:V}{us:List Value}(r:Vals [x] us):∃u,us=[u]/\RelV x u:=by
 cases r with
 |cons r1 r2=>cases r2;exact⟨_,rfl,r1⟩
theorem qa6 {x y:V}{us:List Value}(r:Vals [x,y] us):∃u w',us=[u,w']/\RelV x u/\RelV y w':=by
 cases r with
 |cons r1 r2=>
  cases r2 with
  |cons r3 r4=>cases r4;exact⟨_,_,rfl,r1,r3⟩
theorem q8r (hc:X.calm=true):q2F X (.builtin "min") (fun xs H Q=>∃i j,xs=[.int i,.int j]/\Q (.int (if j<i then j else i)) H):=by
 intro pins s σ H xs us Q I r h
 obtain⟨i,j,rfl,q⟩:=h
 obtain⟨u,w',rfl,⟨t,rfl⟩,⟨t',rfl⟩⟩:=qa6 r
 refine min_two_ints (I.ok.hd hc) fun h' tk k=>⟨_,H,I.kept k,?_,q⟩
 by_cases hj:j<i
 ·rw [if_pos hj,if_pos hj];exact⟨_,rfl⟩
 ·rw [if_neg hj,if_neg hj];exact⟨_,rfl⟩
end
end L2
namespace L2
open PySem PySem.Spec PyProof.Rows
structure ObjM (h:Heap)(x dx C:Addr)(mA:Str->Option Value):Prop where
 obj:h.get? x=some (PySem.W.instObj C dx)
 ns:h.Ns1 dx mA
 ne:dx≠x
theorem q7G {h:Heap}{dx:Addr}{mA:Str->Option Value}(n:h.Ns1 dx mA):∃od,h.get? dx=some od/\∀name,PySem.W.lookIn name od=some (mA name):=by
 obtain⟨o,es,ep,ho,hd,hk,_,hm⟩:=n
 refine⟨o,ho,fun name=>?_⟩
 have e:=hm name
 unfold nsFind findBy at e
 rw[<-Array.find?_toList] at e
 unfold PySem.W.lookIn
 rw[hd]
 dsimp only
 split
 ·rename_i y q
  rw[q] at e
  exact congrArg some e
 ·rename_i q
  rw[q] at e
  have a:es.toList.any (·.refKey)=false:=by
   rw[List.any_eq_false]
   intro y hy
   obtain⟨z,t,hkey⟩:=hk y (Array.mem_toList_iff.mp hy)
   simp[DictEntry.refKey,hkey]
  have a':¬es.toList.any (·.refKey)=true:=by rw[a];exact Bool.false_ne_true
  rw[if_neg a']
  exact congrArg some e
theorem ObjM.look {h:Heap}{x dx C:Addr}{mA:Str->Option Value}(I:ObjM h x dx C mA):∃od,PySem.W.InstAt h x (PySem.W.instObj C dx) C (some od)/\∀name,PySem.W.lookIn name od=some (mA name):=
 let ⟨od,ho,hl⟩:=q7G I.ns
 ⟨od,⟨I.obj,rfl,rfl,ho⟩,hl⟩
section
variable {prog:Program}{w:World}{A:Around}{E:Value->Shared->Prop}{s:Shared}{K:PySem.W.Frag}{x dx C f:Addr}{mA:Str->Option Value}{name:Str}{v:Value}
theorem qb8 {expr:Bool}{Q:Value->Shared->Prop}(X:K.In s.heap)(I:ObjM s.heap x dx C mA)(hg:PySem.W.plainGet K C name=true)(hh:PySem.W.hasDictIn K C=true)
  (ha:PySem.W.findIn K (.ref C) name=some none)(hv:mA name=some v)(hv':PySem.W.handedIn v=true)(h:Q v {s with toks:=s.toks+1}):
  wpAny (model prog w) A (getAttr (.ref x) name expr) Q E s:=by
 obtain⟨od,J,hl⟩:=I.look
 exact PySem.W.get_value X J (PySem.W.plainGet_of hg).1 (PySem.W.findObj_own hh ha rfl (by rw[hl,hv])) hv' h
theorem q9q {pl:Sem Bool}{Q:Value×List Value->Shared->Prop}(X:K.In s.heap)(I:ObjM s.heap x dx C mA)(hg:PySem.W.plainGet K C name=true)
  (hf:PySem.W.findIn K (.ref C) name=some (some (.ref f)))(ht:PySem.W.isFn K (.ref f)=true)(hv:mA name=none)(h:Q (.ref f,[.ref x]) s):
  wpAny (model prog w) A (getMethod (.ref x) name pl) Q E s:=by
 obtain⟨od,J,hl⟩:=I.look
 exact PySem.W.method_fn X J (PySem.W.plainGet_of hg).1 (PySem.W.plainGet_of hg).2 hf (beq_iff_eq.mp ht) (by show(PySem.W.lookIn name od).map (·.isSome)=some false;rw[hl,hv];rfl) h
theorem set_map {ns:List Str}{Q:Unit->Shared->Prop}(X:K.In s.heap)(I:ObjM s.heap x dx C mA)
  (hs:PySem.W.findIn K (.ref C) "__setattr__"=some (some (.builtin "object.__setattr__")))(hp:PySem.W.plainOver K C=true)(ht:PySem.W.takerIn K C name=some none)(hh:PySem.W.hasDictIn K C=true)
  (hw:PySem.Within mA ns)(hsz:ns.length<=sizeLine)
  (h:∀h',ObjM h' x dx C (fun y=>if y=name then some v else mA y)->Heap.SameBut dx s.heap h'->Q () {s with heap:=h',toks:=s.toks+2}):
  wpAny (model prog w) A (setAttr (.ref x) name v) Q E s:=by
 obtain⟨od,J,hl⟩:=I.look
 refine PySem.W.set_plain X J hs (PySem.W.osa_open (s:={s with toks:=s.toks+1}) (r:=none) X J hp ht fun b=>?_)
 obtain⟨cd,hc,hd'⟩:=PySem.W.any_some hh
 have hx:s.heap.get? x=some ⟨.ref C,some dx,.plain,#[]⟩:=I.obj
 refine wpAny_bind (wpAny_pure (wpAny_bind (wpAny_bind (wpAny_loadPart hx (wpAny_bind (PySem.W.Looks.here (s:={s with toks:=s.toks+1}) (PySem.W.looks_clsIn X hc) ?_))))))
 rw[hd']
 refine wpAny_pure (a:=some dx) (wpAny_bind (wpAny_pure (wpAny_bind ?_)))
 refine wpAny_nsSet1 (s:={s with toks:=s.toks+1}) I.ns fun h' hn2 hs2=>?_
 obtain⟨oD,esD,epD,hoD,hdD,hcD⟩:=hn2.count (PySem.Within.cons name v hw)
 refine wpAny_bind (wpAny_lookBehind hoD (by rw[hdD];exact pastItsLine_dict (Nat.le_trans hcD (by rw[List.length_cons];omega))) ?_)
 exact wpAny_pure (h _ ⟨(hs2.2 _ (Ne.symm I.ne)).trans I.obj,hn2,I.ne⟩ hs2)
theorem q9j {R:Result->Shared->Prop}{vs:List Value}{kw:List (Str×Value)}(X:K.In s.heap)(hm:PySem.W.makesIn K C=true)
  (hi:PySem.W.findIn K (.ref C) "__init__"=some (some (.ref f)))(hf:PySem.W.typeIn K (.ref f)=some (.type "function"))
  (h:codeAny (model prog w) (A.under (.builtin "type.__call__" ⟨.ref C::vs,kw⟩)) (.call (.ref f) ⟨.ref (s.heap.objs.size+1)::vs,kw⟩) (PySem.W.InitBack (s.heap.objs.size+1) R)
   {s with heap:=(s.heap.push PySem.W.emptyDict).push (PySem.W.instObj C s.heap.objs.size)}):
  codeAny (model prog w) A (.call (.ref C) ⟨vs,kw⟩) R s:=by
 obtain⟨hh,g,d,t,os⟩:=s
 exact PySem.W.make_core (PySem.W.makes_of X hm) (PySem.W.looks_findIn X hi) (fun self=>PySem.W.bind_fn X self hf) (.inl rfl) h
end
def putF (f:Str)(v:V):List (Str×V)->List (Str×V)
 |[]=>[(f,v)]
 |(g,x)::r=>if g=f then(g,v)::r else(g,x)::putF f v r
theorem qM (f g:Str)(v:V):∀fs:List (Str×V),(putF f v fs).lookup g=if g=f then some v else fs.lookup g
 |[]=>by
  show List.lookup g [(f,v)]=_
  by_cases h:g=f
  ·have hb:(g==f)=true:=beq_iff_eq.mpr h
   simp only[List.lookup,hb,if_pos h]
  ·have hb:(g==f)=false:=beq_eq_false_iff_ne.mpr h
   simp only[List.lookup,hb,if_neg h]
 |(k,x)::r=>by
  have ih:=qM f g v r
  rw[show putF f v ((k,x)::r)=(if k=f then(k,v)::r else(k,x)::putF f v r) from rfl]
  by_cases hk:k=f
  ·rw [if_pos hk]
   by_cases h:g=k
   ·have hb:(g==k)=true:=beq_iff_eq.mpr h
    simp only[List.lookup,hb,if_pos (h.trans hk)]
   ·have hb:(g==k)=false:=beq_eq_false_iff_ne.mpr h
    simp only[List.lookup,hb,if_neg (fun e:g=f=>h (e.trans hk.symm))]
  ·rw [if_neg hk]
   by_cases h:g=k
   ·have hb:(g==k)=true:=beq_iff_eq.mpr h
    simp only[List.lookup,hb,if_neg (fun e:g=f=>hk (h.symm.trans e))]
   ·have hb:(g==k)=false:=beq_eq_false_iff_ne.mpr h
    simp only[List.lookup,hb]
    exact ih
theorem q3k (f:Str)(v:V):∀fs:List (Str×V),f∈(putF f v fs).map (·.1)/\∀g,g∈fs.map (·.1)->g∈(putF f v fs).map (·.1)
 |[]=>⟨by simp[putF],fun g h=>by simp at h⟩
 |(k,x)::r=>by
  obtain⟨i1,i2⟩:=q3k f v r
  rw[show putF f v ((k,x)::r)=(if k=f then(k,v)::r else(k,x)::putF f v r) from rfl]
  by_cases hk:k=f
  ·rw [if_pos hk]
   subst hk
   exact⟨by simp,fun g h=>by simpa using h⟩
  ·rw [if_neg hk]
   refine⟨?_,fun g h=>?_⟩
   ·rw [List.map_cons]
    exact List.mem_cons_of_mem _ i1
   ·rw [List.map_cons] at h ⊢
    rcases List.mem_cons.mp h with e|e
    ·exact List.mem_cons.mpr (.inl e)
    ·exact List.mem_cons_of_mem _ (i2 g e)
theorem q3i (f:Str)(v:V):∀fs:List (Str×V),(putF f v fs).length<=fs.length+1
 |[]=>by simp[putF]
 |(k,x)::r=>by
  have ih:=q3i f v r
  rw[show putF f v ((k,x)::r)=(if k=f then(k,v)::r else(k,x)::putF f v r) from rfl]
  by_cases hk:k=f
  ·rw [if_pos hk,List.length_cons,List.length_cons];omega
  ·rw [if_neg hk,List.length_cons,List.length_cons];omega
theorem RelO.some_of {v:V}{o:Option Value}(r:RelO (some v) o):∃u,o=some u/\RelV v u:=by
 cases o with
 |none=>exact(show False from r).elim
 |some u=>exact⟨u,rfl,r⟩
theorem RelO.none_of {o:Option Value}(r:RelO none o):o=none:=by
 cases o with
 |none=>rfl
 |some u=>exact(show False from r).elim
theorem q7U {v:V}{u:Value}(r:RelV v u):PySem.W.handedIn u=true:=by
 cases v with
 |non=>cases(show u=Value.none from r);rfl
 |bl b=>cases(show u=Value.bool b from r);rfl
 |int i=>obtain⟨t,e⟩:=(show∃t,u=Value.int i t from r);cases e;rfl
 |str x=>obtain⟨t,e⟩:=(show∃t,u=Value.str x t from r);cases e;rfl
 |byt b=>obtain⟨t,e⟩:=(show∃t,u=Value.bytes b t from r);cases e;rfl
 |flt b=>obtain⟨t,e⟩:=(show∃t,u=Value.float b t from r);cases e;rfl
 |ref a=>cases(show u=Value.ref a from r);rfl
 |ty n=>cases(show u=Value.type n from r);rfl
section
variable {P:Program}{w:World}{H H':Hp}{h h':Heap}{a C dx:Addr}{fs fs':List (Str×V)}
theorem q4b (hok:HOk P w H h)(e:H a=some (.ins C dx fs)):∃mA,ObjM h a dx C mA/\(∀f,RelO (fs.lookup f) (mA f))/\PySem.Within mA (fs.map (·.1))/\fs.length<=1000/\H dx=some (.own a):=by
 obtain⟨d,z,ne,ob,mA,n,r,q⟩:=(show q0l P w H h a (.ins C dx fs) from hok a _ e)
 exact⟨mA,⟨ob,n,ne⟩,r,q,z,d⟩
end
structure Cls (K:PySem.W.Frag)(C:Addr):Prop where
 pg:PySem.W.plainGet K C Str.empty=true
 hd:PySem.W.hasDictIn K C=true
 po:PySem.W.plainOver K C=true
 sa:PySem.W.findIn K (.ref C) "__setattr__"=some (some (.builtin "object.__setattr__"))
theorem Cls.get {K:PySem.W.Frag}{C:Addr}(c:Cls K C)(f:Str):PySem.W.plainGet K C f=true:=c.pg
def qF (K:PySem.W.Frag)(C:Addr)(f:Str):Prop:=PySem.W.findIn K (.ref C) f=some none
theorem qF.taker {K:PySem.W.Frag}{C:Addr}{f:Str}(n:qF K C f):PySem.W.takerIn K C f=some none:=by
 unfold PySem.W.takerIn
 rw[show PySem.W.findIn K (.ref C) f=some none from n]
 rfl
structure Meth (K:PySem.W.Frag)(C:Addr)(m:Str)(f:Addr):Prop where
 at_:PySem.W.findIn K (.ref C) m=some (some (.ref f))
 fn:PySem.W.isFn K (.ref f)=true
 kp:PySem.W.keepIn K (.ref f)=true
section
variable {X:Cx}{pins:List (Addr×Obj)}{σ:St}{H:Hp}{s:Shared}{a C dx:Addr}{fs:List (Str×V)}{f:Str}{v:V}{A:Around}{E:Value->Shared->Prop}
theorem q6R {b:Bool}{Q:Value->Shared->Prop}(I:Inv X pins σ H s)(e:H a=some (.ins C dx fs))(c:Cls X.K C)(n:qF X.K C f)(l:fs.lookup f=some v)
  (h:∀u s',Inv X pins σ H s'->RelV v u->Q u s'):wpAny (model X.prog X.w) A (getAttr (.ref a) f b) Q E s:=by
 obtain⟨mA,O,r,_,_,_⟩:=q4b I.hok e
 obtain⟨u,hu,ru⟩:=RelO.some_of (v:=v) (o:=mA f) (by rw[<-l];exact r f)
 exact qb8 I.kIn O (c.get f) c.hd n hu (q7U ru) (h u _ (I.tok _) ru)
theorem q3K {m:Str}{g:Addr}{pl:Sem Bool}{Q:Value×List Value->Shared->Prop}(I:Inv X pins σ H s)(e:H a=some (.ins C dx fs))(c:Cls X.K C)(k:Meth X.K C m g)(l:fs.lookup m=none)
  (h:Q (.ref g,[.ref a]) s):wpAny (model X.prog X.w) A (getMethod (.ref a) m pl) Q E s:=by
 obtain⟨mA,O,r,_,_,_⟩:=q4b I.hok e
 have hn:mA m=none:=RelO.none_of (by rw[<-l];exact r m)
 exact q9q I.kIn O (c.get m) k.at_ k.fn hn h
theorem q6A {y:V}{u:Value}{Q:Unit->Shared->Prop}(I:Inv X pins σ H s)(e:H a=some (.ins C dx fs))(c:Cls X.K C)(n:qF X.K C f)(hl:fs.length<1000)(ry:RelV y u)
  (h:∀s',Inv X pins σ (upd H a (.ins C dx (putF f y fs))) s'->Q () s'):wpAny (model X.prog X.w) A (setAttr (.ref a) f u) Q E s:=by
 obtain⟨mA,O,r,wi,_,ho⟩:=q4b I.hok e
 have hz:(fs.map (·.1)).length<=sizeLine:=by rw[List.length_map,sizeLine_eq];omega
 refine set_map I.kIn O c.sa c.po n.taker c.hd wi hz fun h' O' sb=>h _ ?_
 have hd:∃o,h'.get? dx=some o:=let ⟨o,_,_,e',_⟩:=O'.ns;⟨o,e'⟩
 refine I.write (x:=a) (e:=dx) (by rw[e];exact True.intro) (.inr ho) (fun b q hb z=>(sb.2 b hb).trans z) hd ?_
 refine⟨by rw[qp O.ne];exact ho,?_,O.ne,O'.obj,_,O'.ns,fun g=>?_,fun g hg=>?_⟩
 ·have:=q3i f y fs;omega
 ·show RelO ((putF f y fs).lookup g) (if g=f then some u else mA g)
  rw[qM]
  by_cases q:g=f
  ·rw [if_pos q,if_pos q];exact ry
  ·rw [if_neg q,if_neg q];exact r g
 ·by_cases q:g=f
  ·rw [q];exact(q3k f y fs).1
  ·refine (q3k f y fs).2 g (wi g fun z=>hg ?_)
   show(if g=f then some u else mA g)=none
   rw[if_neg q];exact z
theorem Inv.made (I:Inv X pins σ H s):Inv X pins σ (upd (upd H s.heap.objs.size (.own (s.heap.objs.size+1))) (s.heap.objs.size+1) (.ins C s.heap.objs.size []))
  {s with heap:=(s.heap.push PySem.W.emptyDict).push (PySem.W.instObj C s.heap.objs.size)}:=by
 have e1:(s.heap.push PySem.W.emptyDict).get? s.heap.objs.size=some PySem.W.emptyDict:=Heap.get?_push_size s.heap rfl
 have e2:((s.heap.push PySem.W.emptyDict).push (PySem.W.instObj C s.heap.objs.size)).get? (s.heap.objs.size+1)=some (PySem.W.instObj C s.heap.objs.size):=by
  have:=Heap.get?_push_size (s.heap.push PySem.W.emptyDict) (o:=PySem.W.instObj C s.heap.objs.size) rfl
  rwa [Heap.size_push] at this
 have e3:(s.heap.push PySem.W.emptyDict).Ns s.heap.objs.size (fun _=>none):=⟨PySem.W.emptyDict,#[],_,e1,rfl,(fun e he=>absurd he (by simp)),fun _=>rfl⟩
 have I1:=I.laid (a:=s.heap.objs.size) (o:= .own (s.heap.objs.size+1)) (h':=s.heap.push PySem.W.emptyDict) (t':=s.toks) (fun b u q=>Heap.get?_push_of_some _ q) (Nat.le_refl _) ⟨_,e1⟩
 refine I1.laid (a:=s.heap.objs.size+1) (o:= .ins C s.heap.objs.size []) (t':=s.toks) (fun b u q=>Heap.get?_push_of_some _ q) (Nat.le_of_eq (Heap.size_push _ _)) ?_
 have ne:s.heap.objs.size≠s.heap.objs.size+1:=Nat.ne_of_lt (Nat.lt_succ_self _)
 refine⟨by rw[qp ne,qg],Nat.zero_le _,ne,e2,fun _=>none,(Heap.Ns1.of_empty e3).at fun o q=>Heap.get?_push_of_some _ q,fun _=>True.intro,fun y hy=>absurd rfl hy⟩
theorem qbq {prog:Program}{w:World}{env:Env}{e:Expr}{f:Str}{pos:Pos}{s:Shared}{Q:Value->Shared->Prop}(hb:attributeBase e f env (eval e env)=eval e env)
  (h:wpAny (model prog w) A (eval e env) (fun o s₁=>wpAny (model prog w) A (getAttr o f true) Q E s₁) E s):wpAny (model prog w) A (eval (.Attribute e f pos) env) Q E s:=
 Attribute_any_ h (by rw[arm_eval_Attribute,hb])
end
def tFld (K:PySem.W.Frag)(ta:TE)(f:Str):TE:=fun σ H Q=>ta σ H fun x H1=>∃a C dx fs v,x= .ref a/\H1 a=some (.ins C dx fs)/\Cls K C/\qF K C f/\fs.lookup f=some v/\Q v H1
def sFld (K:PySem.W.Frag)(ta tv:TE)(f:Str):TS:=fun D σ H=>tv σ H fun y H1=>ta σ H1 fun x H2=>∃a C dx fs,x= .ref a/\H2 a=some (.ins C dx fs)/\Cls K C/\qF K C f/\fs.length<1000/\
 D.nx σ (upd H2 a (.ins C dx (putF f y fs)))
section
variable {X:Cx}{o e value:Expr}{f:Str}{pos pos' tpos:Pos}{ta tv:TE}
theorem pe_fld (he:PE X e ta)(hb:attributeBase e f X.env (eval e X.env)=eval e X.env):PE X (.Attribute e f pos) (tFld X.K ta f):=by
 intro pins s σ H Q I h
 refine qbq hb (thn (he pins s σ H _ I h) fun u s1 ⟨x,H1,I1,rx,a,C,dx,fs,v,ex,ea,c,n,l,q⟩=>?_)
 subst ex
 obtain rfl:u=Value.ref a:=rx
 exact q6R I1 ea c n l fun u' s2 I2 ru=>⟨v,H1,I2,ru,q⟩
theorem ps_fld (ha:PE X o ta)(hv:PE X value tv)(hs:swapsWith value (some (.Attribute o f pos')) pos.line X.env=pure false):PS X (.Assign [.Attribute o f pos'] value pos) (sFld X.K ta tv f):=by
 intro pins s σ H D I h
 refine plainObj_wpAny_Assign_Attribute (thn (hv pins s σ H _ I h) fun u s1 ⟨y,H1,I1,ry,q⟩=>thn (ha pins s1 σ H1 _ I1 q) fun ov s2 ⟨x,H2,I2,rx,a,C,dx,fs,ex,ea,c,n,l,q2⟩=>?_) hs
 subst ex
 obtain rfl:ov=Value.ref a:=rx
 exact q6A I2 ea c n l ry fun s3 I3=>⟨σ,_,I3,q2⟩
end
section
variable {X:Cx}{pins:List (Addr×Obj)}{σ:St}{H:Hp}{s:Shared}{A:Around}{E:Value->Shared->Prop}{Q:Value->Shared->Prop}{c:Value}{b:Bool}
inductive TyOf (K:PySem.W.Frag)(H:Hp):V->Value->Prop where
 |non:TyOf K H .non (.type "NoneType")
 |bl (x:Bool):TyOf K H (.bl x) (.type "bool")
 |int (i:Int):TyOf K H (.int i) (.type "int")
 |str (x:Str):TyOf K H (.str x) (.type "str")
 |flt (x:UInt64):TyOf K H (.flt x) (.type "float")
 |lst {a:Addr} {xs:List V} (e:H a=some (.lst xs)):TyOf K H (.ref a) (.type "list")
 |frz {a:Addr} {o:Obj} {xs:List V} (e:H a=some (.frz o (.lst xs))):TyOf K H (.ref a) (.type "list")
 |tup {a:Addr} {xs:List V} (e:H a=some (.tup xs)):TyOf K H (.ref a) (.type "tuple")
 |dK {a:Addr} {kvs:List (Key×V)} (e:H a=some (.dK kvs)):TyOf K H (.ref a) (.type "dict")
 |dT {a:Addr} {kvs:List (List Key×V)} (e:H a=some (.dT kvs)):TyOf K H (.ref a) (.type "dict")
 | ins {a C dx:Addr} {fs:List (Str×V)} (e:H a=some (.ins C dx fs)) (cl:Cls K C) (ha:PySem.W.findIn K (.ref C) "__class__"=some (some (.builtin "object.__class__")))
   (hn:PySem.W.specialIn K (.builtin "object.__class__") "__get__"=some (some (.builtin "getset_descriptor.__get__"))) (htk:PySem.W.takesIn K (.builtin "object.__class__")=some true)
   (hm:PySem.W.mroIn K C (.type "object")=some true):TyOf K H (.ref a) (.ref C)
theorem q7M {x:V}{u t:Value}(I:Inv X pins σ H s)(rx:RelV x u)(ty:TyOf X.K H x t)(e:PySem.W.kitOne X.K t c=some b)(h:∀tk,Q (.bool b) {s with toks:=tk}):
  wpAny (model X.prog X.w) A (call (.builtin "isinstance") [u,c]) Q E s:=by
 cases ty with
 |non=>cases(show u=Value.none from rx);exact PySem.W.kia_one PySem.W.kitx_none I.kIn True.intro e (fun z=>nomatch z) h
 |bl y=>cases(show u=Value.bool y from rx);exact PySem.W.kia_one PySem.W.kitx_bool I.kIn True.intro e (fun z=>nomatch z) h
 |int i=>obtain⟨t,q⟩:=(show∃t,u=Value.int i t from rx);cases q;exact PySem.W.kia_one PySem.W.kitx_int I.kIn True.intro e (fun z=>nomatch z) h
 |str y=>obtain⟨t,q⟩:=(show∃t,u=Value.str y t from rx);cases q;exact PySem.W.kia_one PySem.W.kitx_str I.kIn True.intro e (fun z=>nomatch z) h
 |flt y=>obtain⟨t,q⟩:=(show∃t,u=Value.float y t from rx);cases q;exact PySem.W.kia_one PySem.W.kitx_float I.kIn True.intro e (fun z=>nomatch z) h
 | @lst a xs ea=>
  cases(show u=Value.ref a from rx)
  obtain⟨_,_,n,_,h1⟩:=(show q0l X.prog X.w H s.heap a (.lst xs) from I.hok a _ ea)
  exact PySem.W.kia_one PySem.W.kitx_list I.kIn ⟨_,h1,rfl⟩ e (fun z=>nomatch z) h
 | @frz a ob xs ea=>
  cases(show u=Value.ref a from rx)
  obtain⟨_,_,_,n,_,h1⟩:=(show q0l X.prog X.w H s.heap a (.frz ob (.lst xs)) from I.hok a _ ea)
  exact PySem.W.kia_one PySem.W.kitx_list I.kIn ⟨_,h1,rfl⟩ e (fun z=>nomatch z) h
 | @tup a xs ea=>
  cases(show u=Value.ref a from rx)
  obtain⟨_,_,_,p⟩:=(show q0l X.prog X.w H s.heap a (.tup xs) from I.hok a _ ea)
  obtain⟨o,h1,h2,_⟩:=p
  exact PySem.W.kia_one PySem.W.kitx_tuple I.kIn ⟨o,h1,h2⟩ e (fun z=>nomatch z) h
 | @dK a kvs ea=>
  cases(show u=Value.ref a from rx)
  obtain⟨_,_,vs,_,p⟩:=(show q0l X.prog X.w H s.heap a (.dK kvs) from I.hok a _ ea)
  obtain⟨o,es,ep,h1,h2,_⟩:=p
  exact PySem.W.kia_one PySem.W.kitx_dict I.kIn ⟨o,h1,h2.1⟩ e (fun z=>nomatch z) h
 | @dT a kvs ea=>
  cases(show u=Value.ref a from rx)
  obtain⟨_,_,xs,_,o,es,ep,h1,h2,_⟩:=(show q0l X.prog X.w H s.heap a (.dT kvs) from I.hok a _ ea)
  exact PySem.W.kia_one PySem.W.kitx_dict I.kIn ⟨o,h1,h2.1⟩ e (fun z=>nomatch z) h
 | @ins a C dx fs ea cl ha hn htk hm=>
  cases(show u=Value.ref a from rx)
  obtain⟨mA,O,_⟩:=q4b I.hok ea
  obtain⟨od,J,_⟩:=O.look
  exact PySem.W.kia_one (PySem.W.kitx_own (cl.get _) cl.hd ha hn htk hm) I.kIn J e (fun z=>nomatch z) h
end
end L2
namespace L2
open PySem PySem.Spec PyProof.Rows
structure Room (k:Nat)(A:Around):Prop where
 hd:A.handled=none
 dp:A.depth+3*k+5<recursionLimit
 un:A.units+16*k+200<cLine
 gd:A.guards=some []
theorem Room.mono {j k:Nat}{A:Around}(r:Room k A)(h:j<=k):Room j A:=⟨r.hd,by have:=r.dp;omega,by have:=r.un;omega,r.gd⟩
theorem Room.deeper {k:Nat}{A:Around}(r:Room (k+1) A)(env:Env):Room k (A.deeper env):=
 ⟨r.hd,by have:=r.dp;show A.depth+1+3*k+5<_;omega,by have:=r.un;show A.units+3+16*k+200<_;omega,r.gd⟩
theorem q6O {A:Around}{C:Addr}{us:List Value}{kw:List (Str×Value)}:(A.under (.builtin "type.__call__" ⟨.ref C::us,kw⟩)).depth=A.depth+1:=by
 first|rfl|simp[Around.under,Code.weight,Code.isCreation,Code.isGuard,Code.isCaller,Code.frames,Code.isFrame,guardIds]
theorem q6N {A:Around}{C:Addr}{us:List Value}{kw:List (Str×Value)}:(A.under (.builtin "type.__call__" ⟨.ref C::us,kw⟩)).units=A.units+1:=by
 first|rfl|simp[Around.under,Code.cUnits,Code.frames,Code.isFrame]
theorem Room.make {k:Nat}{A:Around}(r:Room (k+1) A)(C:Addr)(us:List Value)(kw:List (Str×Value)):Room k (A.under (.builtin "type.__call__" ⟨.ref C::us,kw⟩)):=
 ⟨r.hd,by have:=r.dp;rw[q6O];omega,by have:=r.un;rw[q6N];omega,by simp[Around.under,Code.guards,Code.isGuard,guardIds,pushGuards,r.gd]⟩
theorem Room.depth {k:Nat}{A:Around}(r:Room k A):A.depth<recursionLimit:=by have:=r.dp;omega
theorem Room.units {k:Nat}{A:Around}(r:Room k A):A.units+64<cLine:=by have:=r.un;omega
def tNil:TA:=fun _ H Q=>Q [] H
def tCons (ta:TE)(tr:TA):TA:=fun σ H Q=>ta σ H fun x H1=>tr σ H1 fun xs H2=>Q (x::xs) H2
section
variable {X:Cx}{e:Expr}{es:List Expr}{te:TE}{t:TA}{pos:Pos}
theorem qd:PA X [] tNil:=fun _ _ _ _ H Q I h=>Calls.spliced_nil ⟨[],H,I,.nil,h⟩
theorem qc (ha:PE X e te)(hr:PA X es t)(hs:starEach (e::es) X.env=(false,eval e X.env)::starEach es X.env:=by rfl):PA X (e::es) (tCons te t):=by
 intro pos pins s σ H Q I h
 rw[hs]
 show wpAny _ _ (spliced ((false,eval e X.env)::backTo pos (starEach es X.env))) _ _ s
 refine Calls.spliced_cons (thn (ha pins s σ H _ I h) fun u s1 ⟨x,H1,I1,r1,q1⟩=>?_)
 exact thn (hr pos pins s1 σ H1 _ I1 q1) fun us s2 ⟨xs,H2,I2,r2,q2⟩=>⟨x::xs,H2,I2,.cons r1 r2,q2⟩
def tTup (t:TA):TE:=fun σ H Q=>t σ H fun xs H1=>xs.length<=sizeLine/\∀p,H1 p=none->Q (.ref p) (upd H1 p (.tup xs))
def tLst (t:TA):TE:=fun σ H Q=>t σ H fun xs H1=>xs.length<=sizeLine/\∀p,H1 p=none->Q (.ref p) (upd H1 p (.lst xs))
theorem qJ {x1}(h:PA X es t):PE X (.Tuple es x1 pos) (tTup t):=by
 intro pins s σ H Q I hq
 refine wpAny_Tuple_spliced (thn (h pos pins s σ H _ I hq) fun us s1 ⟨xs,H1,I1,r,z,q⟩=>⟨by rw[<-r.length];exact z,?_⟩)
 have hf:H1 s1.heap.objs.size=none:=I1.hok.fresh (Nat.le_refl _)
 refine⟨.ref s1.heap.objs.size,upd H1 s1.heap.objs.size (.tup xs),I1.laid (t':=s1.toks) (fun b u e=>Heap.get?_push_of_some _ e) (Nat.le_refl _) ?_,rfl,q _ hf⟩
 exact⟨z,us,r,⟨_,Heap.get?_push_size _ rfl,rfl,_,rfl⟩⟩
theorem q0u (h:PA X es t):PE X (.List es pos) (tLst t):=by
 intro pins s σ H Q I hq
 refine wpAny_List_spliced (thn (h pos pins s σ H _ I hq) fun us s1 ⟨xs,H1,I1,r,z,q⟩=>⟨by rw[<-r.length];exact z,?_⟩)
 have hf:H1 s1.heap.objs.size=none:=I1.hok.fresh (Nat.le_refl _)
 refine⟨.ref s1.heap.objs.size,upd H1 s1.heap.objs.size (.lst xs),I1.laid (t':=s1.toks) (fun b u e=>Heap.get?_push_of_some _ e) (Nat.le_refl _) ?_,rfl,q _ hf⟩
 exact⟨z,us,0,r,Heap.get?_push_size _ rfl⟩
end
abbrev Sp:=List V->Hp->VK->XK->Prop
abbrev CXT:=List Env->Hp->Shared->XK->Value->Shared->Prop
structure Env0 (P:Program)(w:World)(K:PySem.W.Frag)(mg:Str->Option Value)(base:Heap)(A:Around)(outer:List Env)(s:Shared)(H:Hp):Prop where
 frames:A.frames=some outer
 mod:Mod K mg base
 bs:∀b o,base.get? b=some o->s.heap.get? b=some o/\H b=none
 bsz:base.objs.size<=s.heap.objs.size
 funs:s.heap.FunFrames base outer
 frf:∀b∈frs outer,H b=none
 hok:HOk P w H s.heap
 bare:AllBare s.gens
def CE (outer:List Env)(P:Program)(w:World)(H:Hp)(s:Shared)(Q:VK)(u:Value)(s':Shared):Prop:=
 ∃v H',s'.os=s.os/\AllBare s'.gens/\Un (frs outer) [] H H' s.heap s'.heap/\HOk P w H' s'.heap/\RelV v u/\Q v H'
def CR (CX:CXT)(outer:List Env)(P:Program)(w:World)(H:Hp)(s:Shared)(Q:VK)(E:XK)(r:Result)(s':Shared):Prop:=
 match r with
 | .ok (.ret u)=>CE outer P w H s Q u s'
 | .ok _=>False
 | .error e=>CX outer H s E e s'
structure FnOk (P:Program)(w:World)(K:PySem.W.Frag)(mg:Str->Option Value)(base:Heap)(CX:CXT)(k:Nat)(f:Addr)(fd:FuncData)(ps:List Str)(sp:Sp):Prop where
 len:∀vs H Q E,sp vs H Q E->vs.length=ps.length
 run:∀(A:Around) (outer:List Env) (s:Shared) (H:Hp) (args:Args) (us:List Value) (vs:List V) (Q:VK) (E:XK),Room k A->Env0 P w K mg base A outer s H->BindsTo s fd args (ps.zip us)->Vals vs us->sp vs H Q E->
  codeAny (model P w) A (.call (.ref f) args) (CR CX outer P w H s Q E) s
theorem Env0.make {P:Program}{w:World}{K:PySem.W.Frag}{mg:Str->Option Value}{base:Heap}{A:Around}{outer:List Env}{s:Shared}{H:Hp}(e:Env0 P w K mg base A outer s H)(C:Addr)(us:List Value)(kw:List (Str×Value)):
  Env0 P w K mg base (A.under (.builtin "type.__call__" ⟨.ref C::us,kw⟩)) outer s H:=⟨by first|exact e.frames|(simpa[Around.under,Code.envs,Code.isFrame,pushEnvs] using e.frames),e.mod,e.bs,e.bsz,e.funs,e.frf,e.hok,e.bare⟩
section
variable {X:Cx}{pins:List (Addr×Obj)}{σ:St}{H:Hp}{s s':Shared}
theorem Inv.env0 (I:Inv X pins σ H s):Env0 X.prog X.w X.K X.mg X.base X.A X.stack s H:=
 ⟨I.ok.frames,I.ok.mod,I.bs,Nat.le_trans I.ok.bsz I.sz,I.stack,I.stkFree,I.hok,I.bare⟩
theorem Inv.after {Q:VK}{u:Value}(I:Inv X pins σ H s)(h:CE X.stack X.prog X.w H s Q u s'):EP X pins σ Q u s':=by
 obtain⟨v,H',os,bare,un,hok,r,q⟩:=h
 obtain⟨hh,g,d,t,os'⟩:=s'
 obtain rfl:os'=s.os:=os
 exact⟨v,H',I.call (h':=hh) (g':=g) (d':=d) (t':=t) (ch:=[]) un hok bare (fun b z=>absurd z (by simp)),r,q⟩
end
def q8D (sp:Sp)(dvs:List V)(E:XK)(t:TA):TE:=fun σ H Q=>t σ H fun vs H1=>sp (vs++dvs) H1 Q E
def q71 (C:Addr)(sp:Sp)(dvs:List V)(E:XK)(t:TA):TE:=fun σ H Q=>t σ H fun vs H1=>∀x dx,H1 x=none->H1 dx=none->dx≠x->
 sp (.ref x::(vs++dvs)) (upd (upd H1 dx (.own x)) x (.ins C dx [])) (fun v H2=>v= .non/\Q (.ref x) H2) E
def q1V (K:PySem.W.Frag)(fd:FuncData)(ps:List Str)(ds:List Value):Prop:=
 ∀(s:Shared) (us:List Value),K.In s.heap->(us++ds).length=ps.length->BindsTo s fd ⟨us,[]⟩ (ps.zip (us++ds))
theorem q1V.all {K:PySem.W.Frag}{fd:FuncData}{ps:List Str}(h:∀us:List Value,us.length=ps.length->bindArgs fd ⟨us,[]⟩=pure (ps.zip us)):q1V K fd ps []:=fun s us _ hl=>by
 rw[List.append_nil] at hl ⊢
 exact .of_eq (h us hl)
def q3L (CX:CXT)(X:Cx)(E:XK):Prop:=∀(pins:List (Addr×Obj)) (σ:St) (H:Hp) (s:Shared) (e:Value) (s':Shared),Inv X pins σ H s->CX X.stack H s E e s'->X.xe e s'
section
variable {X:Cx}{CX:CXT}{k:Nat}{f C:Addr}{fd:FuncData}{ps:List Str}{sp:Sp}{dvs:List V}{ds:List Value}{E:XK}{x m:Str}{p pos apos:Pos}{e o:Expr}{es:List Expr}{ta:TE}{t:TA}
theorem q66 {pins:List (Addr×Obj)}{σ:St}{H:Hp}{s:Shared}{Q:VK}{us:List Value}{vs:List V}(F:FnOk X.prog X.w X.K X.mg X.base CX k f fd ps sp)(hr:Room k X.A)(hb:q1V X.K fd ps ds)(hd:Vals dvs ds)(hx:q3L CX X E)
  (I:Inv X pins σ H s)(r:Vals vs us)(h:sp (vs++dvs) H Q E):wpAny (model X.prog X.w) X.A (call (.ref f) us) (EP X pins σ Q) X.xe s:=by
 have r2:Vals (vs++dvs) (us++ds):=r.append hd
 have hl:(us++ds).length=ps.length:=by rw[<-r2.length];exact F.len _ _ _ _ h
 refine wpAny_call (codeAny_mono (F.run X.A X.stack s H ⟨us,[]⟩ (us++ds) (vs++dvs) Q E hr I.env0 (hb s us I.kIn hl) r2 h) fun r s' hq=>?_)
 cases r with
 |error e=>exact hx pins σ H s e s' I hq
 |ok fl=>
  cases fl with
  |ret u=>exact I.after hq
  |next=>exact False.elim hq
  |brk=>exact False.elim hq
  |cont=>exact False.elim hq
theorem qaz (F:FnOk X.prog X.w X.K X.mg X.base CX k f fd ps sp)(hr:Room k X.A)(hg:Gl X x)(hm:X.mg x=some (.ref f))(hk:PySem.W.keepIn X.K (.ref f)=true)(hb:q1V X.K fd ps ds)(hd:Vals dvs ds)(hx:q3L CX X E)
  (ha:PA X (e::es) t)(hdb:(x==("__debug__":Str))=false:=by decide)(he:starEach (e::es) X.env=(false,eval e X.env)::starEach es X.env:=by rfl)(hpl:(backTo pos (starEach es X.env)).any (·.1)=false:=by rfl):
  PE X (.Call (.Name x p) (e::es) [] pos) (q8D sp dvs E t):=by
 intro pins s σ H Q I h
 refine wpAny_Call_Name_kw (q3j I hg hm ?_ hdb)
 refine PySem.W.callWith_K (h₀:=X.base) I.ok.mod.kin hk (thn (ha pos pins s σ H _ I h) fun us s1 ⟨vs,H1,I1,r,q⟩=>⟨I1.kIn,?_⟩) he hpl
 exact q66 F hr hb hd hx I1 r q
structure Mk (K:PySem.W.Frag)(C f:Addr):Prop where
 makes:PySem.W.makesIn K C=true
 init:PySem.W.findIn K (.ref C) "__init__"=some (some (.ref f))
 fn:PySem.W.isFn K (.ref f)=true
 kp:PySem.W.keepIn K (.ref C)=true
theorem q65 {pins:List (Addr×Obj)}{σ:St}{H:Hp}{s:Shared}{Q:VK}{us:List Value}{vs:List V}(M:Mk X.K C f)(F:FnOk X.prog X.w X.K X.mg X.base CX k f fd ps sp)(hr:Room (k+1) X.A)(hb:q1V X.K fd ps ds)(hd:Vals dvs ds)
  (hx:q3L CX X E)(I:Inv X pins σ H s)(r:Vals vs us)
  (h:∀x dx,H x=none->H dx=none->dx≠x->sp (.ref x::(vs++dvs)) (upd (upd H dx (.own x)) x (.ins C dx [])) (fun v H2=>v= .non/\Q (.ref x) H2) E):
  wpAny (model X.prog X.w) X.A (call (.ref C) us) (EP X pins σ Q) X.xe s:=by
 have hq:=h (s.heap.objs.size+1) s.heap.objs.size (I.hok.fresh (Nat.le_succ _)) (I.hok.fresh (Nat.le_refl _)) (Nat.ne_of_lt (Nat.lt_succ_self _))
 have I2:=Inv.made (C:=C) I
 have r2:Vals (V.ref (s.heap.objs.size+1)::(vs++dvs)) (Value.ref (s.heap.objs.size+1)::(us++ds)):= .cons rfl (r.append hd)
 have hl:(Value.ref (s.heap.objs.size+1)::us++ds).length=ps.length:=by
  have e:=r2.length
  rw[F.len _ _ _ _ hq] at e
  exact e.symm
 refine wpAny_call (q9j (f:=f) I.kIn M.makes M.init (beq_iff_eq.mp M.fn) (codeAny_mono (F.run _ X.stack _ _ ⟨Value.ref (s.heap.objs.size+1)::us,[]⟩ (Value.ref (s.heap.objs.size+1)::(us++ds)) _ _ E (hr.make C us [])
  (I2.env0.make C us []) (hb _ (Value.ref (s.heap.objs.size+1)::us) I2.kIn hl) r2 hq) fun r s' hq'=>?_))
 cases r with
 |error e=>exact hx pins σ _ _ e s' I2 hq'
 |ok fl=>
  cases fl with
  |ret u=>
   obtain⟨v,H',I3,rv,ev,q3⟩:=I2.after hq'
   subst ev
   exact⟨rv,⟨V.ref (s.heap.objs.size+1),H',I3,rfl,q3⟩⟩
  |next=>exact False.elim hq'
  |brk=>exact False.elim hq'
  |cont=>exact False.elim hq'
theorem qax (M:Mk X.K C f)(F:FnOk X.prog X.w X.K X.mg X.base CX k f fd ps sp)(hr:Room (k+1) X.A)(hg:Gl X x)(hm:X.mg x=some (.ref C))(hb:q1V X.K fd ps ds)(hd:Vals dvs ds)(hx:q3L CX X E)
  (ha:PA X (e::es) t)(hdb:(x==("__debug__":Str))=false:=by decide)(he:starEach (e::es) X.env=(false,eval e X.env)::starEach es X.env:=by rfl)(hpl:(backTo pos (starEach es X.env)).any (·.1)=false:=by rfl):
  PE X (.Call (.Name x p) (e::es) [] pos) (q71 C sp dvs E t):=by
 intro pins s σ H Q I h
 refine wpAny_Call_Name_kw (q3j I hg hm ?_ hdb)
 refine PySem.W.callWith_K (h₀:=X.base) I.ok.mod.kin M.kp (thn (ha pos pins s σ H _ I h) fun us s1 ⟨vs,H1,I1,r,q⟩=>⟨I1.kIn,?_⟩) he hpl
 exact q65 M F hr hb hd hx I1 r q
theorem q8X (M:Mk X.K C f)(F:FnOk X.prog X.w X.K X.mg X.base CX k f fd ps sp)(hr:Room (k+1) X.A)(hg:Gl X x)(hm:X.mg x=some (.ref C))(hb:q1V X.K fd ps ds)(hd:Vals dvs ds)(hx:q3L CX X E)
  (hdb:(x==("__debug__":Str))=false:=by decide):PE X (.Call (.Name x p) [] [] pos) (q71 C sp dvs E tNil):=by
 intro pins s σ H Q I h
 refine wpAny_Call_Name_kw (q3j I hg hm ?_ hdb)
 exact PySem.W.callWith_K0 I.kIn M.kp (q65 (us:=[]) M F hr hb hd hx I .nil h)
end
structure FnScope (N P:List Str)(sc:Scope):Prop where
 kind:sc.kind= .function
 co:sc.isCoroutine=false
 gen:sc.isGenerator=false
 nd:N.Nodup
 pre:N.take P.length=P
 par:∀x∈P,sc.names.lookup x=some .local\/sc.names.lookup x=some .cell
 nofree:∀y∈sc.names,y.2≠ .free
theorem q5g {kindOf:Str->Option NameKind}{x:Str}:∀{binds:List (Str×Value)} {m:Str->Option Value},(∀v,(x,v)∉binds)->bindL kindOf binds m x=m x
 |[],_,_=>rfl
 |(n,v)::r,m,h=>by
  unfold bindL
  rw[q5g fun w hw=>h w (List.mem_cons_of_mem _ hw)]
  split
  ·have:x≠n:=by rintro rfl;exact h v List.mem_cons_self
   simp[this]
  ·rfl
theorem q5i {kindOf:Str->Option NameKind}{x:Str}:∀{binds:List (Str×Value)} {m:Str->Option Value},(∀v,(x,v)∉binds)->bindC kindOf binds m x=m x
 |[],_,_=>rfl
 |(n,v)::r,m,h=>by
  unfold bindC
  rw[q5i fun w hw=>h w (List.mem_cons_of_mem _ hw)]
  split
  ·rfl
  ·have:x≠n:=by rintro rfl;exact h v List.mem_cons_self
   simp[this]
theorem q5h {kindOf:Str->Option NameKind}{x:Str}{v:Value}:∀{P:List Str} {vs:List Value} {i:Nat} {m:Str->Option Value},P.Nodup->P[i]? =some x->vs[i]? =some v->kindOf x=some .local->
  bindL kindOf (P.zip vs) m x=some v
 |[],_,_,_,_,h,_,_=>by simp at h
 |_::_,[],_,_,_,_,h,_=>by simp at h
 |p::P,w::vs,0,m,nd,h1,h2,hk=>by
  simp at h1 h2;subst h1;subst h2
  show bindL kindOf ((p,w)::P.zip vs) m p=_
  unfold bindL
  rw[q5g fun v hv=>(List.nodup_cons.mp nd).1 (List.of_mem_zip hv).1,if_pos hk]
  simp
 |p::P,w::vs,i+1,m,nd,h1,h2,hk=>by
  show bindL kindOf ((p,w)::P.zip vs) m x=_
  unfold bindL
  exact q5h (i:=i) (List.nodup_cons.mp nd).2 (by simpa using h1) (by simpa using h2) hk
theorem q5j {kindOf:Str->Option NameKind}{x:Str}{v:Value}:∀{P:List Str} {vs:List Value} {i:Nat} {m:Str->Option Value},P.Nodup->P[i]? =some x->vs[i]? =some v->kindOf x≠some .local->
  bindC kindOf (P.zip vs) m x=some v
 |[],_,_,_,_,h,_,_=>by simp at h
 |_::_,[],_,_,_,_,h,_=>by simp at h
 |p::P,w::vs,0,m,nd,h1,h2,hk=>by
  simp at h1 h2;subst h1;subst h2
  show bindC kindOf ((p,w)::P.zip vs) m p=_
  unfold bindC
  rw[q5i fun v hv=>(List.nodup_cons.mp nd).1 (List.of_mem_zip hv).1,if_neg hk]
  simp
 |p::P,w::vs,i+1,m,nd,h1,h2,hk=>by
  show bindC kindOf ((p,w)::P.zip vs) m x=_
  unfold bindC
  exact q5j (i:=i) (List.nodup_cons.mp nd).2 (by simpa using h1) (by simpa using h2) hk
def start (N:List Str)(vs:List V):St:=vs.map some++List.replicate (N.length - vs.length) none
def cxOf (CX:CXT)(P:Program)(w:World)(K:PySem.W.Frag)(mg:Str->Option Value)(base:Heap)(N:List Str)(qual:Str)(scope:Scope)(f:Addr)(cd:Value)(A:Around)(outer:List Env)(s:Shared)(H:Hp)(E:XK):Cx where
 prog:=P
 w:=w
 K:=K
 mg:=mg
 base:=base
 A:=A.deeper (envOfC qual scope s.heap.objs.size f cd)
 N:=N
 s₀:=s
 H₀:=H
 env:=envOfC qual scope s.heap.objs.size f cd
 outer:=outer
 stack:=envOfC qual scope s.heap.objs.size f cd::outer
 ex:=[]
 calm:=true
 fn:=fun _=>true
 pn:=[]
 xe:=fun e s'=>wpAny (model P w) (A.deeper (envOfC qual scope s.heap.objs.size f cd)) (leaving (envOfC qual scope s.heap.objs.size f cd) e) (fun _ s''=>CX outer H s E e s'') (fun e' s''=>CX outer H s E e' s'') s'
theorem q6q {sc:Scope}{n:Nat}{x:Str}(h:sc.names.lookup x=some .cell):∃c,(cellsFrom n sc.names []).lookup x=some c:=by
 have q:=PySem.W.cellsFrom_some sc.names n [] (.inl h)
 exact Option.isSome_iff_exists.mp q
theorem q7O {CX:CXT}{P:Program}{w:World}{K:PySem.W.Frag}{mg:Str->Option Value}{base:Heap}{N ps:List Str}{qual:Str}{scope:Scope}{f:Addr}{cd:Value}{A:Around}{outer:List Env}{s s1:Shared}{H:Hp}{E:XK}{us:List Value}{vs:List V}
  (S:FnScope N ps scope)(hd:A.handled=none)(e0:Env0 P w K mg base A outer s H)(hl:vs.length=ps.length)(r:Vals vs us)
  (x:InCallC s s.heap.objs.size (bindL (envOfC qual scope s.heap.objs.size f cd).kindOf (ps.zip us) fun _=>none) (cellsFrom (s.heap.objs.size+1) scope.names []) (bindC (envOfC qual scope s.heap.objs.size f cd).kindOf (ps.zip us) fun _=>none) s1):
  Inv (cxOf CX P w K mg base N qual scope f cd A outer s H E) [] (start N vs) H s1:=by
 have hpl:ps.length<=N.length:=by have:=congrArg List.length S.pre;rw[List.length_take] at this;omega
 obtain⟨h1,tk,rfl,hk⟩:=x.done
 have noA:∀b:Addr,b∉(cxOf CX P w K mg base N qual scope f cd A outer s H E).ex:=fun b z=>absurd (show b∈([]:List Addr) from z) (by simp)
 refine⟨⟨e0.mod,S.kind,rfl,rfl,Nat.le_refl _,fun y z c h1 h2=>?_,fun y hy=>?_,fun y c _ h=>?_,fun _=>hd,Around.frames_deeper e0.frames,.inr ⟨rfl,rfl⟩,fun b z=>absurd z (noA b),e0.bs,e0.bsz,fun b _ _=>noA b,fun b z=>absurd z (noA b),e0.funs,e0.frf⟩,
  rfl,e0.bare,Un.kept hk,⟨_,x.toInCall.ns,fun i y v h1 h2 h3=>?_⟩,fun y c h=>⟨_,x.cell y c h⟩,e0.hok.fresh (Nat.le_refl _),fun y c h=>?_,fun p hp=>absurd (show p∈([]:List (Addr×Obj)) from hp) (by simp),e0.hok.kept hk,?_⟩
 ·exact name_of_addr x.apart (PySem.mem_of_lookup h1) (PySem.mem_of_lookup h2)
 ·have hy:scope.names.lookup y=some .cell\/scope.names.lookup y=some .free:=hy
  rcases hy with hy|hy
  ·exact q6q hy
  ·exact absurd rfl (S.nofree _ (PySem.mem_of_lookup hy))
 ·exact Nat.le_of_lt (x.above y c (PySem.mem_of_lookup h))
 ·have hi:i<vs.length:=by
   unfold start at h2
   by_cases hi:i<vs.length
   ·exact hi
   ·rw [List.getElem?_append_right (by simpa using hi)] at h2
    rw[List.getElem?_replicate] at h2
    split at h2<;>cases h2
  have ha:vs[i]? =some v:=by
   unfold start at h2
   rw[List.getElem?_append_left (by simpa using hi),List.getElem?_map] at h2
   cases e:vs[i]? with
   |none=>rw[e] at h2;cases h2
   |some a=>rw[e] at h2;cases h2;rfl
  obtain⟨u,hu,rv⟩:=r.get ha
  have hp:ps[i]? =some y:=by
   rw[<-S.pre,List.getElem?_take_of_lt (by omega)];exact h1
  have ndP:ps.Nodup:=by rw[<-S.pre];exact S.nd.sublist (List.take_sublist _ _)
  refine⟨u,rv,?_⟩
  rcases S.par y (List.mem_of_getElem? hp) with k|k
  ·exact .inl ⟨k,q5h ndP hp hu k⟩
  ·obtain ⟨c,e⟩:=q6q (n:=s.heap.objs.size+1) k
   refine .inr ⟨.inl k,c,e,?_⟩
   have q:=x.cell y c e
   rw[q5j ndP hp hu (by show scope.names.lookup y≠_;rw[k];decide)] at q
   exact q
 ·exact e0.hok.fresh (Nat.le_of_lt (x.above y c (PySem.mem_of_lookup h)))
 ·unfold start
  show _=N.length
  rw[List.length_append,List.length_map,List.length_replicate]
  omega
theorem fn_of {CX:CXT}{P:Program}{w:World}{K:PySem.W.Frag}{mg:Str->Option Value}{base:Heap}{k:Nat}{f:Addr}{name qual:Str}{params:Arguments}{body:List Stmt}{scope:Scope}{dV kV doc pm cdv ct oc:Value}{an od:Option Addr}
  {osl:Array (Option Value)}{N ps:List Str}{sp:Sp}(lk:K.lookup f=some ⟨oc,od,.func (PySem.W.fnOf name qual params body scope dV kV doc pm an cdv ct),osl⟩)(hcd:PySem.W.codeIn K cdv qual=true)(S:FnScope N ps scope)
  (len:∀vs H Q E,sp vs H Q E->vs.length=ps.length)
  (hbody:∀(A:Around) (outer:List Env) (s:Shared) (H:Hp) (vs:List V) (Q:VK) (E:XK),Room k (A.deeper (envOfC qual scope s.heap.objs.size f cdv))->sp vs H Q E->
   ∃t,PSs (cxOf CX P w K mg base N qual scope f cdv A outer s H E) body t/\t {nx:=fun _ H'=>Q .non H',rt:=Q} (start N vs) H):
  FnOk P w K mg base CX (k+1) f (PySem.W.fnOf name qual params body scope dV kV doc pm an cdv ct) ps sp:=by
 refine⟨len,fun A outer s H args us vs Q E hr e0 hb r hsp=>?_⟩
 have hl:=len _ _ _ _ hsp
 have KX:K.In s.heap:=e0.mod.kin.keeps fun b o e=>(e0.bs b o e).1
 have lim:s.heap.NoLimit:=e0.mod.nolimit.keeps fun b o e=>(e0.bs b o e).1
 have hkind:∀y∈ps.zip us,scope.names.lookup y.1=some .local\/(scope.names.lookup y.1=some .cell/\((cellsFrom (s.heap.objs.size+1) scope.names []).lookup y.1).isSome=true):=fun⟨n,v⟩ hy=>by
  rcases S.par n (List.of_mem_zip hy).1 with q|q
  ·exact .inl q
  ·exact .inr ⟨q,PySem.W.cellsFrom_some _ _ _ (.inl q)⟩
 refine codeAny_call_function hr.depth (KX _ _ lk) rfl S.co S.gen rfl (PySem.W.codeRec_of KX hcd) (hb _ _ _ _ ?_)
 refine wpAny_newFunctionEnv_cells S.kind hkind fun env he s1 x=>?_
 subst he
 refine⟨lim.keeps x.toInCall.keep,codeAny_func ?_⟩
 obtain⟨t,ht,hq⟩:=hbody A outer s H vs Q E (hr.deeper _) hsp
 have I:Inv (cxOf CX P w K mg base N qual scope f cdv A outer s H E) [] (start N vs) H s1:=q7O S hr.hd e0 hl r x
 refine wpAny_mono (ht [] s1 (start N vs) H _ I hq) (fun fl s' hs=>?_) fun e s' hs=>hs
 have fin:∀{σ':St} {H':Hp} {v:V} {u:Value},Inv (cxOf CX P w K mg base N qual scope f cdv A outer s H E) [] σ' H' s'->RelV v u->Q v H'->CE outer P w H s Q u s':=
  fun {σ' H' v u} J rv q=>⟨v,H',J.os,J.bare,J.base,J.hok,rv,q⟩
 cases fl with
 |ret u=>
  obtain⟨v,σ',H',J,rv,q⟩:=hs
  exact fin J rv q
 |next=>
  obtain⟨σ',H',J,q⟩:=hs
  exact fin (v:=V.non) (u:=Value.none) J rfl q
 |brk=>
  obtain⟨_,_,_,q⟩:=hs
  exact False.elim q
 |cont=>
  obtain⟨_,_,_,q⟩:=hs
  exact False.elim q
end L2
namespace L2
open PySem PySem.Spec PyProof.Rows
section
variable {X:Cx}{x:Str}{p pos:Pos}{e:Expr}{es:List Expr}{t:TA}{id T:String}{r:List V->Hp->VK->Prop}
def tCB (r:List V->Hp->VK->Prop)(t:TA):TE:=fun σ H Q=>t σ H fun vs H1=>r vs H1 Q
theorem qr (hc:q2F X (.builtin id) r)(hg:Gl X x)(hm:X.mg x=none)(hv:bootBuiltins x=some (.builtin id))(ha:PA X (e::es) t)(hn:x≠"__name__":=by decide)(hdb:(x==("__debug__":Str))=false:=by decide)
  (he:starEach (e::es) X.env=(false,eval e X.env)::starEach es X.env:=by rfl)(hpl:(backTo pos (starEach es X.env)).any (·.1)=false:=by rfl):PE X (.Call (.Name x p) (e::es) [] pos) (tCB r t):=by
 intro pins s σ H Q I h
 refine wpAny_Call_Name_kw (q24 I hg hm hv ?_ hn hdb)
 exact PyProof.Rows.callWith_builtin1 (thn (ha pos pins s σ H _ I h) fun us s1 ⟨vs,H1,I1,r1,q1⟩=>hc pins s1 σ H1 vs us Q I1 r1 q1) he hpl
theorem q1a (hc:q2F X (.type T) r)(hg:Gl X x)(hm:X.mg x=none)(hv:bootBuiltins x=some (.type T))(ha:PA X (e::es) t)(hn:x≠"__name__":=by decide)(hdb:(x==("__debug__":Str))=false:=by decide)
  (he:starEach (e::es) X.env=(false,eval e X.env)::starEach es X.env:=by rfl)(hpl:(backTo pos (starEach es X.env)).any (·.1)=false:=by rfl):PE X (.Call (.Name x p) (e::es) [] pos) (tCB r t):=by
 intro pins s σ H Q I h
 refine wpAny_Call_Name_kw (q24 I hg hm hv ?_ hn hdb)
 exact PyProof.Rows.callWith_type1 (thn (ha pos pins s σ H _ I h) fun us s1 ⟨vs,H1,I1,r1,q1⟩=>hc pins s1 σ H1 vs us Q I1 r1 q1) he hpl
end
end L2
namespace HT
open PySem PyProof.Rows
section
variable {prog:Program}{w:World}{A:Around}{E:Value->Shared->Prop}{s:Shared}
theorem qbp {t b:Addr}{vs ws:List Value}{Q:Value->Shared->Prop}(ht:IsTup s.heap t vs.toArray)(hb:IsTup s.heap b ws.toArray)(hv:vs≠[])
  (h1:ws=[]->Q (.ref t) s)(h2:ws≠[]->Q (.ref s.heap.objs.size) {s with heap:=s.heap.push {cls:= .type "tuple",data:= .seq (vs++ws).toArray}})
  (hsz:vs.length+ws.length<=sizeLine):wpAny (model prog w) A (binaryOp .Add (.ref t) (.ref b)) Q E s:=by
 obtain⟨⟨cls,dd,data,sl⟩,ho,hc,n,hd⟩:=id ht
 obtain⟨⟨cls2,dd2,data2,sl2⟩,ho2,hc2,n2,hd2⟩:=id hb
 simp only at hc hd hc2 hd2
 subst hc hd hc2 hd2
 have e:vs.toArray++ws.toArray=(vs++ws).toArray:=by simp
 by_cases hw:ws=[]
 ·exact concat_meets ⟨_,ho,rfl⟩ ⟨_,ho2,rfl⟩ noFill_tuple_add seq_tuple_add PySem.F.slot_tuple_add PySem.F.entry_tuple_add (PySem.F.args_tuple_add_2 _ _)
   (tuple_addW1 t b vs.toArray ws.toArray n n2 dd dd2 sl sl2 (by simpa using hv) (by simp[hw])) ⟨ho,ho2,h1 hw⟩
 ·refine concat_meets ⟨_,ho,rfl⟩ ⟨_,ho2,rfl⟩ noFill_tuple_add seq_tuple_add PySem.F.slot_tuple_add PySem.F.entry_tuple_add (PySem.F.args_tuple_add_2 _ _)
   (tuple_addW2 t b vs.toArray ws.toArray n n2 dd dd2 sl sl2 (by simpa using hv) (by simpa using hw) (by rw[List.size_toArray,List.size_toArray];exact hsz)) ⟨ho,ho2,?_⟩
  rw[e]
  exact h2 hw
def sIx (n d:Nat):Option Int->Nat
 |none=>d
 |some v=>if v<0 then(v+(n:Int)).toNat else min v.toNat n
theorem sIx_le (n d:Nat)(hd:d<=n)(o:Option Int):sIx n d o<=n:=by
 cases o with
 |none=>exact hd
 |some v=>
  show(if v<0 then(v+(n:Int)).toNat else min v.toNat n)<=n
  by_cases hv:v<0
  ·rw [if_pos hv];omega
  ·rw [if_neg hv];exact Nat.min_le_right _ _
theorem q8l (v:Int)(n d:Nat):(if v<0 then max (v+(n:Int)) 0 else min v (n:Int))=((sIx n d (some v):Nat):Int):=by
 show(if v<0 then max (v+(n:Int)) 0 else min v (n:Int))=(((if v<0 then(v+(n:Int)).toNat else min v.toNat n):Nat):Int)
 by_cases hv:v<0
 ·simp only[if_pos hv];omega
 ·simp only[if_neg hv];omega
theorem q6T (lo hi:Option Int)(n:Nat):Builtin.Slice.sliceAdjust lo hi 1 (n:Int)=(((sIx n 0 lo:Nat):Int),((sIx n n hi:Nat):Int)):=by
 have h1:¬((1:Int)<0):=by omega
 unfold Builtin.Slice.sliceAdjust
 simp only[h1,if_false]
 refine Prod.ext ?_ ?_
 ·cases lo with
  |none=>rfl
  |some v=>exact q8l v n 0
 ·cases hi with
  |none=>rfl
  |some v=>exact q8l v n n
theorem q6G (i j:Nat):Builtin.Slice.slicePlaces (i:Int) (j:Int) 1=j - i:=by
 unfold Builtin.Slice.slicePlaces
 have h1:(1:Int)>0:=by omega
 simp only[h1,if_true,Int.ediv_one]
 split<;>omega
theorem q3A {v:Value}{o:Option Int}{Q:Option Int->Shared->Prop}(p:IsPart v o)(h:Q o s):wpAny (model prog w) A (Builtin.Slice.slicePartIndex v) Q E s:=by
 cases p with
 |none=>exact slicePart_none h
 |int i t=>exact slicePart_int h
theorem q1E {sl:Addr}{vl vu:Value}{lo hi:Option Int}{n:Nat}{Q:Int×Int×Nat->Shared->Prop}(hs:s.heap.IsSliceOf sl vl vu .none)(pl:IsPart vl lo)(pu:IsPart vu hi)
  (h:Q (((sIx n 0 lo:Nat):Int),1,sIx n n hi - sIx n 0 lo) s):wpAny (model prog w) A (Builtin.Slice.sliceApplied (.ref sl) (pure (n:Int))) Q E s:=by
 obtain⟨os,hos,hcs,hds⟩:=id hs
 unfold Builtin.Slice.sliceApplied Builtin.Slice.sliceFields
 refine wpAny_bind (wpAny_bind (wpAny_field hos hds (x:=vl) rfl (wpAny_bind (wpAny_field hos hds (x:=vu) rfl (wpAny_bind (wpAny_field hos hds (x:= .none) rfl (wpAny_pure ?_)))))))
 refine wpAny_bind (slicePart_none ?_)
 show wpAny _ _ (if ((1:Int)==0)=true then _ else _) _ _ s
 rw[if_neg (by decide)]
 refine wpAny_bind (q3A pl (wpAny_bind (q3A pu (wpAny_bind (wpAny_pure ?_)))))
 show wpAny _ _ (match Builtin.Slice.sliceAdjust lo hi 1 (n:Int) with|(lo,hi)=>pure (lo,(1:Int),Builtin.Slice.slicePlaces lo hi 1)) _ _ s
 rw[q6T lo hi n]
 show wpAny _ _ (pure (((sIx n 0 lo:Nat):Int),(1:Int),Builtin.Slice.slicePlaces ((sIx n 0 lo:Nat):Int) ((sIx n n hi:Nat):Int) 1)) _ _ s
 rw[q6G]
 exact wpAny_pure h
theorem q8S (xs:Array Value)(i k:Nat):((List.range k).filterMap fun(m:Nat)=>xs[((i:Int)+(m:Int)*1).toNat]?).toArray=((xs.toList.drop i).take k).toArray:=by
 have e:(fun(m:Nat)=>xs[((i:Int)+(m:Int)*1).toNat]?)=fun m=>xs[i+m]? :=by
  funext m
  have:((i:Int)+(m:Int)*1).toNat=i+m:=by omega
  rw[this]
 rw[e]
 have:=pick_run xs i k
 rw[List.filterMap_map] at this
 have e2:((fun x=>xs[x]?) ∘ fun x=>i+x)=fun m=>xs[i+m]? :=rfl
 rw[e2] at this
 rw[this]
theorem q2z {t sl:Addr}{items:Array Value}{vl vu:Value}{lo hi:Option Int}{Q:Value->Shared->Prop}(ht:IsTup s.heap t items)(hs:s.heap.IsSliceOf sl vl vu .none)(pl:IsPart vl lo)(pu:IsPart vu hi)
  (hw:¬(sIx items.size 0 lo=0/\sIx items.size items.size hi=items.size))
  (h:Q (.ref s.heap.objs.size) {s with heap:=s.heap.push {cls:= .type "tuple",data:= .seq ((items.toList.drop (sIx items.size 0 lo)).take (sIx items.size items.size hi - sIx items.size 0 lo)).toArray}})
  (hsz:items.size<=sizeLine):wpAny (model prog w) A (getItem (.ref t) (.ref sl)) Q E s:=by
 have htake:sizeOk (.seq ((items.toList.drop (sIx items.size 0 lo)).take (sIx items.size items.size hi - sIx items.size 0 lo)).toArray):=by
  show((items.toList.drop (sIx items.size 0 lo)).take (sIx items.size items.size hi - sIx items.size 0 lo)).toArray.size<=sizeLine
  rw[List.size_toArray,List.length_take,List.length_drop,Array.length_toList]
  omega
 have hj:sIx items.size items.size hi<=items.size:=sIx_le _ _ (Nat.le_refl _) hi
 obtain⟨os,hos,hcs,hds⟩:=id hs
 have hTs:s.TypeIs (.ref sl) "slice":=⟨os,hos,hcs⟩
 unfold getItem
 try with_reducible refine wpAny_holding ?_
 first|refine wpAny_bind (wpAny_pure ?_)|skip
 refine wpAny_bind (wpAny_sequenceKey ht.typeIs (by decide) ?_)
 refine wpAny_bind (wpAny_callSpecial?_slot (name:=Str.ofString "__getitem__") ht.typeIs PyProof.Rows.slot_tuple_getitem
  (wpAny_call_entry PyProof.Rows.slot_tuple_getitem ht.typeIs entry_tuple_getitem ?_ (args_tuple_getitem _ _)))
 show wpAny _ _ (Builtin.Tuple.tupleItemsOf (.ref t) >>= _) _ _ s
 refine wpAny_bind (tupleItemsOf_ ht ?_)
 refine wpAny_bind (wpAny_typeOf hTs ?_)
 rw[if_pos (by decide)]
 refine wpAny_bind (q1E hs pl pu ?_)
 have hno:¬((((sIx items.size 0 lo:Nat):Int)==0&&(1:Int)==1&&(sIx items.size items.size hi - sIx items.size 0 lo)==items.size)=true):=by
  intro q
  rw[Bool.and_eq_true,Bool.and_eq_true] at q
  have q1:((sIx items.size 0 lo:Nat):Int)=0:=eq_of_beq q.1.1
  have q2:sIx items.size items.size hi - sIx items.size 0 lo=items.size:=eq_of_beq q.2
  exact hw ⟨by omega,by omega⟩
 show wpAny _ _ (if (((sIx items.size 0 lo:Nat):Int)==0&&(1:Int)==1&&(sIx items.size items.size hi - sIx items.size 0 lo)==items.size)=true then _ else _) _ _ s
 rw[if_neg hno,q8S]
 first
  |exact wpAny_bind (m:=Builtin.Tuple.tupleExact _) (wpAny_newObj_type (wpAny_pure ⟨_,rfl,wpAny_pure h⟩) htake)
  |exact wpAny_bind (m:=Builtin.Tuple.tupleExact _) (wpAny_newObj_type (wpAny_bind (wpAny_pure (wpAny_pure ⟨_,rfl,wpAny_pure h⟩))) htake)
  |exact wpAny_bind (wpAny_bind (m:=Builtin.Tuple.tupleExact _) (wpAny_newObj_type (wpAny_pure (wpAny_pure ⟨_,rfl,wpAny_pure h⟩)) htake))
  |exact wpAny_bind (wpAny_bind (m:=Builtin.Tuple.tupleExact _) (wpAny_newObj_type (wpAny_pure ⟨_,rfl,wpAny_pure h⟩) htake))
end
end HT
namespace L2
open PySem PySem.Spec PyProof.Rows
abbrev TO:=St->Hp->(Option Int->Hp->Prop)->Prop
def PO (X:Cx)(e:Option Expr)(t:TO):Prop:=
 ∀(pins:List (Addr×Obj)) (s:Shared) (σ:St) (H:Hp) (Q:Option Int->Hp->Prop),Inv X pins σ H s->t σ H Q->
  wpAny (model X.prog X.w) X.A (evalPart e X.env) (fun u s'=>∃o H',Inv X pins σ H' s'/\IsPart u o/\Q o H') X.xe s
def q70:TO:=fun _ H Q=>Q none H
def tPart (t:TE):TO:=fun σ H Q=>t σ H fun x H1=>∃i,x= .int i/\Q (some i) H1
theorem q3J {ns:List Int}:∀{us:List Value},Vals (ns.map V.int) us->IntsAre us ns:=by
 induction ns with
 |nil=>intro us r;rw[List.map_nil] at r;cases r;exact .nil
 |cons n ns ih=>
  intro us r
  rw[List.map_cons] at r
  cases r with
  |cons r1 r2=>
   obtain⟨t,e⟩:=r1
   subst e
   exact .cons n t (ih r2)
section
variable {X:Cx}{e:Expr}{te:TE}{lo hi:Option Expr}{tl th:TO}{pos p2:Pos}
theorem q44:PO X none q70:=by
 intro pins s σ H Q I h
 rw[evalPart_none]
 exact wpAny_pure ⟨none,H,I,.none,h⟩
theorem q43 (h:PE X e te):PO X (some e) (tPart te):=by
 intro pins s σ H Q I hw
 rw[evalPart_some]
 refine thn (h pins s σ H _ I hw) fun u s1 ⟨x,H1,I1,r1,q1⟩=>?_
 obtain⟨i,rfl,q⟩:=q1
 obtain⟨t,rfl⟩:=r1
 exact⟨some i,H1,I1,.int i t,q⟩
def SlR (X:Cx)(r:V->Option Int->Option Int->Hp->VK->Prop):Prop:=
 ∀(pins:List (Addr×Obj)) (s:Shared) (σ:St) (H:Hp) (x:V) (v vl vu:Value) (lo hi:Option Int) (sl:Addr) (Q:VK),Inv X pins σ H s->RelV x v->s.heap.IsSliceOf sl vl vu .none->IsPart vl lo->IsPart vu hi->r x lo hi H Q->
  ∃T id,typeLookup (.type T) "__getitem__"=pure (some (.builtin id))/\s.TypeIs v T/\wpAny (model X.prog X.w) X.A (getItem v (.ref sl)) (EP X pins σ Q) X.xe s
def tSl (r:V->Option Int->Option Int->Hp->VK->Prop)(te:TE)(tl th:TO):TE:=fun σ H Q=>te σ H fun x H1=>tl σ H1 fun l H2=>th σ H2 fun u H3=>r x l u H3 Q
theorem q31 {r:V->Option Int->Option Int->Hp->VK->Prop}(hr:SlR X r)(he:PE X e te)(hl:PO X lo tl)(hu:PO X hi th):PE X (.Subscript e (.Slice lo hi none p2) pos) (tSl r te tl th):=by
 intro pins s σ H Q I h
 refine Subscript_ (thn (he pins s σ H _ I h) fun v s1 ⟨x,H1,I1,r1,q1⟩=>?_)
 refine wpAny_Slice (thn (hl pins s1 σ H1 _ I1 q1) fun vl s2 ⟨l,H2,I2,pl,q2⟩=>thn (hu pins s2 σ H2 _ I2 q2) fun vu s3 ⟨u,H3,I3,pu,q3⟩=>?_)
 rw[evalPart_none]
 refine wpAny_pure ?_
 have I4:Inv X pins σ H3 {s3 with heap:=s3.heap.push {cls:= .type "slice",data:= .fields #[vl,vu,.none]}}:=I3.kept (t':=s3.toks) fun b ob q=>Heap.get?_push_of_some _ q
 obtain⟨T,id,hT,ht,hg⟩:=hr pins {s3 with heap:=s3.heap.push {cls:= .type "slice",data:= .fields #[vl,vu,.none]}} σ H3 x v vl vu l u s3.heap.objs.size Q I4 r1 (Heap.IsSliceOf.new ..) pl pu q3
 show wpAny (model X.prog X.w) X.A (subscriptTail e (.Slice lo hi none p2) v (.ref s3.heap.objs.size)) (EP X pins σ Q) X.xe {s3 with heap:=s3.heap.push {cls:= .type "slice",data:= .fields #[vl,vu,.none]}}
 exact tail_any (ops:=[.ref s3.heap.objs.size,v]) ht hT hg (by with_unfolding_all rfl)
def cutV (xs:List V)(lo hi:Option Int):List V:=(xs.drop (HT.sIx xs.length 0 lo)).take (HT.sIx xs.length xs.length hi - HT.sIx xs.length 0 lo)
theorem q5M (xs:List V)(lo hi:Option Int):(cutV xs lo hi).length<=xs.length:=by
 unfold cutV
 rw[List.length_take,List.length_drop]
 omega
def rSlT (K:PySem.W.Frag):V->Option Int->Option Int->Hp->VK->Prop:=fun x lo hi H Q=>∃a xs,x= .ref a/\SqT K H a xs/\
 ¬(HT.sIx xs.length 0 lo=0/\HT.sIx xs.length xs.length hi=xs.length)/\∀p,H p=none->Q (.ref p) (upd H p (.tup (cutV xs lo hi)))
theorem sl_tup:SlR X (rSlT X.K):=by
 intro pins s σ H x v vl vu lo hi sl Q I rx hs pl pu h
 obtain⟨a,xs,rfl,hx,hw,q⟩:=h
 cases rx
 obtain⟨its,r,ht,hz⟩:=I.tuple hx
 have hlen:its.toArray.size=xs.length:=by rw[List.size_toArray];exact r.length.symm
 refine⟨"tuple",_,PyProof.Rows.slot_tuple_getitem.lookup,ht.typeIs,?_⟩
 refine HT.q2z ht hs pl pu (by rw[hlen];exact hw) ?_ (by rw[hlen];exact hz)
 rw[hlen]
 refine⟨.ref s.heap.objs.size,_,I.laid (t':=s.toks) (o:= .tup (cutV xs lo hi)) (fun b ob q=>Heap.get?_push_of_some _ q) (Nat.le_refl _) ?_,rfl,q _ (I.hok.fresh (Nat.le_refl _))⟩
 exact⟨Nat.le_trans (q5M xs lo hi) hz,_,(r.drop (HT.sIx xs.length 0 lo)).take (HT.sIx xs.length xs.length hi - HT.sIx xs.length 0 lo),IsTup.new _ _⟩
def qap (K:PySem.W.Frag):R2:=fun x y H Q=>∃a b xs ys,x= .ref a/\y= .ref b/\SqT K H a xs/\SqT K H b ys/\xs≠[]/\xs.length+ys.length<=sizeLine/\
 (ys=[]->Q (.ref a) H)/\(ys≠[]->∀p,H p=none->Q (.ref p) (upd H p (.tup (xs++ys))))
theorem Vals.nil_iff {xs:List V}{us:List Value}(r:Vals xs us):us=[]↔xs=[]:=by
 cases r with
 |nil=>simp
 |cons _ _=>simp
theorem q7u:OpR X (binaryOp .Add) (qap X.K):=by
 intro pins s σ H x y v u Q I rx ry h
 obtain⟨a,b,xs,ys,rfl,rfl,ha,hb,hx,hz,q1,q2⟩:=h
 cases rx
 cases ry
 obtain⟨its,r1,p1,_⟩:=I.tuple ha
 obtain⟨its2,r2,p2,_⟩:=I.tuple hb
 refine HT.qbp p1 p2 (fun z=>hx (r1.nil_iff.mp z)) (fun z=>⟨.ref a,H,I,rfl,q1 (r2.nil_iff.mp z)⟩) (fun z=>?_) (by rw[<-r1.length,<-r2.length];exact hz)
 refine⟨.ref s.heap.objs.size,_,I.laid (t':=s.toks) (o:= .tup (xs++ys)) (fun b ob q=>Heap.get?_push_of_some _ q) (Nat.le_refl _) ?_,rfl,q2 (fun w=>z (r2.nil_iff.mpr w)) _ (I.hok.fresh (Nat.le_refl _))⟩
 exact⟨by rw[List.length_append];exact hz,_,r1.append r2,IsTup.new _ _⟩
end
end L2
namespace L2
open PySem PySem.Spec PyProof.Rows
def ixN (n:Nat)(i:Int):Option Nat:=if 0<=i then(if i<n then some i.toNat else none) else if -(n:Int)<=i then some (i+n).toNat else none
def atI {α:Type}(xs:List α)(i:Int):Option α:=(ixN xs.length i).bind fun j=>xs[j]?
theorem q7K {n:Nat}{i:Int}{j:Nat}(h:ixN n i=some j):seqIndex? i n=some j/\j<n/\ -(n:Int)<=i/\i<n:=by
 unfold ixN at h
 by_cases h0:0<=i
 ·rw [if_pos h0] at h
  by_cases h1:i<n
  ·rw [if_pos h1] at h
   have e:i.toNat=j:=Option.some.inj h
   exact⟨by rw[seqIndex_of h0 h1,e],by omega,by omega,h1⟩
  ·rw [if_neg h1] at h;cases h
 ·rw [if_neg h0] at h
  by_cases h1: -(n:Int)<=i
  ·rw [if_pos h1] at h
   have e:(i+n).toNat=j:=Option.some.inj h
   exact⟨by rw[seqIndex_neg (by omega) h1,e],by omega,h1,by omega⟩
  ·rw [if_neg h1] at h;cases h
theorem q5V {α:Type}{xs:List α}{i:Int}{v:α}(h:atI xs i=some v):∃j,seqIndex? i xs.length=some j/\xs[j]? =some v/\j<xs.length/\ -(xs.length:Int)<=i/\i<xs.length:=by
 unfold atI at h
 cases e:ixN xs.length i with
 |none=>rw[e] at h;cases h
 |some j=>
  rw[e] at h
  obtain⟨h1,h2,h3,h4⟩:=q7K e
  exact⟨j,h1,h,h2,h3,h4⟩
theorem q0i {α:Type}{xs:List α}{j:Nat}{v:α}(h:xs[j]? =some v):atI xs (j:Int)=some v:=by
 have hj:j<xs.length:=(List.getElem?_eq_some_iff.mp h).1
 have e:ixN xs.length (j:Int)=some j:=by
  unfold ixN
  rw[if_pos (by omega),if_pos (by omega)];simp
 unfold atI;rw[e];exact h
def qbt (b:Expr):Prop:=∀o i,subscripted b false o i=operate [o,i] (getItem o i)
def IxR (X:Cx)(r:R2):Prop:=
 ∀(value slice:Expr) (pins:List (Addr×Obj)) (s:Shared) (σ:St) (H:Hp) (x y:V) (v u:Value) (Q:VK),Inv X pins σ H s->RelV x v->RelV y u->r x y H Q->
  subscripted slice false v u=operate [v,u] (getItem v u)->wpAny (model X.prog X.w) X.A (subscriptTail value slice v u) (EP X pins σ Q) X.xe s
def MtR (X:Cx)(id:String)(r:V->List V->Hp->VK->Prop):Prop:=
 ∀(pins:List (Addr×Obj)) (s:Shared) (σ:St) (H:Hp) (x:V) (xs:List V) (v:Value) (us:List Value) (Q:VK),Inv X pins σ H s->RelV x v->Vals xs us->r x xs H Q->
  wpAny (model X.prog X.w) X.A (call (.builtin id) (v::us)) (EP X pins σ Q) X.xe s
section
variable {X:Cx}{a b:Expr}{ta tb:TE}{pos:Pos}
theorem qq {r:R2}(hr:IxR X r)(ha:PE X a ta)(hb:PE X b tb)(hs:qbt b):PE X (.Subscript a b pos) (tOp r ta tb):=by
 intro pins s σ H Q I h
 exact Subscript_ (binT ha hb I h fun v u s2 x y H2 I2 rx ry q=>hr a b pins s2 σ H2 x y v u Q I2 rx ry q (hs _ _))
def rIxL (K:PySem.W.Frag):R2:=fun x y H Q=>∃p xs i v,x= .ref p/\y= .int i/\SqL K H p xs/\atI xs i=some v/\Q v H
def rIxT (K:PySem.W.Frag):R2:=fun x y H Q=>∃p xs i v,x= .ref p/\y= .int i/\SqT K H p xs/\atI xs i=some v/\Q v H
theorem qb5:IxR X (rIxL X.K):=by
 intro value slice pins s σ H x y v u Q I rx ry h hs
 obtain⟨p,xs,i,z,rfl,rfl,hq,he,q⟩:=h
 cases rx
 obtain⟨t,rfl⟩:=ry
 obtain⟨its,r,pl,hz⟩:=I.list hq
 obtain⟨j,h1,h2,h3,h4,h5⟩:=q5V he
 obtain⟨w,ew,rw'⟩:=r.get h2
 have hl:=r.length
 have hn:=q57
 have fin:EP X pins σ Q w s:=⟨z,H,I,rw',q⟩
 by_cases h0:0<=i
 ·have hj:i.toNat=j:=by
   rw[seqIndex_of h0 h5] at h1
   exact Option.some.inj h1
  exact item_listR pl.isList h0 (by omega) (by rw[hj];simpa using ew) fin hs
 ·have hj:(i+(its.toArray.size:Int)).toNat=j:=by
   rw[seqIndex_neg (by omega) h4] at h1
   rw[List.size_toArray,<-hl]
   exact Option.some.inj h1
  exact subscriptTail_builtinR (x:=w) pl.isList.typeIs slot_list_getitem.lookup
   (wpAny_getItem_list_neg (Q:=fun r s'=>r=w/\EP X pins σ Q r s') pl.isList (by omega) (by rw[List.size_toArray]<;>omega) (by omega) (by rw[hj];simpa using ew) ⟨rfl,fin⟩) hs
theorem ix_tup:IxR X (rIxT X.K):=by
 intro value slice pins s σ H x y v u Q I rx ry h hs
 obtain⟨p,xs,i,z,rfl,rfl,hq,he,q⟩:=h
 cases rx
 obtain⟨t,rfl⟩:=ry
 obtain⟨its,r,pl,hz⟩:=I.tuple hq
 obtain⟨j,h1,h2,h3,h4,h5⟩:=q5V he
 obtain⟨w,ew,rw'⟩:=r.get h2
 have hl:=r.length
 have hn:=q57
 have fin:EP X pins σ Q w s:=⟨z,H,I,rw',q⟩
 exact subscriptTail_builtinR (x:=w) pl.typeIs slot_tuple_getitem.lookup
  (getItem_tuple (j:=j) (Q:=fun r s'=>r=w/\EP X pins σ Q r s') pl (by omega) (by omega) (by rw[List.size_toArray,<-hl];exact h1) (by simpa using ew) ⟨rfl,fin⟩) hs
theorem q6M (its:List Value)(n j:Nat)(u:Value):Obj.mapSeq (·.setIfInBounds j u) {cls:= .type "list",data:= .seq its.toArray n}={cls:= .type "list",data:= .seq (its.set j u).toArray n}:=by
 simp[Obj.mapSeq]
theorem Inv.lst {pins:List (Addr×Obj)}{σ:St}{H:Hp}{s:Shared}{p:Addr}{xs:List V}(I:Inv X pins σ H s)(h:H p=some (.lst xs)):
  ∃(its:List Value) (n:Nat),Vals xs its/\s.heap.get? p=some {cls:= .type "list",data:= .seq its.toArray n}/\xs.length<=sizeLine:=by
 obtain⟨z,its,n,r,e⟩:=I.hok p _ h
 exact⟨its,n,r,e,z⟩
theorem Inv.lstUpd {pins:List (Addr×Obj)}{σ:St}{H:Hp}{s:Shared}{p:Addr}{xs ys:List V}{its its':List Value}{n n':Nat}{f:Obj->Obj}(I:Inv X pins σ H s)(h:H p=some (.lst xs))
  (ho:s.heap.get? p=some {cls:= .type "list",data:= .seq its.toArray n})(hf:f {cls:= .type "list",data:= .seq its.toArray n}={cls:= .type "list",data:= .seq its'.toArray n'})(r:Vals ys its')(hz:ys.length<=sizeLine)(t:Nat):
  Inv X pins σ (upd H p (.lst ys)) {s with heap:=s.heap.update p f,toks:=t}:=by
 have e:(s.heap.update p f).get? p=some {cls:= .type "list",data:= .seq its'.toArray n'}:=by
  rw[Heap.get?_update_self f ho (by rw[hf]<;>rfl),hf]
 refine I.write (x:=p) (e:=p) (by rw[h];trivial) (.inl rfl) (fun b u hb q=>(Heap.get?_update_other _ _ (Ne.symm hb)).trans q) ⟨_,e⟩ ?_
 exact⟨hz,its',n',r,e⟩
def rSetL:V->V->V->Hp->(Hp->Prop)->Prop:=fun o i v H Q=>∃p xs k j,o= .ref p/\i= .int k/\H p=some (.lst xs)/\ixN xs.length k=some j/\Q (upd H p (.lst (xs.set j v)))
theorem q2W:PSet X rSetL:=by
 intro pins s σ H o i v ov iv u Q I ro ri rv h
 obtain⟨p,xs,k,j,rfl,rfl,hp,hj,q⟩:=h
 cases ro
 obtain⟨t,rfl⟩:=ri
 obtain⟨its,n,r,ho,hz⟩:=I.lst hp
 obtain⟨h1,h2,h3,h4⟩:=q7K hj
 have hl:=r.length
 have hn:=q57
 have I':Inv X pins σ (upd H p (.lst (xs.set j v))) {s with heap:=s.heap.update p (Obj.mapSeq (·.setIfInBounds j u))}:=
  I.lstUpd hp ho (q6M its n j u) (r.set rv j) (by rw[List.length_set];exact hz) s.toks
 by_cases h0:0<=k
 ·have hk:k.toNat=j:=by
   rw[seqIndex_of h0 h4] at h1
   exact Option.some.inj h1
  exact PySem.W.ki_setAt ho h0 (by omega) (by rw[List.size_toArray,<-hl];exact h4) (by rw[hk];exact⟨_,I',q⟩)
 ·have hk:(k+(its.toArray.size:Int)).toNat=j:=by
   rw[seqIndex_neg (by omega) h3] at h1
   rw[List.size_toArray,<-hl]
   exact Option.some.inj h1
  exact PySem.W.ki_setBack ho (by omega) (by rw[List.size_toArray,<-hl];exact h3) (by omega) (by rw[hk];exact⟨_,I',q⟩)
def q0Q:V->Bool
 | .non=>true
 | .bl _=>true
 | .int _=>true
 | .str _=>true
 |_=>false
def eqV:V->V->Bool
 | .non,.non=>true
 | .bl a,.bl b=>a==b
 | .bl a,.int b=>(if a then 1 else 0)==b
 | .int a,.bl b=>a==(if b then 1 else 0)
 | .int a,.int b=>a==b
 | .str a,.str b=>a==b
 |_,_=>false
theorem q6j {A:Around}{s:Shared}{y x:V}{u v:Value}(ry:RelV y u)(rx:RelV x v)(fy:q0Q y=true)(fx:q0Q x=true):SeqAt.EqAt A s u v (eqV y x):=by
 cases y with
 |non=>
  cases ry
  cases x with
  |non=>cases rx;exact SeqAt.EqAt.same _
  |bl b=>cases rx;exact SeqAt.EqAt.none_bool b
  |int b=>obtain⟨t,rfl⟩:=rx;exact SeqAt.EqAt.none_int b t
  |str b=>obtain⟨t,rfl⟩:=rx;exact SeqAt.EqAt.none_str b t
  |_=>exact absurd (show false=true from fx) Bool.false_ne_true
 |bl a=>
  cases ry
  cases x with
  |non=>cases rx;exact SeqAt.EqAt.bool_none a
  |bl b=>cases rx;exact SeqAt.EqAt.bool_bool a b
  |int b=>obtain⟨t,rfl⟩:=rx;exact SeqAt.EqAt.bool_int a b t
  |str b=>obtain⟨t,rfl⟩:=rx;exact SeqAt.EqAt.bool_str a b t
  |_=>exact absurd (show false=true from fx) Bool.false_ne_true
 |int a=>
  obtain⟨t',rfl⟩:=ry
  cases x with
  |non=>cases rx;exact SeqAt.EqAt.int_none a t'
  |bl b=>cases rx;exact SeqAt.EqAt.int_bool a t' b
  |int b=>obtain⟨t,rfl⟩:=rx;exact SeqAt.EqAt.int_int a t' b t
  |str b=>obtain⟨t,rfl⟩:=rx;exact SeqAt.EqAt.int_str a t' b t
  |_=>exact absurd (show false=true from fx) Bool.false_ne_true
 |str a=>
  obtain⟨t',rfl⟩:=ry
  cases x with
  |non=>cases rx;exact SeqAt.EqAt.str_none a t'
  |bl b=>cases rx;exact SeqAt.EqAt.str_bool a t' b
  |int b=>obtain⟨t,rfl⟩:=rx;exact SeqAt.EqAt.str_int a t' b t
  |str b=>obtain⟨t,rfl⟩:=rx;exact SeqAt.EqAt.str_str a t' b t
  |_=>exact absurd (show false=true from fx) Bool.false_ne_true
 |_=>exact absurd (show false=true from fy) Bool.false_ne_true
theorem q5f:q2F X (.builtin "len") (fun xs H Q=>∃p ys,xs=[.ref p]/\(SqL X.K H p ys\/SqT X.K H p ys)/\Q (.int ys.length) H):=by
 intro pins s σ H xs us Q I r h
 obtain⟨p,ys,rfl,hq,q⟩:=h
 obtain⟨u,rfl,rx⟩:=q6v r
 cases rx
 have hn:=q57
 rcases hq with hq|hq
 ·obtain ⟨its,r',pl,hz⟩:=I.list hq
  have hlen:=r'.length
  exact Calls.call_len_list pl.isList (by simp only[List.size_toArray]<;>omega) ⟨.int ys.length,H,I.tok _,⟨s.toks+1,by rw[List.size_toArray,hlen]⟩,q⟩
 ·obtain ⟨its,r',pl,hz⟩:=I.tuple hq
  have hlen:=r'.length
  exact len_tuple pl (by simp only[List.size_toArray]<;>omega) ⟨.int ys.length,H,I.tok _,⟨s.toks+1,by rw[List.size_toArray,hlen]⟩,q⟩
theorem q5e:q2F X (.type "list") (fun xs H Q=>∃p ys,xs=[.ref p]/\(SqL X.K H p ys\/SqT X.K H p ys)/\∀l,H l=none->Q (.ref l) (upd H l (.lst ys))):=by
 intro pins s σ H xs us Q I r h
 obtain⟨p,ys,rfl,hq,q⟩:=h
 obtain⟨u,rfl,rx⟩:=q6v r
 cases rx
 have fin:∀(its:List Value),Vals ys its->ys.length<=sizeLine->∀(h':Heap) (c':Nat),(∀b o',s.heap.get? b=some o'->h'.get? b=some o')->
   h'.get? s.heap.objs.size=some {cls:= .type "list",dict:=none,data:= .seq its.toArray c',slots:= #[]}->EP X pins σ Q (.ref s.heap.objs.size) {s with heap:=h'}:=fun its r' hz h' c' kp e=>
  ⟨.ref s.heap.objs.size,_,I.laid (t':=s.toks) kp (Nat.le_refl _) (show q0l X.prog X.w _ h' _ (.lst ys) from⟨hz,its,c',r',e⟩),rfl,q _ (I.hok.fresh (Nat.le_refl _))⟩
 rcases hq with hq|hq
 ·obtain ⟨its,r',pl,hz⟩:=I.list hq
  have hlen:=r'.length
  obtain⟨o,ho,hc,n,hd⟩:=pl.isList
  exact call_list_seq p (.inl rfl) ho hc hd (fun h' c' kp e=>fin its r' hz h' c' kp e) (by simp only[List.size_toArray]<;>omega)
 ·obtain ⟨its,r',pl,hz⟩:=I.tuple hq
  have hlen:=r'.length
  obtain⟨o,ho,hc,n,hd⟩:=pl
  exact call_list_seq p (.inr rfl) ho hc hd (fun h' c' kp e=>fin its r' hz h' c' kp e) (by simp only[List.size_toArray]<;>omega)
theorem q4h:q2F X (.type "tuple") (fun xs H Q=>∃p ys,xs=[.ref p]/\((SqL X.K H p ys/\∀l,H l=none->Q (.ref l) (upd H l (.tup ys)))\/(SqT X.K H p ys/\Q (.ref p) H))):=by
 intro pins s σ H xs us Q I r h
 obtain⟨p,ys,rfl,h⟩:=h
 obtain⟨u,rfl,rx⟩:=q6v r
 cases rx
 rcases h with⟨hq,q⟩|⟨hq,q⟩
 ·obtain ⟨its,r',pl,hz⟩:=I.list hq
  have hlen:=r'.length
  refine call_tuple_list pl.isList (fun h' kp=>?_) (by simp only[List.size_toArray]<;>omega)
  have I1:Inv X pins σ H {s with heap:=h'}:=I.kept (t':=s.toks) kp
  have I2:Inv X pins σ (upd H h'.objs.size (.tup ys)) {s with heap:=h'.push {cls:= .type "tuple",data:= .seq its.toArray}}:=
   I1.laid (t':=s.toks) (fun b o e=>Heap.get?_push_of_some _ e) (Nat.le_refl _) (show q0l X.prog X.w _ _ _ (.tup ys) from⟨hz,its,r',IsTup.new _ _⟩)
  exact⟨.ref h'.objs.size,_,I2,rfl,q _ (I1.hok.fresh (Nat.le_refl _))⟩
 ·obtain ⟨its,r',pl,hz⟩:=I.tuple hq
  exact call_tuple_same pl ⟨.ref p,H,I,rfl,q⟩
def tyV (K:PySem.W.Frag)(T:String)(x:V)(H:Hp):Prop:=match x with
 | .str _=>T="str"
 | .int _=>T="int"
 | .ref p=>(T="list"/\∃xs,SqL K H p xs)\/(T="tuple"/\∃o,K.lookup p=some o/\o.cls= .type "tuple"/\o.dict=none)\/
   (T="dict"/\((∃kvs,H p=some (.dK kvs))\/∃kvs,H p=some (.dT kvs)))\/(T="set"/\∃S n,H p=some (.set S n))
 |_=>False
theorem tyV_is {pins:List (Addr×Obj)}{σ:St}{H:Hp}{s:Shared}{T:String}{x:V}{v:Value}(I:Inv X pins σ H s)(r:RelV x v)(ty:tyV X.K T x H):
  s.TypeIs v T/\∀a,v= .ref a->∃ob,s.heap.get? a=some ob/\ob.dict=none:=by
 cases x with
 |str z=>
  obtain⟨t,rfl⟩:=r
  cases(show T="str" from ty)
  exact⟨typeIs_str s z t,fun _ e=>nomatch e⟩
 |int i=>
  obtain⟨t,rfl⟩:=r
  cases(show T="int" from ty)
  exact⟨typeIs_int s i t,fun _ e=>nomatch e⟩
 |ref p=>
  cases r
  rcases ty with⟨rfl,xs,hq⟩|⟨rfl,o,hk,hc,hd⟩|⟨rfl,hk⟩|⟨rfl,S,n,hk⟩
  ·obtain ⟨its,_,pl,_⟩:=I.list hq
   refine⟨pl.isList.typeIs,fun a e=>?_⟩
   cases e
   obtain⟨o,n,e,c,hd,_⟩:=pl
   exact⟨o,e,hd⟩
  ·refine ⟨⟨o,I.kIn p o hk,hc⟩,fun a e=>?_⟩
   cases e
   exact⟨o,I.kIn _ o hk,hd⟩
  ·have z:∃o,s.heap.get? p=some o/\o.ExactDict:=by
    rcases hk with⟨kvs,hk⟩|⟨kvs,hk⟩
    ·obtain ⟨_,_,_,_,o,_,_,e,ex,_⟩:=I.hok p _ hk
     exact⟨o,e,ex⟩
    ·obtain ⟨_,_,_,_,o,_,_,e,ex,_⟩:=I.hok p _ hk
     exact⟨o,e,ex⟩
   obtain⟨o,e,ex⟩:=z
   refine⟨⟨o,e,ex.1⟩,fun a e2=>?_⟩
   cases e2
   exact⟨o,e,ex.2.1⟩
  ·obtain ⟨o,_,_,_,e,ex,_⟩:=I.hok p _ hk
   refine⟨⟨o,e,ex.1⟩,fun a e2=>?_⟩
   cases e2
   exact⟨o,e,ex.2.1⟩
 |_=>exact False.elim ty
def tBM (K:PySem.W.Frag)(T:String)(r:V->List V->Hp->VK->Prop)(to:TE)(t:TA):TE:=fun σ H Q=>to σ H fun x H1=>tyV K T x H1/\t σ H1 fun xs H2=>r x xs H2 Q
variable {o e:Expr}{es:List Expr}{to:TE}{t:TA}{name:Str}{apos cpos:Pos}{T id:String}{r:V->List V->Hp->VK->Prop}
theorem q2q (pa:PlainAttrs T)(slot:Slot T name id)(hty:typeOf (.builtin id)=pure (.type "method_descriptor"))(hm:MtR X id r)(ho:PE X o to)(ha:PA X (e::es) t)
  (hbase:attributeBase o name X.env (eval o X.env)=eval o X.env:=by rfl)
  (hfew:((backTo cpos (starEach (e::es) X.env)).all (fun x=> !x.1)&&(backToKw cpos (keywordEach [] X.env)).all (fun x=>x.1.isSome)
   &&decide ((e::es).length+([]:List Keyword).length+(if ([]:List Keyword).isEmpty then 0 else 1)<30))=true:=by rfl)
  (hline:(apos.endLine==cpos.line)=true:=by rfl)(hs:starEach (e::es) X.env=(false,eval e X.env)::starEach es X.env:=by rfl)(hplain:(backTo cpos (starEach es X.env)).any (·.1)=false:=by rfl):
  PE X (.Call (.Attribute o name apos) (e::es) [] cpos) (tBM X.K T r to t):=by
 intro pins s σ H Q I h
 refine wpAny_Call_method_late hbase hfew hline rfl (thn (ho pins s σ H _ I h) fun v s1 ⟨x,H1,I1,r1,ty,q1⟩=>?_)
 obtain⟨h1,h2⟩:=tyV_is I1 r1 ty
 refine⟨T,id,pa,slot,hty,h1,h2,?_⟩
 have hA:=ha cpos pins s1 σ H1 _ I1 q1
 rw[hs] at hA ⊢
 refine Calls.callWith_builtin (by show(false||(backTo cpos (starEach es X.env)).any (·.1))=false;rw[hplain]<;>rfl) (Calls.evalArgs_plain ?_)
 exact thn hA fun us s2 ⟨vs,H2,I2,r2,q2⟩=>hm pins s2 σ H2 x vs v us Q I2 r1 r2 q2
end
end L2
namespace L2
open PySem PySem.Spec PyProof.Rows
def MtM (X:Cx)(id:String)(r:V->List V->Hp->VK->Prop):Prop:=
 ∀(pins:List (Addr×Obj)) (s:Shared) (σ:St) (H:Hp) (x:V) (xs:List V) (v:Value) (us:List Value) (Q:VK),Inv X pins σ H s->RelV x v->Vals xs us->r x xs H Q->
  wpAny (model X.prog X.w) X.A (call (.builtin id) (v::us)) (EP X pins σ Q) X.xe s
theorem Vals.one:∀{x:V} {us:List Value},Vals [x] us->∃u,us=[u]/\RelV x u
 |_,_,.cons r .nil=>⟨_,rfl,r⟩
theorem Vals.eraseIdx:∀{xs:List V} {us:List Value} (i:Nat),Vals xs us->Vals (xs.eraseIdx i) (us.eraseIdx i)
 |_,_,_,.nil=> .nil
 |_,_,0,.cons _ t=>t
 |_,_,i+1,.cons r t=> .cons r (Vals.eraseIdx i t)
theorem Vals.rep {xs:List V}{us:List Value}(h:Vals xs us):∀k:Nat,Vals (List.replicate k xs).flatten (List.replicate k us).flatten
 |0=> .nil
 |k+1=>by
  rw[List.replicate_succ,List.replicate_succ,List.flatten_cons,List.flatten_cons]
  exact Vals.append h (Vals.rep h k)
theorem q58 {α:Type}:∀(l:List α) (i:Nat),(l.eraseIdx i).length<=l.length
 |[],_=>Nat.le_refl _
 |_::_,0=>Nat.le_succ _
 |_::r,i+1=>Nat.succ_le_succ (q58 r i)
theorem q5b (its:List Value):∀(k:Nat) (acc:List Value),
  List.foldl (fun x1 x2=>x1++x2) acc.toArray (List.replicate k its.toArray)=(acc++(List.replicate k its).flatten).toArray
 |0,acc=>by simp
 |k+1,acc=>by
  have e:acc.toArray++its.toArray=(acc++its).toArray:=by simp
  have e2:(acc++its)++(List.replicate k its).flatten=acc++(List.replicate (k+1) its).flatten:=by
   rw[List.replicate_succ,List.flatten_cons,List.append_assoc]
  rw[<-e2,<-q5b its k (acc++its),<-e,List.replicate_succ,List.foldl_cons]
section
variable {X:Cx}{pins:List (Addr×Obj)}{σ:St}{H:Hp}{s:Shared}{l b:Addr}{xs ys zs:List V}
theorem Inv.lset {its its':List Value}{n:Nat}{f:Array Value->Array Value}{t':Nat}(I:Inv X pins σ H s)(hH:H l=some (.lst xs))
  (e:s.heap.get? l=some {cls:= .type "list",data:= .seq its.toArray n})(hf:f its.toArray=its'.toArray)(hv:Vals ys its')(hz:ys.length<=sizeLine):
  Inv X pins σ (upd H l (.lst ys)) {s with heap:=s.heap.update l (Obj.mapSeq f),toks:=t'}:=by
 have q:=PySem.IsL.update e f
 rw[hf] at q
 refine I.write (x:=l) (e:=l) (by rw[hH];exact trivial) (.inl rfl) (fun b' u hb hu=>(Heap.get?_update_other s.heap (Obj.mapSeq f) (Ne.symm hb)).trans hu) ⟨_,q⟩ ?_
 exact⟨hz,its',_,hv,q⟩
theorem Inv.lnew {its:List Value}{t':Nat}(I:Inv X pins σ H s)(hv:Vals ys its)(hz:ys.length<=sizeLine):
  Inv X pins σ (upd H s.heap.objs.size (.lst ys)) {s with heap:=s.heap.push {cls:= .type "list",data:= .seq its.toArray},toks:=t'}:=
 I.laid (fun _ _ q=>Heap.get?_push_of_some _ q) (Nat.le_refl _) ⟨hz,its,0,hv,Heap.get?_push_size _ rfl⟩
theorem Inv.fresh (I:Inv X pins σ H s):H s.heap.objs.size=none:=I.hok.fresh (Nat.le_refl _)
theorem Inv.lstM (I:Inv X pins σ H s)(hH:H l=some (.lst xs)):xs.length<=sizeLine/\∃(its:List Value) (n:Nat),Vals xs its/\xs.length=its.length/\s.heap.get? l=some {cls:= .type "list",data:= .seq its.toArray n}:=by
 obtain⟨z,its,n,r,e⟩:=I.hok l _ hH
 exact⟨z,its,n,r,r.length,e⟩
theorem q9b {n:Nat}(h:n<=sizeLine):Builtin.List.listTooLong n=false:=by
 unfold Builtin.List.listTooLong
 exact decide_eq_false (by omega)
end
section
variable {X:Cx}
def q5B:V->List V->Hp->VK->Prop:=fun x vs H Q=>∃l xs y,x= .ref l/\vs=[y]/\H l=some (.lst xs)/\xs.length<sizeLine/\Q .non (upd H l (.lst (xs++[y])))
theorem q02:MtM X "list.append" q5B:=by
 intro pins s σ H x vs v us Q I rx rv h
 obtain⟨l,xs,y,rfl,rfl,hH,hz,q⟩:=h
 cases rx
 obtain⟨u,rfl,ru⟩:=rv.one
 obtain⟨z,its,n,r,hl,e⟩:=I.lstM hH
 refine call_meets F.slot_list_append ⟨_,e,rfl⟩ F.entry_list_append (F.args_list_append_2 _ _) (PySem.list_append l its.toArray n u (by rw[List.size_toArray];omega)) ⟨e,?_⟩
 refine⟨.non,_,I.lset (its':=its++[u]) hH e (by simp) (r.append (.cons ru .nil)) ?_,rfl,q⟩
 rw[List.length_append,List.length_singleton]
 omega
def q9K:V->List V->Hp->VK->Prop:=fun x vs H Q=>∃l xs i k y,x= .ref l/\vs=[.int i]/\H l=some (.lst xs)/\ -(2 ^ 63)<=i/\i<2 ^ 63/\seqIndex? i xs.length=some k/\xs[k]? =some y/\Q y (upd H l (.lst (xs.eraseIdx k)))
theorem q9d:MtM X "list.pop" q9K:=by
 intro pins s σ H x vs v us Q I rx rv h
 obtain⟨l,xs,i,k,y,rfl,rfl,hH,h1,h2,hk,hy,q⟩:=h
 cases rx
 obtain⟨u,rfl,ru⟩:=rv.one
 obtain⟨t,rfl⟩:=ru
 obtain⟨z,its,n,r,hl,e⟩:=I.lstM hH
 obtain⟨w,hw,rw'⟩:=r.get hy
 refine call_meets F.slot_list_pop ⟨_,e,rfl⟩ F.entry_list_pop (F.args_list_pop_2 _ _)
  (MeetsSeq.list_pop_at l its.toArray n i t k w (fitsIndex_both h1 h2) (by rw[List.size_toArray,<-hl];exact hk) (by rw[<-Array.getElem?_toList];exact hw) (by rw[List.size_toArray];omega)) ⟨e,?_⟩
 refine⟨y,_,I.lset (its':=its.eraseIdx k) hH e ?_ (r.eraseIdx k) ?_,rw',q⟩
 ·show its.toArray.eraseIdxIfInBounds k=(its.eraseIdx k).toArray
  rw[List.eraseIdxIfInBounds_toArray]
 ·have:=q58 xs k
  omega
def rCat:R2:=fun x y H Q=>∃l b xs zs,x= .ref l/\y= .ref b/\H l=some (.lst xs)/\H b=some (.lst zs)/\xs.length+zs.length<=sizeLine/\∀p,H p=none->Q (.ref p) (upd H p (.lst (xs++zs)))
theorem q3G:OpR X (binaryOp .Add) rCat:=by
 intro pins s σ H x y v u Q I rx ry h
 obtain⟨l,b,xs,zs,rfl,rfl,hH,hB,hz,q⟩:=h
 cases rx
 cases ry
 obtain⟨z,its,n,r,hl,e⟩:=I.lstM hH
 obtain⟨z2,its2,n2,r2,hl2,e2⟩:=I.lstM hB
 refine PySem.P.add_list e e2 ?_ (by rw[List.size_toArray,List.size_toArray];omega)
 have ea:its.toArray++its2.toArray=(its++its2).toArray:=by simp
 rw[ea]
 exact⟨.ref _,_,I.lnew (t':=s.toks) (r.append r2) (by rw[List.length_append];omega),rfl,q _ I.fresh⟩
def rRep:R2:=fun x y H Q=>∃l k xs,x= .ref l/\y= .int k/\H l=some (.lst xs)/\ -(2 ^ 63)<=k/\k<2 ^ 63/\xs.length*k.toNat<=sizeLine/\
 ∀p,H p=none->Q (.ref p) (upd H p (.lst (List.replicate k.toNat xs).flatten))
theorem qaY {α:Type}(xs:List α)(k:Nat):(List.replicate k xs).flatten.length=k*xs.length:=by
 induction k with
 |zero=>simp
 |succ k ih=>rw[List.replicate_succ,List.flatten_cons,List.length_append,ih,Nat.succ_mul,Nat.add_comm]
theorem q9S:OpR X (binaryOp .Mult) rRep:=by
 intro pins s σ H x y v u Q I rx ry h
 obtain⟨l,k,xs,rfl,rfl,hH,h1,h2,hz,q⟩:=h
 cases rx
 obtain⟨t,rfl⟩:=ry
 obtain⟨z,its,n,r,hl,e⟩:=I.lstM hH
 have hlen:its.toArray.size*k.toNat<=sizeLine:=by rw[List.size_toArray,<-hl];exact hz
 have hcap:¬its.toArray.size*k.toNat>(2 ^ 63 - 1) / 8:=by
  have:(sizeLine:Nat)<=(2 ^ 63 - 1) / 8:=by decide
  omega
 have hfit:¬(!Builtin.List.listFitsIndex k)=true:=by
  rw[fitsIndex_both h1 h2]
  exact Bool.false_ne_true
 have hlong:¬Builtin.List.listTooLong (its.toArray.size*k.toNat)=true:=by
  rw[q9b hlen]
  exact Bool.false_ne_true
 have hnew:List.foldl (fun x1 x2=>x1++x2) #[] (List.replicate (if its.toArray.isEmpty=true then 0 else k.toNat) its.toArray)=(List.replicate k.toNat its).flatten.toArray:=by
  have f0:∀m:Nat,List.foldl (fun x1 x2=>x1++x2) #[] (List.replicate m its.toArray)=(List.replicate m its).flatten.toArray:=fun m=>by
   have:=q5b its m []
   rw[List.nil_append] at this
   exact this
  rw[f0]
  cases its with
  |nil=>simp
  |cons a r'=>rw[if_neg (by simp)]
 refine wpAny_binaryOp_repeat_ref (T:="list") (U:="int") (by decide) ⟨_,e,rfl⟩ (fun s'=>typeIs_int s' k t) noFill_list_mul F.fills_int_mul F.slot_int_rmul repeat_list F.slot_int_index.lookup
  (call_meets F.slot_int_rmul (typeIs_int s k t) F.entry_int_rmul (F.args_int_rmul_2 _ _) (int___rmul___int_list k t l its.toArray n)
   ⟨e,rfl,⟨_,e,rfl⟩,call_meets F.slot_list_mul ⟨_,e,rfl⟩ F.entry_list_mul (F.args_list_mul_2 _ _) (AutoListH.list___mul___list_int_3 l its.toArray n k t hfit hcap hlong) ⟨e,?_⟩⟩)
 rw[hnew]
 exact⟨.ref _,_,I.lnew (t':=s.toks) (r.rep k.toNat) (by rw[qaY,Nat.mul_comm];exact hz),rfl,q _ I.fresh⟩
end
end L2
namespace Att
open PySem PySem.W PySem.Calls PyProof.Rows
theorem q3l {P:Params}{h:Heap}:∀(ns:List Int) (vs:List Value),WellAll P h vs (ns.map WData.int)->IntsAre vs ns:=by
 intro ns
 induction ns with
 |nil=>
  intro vs w
  rw[List.map_nil] at w
  cases w
  exact .nil
 |cons n ns ih=>
  intro vs w
  rw[List.map_cons] at w
  cases w with
  |cons a b=>
   cases a
   exact .cons _ _ (ih _ b)
theorem q7e {l:OpenLaw}{n:Nat}(hn:l.most=some n){P:Params}{h:Heap}{args:List WData}{vals:List Value}
  (hpre:l.row.toRowW.claim.pre args=true)(hwl:WellAll P h vals args):
  ∃a vs ns,vals=[Value.ref a]/\args=[WData.list (ns.map WData.int)]/\h.get? a=some {cls:= .type "list",data:= .seq vs.toArray}/\IntsAre vs ns/\ns.length<=n:=by
 have hsh:WShape.hasAll [] args [.list .int]=true:=(pre_splitW hpre).1
 have hc:l.pre.holds [] {args:=args}=true:=(pre_splitW hpre).2
 obtain⟨d,r,rfl,h1,h2⟩:=hasAllW_cons hsh
 obtain rfl:=hasAllW_nil h2
 obtain⟨xs,rfl,h3⟩:=hasW_list h1
 obtain⟨ns,rfl⟩:=items_int h3
 have hlen:ns.length<=n:=by
  unfold OpenLaw.pre at hc
  have h4:(WTm.not (.lt (.lit (.int (n:Int))) (.len (.arg 0)))).holds [] {args:=[.list (ns.map .int)]}=true:=by
   have h4:=(holds_andW hc).1
   rw[hn] at h4
   exact h4
  have h5:=condW_of h4 (w_not (w_lt w_lit (w_len_list (w_arg rfl))))
  rw[List.length_map] at h5
  refine Nat.le_of_not_lt fun q=>?_
  have q':(n:Int)<((ns.length:Nat):Int):=by omega
  first
   |(rw[decide_eq_true q'] at h5;exact absurd h5 (by decide))
   |(simp at h5;omega)
 cases hwl with
 |cons w1 w2=>
  cases w2
  cases w1 with
  |list ho hall=>exact⟨_,_,ns,rfl,rfl,ho,q3l ns _ hall,hlen⟩
theorem q7o (l:OpenLaw)(args:List WData):l.row.toRowW.claim.post args (.bool true) args=true:=
 postW_of (r:=l.row.toRowW) (X:=(true==true))
  (show WShape.has [] (.bool true) .bool=true by first|rfl|decide|simp[WShape.has,WShape.arms,WShape.armsAll])
  (show(WTm.eq .res (.lit (.bool true))).value [] {args:=args,res:=some (.bool true),after:=args}=some (.bool (true==true)) from w_eq_bool (w_res rfl) w_lit) rfl
theorem q5U {l:OpenLaw}{n:Nat}{q:Program}{loose:List Str}{XP:(Str->Option Value)->Heap->Prop}{YP:World->Heap->Prop}{d:DefRec}
  (hn:l.most=some n)(hdf:d.params.defaults=[])
  (call:∀(w:World) (s₀ s₁:Shared) (mg mb:Str->Option Value) (fa:Addr) (o:Obj) (pm cd doc:Value) (a:Addr) (vs:List Value) (ns:List Int),
   Ground q loose [] XP w s₀ mg mb s₁.heap->YP w s₁.heap->
   s₁.heap.get? fa=some o->o.data= .func (docDef d.name d.params d.body d.scope pm cd doc)->s₁.heap.CodeRec cd d.name->mg d.name=some (.ref fa)->
   s₁.heap.get? a=some {cls:= .type "list",data:= .seq vs.toArray}->IntsAre vs ns->ns.length<=n->s₁.gens= #[]->
   codeAny (model l.prog w) callerA (.call (.ref fa) ⟨[.ref a],[]⟩) (fun r s'=>r= .ok (.ret (.bool true))/\OldK s₁.heap s'.heap/\s'.os=s₁.os/\AllBare s'.gens) s₁):
  WalkO q loose XP YP l.row.toRowW d [] (fun f vs=>PySem.call f vs):=by
 intro w s₀ s₁ mg mb G Y fa o pm cd doc dV kV ho hd hcd hD hmg hg args vals as hpre hlay hrd hwl hlo
 obtain rfl:dV= .none:=Dflts.none hD hdf
 obtain rfl:kV= .none:=Dflts.noKw hD
 obtain⟨a,vs,ns,rfl,rfl,hobj,hints,hlen⟩:=q7e hn hpre hwl
 refine enter_call (codeAny_mono (call w s₀ s₁ mg mb fa o pm cd doc a vs ns G Y ho (fd_plain hd) hcd hmg hobj hints hlen hg) fun r s' hq=>?_)
 obtain⟨rfl,h2,h3,h4⟩:=hq
 exact⟨.inl ⟨.bool true,.bool true,[],rfl,fun _=>rfl,.bool true,q7o l _,fun _=>⟨List.Pairwise.nil,fun _ hm=>(nomatch hm)⟩⟩,h2,h3,h4⟩
end Att
namespace L2
open PySem PySem.Spec PyProof.Rows
theorem q4y:∀{vs:List Value} {ns:List Int},IntsAre vs ns->Vals (ns.map V.int) vs
 |_,_,.nil=> .nil
 |_,_,.cons n t h=> .cons ⟨t,rfl⟩ (q4y h)
def Only (H:Hp):Prop:=∀b,H b=none\/∃o xs,H b=some (.frz o (.lst xs))
theorem q9k {P:Program}{w:World}{K:PySem.W.Frag}{mg mb:Str->Option Value}{CX:CXT}{k:Nat}{fa a:Addr}{fd:FuncData}{x:Str}{sp:Sp}{s₁:Shared}{vs:List Value}{ns:List Int}
  (KX:K.In s₁.heap)(hns:s₁.heap.Ns mainGlobals mg)(hb:s₁.heap.Ns builtinsNs mb)(hbb:∀x:Str,x≠"__name__"->mb x=bootBuiltins x)(hlim:s₁.heap.NoLimit)(hg:s₁.gens= #[])
  (ha:s₁.heap.get? a=some {cls:= .type "list",data:= .seq vs.toArray})(hi:IntsAre vs ns)(hl:ns.length<=sizeLine)(hr:Room k callerA)
  (F:∀base:Heap,K.In base->base.Ns mainGlobals mg->FnOk P w K mg base CX k fa fd [x] sp)(hbind:∀(s:Shared) (u:Value),BindsTo s fd ⟨[u],[]⟩ [(x,u)])
  (hsp:∀H:Hp,Only H->SqL K H a (ns.map V.int)->sp [.ref a] H (fun v _=>v= .bl true) fun _ _ _=>False)
  (hCX:∀H e s',CX [] H s₁ (fun _ _ _=>False) e s'->False):
  codeAny (model P w) callerA (.call (.ref fa) ⟨[.ref a],[]⟩) (fun r s'=>r= .ok (.ret (.bool true))/\OldK s₁.heap s'.heap/\s'.os=s₁.os/\AllBare s'.gens) s₁:=by
 have rv:=q4y hi
 have lenV:=hi.length
 -- from an abstract heap in which nothing but the script may be tracked
 have core:∀H:Hp,Only H->SqL K H a (ns.map V.int)->HOk P w H s₁.heap->(∀b,H b≠none->b=a)->(H a≠none->K.lookup a=none)->
   codeAny (model P w) callerA (.call (.ref fa) ⟨[.ref a],[]⟩) (fun r s'=>r= .ok (.ret (.bool true))/\OldK s₁.heap s'.heap/\s'.os=s₁.os/\AllBare s'.gens) s₁:=by
  intro H hO hS hok hA hK
  have base_of:∀{b:Addr} {o:Obj},s₁.heap.get? b=some o->H b=none->(hidT s₁.heap H).get? b=some o:=fun e n=>q9p e n
  have noA:∀{b:Addr} {o:Obj} {es:Array DictEntry} {ep:Nat},s₁.heap.get? b=some o->o.data= .dict es ep->H b=none:=fun {b o es ep} e d=>by
   cases q:H b with
   |none=>rfl
   |some u=>
    have e':b=a:=hA b (by rw[q];simp)
    subst e'
    rw[ha] at e;cases e
    have d':Data.seq vs.toArray _=Data.dict es ep:=d
    cases d'
  have nsK:∀{b:Addr} {m:Str->Option Value},s₁.heap.Ns b m->(hidT s₁.heap H).Ns b m:=fun {b m} ⟨o,es,ep,e,d,r⟩=>⟨o,es,ep,base_of e (noA e d),d,r⟩
  have hKb:K.In (hidT s₁.heap H):=fun b o e=>base_of (KX b o e) (by
   cases q:H b with
   |none=>rfl
   |some u=>
    have e':b=a:=hA b (by rw[q];simp)
    subst e'
    rw[hK (by rw[q];simp)] at e;cases e)
  have hM:Mod K mg (hidT s₁.heap H):=⟨hKb,nsK hns,⟨mb,nsK hb,hbb⟩,let ⟨mc,h1,h2⟩:=hlim;⟨mc,nsK h1,h2⟩⟩
  have e0:Env0 P w K mg (hidT s₁.heap H) callerA [] s₁ H:=⟨rfl,hM,fun b o e=>qaO e,Nat.le_of_eq (q7T _ _),trivial,fun b hb=>absurd (show b∈([]:List Addr) from hb) (by simp),hok,.of_eq hg⟩
  refine codeAny_mono ((F _ hKb (nsK hns)).run callerA [] s₁ H ⟨[.ref a],[]⟩ [.ref a] [.ref a] _ _ hr e0 (hbind s₁ (.ref a)) (.cons rfl .nil) (hsp H hO hS)) fun r s' h=>?_
  cases r with
  |error e=>exact(hCX H e s' h).elim
  |ok fl=>
   cases fl with
   |next=>exact False.elim h
   |brk=>exact False.elim h
   |cont=>exact False.elim h
   |ret u=>
    obtain⟨v,H',os,bare,un,hok',r',q⟩:=h
    have q':v= .bl true:=q
    subst q'
    obtain rfl:u=Value.bool true:=r'
    refine⟨rfl,OldK.of_keep fun b o e=>?_,os,bare⟩
    cases q:H b with
    |none=>exact un.keep b o e q (by intro z;exact absurd (show b∈([]:List Addr) from z) (by simp)) (by simp)
    |some u=>
     rcases hO b with z|⟨ob,xs,z⟩
     ·rw [q] at z;cases z
     ·have z2:=un.frzs b ob _ z
      obtain⟨e1,_⟩:=hok b _ z
      obtain⟨e2,_⟩:=hok' b _ z2
      rw[e] at e1;cases e1
      exact e2
 cases hk:K.lookup a with
 |some o=>
  -- the script is one of the module's own objects
  have e:=KX a o hk
  rw[ha] at e
  cases e
  refine core (fun _=>none) (fun _=> .inl rfl) (.inr ⟨_,vs.toArray,_,hk,rfl,rfl,rfl,by rw[List.size_toArray,lenV];exact hl,by simpa using rv⟩) (fun b u z=>by have z':(none:Option HO)=some u:=z;cases z') (fun b z=>absurd rfl z) fun z=>absurd rfl z
 |none=>
  refine core (fun b=>if b=a then some (.frz {cls:= .type "list",data:= .seq vs.toArray} (.lst (ns.map V.int))) else none) (fun b=>?_) (.inl (.inr ⟨{cls:= .type "list",data:= .seq vs.toArray},if_pos rfl⟩)) (fun b u z=>?_) (fun b z=>?_) fun _=>hk
  ·by_cases hb:b=a
   ·exact .inr ⟨_,_,if_pos hb⟩
   ·exact .inl (if_neg hb)
  ·by_cases hb:b=a
   ·have z':=(if_pos hb).symm.trans z
    cases z'
    subst hb
    exact⟨ha,by rw[List.length_map];exact hl,vs,_,rv,ha⟩
   ·have z':=(if_neg hb).symm.trans z
    cases z'
  ·by_cases hb:b=a
   ·exact hb
   ·exact absurd (if_neg hb) z
end L2
namespace L2
open PySem PySem.Spec PyProof.Rows
theorem qa5 {l:PySem.W.OpenLaw}{n k:Nat}{q:Program}{loose:List Str}{XP:(Str->Option Value)->Heap->Prop}{YP:World->Heap->Prop}{d:DefRec}{K:Params->PySem.W.Frag}{CX:World->CXT}{sp:World->Sp}{x:Str}
  (hn:l.most=some n)(hn2:n<=sizeLine)(hdf:d.params.defaults=[])(hr:Room k callerA)
  (hY:∀(w:World) (h:Heap),YP w h->(K w.params).In h)
  (F:∀(w:World) (mg:Str->Option Value) (fa:Addr) (h:Heap),(K w.params).In h->h.Ns mainGlobals mg->mg d.name=some (.ref fa)->
   ∃fd:FuncData,(∀(s:Shared) (u:Value),BindsTo s fd ⟨[u],[]⟩ [(x,u)])/\
    ∀base:Heap,(K w.params).In base->base.Ns mainGlobals mg->FnOk l.prog w (K w.params) mg base (CX w) k fa fd [x] (sp w))
  (hsp:∀(w:World) (H:Hp) (a:Addr) (ns:List Int),ns.length<=n->Only H->SqL (K w.params) H a (ns.map V.int)->sp w [.ref a] H (fun v _=>v= .bl true) fun _ _ _=>False)
  (hCX:∀(w:World) (H:Hp) (s:Shared) (e:Value) (s':Shared),CX w [] H s (fun _ _ _=>False) e s'->False):
  PySem.W.WalkO q loose XP YP l.row.toRowW d [] (fun f vs=>PySem.call f vs):=by
 refine Att.q5U hn hdf fun w s₀ s₁ mg mb fa o pm cd doc a vs ns G Y ho hd hcd hmg hobj hints hlen hg=>?_
 have KX:=hY w _ Y
 obtain⟨fd,hb,hF⟩:=F w mg fa _ KX G.T.g hmg
 exact q9k KX G.T.g G.T.b G.T.builtins G.T.nolimit hg hobj hints (Nat.le_trans hlen hn2) hr hF hb (fun H hO hS=>hsp w H a ns hlen hO hS) fun H e s'=>hCX w H s₁ e s'
end L2
namespace L2
open PySem PySem.Spec PyProof.Rows
def qH (s:Stmt)(j:Nat):Stmt:=match s with
 | .ClassDef _ _ _ body _ _ _ _ _ _ _=>body.getD j (.Pass ⟨0,0,0,0⟩)
 |_=> .Pass ⟨0,0,0,0⟩
def q0s (s:Stmt):Arguments:=match s with
 | .FunctionDef _ a _ _ _ _ _ _ _ _=>a
 |_=>{posonlyargs:=[],args:=[],vararg:=none,kwonlyargs:=[],kw_defaults:=[],kwarg:=none,defaults:=[]}
def qU (s:Stmt):List Stmt:=match s with
 | .FunctionDef _ _ b _ _ _ _ _ _ _=>b
 |_=>[]
def qf (s:Stmt):Scope:=match s with
 | .FunctionDef _ _ _ _ _ _ sc _ _ _=>sc
 |_=>{kind:= .function,names:=[],isGenerator:=false,isCoroutine:=false}
abbrev CX0:CXT:=fun _ _ _ _ _ _=>False
abbrev E0:XK:=fun _ _ _=>False
theorem q6H {X:Cx}:q3L CX0 X E0:=fun _ _ _ _ _ _ _ h=>h.elim
structure Fun (K:PySem.W.Frag)(x qual:Str)(st:Stmt)(f:Addr)(fd:FuncData):Prop where
 ex:∃(oc:Value) (od:Option Addr) (kV doc pm:Value) (an:Option Addr) (cdv ct:Value) (osl:Array (Option Value)),
  fd=PySem.W.fnOf x qual (q0s st) (qU st) (qf st) .none kV doc pm an cdv ct/\K.lookup f=some ⟨oc,od,.func fd,osl⟩/\PySem.W.codeIn K cdv qual=true
 kp:PySem.W.keepIn K (.ref f)=true
section
variable {P:Program}{w:World}{K:PySem.W.Frag}{mg:Str->Option Value}{base:Heap}
theorem Fun.ok {x qual:Str}{st:Stmt}{f:Addr}{fd:FuncData}{N ps:List Str}{k:Nat}{sp:Sp}(F:Fun K x qual st f fd)(S:FnScope N ps (qf st))(len:∀vs H Q E,sp vs H Q E->vs.length=ps.length)
  (hbody:∀(cdv:Value) (A:Around) (outer:List Env) (s:Shared) (H:Hp) (vs:List V) (Q:VK) (E:XK),Room k (A.deeper (envOfC qual (qf st) s.heap.objs.size f cdv))->sp vs H Q E->
   ∃t,PSs (cxOf CX0 P w K mg base N qual (qf st) f cdv A outer s H E).nox (qU st) t/\t {nx:=fun _ H'=>Q .non H',rt:=Q} (start N vs) H):FnOk P w K mg base CX0 (k+1) f fd ps sp:=by
 obtain⟨oc,od,kV,doc,pm,an,cdv,ct,osl,rfl,lk,hcd⟩:=F.ex
 refine fn_of lk hcd S len fun A outer s H vs Q E hr hsp=>?_
 obtain⟨t,h,q⟩:=hbody cdv A outer s H vs Q E hr hsp
 exact⟨t,h.nox,q⟩
theorem Fun.binds {x qual:Str}{st:Stmt}{f:Addr}{fd:FuncData}{ps:List Str}(F:Fun K x qual st f fd)
  (h:∀(kV doc pm:Value) (an:Option Addr) (cdv ct:Value) (us:List Value),us.length=ps.length->bindArgs (PySem.W.fnOf x qual (q0s st) (qU st) (qf st) .none kV doc pm an cdv ct) ⟨us,[]⟩=pure (ps.zip us)):q1V K fd ps []:=by
 obtain⟨oc,od,kV,doc,pm,an,cdv,ct,osl,rfl,lk,hcd⟩:=F.ex
 exact .all (h kV doc pm an cdv ct)
theorem q2s {x qual:Str}{st:Stmt}{f:Addr}{oc:Value}{od an:Option Addr}{osl:Array (Option Value)}{kV doc pm cdv ct:Value}(l:K.lookup f=some ⟨oc,od,.func (PySem.W.fnOf x qual (q0s st) (qU st) (qf st) .none kV doc pm an cdv ct),osl⟩)
  (c:PySem.W.codeIn K cdv qual=true)(k:PySem.W.keepIn K (.ref f)=true):Fun K x qual st f (PySem.W.fnOf x qual (q0s st) (qU st) (qf st) .none kV doc pm an cdv ct):=⟨⟨oc,od,kV,doc,pm,an,cdv,ct,osl,rfl,l,c⟩,k⟩
end
theorem hu_of {A:Around}{k:Nat}(hr:Room k A):A.units+1<cLine:=Nat.lt_of_le_of_lt (Nat.add_le_add_left (by decide:1<=64) _) hr.units
section
variable {X:Cx}
theorem pv (i:Nat){x:Str}{pos:Pos}(hN:X.N[i]? =some x:=by rfl)(hv:Vis X.env.scope x:=by first|exact Or.inl rfl|exact Or.inr (Or.inl rfl)|exact Or.inr (Or.inr rfl))(hd:(x==("__debug__":Str))=false:=by decide)
  (hcd:(x==("__classdict__":Str))=false:=by decide):PE X (.Name x pos) (tVar i):=pe_var hN hv hd hcd
end
theorem iteF {A B:Prop}(h:B):if false=true then A else B:=by
 rw[if_neg Bool.false_ne_true]
 exact h
theorem iteT {A B:Prop}(h:A):if true=true then A else B:=by
 rw[if_pos rfl]
 exact h
theorem ite2 {c A B:Prop}[Decidable c](h1:c->A)(h2:¬c->B):if c then A else B:=by
 by_cases h:c
 ·rw [if_pos h]
  exact h1 h
 ·rw [if_neg h]
  exact h2 h
def Same (H H':Hp):Prop:=∀b o,H b=some o->H' b=some o
theorem Same.refl (H:Hp):Same H H:=fun _ _ h=>h
theorem Same.trans {H H1 H2:Hp}(a:Same H H1)(b:Same H1 H2):Same H H2:=fun c o h=>b c o (a c o h)
theorem Same.free {H H':Hp}(e:Same H H'){l:Addr}(h:H' l=Option.none):H l=Option.none:=by
 cases q:H l with
 |none=>rfl
 |some o=>
  rw[e l o q] at h
  cases h
theorem Same.seq {K:PySem.W.Frag}{H H':Hp}{a:Addr}{xs:List V}(e:Same H H')(h:SqL K H a xs):SqL K H' a xs:=by
 rcases h with(h|⟨o,h⟩)|h
 ·exact .inl (.inl (e _ _ h))
 ·exact .inl (.inr ⟨o,e _ _ h⟩)
 ·exact .inr h
end L2
set_option maxHeartbeats 4000000
namespace L2
open PySem PySem.Spec PyProof.Rows
theorem fls {α:Type}{M:Model}{A:Around}{t:Sem α}{Q:α->Shared->Prop}{E:Value->Shared->Prop}{s:Shared}(h:wpAny M A t Q (fun _ _=>False) s):wpAny M A t Q E s:=
 wpAny_mono h (fun _ _ q=>q) fun _ _ z=>z.elim
section
variable {prog:Program}{w:World}{A:Around}{R:Result->Shared->Prop}{s:Shared}
theorem q5d {elt target iter:Expr}{ifs:List Expr}{scope:Scope}{pos:Pos}{it acc:Value}{env:Env}(J:Nat->Shared->Prop)
  (turn:∀n s,J n s->wpAny (model prog w) A (pyNext it) (fun r s₁=>match r with
   |none=>R (.ok .next) s₁
   | some v=>wpAny (model prog w) A (letOwnedTupleGo target it v) (fun _ s₂=>wpAny (model prog w) A (assign target env v) (fun _ s₃=>
     wpAny (model prog w) A (forIn ifs true fun c r=>if r=true then do let ok<-isTrue c env (eval c env);pure (ForInStep.yield ok) else pure (ForInStep.yield r)) (fun ok s₄=>
      if ok=true then wpAny (model prog w) A (eval elt env) (fun x s₅=>
       wpAny (model prog w) A (call (.builtin "list.append") [acc,x]) (fun _ s₆=>∃m,m<n/\J m s₆) (fun _ _=>False) s₅) (fun _ _=>False) s₄
      else∃m,m<n/\J m s₄) (fun _ _=>False) s₃) (fun _ _=>False) s₂) (fun _ _=>False) s₁) (fun _ _=>False) s)
  (n:Nat)(h:J n s):
  codeAny (model prog w) A (.compLoop (.ListComp elt [⟨target,iter,ifs,0⟩] scope pos) 0 it acc env) R s:=by
 refine codeAny_loop rfl J (fun n s hI=>?_) n h
 show wpAny _ A ((compTurn (.ListComp elt [⟨target,iter,ifs,0⟩] scope pos) 0 it acc env).onRaise (fun x=>do noteFrame x env;theTreesLotGoes x)) _ _ s
 refine wpAny_noted (fls ?_)
 rw[compTurn_list]
 refine wpAny_bind (wpAny_standAt (wpAny_bind (wpAny_mono (turn n s hI) (fun r s₁ h₁=>?_) fun _ _ h'=>h')))
 cases r with
 |none=>exact wpAny_pure h₁
 |some v=>
  refine wpAny_bind (wpAny_mono h₁ (fun _ s₂ h₂=>wpAny_bind (wpAny_mono h₂ (fun _ s₃ h₃=>wpAny_bind (wpAny_mono h₃ (fun ok s₄ h₄=>?_) fun _ _ h'=>h')) fun _ _ h'=>h')) fun _ _ h'=>h')
  cases ok with
  |false=>exact wpAny_pure ⟨rfl,h₄⟩
  |true=>exact wpAny_bind (wpAny_bind (wpAny_mono h₄ (fun x s₅ h₅=>wpAny_bind (wpAny_mono h₅ (fun _ s₆ h₆=>wpAny_pure (wpAny_pure ⟨rfl,h₆⟩)) fun _ _ h'=>h')) fun _ _ h'=>h'))
end
def clOf (scope:Scope)(env:Env):List (Str×Addr):=(scope.names.filter fun y=>y.2== .free).reverse.map fun y=>(y.1,(env.cells.lookup y.1).getD 0)
theorem q3q {scope:Scope}{env:Env}(h:∀y∈scope.names,y.2= .free->∃c,env.cells.lookup y.1=some c):closureFor scope env=pure (clOf scope env):=by
 unfold closureFor clOf
 have key:∀(l:List (Str×NameKind)) (cs:List (Str×Addr)),(∀y∈l,y.2= .free->∃c,env.cells.lookup y.1=some c)->
   (forIn l cs (fun x r=>match x with
    |(name,kind)=>if (kind==NameKind.free)=true then do let a<-cellOf env name;pure (ForInStep.yield ((name,a)::r)) else pure (ForInStep.yield r)):Sem (List (Str×Addr)))=
    pure ((l.filter fun y=>y.2== .free).reverse.map (fun y=>(y.1,(env.cells.lookup y.1).getD 0))++cs):=by
  intro l
  induction l with
  |nil=>intro cs _;rfl
  |cons y l ih=>
   intro cs hl
   obtain⟨n,k⟩:=y
   have ih':=fun cs=>ih cs fun y hy=>hl y (List.mem_cons_of_mem _ hy)
   rw[List.forIn_cons]
   by_cases hk:k= .free
   ·subst hk
    obtain⟨c,hc⟩:=hl (n,.free) List.mem_cons_self rfl
    have e:cellOf env n=pure c:=by unfold cellOf;rw[hc]
    simp only[beq_self_eq_true,if_true,e,pure_bind]
    rw[ih']
    rw[List.filter_cons_of_pos (by rfl),List.reverse_cons,List.map_append,List.append_assoc]
    simp[hc]
   ·have hb:(k==NameKind.free)=false:=by simpa using hk
    simp only[hb,Bool.false_eq_true,if_false,pure_bind]
    rw[ih',List.filter_cons_of_neg (by simp[hb])]
 have:=key scope.names [] h
 rw[List.append_nil] at this
 first
  |exact this
  |(rw[this];rfl)
  |(simp only[bind_pure];exact this)
theorem q22 {f:Str->Addr}{x:Str}{c:Addr}:∀{l:List (Str×NameKind)},(l.map fun y=>(y.1,f y.1)).lookup x=some c->c=f x/\∃k,(x,k)∈l
 |[],h=>by simp at h
 |(n,k)::l,h=>by
  rw[List.map_cons,List.lookup_cons] at h
  cases e:x==n with
  |true=>
   rw[e] at h
   have e':x=n:=by simpa using e
   subst e'
   exact⟨(Option.some.inj h).symm,k,List.mem_cons_self⟩
  |false=>
   rw[e] at h
   obtain⟨h1,k',h2⟩:=q22 h
   exact⟨h1,k',List.mem_cons_of_mem _ h2⟩
theorem q23 {f:Str->Addr}{x:Str}{k:NameKind}:∀{l:List (Str×NameKind)},(x,k)∈l->(l.map fun y=>(y.1,f y.1)).lookup x=some (f x)
 |[],h=>nomatch h
 |(n,k')::l,h=>by
  rw[List.map_cons,List.lookup_cons]
  cases e:x==n with
  |true=>
   have e':x=n:=by simpa using e
   subst e'
   rfl
  |false=>
   rcases List.mem_cons.mp h with q|q
   ·cases q
    simp at e
   ·exact q23 q
theorem q6o {scope:Scope}{env:Env}(h:∀y∈scope.names,y.2= .free->∃c,env.cells.lookup y.1=some c){x:Str}{c:Addr}(e:(clOf scope env).lookup x=some c):env.cells.lookup x=some c:=by
 obtain⟨h1,k,h2⟩:=q22 (f:=fun x=>(env.cells.lookup x).getD 0) e
 have h3:=List.mem_filter.mp (List.mem_reverse.mp h2)
 obtain⟨c',hc⟩:=h (x,k) h3.1 (by simpa using h3.2)
 have hc':env.cells.lookup x=some c':=hc
 rw[hc'] at h1 ⊢
 rw[h1]
 rfl
theorem q6p {scope:Scope}{env:Env}{x:Str}(h:(x,NameKind.free)∈scope.names):(clOf scope env).lookup x=some ((env.cells.lookup x).getD 0):=
 q23 (f:=fun x=>(env.cells.lookup x).getD 0) (k:= .free) (List.mem_reverse.mpr (List.mem_filter.mpr ⟨h,rfl⟩))
theorem q1Y {scope:Scope}{env:Env}{x:Str}:(relabel scope env).names.lookup x=(scope.names.lookup x).map fun k=>if (k== .free&&env.scope.kind== .function&&env.kindOf x==some .cell)=true then .cell else k:=by
 unfold relabel
 show List.lookup x (scope.names.map _)=_
 induction scope.names with
 |nil=>rfl
 |cons y l ih=>
  obtain⟨n,k⟩:=y
  rw[List.map_cons]
  show List.lookup x ((if (k==NameKind.free&&env.scope.kind==ScopeKind.function&&env.kindOf n==some NameKind.cell)=true then(n,NameKind.cell) else(n,k))::_)=_
  cases e:x==n with
  |true=>
   have e':x=n:=by simpa using e
   subst e'
   by_cases hc:(k==NameKind.free&&env.scope.kind==ScopeKind.function&&env.kindOf x==some NameKind.cell)=true
   ·rw [if_pos hc,List.lookup_cons,List.lookup_cons,e]
    show some _=some (if _ then _ else _)
    rw[if_pos hc]
   ·rw [if_neg hc,List.lookup_cons,List.lookup_cons,e]
    show some _=some (if _ then _ else _)
    rw[if_neg hc]
  |false=>
   by_cases hc:(k==NameKind.free&&env.scope.kind==ScopeKind.function&&env.kindOf n==some NameKind.cell)=true
   ·rw [if_pos hc,List.lookup_cons,List.lookup_cons,e]
    exact ih
   ·rw [if_neg hc,List.lookup_cons,List.lookup_cons,e]
    exact ih
def q0m (X:Cx)(N:List Str)(scope:Scope)(C:Addr)(s:Shared)(H:Hp)(fp:List Addr):Cx where
 prog:=X.prog
 w:=X.w
 K:=X.K
 mg:=X.mg
 base:=X.base
 A:=X.A
 N:=N
 s₀:=s
 H₀:=H
 env:=compEnvC scope (clOf scope X.env) C X.env
 outer:=X.stack
 stack:=X.stack
 ex:=fp
 fn:=fun _=>false
 calm:=X.calm
 pn:=[]
 xe:=fun _ _=>False
def q2K (own:Nat)(caps:List Nat)(σ:St):St:=List.replicate own none++caps.map fun j=>(σ[j]?).getD none
structure CompOk (X:Cx)(N:List Str)(scope:Scope)(own:Nat)(caps:List Nat):Prop where
 kind:scope.kind= .function
 names:∀y∈scope.names,y.2= .local->scope.names.lookup y.1=some .local
 nocell:∀y∈scope.names,y.2≠ .cell
 free:∀y∈scope.names,y.2= .free->X.env.kindOf y.1=some .cell\/X.env.kindOf y.1=some .free
 len:N.length=own+caps.length
 cap:∀(i j:Nat) (x:Str),caps[i]? =some j->N[own+i]? =some x->X.N[j]? =some x/\scope.names.lookup x=some .free
theorem CompOk.cells {X:Cx}{N:List Str}{scope:Scope}{own:Nat}{caps:List Nat}(O:CompOk X N scope own caps)(ok:X.Ok):∀y∈scope.names,y.2= .free->∃c,X.env.cells.lookup y.1=some c:=
 fun y hy hf=>ok.has y.1 (O.free y hy hf)
section
variable {X:Cx}{pins:List (Addr×Obj)}{σ:St}{H:Hp}{s:Shared}{N:List Str}{scope:Scope}{own:Nat}{caps:List Nat}
theorem Inv.block {h₁:Heap}{tk:Nat}{fp:List Addr}(O:CompOk X N scope own caps)(I:Inv X pins σ H s)(hf:∀b∈fp,FpOk X pins H b)(hlt:∀b∈fp,b<s.heap.objs.size){m:Str->Option Value}(hns:h₁.Ns s.heap.objs.size m)
  (hk:∀b o,s.heap.get? b=some o->h₁.get? b=some o):Inv (q0m X N scope s.heap.objs.size s H fp) [] (q2K own caps σ) H {s with heap:=h₁,toks:=tk}:=by
 have hcl:=O.cells I.ok
 have sub:∀x c,(clOf scope X.env).lookup x=some c->X.env.cells.lookup x=some c:=fun x c e=>q6o hcl e
 have stk:∀b∈fp,b∉frs X.stack:=fun b hb z=>by
  obtain⟨_,f1,f2,_⟩:=hf b hb
  rcases List.mem_cons.mp (I.stkSub b z) with q|q
  ·exact f1 q
  ·exact f2 q
 have nocl:∀x,(relabel scope X.env).names.lookup x=some .cell\/(relabel scope X.env).names.lookup x=some .free->(x,NameKind.free)∈scope.names:=fun x hx=>by
  rw[q1Y] at hx
  cases e:scope.names.lookup x with
  |none=>rw[e] at hx;rcases hx with hx|hx<;>cases hx
  |some k=>
   have hm:=PySem.mem_of_lookup e
   have hc:=O.nocell _ hm
   cases k with
   |free=>exact hm
   |cell=>exact absurd rfl hc
   |_=>rw[e] at hx;rcases hx with hx|hx<;>simp at hx
 have ok:(q0m X N scope s.heap.objs.size s H fp).Ok:=
  {mod:=I.ok.mod
   kind:=O.kind
   glob:=I.ok.glob
   blt:=I.ok.blt
   above:=Nat.le_refl _
   inj:=fun x y c h1 h2=>I.ok.inj x y c (sub x c h1) (sub y c h2)
   has:=fun x hx=>⟨_,q6p (nocl x hx)⟩
   cab:=fun x c h _=>by cases h
   hd:=I.ok.hd
   frames:=I.ok.frames
   stk:= .inl rfl
   exf:=fun b hb=>⟨Nat.ne_of_lt (hlt b hb),fun x c e=>(hf b hb).2.2.2.2.1 x c (sub x c e)⟩
   bs:=I.bs
   bsz:=Nat.le_trans I.ok.bsz I.sz
   noex:=fun b o e hb=>by
    rcases(hf b hb).2.2.2.1 with z|z
    ·exact I.ok.noex b o e z
    ·exact absurd (Nat.lt_of_lt_of_le (Heap.lt_size e) (Nat.le_trans I.ok.bsz z)) (Nat.lt_irrefl _)
   exfs:=stk
   funs:=I.stack
   frf:=I.stkFree}
 have hC:H s.heap.objs.size=none:=I.hok.fresh (Nat.le_refl _)
 refine⟨ok,rfl,I.bare,Un.kept hk,⟨m,hns,fun i x v h1 h2 h3=>?_⟩,fun x c e=>?_,hC,fun x c e=>I.freeC x c (sub x c e),fun p hp=>absurd (show p∈([]:List (Addr×Obj)) from hp) (by simp),I.hok.kept hk,?_⟩
 ·-- a name of the def
  have hi:own<=i:=by
   by_cases q:own<=i
   ·exact q
   ·unfold q2K at h2
    rw[List.getElem?_append_left (by simp;omega),List.getElem?_replicate] at h2
    split at h2<;>cases h2
  obtain⟨k,rfl⟩:∃k,i=own+k:=⟨i - own,by omega⟩
  unfold q2K at h2
  rw[List.getElem?_append_right (by simp),List.length_replicate,Nat.add_sub_cancel_left,List.getElem?_map] at h2
  cases e:caps[k]? with
  |none=>rw[e] at h2;cases h2
  |some j=>
   rw[e] at h2
   have h2':(σ[j]?).getD none=some v:=Option.some.inj h2
   obtain⟨e1,e2⟩:=O.cap k j x e h1
   have e3:=PySem.mem_of_lookup e2
   have hkd:=O.free _ e3 rfl
   have h4:σ[j]? =some (some v):=by
    cases q:σ[j]? with
    |none=>rw[q] at h2';cases h2'
    |some o=>rw[q] at h2';rw[show o=some v from h2']
   have hvis:Vis X.env.scope x:= .inr hkd
   obtain⟨mo,_,hl⟩:=I.loc
   obtain⟨u,r,l⟩:=hl j x v e1 h4 hvis
   refine⟨u,r,.inr ⟨?_,?_⟩⟩
   ·show (relabel scope X.env).names.lookup x=some .cell\/(relabel scope X.env).names.lookup x=some .free
    rw[q1Y,e2]
    show some (if _ then NameKind.cell else NameKind.free)=_\/some (if _ then NameKind.cell else NameKind.free)=_
    split
    ·exact .inl rfl
    ·exact .inr rfl
   ·rcases l with⟨q,_⟩|⟨_,c,hc,z⟩
    ·have hkd':X.env.kindOf x=some .cell\/X.env.kindOf x=some .free:=hkd
     rw[q] at hkd'
     rcases hkd' with hkd'|hkd'<;>cases hkd'
    ·refine ⟨c,?_,z.keeps hk⟩
     show(clOf scope X.env).lookup x=some c
     rw[q6p e3,hc]
     rfl
 ·obtain ⟨v,z⟩:=I.cell x c (sub x c e)
  exact⟨v,z.keeps hk⟩
 ·show (q2K own caps σ).length=N.length
  unfold q2K
  rw[List.length_append,List.length_replicate,List.length_map,O.len]
theorem Inv.blockEnd {fp:List Addr}{σ':St}{H':Hp}{s':Shared}(I:Inv X pins σ H s)(hf:∀b∈fp,FpOk X pins H b)(J:Inv (q0m X N scope s.heap.objs.size s H fp) [] σ' H' s'):Inv X pins σ H' s':=
 I.call' (ch:=fp) J.os J.base J.hok J.bare fun b hb=>⟨(hf b hb).2.2.2.1,(hf b hb).2.1,(hf b hb).2.2.2.2.1,(hf b hb).2.2.2.2.2⟩
theorem Inv.off {h':Heap}{C:Addr}(I:Inv X pins σ H s)(hC:H C=none)(hL:C≠X.env.locals)(h1:X.s₀.heap.objs.size<=C)(h2:∀x c,X.env.cells.lookup x=some c->c≠C)(h3:∀p∈X.pn++pins,p.1≠C)(sb:Heap.SameBut C s.heap h'):
  Inv X pins σ H {s with heap:=h'}:=
 I.turned (t':=s.toks) (it:=C) (fun b o hb e=>(sb.2 b hb).trans e) hC hL (.inr h1) h2 h3
end
def PIfs (X:Cx)(ifs:List Expr)(t:TT):Prop:=
 ∀(pins:List (Addr×Obj)) (s:Shared) (σ:St) (H:Hp) (Q:Bool->Hp->Prop),Inv X pins σ H s->t σ H Q->
  wpAny (model X.prog X.w) X.A (forIn ifs true fun c r=>if r=true then do let ok<-isTrue c X.env (eval c X.env);pure (ForInStep.yield ok) else pure (ForInStep.yield r)) (TP X pins σ Q) X.xe s
def tYes:TT:=fun _ H Q=>Q true H
theorem q2p {X:Cx}:PIfs X [] tYes:=fun _ _ _ H _ I h=>wpAny_tests_nil ⟨H,I,h⟩
theorem q2o {X:Cx}{c:Expr}{t:TT}(h:PT X c t):PIfs X [c] t:=fun pins s σ H Q I hw=>wpAny_tests_one (h pins s σ H Q I hw)
def q8C (wi:TI)(g:TG)(tc:TT)(te:TE)(own:Nat)(caps:List Nat):TE:=fun σ H Q=>wi σ H fun J H1=>∀D,H1 D=none->∃W:Nat->Nat->St->Hp->Prop,(∃m,W 0 m (q2K own caps σ) (upd H1 D (.lst [])))/\∀i m σ' H',W i m σ' H'->
 (J.stop i H'/\Q (.ref D) H')\/(J.go i H'/\∃N:St->Hp->Prop,(∀σ'' H'',N σ'' H''->∃m',m'<m/\W (i+1) m' σ'' H'')/\∀x H2,J.yld i H' x H2->g x σ' H2 fun σ3 H3=>tc σ3 H3 fun b H4=>
  if b=true then te σ3 H4 fun y H5=>∃ys,H5 D=some (.lst ys)/\ys.length<sizeLine/\N σ3 (upd H5 D (.lst (ys++[y]))) else N σ3 H4)
section
variable {X:Cx}{N:List Str}{scope:Scope}{own:Nat}{caps:List Nat}{tg iter elt:Expr}{ifs:List Expr}{wi:TI}{g:TG}{tc:TT}{te:TE}{pos:Pos}
theorem q6m {use:Option (Value->Sem Unit)}{QQ:Value->Shared->Prop}(O:CompOk X N scope own caps)(hc:X.calm=true)(hi:PI X tg iter wi)(hg:∀C s H fp,PG (q0m X N scope C s H fp) tg g)(ht:∀C s H fp,PIfs (q0m X N scope C s H fp) ifs tc)
  (he:∀C s H fp,PE (q0m X N scope C s H fp) elt te)(hs:∀x,foldedSetIterable iter X.env x=pure x)
  {pins:List (Addr×Obj)}{s:Shared}{σ:St}{H:Hp}{Q:VK}(I:Inv X pins σ H s)(h:q8C wi g tc te own caps σ H Q)
  (fin:∀D C H' s' m,Inv X pins σ H' s'->Q (.ref D) H'->s'.heap.Ns C m->H' C=none->C≠X.env.locals->X.s₀.heap.objs.size<=C->(∀x c,X.env.cells.lookup x=some c->c≠C)->(∀p∈X.pn++pins,p.1≠C)->
   compPost (model X.prog X.w) X.A X.xe use QQ (.ref D) C (.ok .next) s'):
  wpAny (model X.prog X.w) X.A (comprehension (.ListComp elt [⟨tg,iter,ifs,0⟩] scope pos) scope X.env (firstIterPos [⟨tg,iter,ifs,0⟩] pos) (newList []) false (eval iter X.env) use) QQ X.xe s:=by
 refine wpAny_comprehension_free (use:=use) rfl hs (q3q (O.cells I.ok)) O.kind O.names (thn (hi pins s σ H _ I h) fun v s1 h1=>thn h1 fun itv s2 h2=>?_)
 obtain⟨it,fp,tn,J,H2,e,I2,T,st2,f2,q⟩:=h2
 subst e
 refine wpAny_newObj_type (wpAny_newFunctionEnv O.nocell (by intro y hy;simp at hy) (fun h₁ hns hsb=>?_) O.kind)
 dsimp only at hns hsb ⊢
 have hD:H2 s2.heap.objs.size=none:=I2.hok.fresh (Nat.le_refl _)
 obtain⟨W,⟨m0,w0⟩,turn⟩:=q s2.heap.objs.size hD
 have I3:Inv X pins σ (upd H2 s2.heap.objs.size (.lst [])) {s2 with heap:=s2.heap.push {cls:= .type "list",dict:=none,data:= .seq ([]:List Value).toArray}}:=
  I2.lnew (its:=[]) (t':=s2.toks) .nil (Nat.zero_le _)
 generalize hs3:({s2 with heap:=s2.heap.push {cls:= .type "list",dict:=none,data:= .seq ([]:List Value).toArray}}:Shared)=s3 at I3
 have hsz3:s3.heap.objs.size=s2.heap.objs.size+1:=by rw[<-hs3];exact Heap.size_push ..
 have hns':h₁.Ns s3.heap.objs.size (fun x=>([]:List (Str×Value)).reverse.lookup x):=by rw[<-hs3];exact hns
 have hk:∀b o,s3.heap.get? b=some o->h₁.get? b=some o:=fun b o e=>by
  rw[<-hs3] at e
  exact hsb.extBut b o (Nat.ne_of_lt (Heap.lt_size e)) (Heap.get?_push_of_some _ e)
 have f3:∀b∈fp,FpOk X pins (upd H2 s2.heap.objs.size (.lst [])) b:=fun b hb=>by
  obtain⟨o,ho,_⟩:=T.obj _ _ st2 b hb
  exact⟨by rw[qp (Nat.ne_of_lt (Heap.lt_size ho))];exact(f2 b hb).1,(f2 b hb).2⟩
 have hlt:∀b∈fp,b<s3.heap.objs.size:=fun b hb=>by
  obtain⟨o,ho,_⟩:=T.obj _ _ st2 b hb
  rw[hsz3]
  exact Nat.lt_succ_of_lt (Heap.lt_size ho)
 have st3:tn 0 h₁:=T.keep _ _ _ st2 fun b hb o e=>hk b o (by rw[<-hs3];exact Heap.get?_push_of_some _ e)
 have C3:∀tk,Inv (q0m X N scope s3.heap.objs.size s3 (upd H2 s2.heap.objs.size (.lst [])) fp) [] (q2K own caps σ) (upd H2 s2.heap.objs.size (.lst [])) {s3 with heap:=h₁,toks:=tk}:=fun tk=>I3.block O f3 hlt hns' hk
 have nf3:∀b∈fp,(upd H2 s2.heap.objs.size (.lst [])) b=none:=fun b hb=>(f3 b hb).1
 have hCL:s3.heap.objs.size≠X.env.locals:=Nat.ne_of_gt I3.lt
 have hC1:X.s₀.heap.objs.size<=s3.heap.objs.size:=I3.sz
 have hC2:∀x c,X.env.cells.lookup x=some c->c≠s3.heap.objs.size:=fun x c e=>by
  obtain⟨v,z⟩:=I3.cell x c e
  exact Nat.ne_of_lt z.lt
 have hC3:∀p∈X.pn++pins,p.1≠s3.heap.objs.size:=fun p hp=>Nat.ne_of_lt (Heap.lt_size (I3.pin p hp).1)
 have hst:∀{H':Hp},(∀b∈fp,H' b=none)->∀b∈fp,FpOk (q0m X N scope s3.heap.objs.size s3 (upd H2 s2.heap.objs.size (.lst [])) fp) [] H' b:=fun hn b hb=>by
  refine⟨hn b hb,Nat.ne_of_lt (hlt b hb),fun z=>?_,.inl hb,fun x c e=>(f3 b hb).2.2.2.2.1 x c (q6o (O.cells I.ok) e),fun p hp=>absurd (show p∈([]:List (Addr×Obj)) from hp) (by simp)⟩
  exact(C3 0).ok.exfs b hb z
 have loop:∀s4:Shared,(∃tk,s4={s3 with heap:=h₁,toks:=tk})->
   codeAny (model X.prog X.w) X.A (.compLoop (.ListComp elt [⟨tg,iter,ifs,0⟩] scope pos) 0 (.ref it) (.ref s2.heap.objs.size) (compEnvC scope (clOf scope X.env) s3.heap.objs.size X.env))
    (compPost (model X.prog X.w) X.A X.xe use QQ (.ref s2.heap.objs.size) s3.heap.objs.size) s4:=by
  rintro s4 ⟨tk,rfl⟩
  refine q5d (fun n s'=>∃i σ' H',Inv (q0m X N scope s3.heap.objs.size s3 (upd H2 s2.heap.objs.size (.lst [])) fp) [] σ' H' s'/\tn i s'.heap/\(∀b∈fp,H' b=none)/\W i n σ' H') ?_ m0 ⟨0,_,_,C3 tk,st3,nf3,w0⟩
  rintro n s5 ⟨i,σ5,H5,I5,st5,fr5,w5⟩
  rcases turn i n σ5 H5 w5 with⟨stop,qn⟩|⟨go,NN,hN,step⟩
  ·refine thn (T.done (q0m X N scope s3.heap.objs.size s3 (upd H2 s2.heap.objs.size (.lst [])) fp) rfl rfl rfl hc i [] s5 σ5 H5 _ I5 (hst fr5) st5 stop) fun r s6 ⟨hr,I6⟩=>?_
   subst hr
   obtain⟨m6,hn6,_⟩:=id I6.loc
   exact fin _ _ H5 s6 m6 (I3.blockEnd f3 I6) qn hn6 I6.free hCL hC1 hC2 hC3
  ·refine thn (T.item (q0m X N scope s3.heap.objs.size s3 (upd H2 s2.heap.objs.size (.lst [])) fp) rfl rfl rfl hc i [] s5 σ5 H5 _ I5 (hst fr5) st5 go) fun r s6 ⟨u,hr,h6⟩=>?_
   subst hr
   refine thn h6 fun _ s7 ⟨x,H7,I7,r7,y7,st7,fr7⟩=>?_
   have I7':=I7.pinned (hst fr7) (T.obj _ _ st7)
   refine thn (hg _ _ _ _ _ s7 σ5 H7 x u _ I7' r7 (step x H7 y7)) fun _ s8 ⟨σ8,H8,I8,q8⟩=>?_
   refine thn (ht _ _ _ _ _ s8 σ8 H8 _ I8 q8) fun ok s9 ⟨H9,I9,q9⟩=>?_
   have again:∀{s10:Shared} {σ10:St} {H10:Hp},Inv (q0m X N scope s3.heap.objs.size s3 (upd H2 s2.heap.objs.size (.lst [])) fp) ([]++q51 fp s7.heap) σ10 H10 s10->NN σ10 H10->
     ∃m,m<n/\∃i σ' H',Inv (q0m X N scope s3.heap.objs.size s3 (upd H2 s2.heap.objs.size (.lst [])) fp) [] σ' H' s10/\tn i s10.heap/\(∀b∈fp,H' b=none)/\W i m σ' H':=fun {s10 σ10 H10} I10 n10=>by
    obtain⟨m',hm,w10⟩:=hN σ10 H10 n10
    refine⟨m',hm,i+1,σ10,H10,I10.unpinned,T.keep _ _ _ st7 fun b hb o e=>(I10.pin (b,o) (List.mem_append_right _ (List.mem_append_right _ (q1S hb e)))).1,fun b hb=>?_,w10⟩
    obtain⟨o,e,d⟩:=T.obj _ _ st7 b hb
    exact(I10.pin (b,o) (List.mem_append_right _ (List.mem_append_right _ (q1S hb e)))).2.1
   cases ok with
   |false=>
    rw[if_neg Bool.false_ne_true] at q9 ⊢
    exact again I9 q9
   |true=>
    rw[if_pos rfl] at q9 ⊢
    refine thn (he _ _ _ _ _ s9 σ8 H9 _ I9 q9) fun y s10 ⟨vy,H10,I10,r10,ys,hys,hyl,q10⟩=>?_
    refine thn (q02 (X:=q0m X N scope s3.heap.objs.size s3 (upd H2 s2.heap.objs.size (.lst [])) fp) _ s10 σ8 H10 (.ref s2.heap.objs.size) [vy] (.ref s2.heap.objs.size) [y] (fun _ H11=>NN σ8 H11) I10 rfl (.cons r10 .nil) ⟨_,ys,vy,rfl,rfl,hys,hyl,q10⟩) fun _ s11 ⟨_,H11,I11,_,q11⟩=>?_
    exact again I11 q11
 subst hs3
 exact codeAny_compStart_list (loop _ ⟨_,rfl⟩) (T.self _ _ _ _ _ st3 (loop _ ⟨_,rfl⟩))
theorem q1B (O:CompOk X N scope own caps)(hc:X.calm=true)(hi:PI X tg iter wi)(hg:∀C s H fp,PG (q0m X N scope C s H fp) tg g)(ht:∀C s H fp,PIfs (q0m X N scope C s H fp) ifs tc)
  (he:∀C s H fp,PE (q0m X N scope C s H fp) elt te)(hs:∀x,foldedSetIterable iter X.env x=pure x:=by intro _;rfl):PE X (.ListComp elt [⟨tg,iter,ifs,0⟩] scope pos) (q8C wi g tc te own caps):=by
 intro pins s σ H Q I h
 rw[eval_ListComp]
 refine q6m (use:=none) O hc hi hg ht he hs I h fun D C H' s' m I' q hn h0 h1 h2 h3 h4=>?_
 exact⟨m,hn,fun h' sb=>⟨.ref D,H',I'.off h0 h1 h2 h3 h4 sb,rfl,q⟩⟩
theorem q1A {i:Nat}{y:Str}{py spos:Pos}(hN:X.N.Nodup)(hi':X.N[i]? =some y)(hy:X.env.scope.names.lookup y=some .local)(O:CompOk X N scope own caps)(hc:X.calm=true)(hi:PI X tg iter wi)(hg:∀C s H fp,PG (q0m X N scope C s H fp) tg g)
  (ht:∀C s H fp,PIfs (q0m X N scope C s H fp) ifs tc)(he:∀C s H fp,PE (q0m X N scope C s H fp) elt te)
  (hsw:swapsWith (.ListComp elt [⟨tg,iter,ifs,0⟩] scope pos) (some (.Name y py)) spos.line X.env=pure true:=by rfl)(hs:∀x,foldedSetIterable iter X.env x=pure x:=by intro _;rfl):
  PS X (.Assign [.Name y py] (.ListComp elt [⟨tg,iter,ifs,0⟩] scope pos) spos) (tAsg (q8C wi g tc te own caps) (q9s i)):=by
 intro pins s σ H D I h
 rw[exec_Assign_Name_used _ _ _ _ hsw]
 refine wpAny_bind (wpAny_standAt (wpAny_bind ?_))
 show wpAny _ _ (do let _<-comprehension (.ListComp elt [⟨tg,iter,ifs,0⟩] scope pos) scope X.env _ (newList []) false (eval iter X.env) (some (assign (.Name y py) X.env))) _ _ s
 refine wpAny_bind (wpAny_mono (q6m (use:=some (assign (.Name y py) X.env)) (QQ:=fun _ s'=>SP X pins D .next s') O hc hi hg ht he hs I h fun L C H' s' m I' q hn h0 h1 h2 h3 h4=>?_) (fun _ s' hq=>wpAny_pure (wpAny_pure hq)) fun _ _ e=>e)
 refine wpAny_assign_Name (q4B I' hN hi' (.inl hy) (v:= .ref L) rfl (fun s2 I2 ⟨a,sb,ha⟩=>?_) (.inr hy))
 have hac:C≠a:=by
  rcases ha with ha|ha
  ·rw [ha];exact h1
  ·exact (h3 _ _ ha).symm
 exact⟨m,hn.sameBut sb hac,fun h' sb'=>⟨_,H',I2.off h0 h1 h2 h3 h4 sb',q⟩⟩
end
end L2
namespace PySem
open Sem (wp)
section
variable {prog:Program}{w:World}{A:Around}{E:Value->Shared->Prop}{s:Shared}
theorem q3I {I T:Addr}{k:Nat}{vals:Array Value}{y:Value}{Q:Value->Shared->Prop}(st:s.heap.IsTupleIter I T k)(tp:s.heap.IsTuple T vals)(hy:vals[k]? =some y)
  (hQ:∀h',h'.IsTupleIter I T (k+1)->Heap.SameBut I s.heap h'->Q y {s with heap:=h'}):wpAny (model prog w) A (Builtin.SmallTypes.nextOf (.ref I)) Q E s:=by
 obtain⟨oI,eI,cI,dI⟩:=id st
 obtain⟨oT,eT,_,nT,dT⟩:=tp
 unfold Builtin.SmallTypes.nextOf
 refine wpAny_bind (wpAny_callSpecial?_slot (name:=Str.ofString "__next__") st.typeIs F.slot_tuple_iterator_next (wpAny_call_entry F.slot_tuple_iterator_next st.typeIs F.entry_tuple_iterator_next ?_ (F.args_tuple_iterator_next_1 _)))
 show wpAny _ _ (field (.ref I) 0 >>= _) _ _ s
 refine wpAny_bind (wpAny_field eI dI (x:= .ref T) rfl ?_)
 show wpAny _ _ (if (Value.ref T==Value.none)=true then _ else _) _ _ s
 rw[if_neg (show¬((Value.ref T==Value.none)=true) from Bool.false_ne_true)]
 show wpAny _ _ (field (.ref I) 1 >>= _) _ _ s
 refine wpAny_bind (wpAny_field eI dI (x:= .int k 0) rfl ?_)
 show wpAny _ _ (seqItems? (.ref T) >>= _) _ _ s
 refine wpAny_bind (wpAny_seqItems eT dT ?_)
 simp only[Int.toNat_natCast,hy]
 refine wpAny_bind (wpAny_setField eI dI (by simp) (wpAny_pure ⟨y,rfl,wpAny_pure (hQ _ ?_ (Heap.SameBut.update ..))⟩))
 exact⟨_,Heap.get?_update_self _ eI (Obj.isFreed_of_fields (Obj.data_mapFields dI _)),(Obj.cls_mapFields ..).trans cI,by rw[Obj.data_mapFields dI];simp[rawInt]⟩
theorem q15 {I T:Addr}{k:Nat}{vals:Array Value}{Q:Value->Shared->Prop}(hh:A.handled=none)(st:s.heap.IsTupleIter I T k)(tp:s.heap.IsTuple T vals)(hy:vals[k]? =none)
  (hE:∀h' e,Heap.ExtBut I s.heap h'->(∃o,h'.get? e=some o/\o.cls= .type "StopIteration")->E (.ref e) {s with heap:=h'}):wpAny (model prog w) A (Builtin.SmallTypes.nextOf (.ref I)) Q E s:=by
 obtain⟨oI,eI,cI,dI⟩:=id st
 obtain⟨oT,eT,_,nT,dT⟩:=tp
 unfold Builtin.SmallTypes.nextOf
 refine wpAny_bind (wpAny_callSpecial?_slot (name:=Str.ofString "__next__") st.typeIs F.slot_tuple_iterator_next (wpAny_call_entry F.slot_tuple_iterator_next st.typeIs F.entry_tuple_iterator_next ?_ (F.args_tuple_iterator_next_1 _)))
 show wpAny _ _ (field (.ref I) 0 >>= _) _ _ s
 refine wpAny_bind (wpAny_field eI dI (x:= .ref T) rfl ?_)
 show wpAny _ _ (if (Value.ref T==Value.none)=true then _ else _) _ _ s
 rw[if_neg (show¬((Value.ref T==Value.none)=true) from Bool.false_ne_true)]
 show wpAny _ _ (field (.ref I) 1 >>= _) _ _ s
 refine wpAny_bind (wpAny_field eI dI (x:= .int k 0) rfl ?_)
 show wpAny _ _ (seqItems? (.ref T) >>= _) _ _ s
 refine wpAny_bind (wpAny_seqItems eT dT ?_)
 simp only[Int.toNat_natCast,hy]
 refine wpAny_bind (wpAny_rule (wpAny_bind (wpAny_setField eI dI (by simp) ?_)))
 show wpAny _ _ (newExc (.type "StopIteration") [] >>= _) _ _ _
 refine wpAny_bind ?_
 simp only[newExc,newTuple]
 refine wpAny_bind (wpAny_newObj_type ?_ (by size_fits))
 refine wpAny_bind (m:=firstArgMember _ _) (wpAny_of_eq (a:=Value.none) (by first|rfl|(simp only[firstArgMember];rfl)) ?_)
 refine wpAny_newObj_type ?_ (by size_fits)
 simp only[raiseNew]
 refine wpAny_bind (wpAny_handled ?_)
 first|rw[show A.in1.handled=none from hh]|rw[hh]
 refine wpAny_bind (wpAny_pure (wpAny_throw ?_))
 exact hE _ _ (((Heap.SameBut.update ..).extBut.push _).push _) ⟨_,Heap.get?_push_size _ rfl,rfl⟩
end
theorem Heap.IsTuple.at2 {h h':Heap}{a:Addr}{vals:Array Value}(x:h.IsTuple a vals)(e:∀o,h.get? a=some o->h'.get? a=some o):h'.IsTuple a vals:=let ⟨o,q,r⟩:=x;⟨o,e o q,r⟩
theorem Heap.IsTupleIter.at2 {h h':Heap}{a t:Addr}{i:Nat}(x:h.IsTupleIter a t i)(e:∀o,h.get? a=some o->h'.get? a=some o):h'.IsTupleIter a t i:=let ⟨o,q,r⟩:=x;⟨o,e o q,r⟩
theorem Draws.tup {prog:Program}{w:World}{A:Around}(hh:A.handled=none)(I T:Addr)(hne:T≠I)(vals:Array Value):
  Draws prog w A I [I,T] vals.size (fun i v=>vals[i]? =some v) (fun i h=>h.IsTupleIter I T i/\h.IsTuple T vals) where
 live:=fun _ _ st=>let ⟨o,ho,_⟩:=st.1;⟨o,ho⟩
 frame:=fun _ _ _ st hk=>⟨st.1.at2 fun o e=>hk I (by simp) o e,st.2.at2 fun o e=>hk T (by simp) o e⟩
 item:=fun i s Q E hi st hQ=>q3I st.1 st.2 (y:=vals[i]) (by simp[hi]) fun h' st' sb=>hQ _ h' s.toks (by simp[hi]) ⟨st',st.2.extBut sb.extBut hne⟩ sb
 done:=fun s Q E st hE=>q15 hh st.1 st.2 (by simp) hE
section
open AutoSeq1 (wpAny_loadPart')
theorem q3f (l:Addr)(items:Array Value)(n:Nat)(dct:Option Addr)(sl:Array (Option Value)):
  Meets (Builtin.«enumerate.__new__» ⟨[.type "enumerate",.ref l],[]⟩) (fun _ R s=>s.heap.get? l=some {cls:= .type "tuple",dict:=dct,data:= .seq items n,slots:=sl}/\
   R (.ok (.ret (.ref (s.heap.push {cls:= .type "tuple_iterator",data:= .fields #[.ref l,.int 0 0]}).objs.size)))
    {s with heap:=(s.heap.push {cls:= .type "tuple_iterator",data:= .fields #[.ref l,.int 0 0]}).push {cls:= .type "enumerate",data:= .fields #[.none,.bool false,.ref s.heap.objs.size,rawInt 0,.none,.none]}}):=
 .of_wp fun prog w A R s h=>by
  obtain⟨hp,g,d,tk,os⟩:=s;obtain⟨hl,h⟩:=h
  have hsub:=sub_enumerate
  have hL:Heap.IsTuple (Shared.heap ⟨hp,g,d,tk,os⟩) l items:=⟨_,hl,rfl,n,rfl⟩
  wp_walk using wpAny_loadPart' hl
  refine wpAny_stack_any fun st=>wpAny_pure ?_
  split
  ·rename_i c _ _ _ _ _
   cases(c==Value.type "enumerate")
   ·wp_walk using wpAny_loadPart' hl,wpAny_pyIter_tuple hL
    exact⟨_,rfl,h⟩
   ·wp_walk using wpAny_loadPart' hl,wpAny_pyIter_tuple hL
    exact⟨_,rfl,h⟩
  ·wp_walk using wpAny_loadPart' hl,wpAny_pyIter_tuple hL
   exact⟨_,rfl,h⟩
variable {prog:Program}{w:World}{A:Around}{E:Value->Shared->Prop}{s:Shared}
theorem q3r {l:Addr}{items:Array Value}{Q:Value->Shared->Prop}(hL:s.heap.IsTuple l items)
  (h:∀h',IsEnum h' (s.heap.objs.size+1) s.heap.objs.size 0 .none->h'.IsTupleIter s.heap.objs.size l 0->h'.objs.size=s.heap.objs.size+2->
   (∀b o,s.heap.get? b=some o->h'.get? b=some o)->Q (.ref (s.heap.objs.size+1)) {s with heap:=h'}):
  wpAny (model prog w) A (call (.type "enumerate") [.ref l]) Q E s:=by
 obtain⟨⟨c,dct,dt,sl⟩,hl,hc,n,hd⟩:=hL
 replace hc:c= .type "tuple":=hc
 replace hd:dt= .seq items n:=hd
 subst hc hd
 refine callType_new F.called_enumerate (by decide) (F.typeCall_enumerate_1 _) (F.newCall_enumerate_1 _) (fun obj=>F.args_object_init_2 obj _) F.entry_enumerate_new (q3f l items n dct sl) ⟨hl,?_⟩
 have hz:(s.heap.push {cls:= .type "tuple_iterator",data:= .fields #[.ref l,.int 0 0]}).objs.size=s.heap.objs.size+1:=Heap.size_push ..
 show _/\_
 rw[hz]
 have he:IsEnum ((s.heap.push {cls:= .type "tuple_iterator",data:= .fields #[.ref l,.int 0 0]}).push
   {cls:= .type "enumerate",data:= .fields #[.none,.bool false,.ref s.heap.objs.size,rawInt 0,.none,.none]}) (s.heap.objs.size+1) s.heap.objs.size 0 .none:=by
  have q:=Heap.get?_push_size (s.heap.push {cls:= .type "tuple_iterator",data:= .fields #[.ref l,.int 0 0]})
   (o:={cls:= .type "enumerate",data:= .fields #[.none,.bool false,.ref s.heap.objs.size,rawInt 0,.none,.none]}) rfl
  rw[hz] at q;exact q
 refine⟨⟨_,he,rfl⟩,h _ he ⟨_,Heap.get?_push_of_some _ (Heap.get?_push_size _ rfl),rfl,rfl⟩ (by rw[Heap.size_push,hz]) fun b o x=>Heap.get?_push_of_some _ (Heap.get?_push_of_some _ x)⟩
end
end PySem
namespace L2
open PySem PySem.Spec PyProof.Rows
section
variable {X:Cx}{pins:List (Addr×Obj)}{σ:St}{H:Hp}{s:Shared}
theorem Inv.turnedL {h':Heap}{t':Nat}{ch:List Addr}(I:Inv X pins σ H s)(hf:∀b∈ch,FpOk X pins H b)(k:∀b o,b∉ch->s.heap.get? b=some o->h'.get? b=some o):Inv X pins σ H {s with heap:=h',toks:=t'}:=by
 have nit:∀b u,H b=some u->b∉ch:=fun b u e z=>by rw[(hf b z).1] at e;cases e
 refine I.step (g':=s.gens) (d':=s.drawn) (ch:=ch) (fun b hb=>⟨(hf b hb).2.2.2.1,(hf b hb).2.1,(hf b hb).2.2.2.2.1,(hf b hb).2.2.2.2.2⟩) (fun b o _ _ hc e _=>k b o hc e) (fun b o _ _ hc e _=>⟨o.slots,k b o hc e⟩) (fun _ _ _ _ n=>n)
  (fun b o hc e=>⟨o,k b o hc e⟩) (fun _ _ e=>e) (fun _ _ _ e=>e) (fun b ps e=>⟨#[],by rw[e];simp⟩) (fun m hm=>?_) (fun b u e=>?_) I.bare
 ·obtain ⟨o,es,ep,ho,r⟩:=hm
  exact⟨o,es,ep,k _ o (fun z=>(hf _ z).2.1 rfl) ho,r⟩
 ·refine (I.hok b u e).stay (fun c v hc q=>k c v ?_ q) (fun _ q=>q) fun _ _ q=>q
  rcases hc with z|z
  ·rw [z];exact nit b u e
  ·exact nit c _ z
theorem Inv.track {a:Addr}{o:HO}(I:Inv X pins σ H s)(ha:X.s₀.heap.objs.size<=a)(hn:H a=none)(hL:a≠X.env.locals)(hc:∀x c,X.env.cells.lookup x=some c->c≠a)(hp:∀p∈X.pn++pins,p.1≠a)
  (new:q0l X.prog X.w (upd H a o) s.heap a o):Inv X pins σ (upd H a o) s:=by
 have ne:∀b ob,X.s₀.heap.get? b=some ob->b≠a:=fun b ob e=>Nat.ne_of_lt (Nat.lt_of_lt_of_le (Heap.lt_size e) ha)
 refine⟨I.ok,I.os,I.bare,⟨I.base.keep,I.base.slot,fun b ob e n hx=>by rw[qp (ne b ob e)];exact I.base.free b ob e n hx,I.base.there,fun b xs e=>?_,fun b ob u e=>?_,fun b ps e=>?_⟩,I.loc,I.cell,by rw[qp hL.symm];exact I.free,
  fun x c e=>by rw[qp (hc x c e)];exact I.freeC x c e,fun p hpp=>?_,fun b u e=>?_,I.len⟩
 ·have q:=I.base.tups b xs e
  rw[qp (qv q hn)];exact q
 ·have q:=I.base.frzs b ob u e
  rw[qp (qv q hn)];exact q
 ·obtain ⟨more,q⟩:=I.base.tbls b ps e
  exact⟨more,by rw[qp (qv q hn)];exact q⟩
 ·obtain ⟨e1,n1,r⟩:=I.pin p hpp
  exact⟨e1,by rw[qp (hp p hpp)];exact n1,r⟩
 ·by_cases hb:b=a
  ·subst hb;rw[qg] at e;cases e;exact new
  ·rw [qp hb] at e
   exact(I.hok b u e).stay (fun c v _ q=>q) (fun c q=>by rw[qp (qv q hn)];exact q) fun c xs q=>by rw[qp (qv q hn)];exact q
theorem Inv.yields {h':Heap}{t':Nat}{ch:List Addr}{T:Addr}{xs:List V}{vals:List Value}(I:Inv X pins σ H s)(hf:∀b∈ch,FpOk X pins H b)(k:∀b o,b∉ch->s.heap.get? b=some o->h'.get? b=some o)
  (hT:s.heap.objs.size<=T)(tp:h'.IsTuple T vals.toArray)(r:Vals xs vals)(hz:xs.length<=sizeLine):Inv X pins σ (upd H T (.tup xs)) {s with heap:=h',toks:=t'}:=by
 have f:FpOk X pins H T:=I.fpOk hT (I.hok.fresh hT)
 have I1:Inv X pins σ H {s with heap:=h',toks:=t'}:=I.turnedL hf k
 exact I1.track (Nat.le_trans I.sz hT) f.1 f.2.1 f.2.2.2.2.1 f.2.2.2.2.2 ⟨hz,vals,r,tp⟩
theorem q7V {ch:List Addr}{T:Addr}{o:HO}(hf:∀b∈ch,FpOk X pins H b)(hT:∀b∈ch,b≠T):∀b∈ch,FpOk X pins (upd H T o) b:=fun b hb=>⟨by rw[qp (hT b hb)];exact(hf b hb).1,(hf b hb).2⟩
end
def Ite (Sq:Hp->List V->Prop):It:=
 ⟨fun i H=>∃xs x,Sq H xs/\xs[i]? =some x,fun i H y H'=>∃T,H T=none/\y= .ref T/\∀xs x,Sq H xs->xs[i]? =some x->H'=upd H T (.tup [.int i,x]),fun i H=>∃xs,Sq H xs/\xs.length<=i⟩
theorem q6z {P:Program}{w:World}{K:PySem.W.Frag}{elts:List Expr}{k:Nat}{tp:Pos}(a e it:Addr)(hei:e≠it):Turn P w K (.Tuple elts k tp) (Ite fun H xs=>SqL K H a xs) [e,it] e (fun i h=>(∃old,IsEnum h e it i old)/\h.IsListIter it a i) where
 mem:=by simp
 obj:=fun i h st b hb=>by
  obtain⟨⟨old,q⟩,o,q2,c,d⟩:=st
  rcases List.mem_cons.mp hb with rfl|hb
  ·exact ⟨_,q,fun v z=>by cases z⟩
  ·rw [List.mem_singleton.mp hb]
   exact⟨o,q2,fun v z=>by rw[d] at z;cases z⟩
 keep:=fun i h h' st kk=>⟨⟨st.1.choose,kk e (by simp) _ st.1.choose_spec⟩,st.2.at fun o q=>kk it (by simp) o q⟩
 item:=by
  intro X hP hw hK hc i pins s σ H E I hf st hg
  subst hP hw hK
  obtain⟨xs,x,hq,hx⟩:=hg
  obtain⟨⟨old,he⟩,hit⟩:=st
  obtain⟨its,rv,p,hz⟩:=I.list hq
  obtain⟨u,hu,ru⟩:=rv.get hx
  have hlen:=rv.length
  have hi:i<its.toArray.size:=by rw[List.size_toArray];exact(List.getElem?_eq_some_iff.mp hu).1
  have hai:a≠it:=fun z=>by
   obtain⟨o,q,c,d⟩:=hit
   obtain⟨o',q',c',_⟩:=p.isList
   rw[z] at q';rw[q] at q';cases q';rw[c] at c';simp at c'
  have hae:e≠a:=fun z=>by
   obtain⟨o',q',c',_⟩:=p.isList
   rw[<-z,he] at q';cases q';simp at c'
  refine wpAny_pyNext_enum_itemD (Draws.list (A:=X.A.in1) (I.ok.hd hc) it a hai its.toArray) he ⟨hit,p.isList⟩ hi hei (by simp[hei,hae]) fun y h' tk hy ho st' hT hsz hk=>?_
  have hyu:y=u:=by
   have:its[i]? =some y:=by simpa using hy
   rw[hu] at this;exact(Option.some.inj this).symm
  subst hyu
  have ne:∀b∈[e,it],b≠s.heap.objs.size:=fun b hb=>by
   rcases List.mem_cons.mp hb with rfl|hb
   ·exact Nat.ne_of_lt (Heap.lt_size he)
   ·rw [List.mem_singleton.mp hb];obtain⟨o,q,_⟩:=hit;exact Nat.ne_of_lt (Heap.lt_size q)
  have kk:∀b o,b∉[e,it]->s.heap.get? b=some o->h'.get? b=some o:=fun b o hb q=>hk b o (fun z=>hb (by simp[z])) (fun z=>hb (by simp[z])) q
  have I1:Inv X pins σ (upd H s.heap.objs.size (.tup [.int i,x])) {s with heap:=h',toks:=tk+1}:=I.yields (vals:=[.int i tk,y]) hf kk (Nat.le_refl _) ⟨_,hT,rfl,_,rfl⟩ (.cons ⟨tk,rfl⟩ (.cons ru .nil)) (by show 2<=sizeLine;decide)
  have hf1:=q7V (o:= .tup [.int i,x]) hf ne
  refine⟨_,rfl,wpAny_letOwnedTupleGo_enum ho fun h'' he'' sb=>?_⟩
  have I2:Inv X pins σ (upd H s.heap.objs.size (.tup [.int i,x])) {s with heap:=h'',toks:=tk+1}:=I1.turnedL (t':=tk+1) hf1 fun b o hb q=>(sb.2 b fun z=>hb (by simp[z])).trans q
  refine⟨.ref s.heap.objs.size,_,I2,rfl,⟨_,I.hok.fresh (Nat.le_refl _),rfl,fun ys y' hy' hx'=>?_⟩,⟨⟨_,by simpa using he''⟩,st'.1.at fun o q=>(sb.2 it hei.symm).trans q⟩,fun b hb=>(hf1 b hb).1⟩
  have:=I.list_inj hy' hq
  subst this
  rw[hx] at hx'
  rw[Option.some.inj hx']
 done:=by
  intro X hP hw hK hc i pins s σ H E I hf st hg
  subst hP hw hK
  obtain⟨xs,hq,hx⟩:=hg
  obtain⟨⟨old,he⟩,hit⟩:=st
  obtain⟨its,rv,p,hz⟩:=I.list hq
  have hlen:=rv.length
  have hai:a≠it:=fun z=>by
   obtain⟨o,q,c,d⟩:=hit
   obtain⟨o',q',c',_⟩:=p.isList
   rw[z] at q';rw[q] at q';cases q';rw[c] at c';simp at c'
  have D:Draws X.prog X.w X.A.in1 it [it,a] i (fun _ _=>False) (fun k h=>k=i/\h.IsListIter it a i/\h.IsList a its.toArray):=
   {live:=fun _ _ st=>let ⟨o,ho,_⟩:=st.2.1;⟨o,ho⟩
    frame:=fun _ _ _ st hk=>⟨st.1,st.2.1.at fun o q=>hk it (by simp) o q,st.2.2.at fun o q=>hk a (by simp) o q⟩
    item:=fun k s Q E hk st _=>absurd st.1 (Nat.ne_of_lt hk)
    done:=fun s Q E st hE=>wpAny_nextOf_list_end (I.ok.hd hc) st.2.1 st.2.2 (by simp;omega) hE}
  refine wpAny_pyNext_enum_endD D he ⟨rfl,hit,p.isList⟩ fun h' eb=>⟨rfl,I.turnedL (t':=s.toks) (ch:=[e,it]) hf fun b o hb q=>eb b o (fun z=>hb (by simp[z])) q⟩
 self:=fun _ _ _ _ _ st h=>wpAny_pyIter_enum st.1.choose_spec h
theorem q6y {P:Program}{w:World}{K:PySem.W.Frag}{elts:List Expr}{k:Nat}{tp:Pos}(a e it:Addr)(hei:e≠it):Turn P w K (.Tuple elts k tp) (Ite fun H xs=>SqT K H a xs) [e,it] e (fun i h=>(∃old,IsEnum h e it i old)/\h.IsTupleIter it a i) where
 mem:=by simp
 obj:=fun i h st b hb=>by
  obtain⟨⟨old,q⟩,o,q2,c,d⟩:=st
  rcases List.mem_cons.mp hb with rfl|hb
  ·exact ⟨_,q,fun v z=>by cases z⟩
  ·rw [List.mem_singleton.mp hb]
   exact⟨o,q2,fun v z=>by rw[d] at z;cases z⟩
 keep:=fun i h h' st kk=>⟨⟨st.1.choose,kk e (by simp) _ st.1.choose_spec⟩,st.2.at2 fun o q=>kk it (by simp) o q⟩
 item:=by
  intro X hP hw hK hc i pins s σ H E I hf st hg
  subst hP hw hK
  obtain⟨xs,x,hq,hx⟩:=hg
  obtain⟨⟨old,he⟩,hit⟩:=st
  obtain⟨its,rv,p,hz⟩:=I.tuple hq
  have p:s.heap.IsTuple a its.toArray:=p
  obtain⟨u,hu,ru⟩:=rv.get hx
  have hlen:=rv.length
  have hi:i<its.toArray.size:=by rw[List.size_toArray];exact(List.getElem?_eq_some_iff.mp hu).1
  have hai:a≠it:=fun z=>by
   obtain⟨o,q,c,d⟩:=hit
   obtain⟨o',q',c',_⟩:=p
   rw[z] at q';rw[q] at q';cases q';rw[c] at c';simp at c'
  have hae:e≠a:=fun z=>by
   obtain⟨o',q',c',_⟩:=p
   rw[<-z,he] at q';cases q';simp at c'
  refine wpAny_pyNext_enum_itemD (Draws.tup (A:=X.A.in1) (I.ok.hd hc) it a hai its.toArray) he ⟨hit,p⟩ hi hei (by simp[hei,hae]) fun y h' tk hy ho st' hT hsz hk=>?_
  have hyu:y=u:=by
   have:its[i]? =some y:=by simpa using hy
   rw[hu] at this;exact(Option.some.inj this).symm
  subst hyu
  have ne:∀b∈[e,it],b≠s.heap.objs.size:=fun b hb=>by
   rcases List.mem_cons.mp hb with rfl|hb
   ·exact Nat.ne_of_lt (Heap.lt_size he)
   ·rw [List.mem_singleton.mp hb];obtain⟨o,q,_⟩:=hit;exact Nat.ne_of_lt (Heap.lt_size q)
  have kk:∀b o,b∉[e,it]->s.heap.get? b=some o->h'.get? b=some o:=fun b o hb q=>hk b o (fun z=>hb (by simp[z])) (fun z=>hb (by simp[z])) q
  have I1:Inv X pins σ (upd H s.heap.objs.size (.tup [.int i,x])) {s with heap:=h',toks:=tk+1}:=I.yields (vals:=[.int i tk,y]) hf kk (Nat.le_refl _) ⟨_,hT,rfl,_,rfl⟩ (.cons ⟨tk,rfl⟩ (.cons ru .nil)) (by show 2<=sizeLine;decide)
  have hf1:=q7V (o:= .tup [.int i,x]) hf ne
  refine⟨_,rfl,wpAny_letOwnedTupleGo_enum ho fun h'' he'' sb=>?_⟩
  have I2:Inv X pins σ (upd H s.heap.objs.size (.tup [.int i,x])) {s with heap:=h'',toks:=tk+1}:=I1.turnedL (t':=tk+1) hf1 fun b o hb q=>(sb.2 b fun z=>hb (by simp[z])).trans q
  refine⟨.ref s.heap.objs.size,_,I2,rfl,⟨_,I.hok.fresh (Nat.le_refl _),rfl,fun ys y' hy' hx'=>?_⟩,⟨⟨_,by simpa using he''⟩,st'.1.at2 fun o q=>(sb.2 it hei.symm).trans q⟩,fun b hb=>(hf1 b hb).1⟩
  have:=I.tuple_inj hy' hq
  subst this
  rw[hx] at hx'
  rw[Option.some.inj hx']
 done:=by
  intro X hP hw hK hc i pins s σ H E I hf st hg
  subst hP hw hK
  obtain⟨xs,hq,hx⟩:=hg
  obtain⟨⟨old,he⟩,hit⟩:=st
  obtain⟨its,rv,p,hz⟩:=I.tuple hq
  have p:s.heap.IsTuple a its.toArray:=p
  have hlen:=rv.length
  have D:Draws X.prog X.w X.A.in1 it [it,a] i (fun _ _=>False) (fun k h=>k=i/\h.IsTupleIter it a i/\h.IsTuple a its.toArray):=
   {live:=fun _ _ st=>let ⟨o,ho,_⟩:=st.2.1;⟨o,ho⟩
    frame:=fun _ _ _ st hk=>⟨st.1,st.2.1.at2 fun o q=>hk it (by simp) o q,st.2.2.at2 fun o q=>hk a (by simp) o q⟩
    item:=fun k s Q E hk st _=>absurd st.1 (Nat.ne_of_lt hk)
    done:=fun s Q E st hE=>q15 (I.ok.hd hc) st.2.1 st.2.2 (by simp;omega) hE}
  refine wpAny_pyNext_enum_endD D he ⟨rfl,hit,p⟩ fun h' eb=>⟨rfl,I.turnedL (t':=s.toks) (ch:=[e,it]) hf fun b o hb q=>eb b o (fun z=>hb (by simp[z])) q⟩
 self:=fun _ _ _ _ _ st h=>wpAny_pyIter_enum st.1.choose_spec h
theorem q26:bootBuiltins "enumerate"=some (.type "enumerate"):=by decide +kernel
section
variable {X:Cx}{elts:List Expr}{k:Nat}{tp:Pos}
def q7Q (K:PySem.W.Frag)(ta:TA):TI:=fun σ H R=>ta σ H fun vs H1=>∃a,vs=[.ref a]/\(∃xs,SqL K H1 a xs)/\R (Ite fun H xs=>SqL K H a xs) H1
def q7P (K:PySem.W.Frag)(ta:TA):TI:=fun σ H R=>ta σ H fun vs H1=>∃a,vs=[.ref a]/\(∃xs,SqT K H1 a xs)/\R (Ite fun H xs=>SqT K H a xs) H1
theorem q8V {a:Expr}{ta:TA}{p pos:Pos}(hg:Gl X "enumerate")(hm:X.mg "enumerate"=none)(ha:PA X [a] ta)(hs:starEach [a] X.env=[(false,eval a X.env)]:=by rfl):PI X (.Tuple elts k tp) (.Call (.Name "enumerate" p) [a] [] pos) (q7Q X.K ta):=by
 intro pins s σ H R I h
 refine Call_ (q24 I hg hm q26 (PyProof.Rows.callWith_type1 (thn (ha pos pins s σ H _ I h) fun us s1 ⟨vs,H1,I1,r1,q1⟩=>?_) hs rfl))
 obtain⟨l,e,⟨xs,hq⟩,q⟩:=q1
 subst e
 obtain⟨u,rfl,rx⟩:=q6v r1
 cases rx
 obtain⟨its,rv,pl,hz⟩:=I1.list hq
 refine call_enumerate_list pl.isList fun h' he hit hsz hk=>wpAny_pyIter_enum he ?_
 refine⟨_,[s1.heap.objs.size+1,s1.heap.objs.size],_,_,H1,rfl,I1.kept (t':=s1.toks) hk,q6z l _ _ (Nat.succ_ne_self _),⟨⟨_,he⟩,hit⟩,fun b hb=>?_,q⟩
 rcases List.mem_cons.mp hb with rfl|hb
 ·exact I1.fpOk (Nat.le_succ _) (I1.hok.fresh (Nat.le_succ _))
 ·rw [List.mem_singleton.mp hb];exact I1.fpOk (Nat.le_refl _) (I1.hok.fresh (Nat.le_refl _))
theorem q8U {a:Expr}{ta:TA}{p pos:Pos}(hg:Gl X "enumerate")(hm:X.mg "enumerate"=none)(ha:PA X [a] ta)(hs:starEach [a] X.env=[(false,eval a X.env)]:=by rfl):PI X (.Tuple elts k tp) (.Call (.Name "enumerate" p) [a] [] pos) (q7P X.K ta):=by
 intro pins s σ H R I h
 refine Call_ (q24 I hg hm q26 (PyProof.Rows.callWith_type1 (thn (ha pos pins s σ H _ I h) fun us s1 ⟨vs,H1,I1,r1,q1⟩=>?_) hs rfl))
 obtain⟨l,e,⟨xs,hq⟩,q⟩:=q1
 subst e
 obtain⟨u,rfl,rx⟩:=q6v r1
 cases rx
 obtain⟨its,rv,pl,hz⟩:=I1.tuple hq
 refine q3r (show s1.heap.IsTuple l its.toArray from pl) fun h' he hit hsz hk=>wpAny_pyIter_enum he ?_
 refine⟨_,[s1.heap.objs.size+1,s1.heap.objs.size],_,_,H1,rfl,I1.kept (t':=s1.toks) hk,q6y l _ _ (Nat.succ_ne_self _),⟨⟨_,he⟩,hit⟩,fun b hb=>?_,q⟩
 rcases List.mem_cons.mp hb with rfl|hb
 ·exact I1.fpOk (Nat.le_succ _) (I1.hok.fresh (Nat.le_succ _))
 ·rw [List.mem_singleton.mp hb];exact I1.fpOk (Nat.le_refl _) (I1.hok.fresh (Nat.le_refl _))
end
end L2
namespace PySem
open Sem (wp)
end PySem
namespace L2
open PySem PySem.Spec PyProof.Rows
end L2
namespace L2
open PySem PySem.Spec PyProof.Rows
section
variable {X:Cx}
def rIsiT (K:PySem.W.Frag):List V->Hp->VK->Prop:=fun xs H Q=>∃x n t b,xs=[x,.ty n]/\TyOf K H x t/\PySem.W.kitOne K t (.type n)=some b/\Q (.bl b) H
theorem q8s:q2F X (.builtin "isinstance") (rIsiT X.K):=by
 intro pins s σ H xs us Q I r h
 obtain⟨x,n,t,b,rfl,ty,e,q⟩:=h
 obtain⟨u,v,rfl,rx,ry⟩:=qa6 r
 cases ry
 exact q7M I rx ty e fun tk=>⟨.bl b,H,I.tok _,rfl,q⟩
end
end L2
namespace HT
open PySem PyProof.Rows
section
variable {prog:Program}{w:World}{A:Around}{E:Value->Shared->Prop}{s:Shared}
theorem q2A {t sl:Addr}{items:Array Value}{vl vu:Value}{lo hi:Option Int}{Q:Value->Shared->Prop}(ht:IsTup s.heap t items)(hs:s.heap.IsSliceOf sl vl vu .none)(pl:IsPart vl lo)(pu:IsPart vu hi)
  (hw:sIx items.size 0 lo=0/\sIx items.size items.size hi=items.size)(h:Q (.ref t) s):wpAny (model prog w) A (getItem (.ref t) (.ref sl)) Q E s:=by
 obtain⟨os,hos,hcs,hds⟩:=id hs
 have hTs:s.TypeIs (.ref sl) "slice":=⟨os,hos,hcs⟩
 unfold getItem
 try with_reducible refine wpAny_holding ?_
 first|refine wpAny_bind (wpAny_pure ?_)|skip
 refine wpAny_bind (wpAny_sequenceKey ht.typeIs (by decide) ?_)
 refine wpAny_bind (wpAny_callSpecial?_slot (name:=Str.ofString "__getitem__") ht.typeIs PyProof.Rows.slot_tuple_getitem (wpAny_call_entry PyProof.Rows.slot_tuple_getitem ht.typeIs entry_tuple_getitem ?_ (args_tuple_getitem _ _)))
 show wpAny _ _ (Builtin.Tuple.tupleItemsOf (.ref t) >>= _) _ _ s
 refine wpAny_bind (tupleItemsOf_ ht (wpAny_bind (wpAny_typeOf hTs ?_)))
 rw[if_pos (by decide)]
 refine wpAny_bind (q1E hs pl pu ?_)
 have yes:(((sIx items.size 0 lo:Nat):Int)==0&&(1:Int)==1&&(sIx items.size items.size hi - sIx items.size 0 lo)==items.size)=true:=by
  rw[hw.1,hw.2];simp
 show wpAny _ _ (if (((sIx items.size 0 lo:Nat):Int)==0&&(1:Int)==1&&(sIx items.size items.size hi - sIx items.size 0 lo)==items.size)=true then _ else _) _ _ s
 rw[if_pos yes]
 refine wpAny_bind (m:=Builtin.Tuple.tupleIsExact _) ?_
 unfold Builtin.Tuple.tupleIsExact
 refine wpAny_bind (wpAny_typeOf ht.typeIs (wpAny_pure ?_))
 simp only[beq_self_eq_true,if_true]
 first
  |exact wpAny_bind (wpAny_rule (wpAny_pure ⟨_,rfl,wpAny_pure h⟩))
  |exact wpAny_bind (wpAny_rule (wpAny_bind (wpAny_pure (wpAny_pure ⟨_,rfl,wpAny_pure h⟩))))
  |exact wpAny_bind (wpAny_rule (wpAny_bind (wpAny_pure ⟨_,rfl,wpAny_pure h⟩)))
  |(trace_state;fail)
end
end HT
namespace L2
open PySem PySem.Spec PyProof.Rows
section
variable {X:Cx}
def qao (K:PySem.W.Frag):V->Option Int->Option Int->Hp->VK->Prop:=fun x lo hi H Q=>∃a xs,x= .ref a/\SqT K H a xs/\(cutV xs lo hi=xs->Q (.ref a) H)/\∀p,H p=none->Q (.ref p) (upd H p (.tup (cutV xs lo hi)))
theorem qaf:SlR X (qao X.K):=by
 intro pins s σ H x v vl vu lo hi sl Q I rx hs pl pu h
 obtain⟨a,xs,rfl,hx,h1,h2⟩:=h
 by_cases hw:HT.sIx xs.length 0 lo=0/\HT.sIx xs.length xs.length hi=xs.length
 ·have e:cutV xs lo hi=xs:=by unfold cutV;rw[hw.1,hw.2];simp
  cases rx
  obtain⟨its,r,ht,hz⟩:=I.tuple hx
  have hlen:its.toArray.size=xs.length:=by rw[List.size_toArray];exact r.length.symm
  exact⟨"tuple",_,PyProof.Rows.slot_tuple_getitem.lookup,ht.typeIs,HT.q2A ht hs pl pu (by rw[hlen];exact hw) ⟨.ref a,H,I,rfl,h1 e⟩⟩
 ·exact sl_tup pins s σ H (.ref a) v vl vu lo hi sl Q I rx hs pl pu ⟨a,xs,rfl,hx,hw,h2⟩
end
theorem q3o {J:It}{g:TG}{tc:TT}{te:TE}{R:Hp->Prop}{σ:St}{H:Hp}{D:Addr}(n:Nat)(Pv:Nat->St->Hp->Prop)(h0:Pv 0 σ H)
  (go:∀i σ H,i<n->Pv i σ H->J.go i H/\∀x H',J.yld i H x H'->g x σ H' fun σ3 H3=>tc σ3 H3 fun b H4=>
   if b=true then te σ3 H4 fun y H5=>∃ys,H5 D=some (.lst ys)/\ys.length<sizeLine/\Pv (i+1) σ3 (upd H5 D (.lst (ys++[y]))) else Pv (i+1) σ3 H4)(stop:∀σ H,Pv n σ H->J.stop n H/\R H):
  ∃W:Nat->Nat->St->Hp->Prop,(∃m,W 0 m σ H)/\∀i m σ H,W i m σ H->
   (J.stop i H/\R H)\/(J.go i H/\∃N:St->Hp->Prop,(∀σ' H',N σ' H'->∃m',m'<m/\W (i+1) m' σ' H')/\∀x H',J.yld i H x H'->g x σ H' fun σ3 H3=>tc σ3 H3 fun b H4=>
    if b=true then te σ3 H4 fun y H5=>∃ys,H5 D=some (.lst ys)/\ys.length<sizeLine/\N σ3 (upd H5 D (.lst (ys++[y]))) else N σ3 H4):=by
 refine⟨fun i m σ H=>m=n - i/\i<=n/\Pv i σ H,⟨n,by simp,Nat.zero_le _,h0⟩,?_⟩
 rintro i m σ H ⟨rfl,hi,p⟩
 by_cases hlt:i<n
 ·obtain ⟨q1,q2⟩:=go i σ H hlt p
  exact .inr ⟨q1,Pv (i+1),fun σ' H' p'=>⟨n - (i+1),by omega,rfl,hlt,p'⟩,q2⟩
 ·have e:i=n:=by omega
  subst e
  exact .inl (stop σ H p)
theorem Same.upd {H:Hp}{a:Addr}{o:HO}(h:H a=none):Same H (upd H a o):=fun b u e=>by rw[qp (qv e h)];exact e
theorem Same.put {H H':Hp}{a:Addr}{o:HO}(e:Same H H')(h:H a=none):Same H (L2.upd H' a o):=fun b u q=>by rw[qp (qv q h)];exact e b u q
def isFun:ScopeKind->Bool
 | .function=>true
 |_=>false
theorem q9o {k:ScopeKind}(h:isFun k=true):k= .function:=by
 cases k<;>first|rfl|cases h
def q8e (Nx:List Str)(scx:Scope)(N:List Str)(scope:Scope)(own:Nat)(caps:List Nat):Bool:=
 isFun scope.kind&&scope.names.all (fun y=>(y.2 != .local||scope.names.lookup y.1==some .local)&&y.2 != .cell&&(y.2 != .free||scx.names.lookup y.1==some .cell||scx.names.lookup y.1==some .free))&&
  N.length==own+caps.length&&(caps.zip (N.drop own)).all fun p=>decide (Nx[p.1]? =some p.2)&&scope.names.lookup p.2==some .free
theorem q0v {X:Cx}{N:List Str}{scope:Scope}{own:Nat}{caps:List Nat}(Nx:List Str)(scx:Scope)(h:q8e Nx scx N scope own caps=true)(hN:X.N=Nx:=by rfl)(hs:X.env.scope=scx:=by rfl):CompOk X N scope own caps:=by
 unfold q8e at h
 simp only[Bool.and_eq_true,List.all_eq_true] at h
 obtain⟨⟨⟨h1,h2⟩,h3⟩,h4⟩:=h
 refine⟨q9o h1,fun y hy hl=>?_,fun y hy hc=>?_,fun y hy hf=>?_,by simpa using h3,fun i j x e1 e2=>?_⟩
 ·have:=(h2 y hy).1.1
  simpa[hl] using this
 ·have:=(h2 y hy).1.2
  simp[hc] at this
 ·have:=(h2 y hy).2
  show X.env.scope.names.lookup y.1=some .cell\/X.env.scope.names.lookup y.1=some .free
  rw[hs]
  simpa[hf] using this
 ·have hm:(j,x)∈caps.zip (N.drop own):=by
   have e3:(N.drop own)[i]? =some x:=by rw[List.getElem?_drop];exact e2
   exact List.mem_iff_getElem?.mpr ⟨i,by rw[List.getElem?_zip_eq_some];exact⟨e1,e3⟩⟩
  have:=h4 _ hm
  rw[hN]
  exact⟨of_decide_eq_true this.1,by simpa using this.2⟩
structure Cal (P:Program)(w:World)(K:PySem.W.Frag)(mg:Str->Option Value)(base:Heap)(k:Nat)(x:Str)(ps:List Str)(sp:Sp):Prop where
 ex:∃f fd,FnOk P w K mg base CX0 k f fd ps sp/\mg x=some (.ref f)/\PySem.W.keepIn K (.ref f)=true/\q1V K fd ps []
structure Laid (K:PySem.W.Frag)(mg:Str->Option Value)(x:Str)(st:Stmt)(ps:List Str):Prop where
 ex:∃f fd,Fun K x x st f fd/\mg x=some (.ref f)/\q1V K fd ps []
section
variable {P:Program}{w:World}{K:PySem.W.Frag}{mg:Str->Option Value}{base:Heap}
theorem Laid.cal {x:Str}{st:Stmt}{N ps:List Str}{k:Nat}{sp:Sp}(L:Laid K mg x st ps)(S:FnScope N ps (qf st))(len:∀vs H Q E,sp vs H Q E->vs.length=ps.length)
  (hbody:∀(f:Addr) (cdv:Value) (A:Around) (outer:List Env) (s:Shared) (H:Hp) (vs:List V) (Q:VK) (E:XK),Room k (A.deeper (envOfC x (qf st) s.heap.objs.size f cdv))->sp vs H Q E->
   ∃t,PSs (cxOf CX0 P w K mg base N x (qf st) f cdv A outer s H E).nox (qU st) t/\t {nx:=fun _ H'=>Q .non H',rt:=Q} (start N vs) H):Cal P w K mg base (k+1) x ps sp:=by
 obtain⟨f,fd,F,m,b⟩:=L.ex
 exact⟨f,fd,F.ok S len (fun cdv A outer s H vs Q E hr h=>hbody f cdv A outer s H vs Q E hr h),m,F.kp,b⟩
theorem qaZ {h:Heap}{x:Str}{st:Stmt}{ps:List Str}{f:Addr}{oc:Value}{od an:Option Addr}{osl:Array (Option Value)}{kV doc pm cdv ct:Value}(X:K.In h)(G:h.Ns mainGlobals mg)(a:PySem.W.nsIn K mainGlobals x=some (some (.ref f)))
  (l:K.lookup f=some ⟨oc,od,.func (PySem.W.fnOf x x (q0s st) (qU st) (qf st) .none kV doc pm an cdv ct),osl⟩)(c:PySem.W.codeIn K cdv x=true)(k:PySem.W.keepIn K (.ref f)=true)
  (hb:∀(kV doc pm:Value) (an:Option Addr) (cdv ct:Value) (us:List Value),us.length=ps.length->bindArgs (PySem.W.fnOf x x (q0s st) (qU st) (qf st) .none kV doc pm an cdv ct) ⟨us,[]⟩=pure (ps.zip us)):Laid K mg x st ps:=
 ⟨f,_,q2s l c k,PySem.W.mg_of X G a,(q2s l c k).binds hb⟩
end
section
variable {X:Cx}{k k':Nat}{x:Str}{ps:List Str}{sp:Sp}{p pos:Pos}{e:Expr}{es:List Expr}{t:TA}
theorem qx (c:Cal X.prog X.w X.K X.mg X.base k x ps sp)(hr:Room k' X.A)(hk:k<=k')(hg:Gl X x)(ha:PA X (e::es) t)(hdb:(x==("__debug__":Str))=false:=by decide)(he:starEach (e::es) X.env=(false,eval e X.env)::starEach es X.env:=by rfl)
  (hpl:(backTo pos (starEach es X.env)).any (·.1)=false:=by rfl):PE X (.Call (.Name x p) (e::es) [] pos) (q8D sp [] E0 t):=by
 obtain⟨f,fd,F,m,kp,b⟩:=c.ex
 exact qaz F (hr.mono hk) hg m kp b .nil q6H ha hdb he hpl
end
def tyS (H:Hp):V->Option String
 | .non=>some "NoneType"
 | .bl _=>some "bool"
 | .int _=>some "int"
 | .str _=>some "str"
 | .ref p=>match H p with
  |some (.lst _)=>some "list"
  |some (.tup _)=>some "tuple"
  |some (.frz _ (.lst _))=>some "list"
  |_=>none
 |_=>none
def subS (a n:String):Bool:=a==n||(a=="bool"&&n=="int")
def q7H (n:String):Bool:=n=="bool"||n=="int"||n=="str"||n=="list"||n=="tuple"
theorem qb2 (K:PySem.W.Frag):∀a∈["NoneType","bool","int","str","list","tuple"],∀n∈["bool","int","str","list","tuple"],PySem.W.kitOne K (.type a) (.type n)=some (subS a n):=by
 intro a ha n hn
 simp only[List.mem_cons,List.not_mem_nil,or_false] at ha hn
 rcases ha with rfl|rfl|rfl|rfl|rfl|rfl<;>rcases hn with rfl|rfl|rfl|rfl|rfl<;>kernel_rfl
theorem tyS_ty {K:PySem.W.Frag}{H:Hp}{x:V}{a:String}(h:tyS H x=some a):TyOf K H x (.type a)/\a∈["NoneType","bool","int","str","list","tuple"]:=by
 unfold tyS at h
 split at h
 ·cases h;exact⟨.non,by simp⟩
 ·cases h;exact⟨.bl _,by simp⟩
 ·cases h;exact⟨.int _,by simp⟩
 ·cases h;exact⟨.str _,by simp⟩
 ·split at h
  ·rename_i e;cases h;exact⟨.lst e,by simp⟩
  ·rename_i e;cases h;exact⟨.tup e,by simp⟩
  ·rename_i e;cases h;exact⟨.frz e,by simp⟩
  ·cases h
 ·cases h
section
variable {X:Cx}
def q6F:List V->Hp->VK->Prop:=fun xs H Q=>∃x n a,xs=[x,.ty n]/\tyS H x=some a/\q7H n=true/\Q (.bl (subS a n)) H
theorem q2u:q2F X (.builtin "isinstance") q6F:=by
 intro pins s σ H xs us Q I r h
 obtain⟨x,n,a,rfl,ty,kn,q⟩:=h
 obtain⟨t1,t2⟩:=tyS_ty (K:=X.K) ty
 refine q8s pins s σ H _ us Q I r ⟨x,n,_,_,rfl,t1,qb2 X.K a t2 n ?_,q⟩
 unfold q7H at kn
 simp only[Bool.or_eq_true,beq_iff_eq] at kn
 simp only[List.mem_cons,List.not_mem_nil,or_false]
 rcases kn with(((kn|kn)|kn)|kn)|kn<;>simp[kn]
theorem qa8 {H:Hp}{p:Addr}{xs:List V}(h:H p=some (.lst xs)):tyS H (.ref p)=some "list":=by simp only[tyS,h]
end
theorem q0M:bootBuiltins "isinstance"=some (.builtin "isinstance"):=by decide +kernel
theorem qN:bootBuiltins "len"=some (.builtin "len"):=by decide +kernel
theorem q8t:bootBuiltins "min"=some (.builtin "min"):=by decide +kernel
theorem qa3:bootBuiltins "sum"=some (.builtin "sum"):=by decide +kernel
theorem bt_int:bootBuiltins "int"=some (.type "int"):=by decide +kernel
theorem q8u:bootBuiltins "bool"=some (.type "bool"):=by decide +kernel
theorem q5T:bootBuiltins "list"=some (.type "list"):=by decide +kernel
theorem q34:bootBuiltins "tuple"=some (.type "tuple"):=by decide +kernel
end L2
namespace L2
open PySem PySem.Spec PyProof.Rows
structure VMeth (P:Program)(w:World)(K:PySem.W.Frag)(mg:Str->Option Value)(base:Heap)(k:Nat)(C:Addr)(m:Str)(ps:List Str)(sp:Sp):Prop where
 cl:Cls K C
 ex:∃f fd,Meth K C m f/\FnOk P w K mg base CX0 k f fd ps sp/\q1V K fd ps []
def tVM (P:Program)(w:World)(K:PySem.W.Frag)(mg:Str->Option Value)(base:Heap)(k:Nat)(m:Str)(ta:TE)(t:TA):TE:=fun σ H Q=>ta σ H fun x H1=>∃a C dx fs ps sp,x= .ref a/\H1 a=some (.ins C dx fs)/\VMeth P w K mg base k C m ps sp/\fs.lookup m=none/\
 t σ H1 fun vs H2=>sp (x::vs) H2 Q E0
structure CMeth (K:PySem.W.Frag)(C:Addr)(m:Str)(f:Addr):Prop where
 rd:PySem.W.readsIn K C (.type "type")=true
 fc:PySem.W.findCls K (.ref C) (.type "type") m=some (.val (.ref f))
 sg:PySem.W.specialIn K (.ref C) "__getattribute__"=some (some (.builtin "type.__getattribute__"))
 kp:PySem.W.keepIn K (.ref f)=true
structure CCal (P:Program)(w:World)(K:PySem.W.Frag)(mg:Str->Option Value)(base:Heap)(k:Nat)(x m:Str)(ps:List Str)(sp:Sp):Prop where
 ex:∃C f fd,mg x=some (.ref C)/\CMeth K C m f/\FnOk P w K mg base CX0 k f fd ps sp/\q1V K fd ps []
structure Makes (P:Program)(w:World)(K:PySem.W.Frag)(mg:Str->Option Value)(base:Heap)(k:Nat)(x:Str)(C:Addr)(ps:List Str)(sp:Sp):Prop where
 ex:∃f fd,Mk K C f/\FnOk P w K mg base CX0 k f fd ps sp/\q1V K fd ps []
 at_:mg x=some (.ref C)
section
variable {X:Cx}{k k':Nat}{C:Addr}{ps:List Str}{sp:Sp}{x m:Str}{p pos apos:Pos}{e o:Expr}{es:List Expr}{ta:TE}{t:TA}
theorem q3c {pl:Sem Bool}(hr:Room k X.A)(he:PE X o ta)(ha:PA X (e::es) t)(hst:starEach (e::es) X.env=(false,eval e X.env)::starEach es X.env:=by rfl)(hpl:(backTo pos (starEach es X.env)).any (·.1)=false:=by rfl)
  (ht:eval (.Call (.Attribute o m apos) (e::es) [] pos) X.env=(do
   let ov<-eval o X.env
   standAt apos.atName
   let (f,first)<-holding [ov] (getMethod ov m pl)
   callWith pos f first (backTo pos (starEach (e::es) X.env)) (backToKw pos (keywordEach [] X.env))):=by rfl):
  PE X (.Call (.Attribute o m apos) (e::es) [] pos) (tVM X.prog X.w X.K X.mg X.base k m ta t):=by
 intro pins s σ H Q I h
 refine PySem.W.methodCall_KW (pl:=pl) (thn (he pins s σ H _ I h) fun u s1 ⟨x,H1,I1,rx,a,C,dx,fs,ps,sp,ex,ea,vm,l,q⟩=>?_) ht
 subst ex
 obtain rfl:u=Value.ref a:=rx
 obtain⟨f,fd,hm,F,hb⟩:=vm.ex
 refine q3K I1 ea vm.cl hm l ?_
 refine PySem.W.callWith_K (first:=[.ref a]) (h₀:=X.base) I.ok.mod.kin hm.kp (thn (ha pos pins s1 σ H1 _ I1 q) fun us s2 ⟨vs,H2,I2,r,q2⟩=>⟨I2.kIn,?_⟩) hst hpl
 exact q66 (us:= .ref a::us) (vs:= .ref a::vs) (ds:=[]) (dvs:=[]) F hr hb .nil q6H I2 (.cons rfl r) (by rw[List.append_nil];exact q2)
theorem pe_vm0 {pl:Sem Bool}(hr:Room k X.A)(he:PE X o ta)
  (ht:eval (.Call (.Attribute o m apos) [] [] pos) X.env=(do
   let ov<-eval o X.env
   standAt apos.atName
   let (f,first)<-holding [ov] (getMethod ov m pl)
   callWith pos f first (backTo pos (starEach [] X.env)) (backToKw pos (keywordEach [] X.env))):=by rfl):
  PE X (.Call (.Attribute o m apos) [] [] pos) (tVM X.prog X.w X.K X.mg X.base k m ta tNil):=by
 intro pins s σ H Q I h
 refine PySem.W.methodCall_KW (pl:=pl) (thn (he pins s σ H _ I h) fun u s1 ⟨x,H1,I1,rx,a,C,dx,fs,ps,sp,ex,ea,vm,l,q⟩=>?_) ht
 subst ex
 obtain rfl:u=Value.ref a:=rx
 obtain⟨f,fd,hm,F,hb⟩:=vm.ex
 refine q3K I1 ea vm.cl hm l ?_
 exact PySem.W.callWith_K0 (first:=[.ref a]) I1.kIn hm.kp (q66 (us:=[.ref a]) (vs:=[.ref a]) (ds:=[]) (dvs:=[]) F hr hb .nil q6H I1 (.cons rfl .nil) q)
theorem q3d {pl:Sem Bool}{op:Pos}(c:CCal X.prog X.w X.K X.mg X.base k x m ps sp)(hr:Room k' X.A)(hk:k<=k')(hg:Gl X x)(ha:PA X (e::es) t)(hdb:(x==("__debug__":Str))=false:=by decide)
  (hst:starEach (e::es) X.env=(false,eval e X.env)::starEach es X.env:=by rfl)(hpl:(backTo pos (starEach es X.env)).any (·.1)=false:=by rfl)
  (ht:eval (.Call (.Attribute (.Name x op) m apos) (e::es) [] pos) X.env=(do
   let ov<-eval (.Name x op) X.env
   standAt apos.atName
   let (f,first)<-holding [ov] (getMethod ov m pl)
   callWith pos f first (backTo pos (starEach (e::es) X.env)) (backToKw pos (keywordEach [] X.env))):=by rfl):
  PE X (.Call (.Attribute (.Name x op) m apos) (e::es) [] pos) (q8D sp [] E0 t):=by
 intro pins s σ H Q I h
 obtain⟨C,f,fd,hm,cm,F,hb⟩:=c.ex
 refine PySem.W.methodCall_KW (pl:=pl) (q3j I hg hm ?_ hdb) ht
 refine PySem.W.method_cls I.kIn cm.sg (PySem.W.cls_value I.kIn cm.rd cm.fc rfl ?_)
 have I1:=I.tok (s.toks+1)
 refine PySem.W.callWith_K (first:=[]) (h₀:=X.base) I.ok.mod.kin cm.kp (thn (ha pos pins _ σ H _ I1 h) fun us s2 ⟨vs,H2,I2,r,q2⟩=>⟨I2.kIn,?_⟩) hst hpl
 exact q66 F (hr.mono hk) hb .nil q6H I2 r q2
theorem q20 (c:Makes X.prog X.w X.K X.mg X.base k x C ps sp)(hr:Room k' X.A)(hk:k+1<=k')(hg:Gl X x)(ha:PA X (e::es) t)(hdb:(x==("__debug__":Str))=false:=by decide)(he:starEach (e::es) X.env=(false,eval e X.env)::starEach es X.env:=by rfl)
  (hpl:(backTo pos (starEach es X.env)).any (·.1)=false:=by rfl):PE X (.Call (.Name x p) (e::es) [] pos) (q71 C sp [] E0 t):=by
 obtain⟨f,fd,M,F,b⟩:=c.ex
 exact qax M F (hr.mono hk) hg c.at_ b .nil q6H ha hdb he hpl
theorem qay (c:Makes X.prog X.w X.K X.mg X.base k x C ps sp)(hr:Room k' X.A)(hk:k+1<=k')(hg:Gl X x)(hdb:(x==("__debug__":Str))=false:=by decide):PE X (.Call (.Name x p) [] [] pos) (q71 C sp [] E0 tNil):=by
 obtain⟨f,fd,M,F,b⟩:=c.ex
 exact q8X M F (hr.mono hk) hg c.at_ b .nil q6H hdb
def eqVs (xs ys:List V):Bool:=xs.length==ys.length&&(List.zipWith eqV xs ys).all id
theorem q1D (xs ys:List V):((List.range (min xs.length ys.length)).all fun j=>eqV (xs.getD j .non) (ys.getD j .non))=(List.zipWith eqV xs ys).all id:=by
 rw[Bool.eq_iff_iff]
 simp only[List.all_eq_true,List.mem_range,id]
 constructor
 ·intro h b hb
  obtain⟨i,hi,rfl⟩:=List.mem_iff_getElem.mp hb
  rw[List.length_zipWith] at hi
  have:=h i hi
  simpa[List.getD,show i<xs.length by omega,show i<ys.length by omega] using this
 ·intro h i hi
  have:=h _ (List.mem_iff_getElem.mpr ⟨i,by rw[List.length_zipWith];exact hi,rfl⟩)
  simpa[List.getD,show i<xs.length by omega,show i<ys.length by omega] using this
theorem q0F {xs:List V}{us:List Value}(r:Vals xs us){j:Nat}(h:j<us.toArray.size):RelV (xs.getD j .non) us.toArray[j]:=by
 have hj:j<us.length:=by simpa using h
 have hx:j<xs.length:=by rw[r.length];exact hj
 obtain⟨u,hu,ru⟩:=r.get (i:=j) (x:=xs[j]) (by simp[hx])
 have e1:us.toArray[j]=u:=by
  have:us[j]? =some us[j]:=by simp[hj]
  rw[this] at hu
  simpa using Option.some.inj hu
 rw[e1]
 simpa[List.getD,hx] using ru
theorem q2B {xs:List V}(h:xs.all q0Q=true)(j:Nat):q0Q (xs.getD j .non)=true:=by
 by_cases hj:j<xs.length
 ·rw [List.all_eq_true] at h
  have:=h xs[j] (List.getElem_mem hj)
  simpa[List.getD,hj] using this
 ·simp [List.getD,show xs.length<=j by omega,q0Q]
def rEqLs (K:PySem.W.Frag):R2:=fun x y H Q=>∃p q xs ys,x= .ref p/\y= .ref q/\SqL K H p xs/\SqL K H q ys/\xs.all q0Q=true/\ys.all q0Q=true/\Q (.bl (eqVs xs ys)) H
theorem op_eqL (hu:X.A.units<cLine):OpR X (compareOp .Eq) (rEqLs X.K):=by
 intro pins s σ H x y v u Q I rx ry h
 obtain⟨p,q,xs,ys,rfl,rfl,hp,hq,fx,fy,k⟩:=h
 cases rx
 cases ry
 obtain⟨ia,ra,pa,_⟩:=I.list hp
 obtain⟨ib,rb,pb,_⟩:=I.list hq
 have la:=ra.length
 have lb:=rb.length
 by_cases hl:xs.length=ys.length
 ·refine SeqAt.eq_listAt (e:=fun j=>eqV (xs.getD j .non) (ys.getD j .non)) pa.isList pb.isList (by simp;omega) hu (fun j h1 h2=>q6j (q0F ra h1) (q0F rb h2) (q2B fx j) (q2B fy j)) ⟨.bl (eqVs xs ys),H,I,?_,k⟩
  show Value.bool _=Value.bool _
  unfold eqVs
  rw[<-q1D,show ia.toArray.size=min xs.length ys.length by simp;omega]
  simp[hl]
 ·refine SeqAt.eq_list_lengthsAt pa.isList pb.isList (by simp;omega) hu ⟨.bl (eqVs xs ys),H,I,?_,k⟩
  show Value.bool _=Value.bool _
  unfold eqVs
  simp[hl]
def rEqTs (K:PySem.W.Frag):R2:=fun x y H Q=>∃p q xs ys,x= .ref p/\y= .ref q/\SqT K H p xs/\SqT K H q ys/\xs.all q0Q=true/\ys.all q0Q=true/\Q (.bl (eqVs xs ys)) H
theorem op_eqT (hu:X.A.units<cLine):OpR X (compareOp .Eq) (rEqTs X.K):=by
 intro pins s σ H x y v u Q I rx ry h
 obtain⟨p,q,xs,ys,rfl,rfl,hp,hq,fx,fy,k⟩:=h
 cases rx
 cases ry
 obtain⟨ia,ra,pa,_⟩:=I.tuple hp
 obtain⟨ib,rb,pb,_⟩:=I.tuple hq
 have la:=ra.length
 have lb:=rb.length
 refine SeqAt.eq_tupleAt (e:=fun j=>eqV (xs.getD j .non) (ys.getD j .non)) (show s.heap.IsTuple p ia.toArray from pa) (show s.heap.IsTuple q ib.toArray from pb) hu (fun j h1 h2=>q6j (q0F ra h1) (q0F rb h2) (q2B fx j) (q2B fy j)) ⟨.bl (eqVs xs ys),H,I,?_,k⟩
 show Value.bool _=Value.bool _
 unfold eqVs
 rw[<-q1D,Bool.and_comm]
 simp[la,lb]
def rNeLs (K:PySem.W.Frag):R2:=fun x y H Q=>∃p q xs ys,x= .ref p/\y= .ref q/\SqL K H p xs/\SqL K H q ys/\xs.all q0Q=true/\ys.all q0Q=true/\Q (.bl (!eqVs xs ys)) H
theorem op_neL (hu:X.A.units<cLine):OpR X (compareOp .NotEq) (rNeLs X.K):=by
 intro pins s σ H x y v u Q I rx ry h
 obtain⟨p,q,xs,ys,rfl,rfl,hp,hq,fx,fy,k⟩:=h
 cases rx
 cases ry
 obtain⟨ia,ra,pa,_⟩:=I.list hp
 obtain⟨ib,rb,pb,_⟩:=I.list hq
 have la:=ra.length
 have lb:=rb.length
 by_cases hl:xs.length=ys.length
 ·refine SeqAt.RcNeAt.lists (e:=fun j=>eqV (xs.getD j .non) (ys.getD j .non)) pa.isList pb.isList (by simp;omega) hu (fun j h1 h2=>q6j (q0F ra h1) (q0F rb h2) (q2B fx j) (q2B fy j)) _ _ _ _ ⟨.bl (!eqVs xs ys),H,I,?_,k⟩
  show Value.bool _=Value.bool _
  unfold eqVs
  rw[<-q1D,show ia.toArray.size=min xs.length ys.length by simp;omega]
  simp[hl]
 ·refine SeqAt.RcNeAt.lists_lengths pa.isList pb.isList (by simp;omega) hu _ _ _ _ ⟨.bl (!eqVs xs ys),H,I,?_,k⟩
  show Value.bool _=Value.bool _
  unfold eqVs
  simp[hl]
theorem q6i {x:V}(h:q0Q x=true):eqV x x=true:=by
 cases x<;>first|rfl|(simp[eqV];done)|(simp[q0Q] at h)
theorem q5c {xs:List V}(h:xs.all q0Q=true):eqVs xs xs=true:=by
 unfold eqVs
 rw[Bool.and_eq_true]
 refine⟨by simp,?_⟩
 rw[List.all_eq_true]
 intro b hb
 obtain⟨i,hi,rfl⟩:=List.mem_iff_getElem.mp hb
 rw[List.getElem_zipWith]
 rw[List.all_eq_true] at h
 exact q6i (h _ (List.getElem_mem _))
end
section
variable {X:Cx}{e o:Expr}{es:List Expr}{ta:TE}{t:TA}{pos apos:Pos}{m f:Str}
theorem qY (K:PySem.W.Frag)(h:X.K=K:=by rfl):IxR X (rIxL K):=by subst h;exact qb5
theorem qj (K:PySem.W.Frag)(h:X.K=K:=by rfl):IxR X (rIxT K):=by subst h;exact ix_tup
theorem q2V (K:PySem.W.Frag)(h:X.K=K:=by rfl):SlR X (qao K):=by subst h;exact qaf
theorem q48 (K:PySem.W.Frag)(h:X.K=K:=by rfl):OpR X (binaryOp .Add) (qap K):=by subst h;exact q7u
theorem qaD (K:PySem.W.Frag)(hu:X.A.units<cLine)(h:X.K=K:=by rfl):OpR X (compareOp .Eq) (rEqTs K):=by subst h;exact op_eqT hu
theorem qaE (K:PySem.W.Frag)(hu:X.A.units<cLine)(h:X.K=K:=by rfl):OpR X (compareOp .Eq) (rEqLs K):=by subst h;exact op_eqL hu
theorem q2b {k:Nat}{g:TGs}{n:Nat}(K:PySem.W.Frag)(hc:X.calm=true)(h:PGs X es g)(hK:X.K=K:=by rfl)(hn:(assignEach es X.env).length=n:=by rfl)(hst:(assignEach es X.env).findIdx? (·.1)=none:=by rfl):PG X (.Tuple es k pos) (gTup K n g):=by
 subst hK
 exact pg_tup hc h hn hst
theorem q0h (K:PySem.W.Frag)(he:PE X e ta)(hb:attributeBase e f X.env (eval e X.env)=eval e X.env)(hK:X.K=K:=by rfl):PE X (.Attribute e f pos) (tFld K ta f):=by
 subst hK
 exact pe_fld he hb
end
end L2
namespace L2
open PySem PySem.Spec PyProof.Rows
section
variable {X:Cx}{pos:Pos}
theorem q9r:PGet X (rIxL X.K):=by
 intro pins s σ H o i ov iv Q I ro ri h
 obtain⟨p,xs,i,z,rfl,rfl,hq,he,q⟩:=h
 cases ro
 obtain⟨t,rfl⟩:=ri
 obtain⟨its,r,pl,hz⟩:=I.list hq
 obtain⟨j,h1,h2,h3,h4,h5⟩:=q5V he
 obtain⟨w,ew,rw'⟩:=r.get h2
 have hl:=r.length
 have hn:=q57
 have fin:EP X pins σ Q w s:=⟨z,H,I,rw',q⟩
 by_cases h0:0<=i
 ·have hj:i.toNat=j:=by
   rw[seqIndex_of h0 h5] at h1
   exact Option.some.inj h1
  exact wpAny_getItem_list pl.isList h0 (by omega) (by rw[hj];simpa using ew) fin
 ·have hj:(i+(its.toArray.size:Int)).toNat=j:=by
   rw[seqIndex_neg (by omega) h4] at h1
   rw[List.size_toArray,<-hl]
   exact Option.some.inj h1
  exact wpAny_getItem_list_neg pl.isList (by omega) (by rw[List.size_toArray]<;>omega) (by omega) (by rw[hj];simpa using ew) fin
end
def rLen (K:PySem.W.Frag):List V->Hp->VK->Prop:=fun xs H Q=>∃p ys,xs=[.ref p]/\(SqL K H p ys\/SqT K H p ys)/\Q (.int ys.length) H
def q9J (K:PySem.W.Frag):List V->Hp->VK->Prop:=fun xs H Q=>∃p ys,xs=[.ref p]/\((SqL K H p ys/\∀l,H l=none->Q (.ref l) (upd H l (.tup ys)))\/(SqT K H p ys/\Q (.ref p) H))
def q9L (K:PySem.W.Frag):List V->Hp->VK->Prop:=fun xs H Q=>∃p ys,xs=[.ref p]/\(SqL K H p ys\/SqT K H p ys)/\∀l,H l=none->Q (.ref l) (upd H l (.lst ys))
def rMin2:List V->Hp->VK->Prop:=fun xs H Q=>∃i j,xs=[.int i,.int j]/\Q (.int (if j<i then j else i)) H
section
variable {X:Cx}
theorem lenK (K:PySem.W.Frag)(h:X.K=K:=by rfl):q2F X (.builtin "len") (rLen K):=by subst h;exact q5f
theorem q5W (K:PySem.W.Frag)(h:X.K=K:=by rfl):q2F X (.type "tuple") (q9J K):=by subst h;exact q4h
theorem q9U (K:PySem.W.Frag)(h:X.K=K:=by rfl):q2F X (.type "list") (q9L K):=by subst h;exact q5e
theorem min2 (hc:X.calm=true):q2F X (.builtin "min") rMin2:=q8r hc
end
section
variable {σ:St}{H:Hp}{Q:VK}{B:Bool->Hp->Prop}{L:List V->Hp->Prop}{ta tb:TE}{t:TA}{c d:TT}{nx bk ct:St->Hp->Prop}{rt:VK}{g:TG}{K:PySem.W.Frag}
theorem r_var {i:Nat}{v:V}(h:σ[i]? =some (some v))(q:Q v H):tVar i σ H Q:=⟨v,h,q⟩
theorem r_c {v:V}(q:Q v H):tC v σ H Q:=q
theorem r_op {r:R2}(q:ta σ H fun x H1=>tb σ H1 fun y H2=>r x y H2 Q):tOp r ta tb σ H Q:=q
theorem r_I0 {f:Int->Int->V}{i j:Int}(q:Q (f i j) H):rI0 f (.int i) (.int j) H Q:=⟨i,j,rfl,rfl,q⟩
theorem r_I {C:Int->Int->Prop}{f:Int->Int->V}{i j:Int}(h:C i j)(q:Q (f i j) H):rI C f (.int i) (.int j) H Q:=⟨i,j,rfl,rfl,h,q⟩
theorem r_isN (q:ta σ H fun x H1=>Q (.bl (decide (x= .non))) H1):tIsN ta σ H Q:=q
theorem r_notN (q:ta σ H fun x H1=>Q (.bl (!decide (x= .non))) H1):tNotN ta σ H Q:=q
theorem r_B (q:ta σ H fun x H1=>∃k,x= .bl k/\B k H1):tB ta σ H B:=q
theorem r_test (q:ta σ H fun x H1=>∃k,x= .bl k/\B k H1):tTest ta σ H B:=q
theorem r_bl {b:Bool}{P:Bool->Prop}(q:P b):∃k,V.bl b=V.bl k/\P k:=⟨b,rfl,q⟩
theorem r_and (q:c σ H fun k H1=>if k=true then d σ H1 B else B false H1):tAnd c d σ H B:=q
theorem r_or (q:c σ H fun k H1=>if k=true then B true H1 else d σ H1 B):tOr c d σ H B:=q
theorem r_not (q:c σ H fun k H1=>B (!k) H1):tNot c σ H B:=q
theorem r_andV (q:ta σ H fun x H1=>∃k,x= .bl k/\if k=true then tb σ H1 Q else Q (.bl false) H1):tAndV ta tb σ H Q:=q
theorem r_orV (q:ta σ H fun x H1=>∃k,x= .bl k/\if k=true then Q (.bl true) H1 else tb σ H1 Q):tOrV ta tb σ H Q:=q
theorem r_notV (q:ta σ H fun x H1=>∃k,x= .bl k/\Q (.bl (!k)) H1):tNotV ta σ H Q:=q
theorem r_if (q:c σ H fun k H1=>if k=true then ta σ H1 Q else tb σ H1 Q):tIf c ta tb σ H Q:=q
theorem r_cons (q:ta σ H fun x H1=>t σ H1 fun xs H2=>L (x::xs) H2):tCons ta t σ H L:=q
theorem r_nil (q:L [] H):tNil σ H L:=q
theorem r_tup (q:t σ H fun xs H1=>xs.length<=sizeLine/\∀p,H1 p=none->Q (.ref p) (upd H1 p (.tup xs))):tTup t σ H Q:=q
theorem r_lst (q:t σ H fun xs H1=>xs.length<=sizeLine/\∀p,H1 p=none->Q (.ref p) (upd H1 p (.lst xs))):tLst t σ H Q:=q
theorem r_al {n:Nat}{P:Prop}(h:Nat.ble n sizeLine=true)(q:P):n<=sizeLine/\P:=⟨Nat.le_of_ble_eq_true h,q⟩
theorem r_call {sp:Sp}{E:XK}(q:t σ H fun vs H1=>sp (vs++[]) H1 Q E):q8D sp [] E t σ H Q:=q
theorem r_cb {r:List V->Hp->VK->Prop}(q:t σ H fun vs H1=>r vs H1 Q):tCB r t σ H Q:=q
theorem r_bm {T:String}{r:V->List V->Hp->VK->Prop}(q:ta σ H fun x H1=>tyV K T x H1/\t σ H1 fun xs H2=>r x xs H2 Q):tBM K T r ta t σ H Q:=q
theorem r_sl {r:V->Option Int->Option Int->Hp->VK->Prop}{tl th:TO}(q:ta σ H fun x H1=>tl σ H1 fun l H2=>th σ H2 fun u H3=>r x l u H3 Q):tSl r ta tl th σ H Q:=q
theorem r_np {P:Option Int->Hp->Prop}(q:P none H):q70 σ H P:=q
theorem r_pt {P:Option Int->Hp->Prop}(q:ta σ H fun x H1=>∃i,x= .int i/\P (some i) H1):tPart ta σ H P:=q
theorem r_int {i:Int}{P:Int->Prop}(q:P i):∃k,V.int i=V.int k/\P k:=⟨i,rfl,q⟩
theorem r_eqI {i j:Int}(q:Q (.bl (decide (i=j))) H):rEq (.int i) (.int j) H Q:=⟨rfl,by rw[show decide (V.int i=V.int j)=decide (i=j) by simp];exact q⟩
theorem r_eqS {i j:Str}(q:Q (.bl (decide (i=j))) H):rEq (.str i) (.str j) H Q:=⟨rfl,by rw[show decide (V.str i=V.str j)=decide (i=j) by simp];exact q⟩
theorem r_neI {i j:Int}(q:Q (.bl (!decide (i=j))) H):rNe (.int i) (.int j) H Q:=⟨rfl,by rw[show decide (V.int i=V.int j)=decide (i=j) by simp];exact q⟩
theorem r_neS {i j:Str}(q:Q (.bl (!decide (i=j))) H):rNe (.str i) (.str j) H Q:=⟨rfl,by rw[show decide (V.str i=V.str j)=decide (i=j) by simp];exact q⟩
theorem q2P {p:Addr}{xs:List V}{i:Int}{v:V}(h:SqT K H p xs)(e:atI xs i=some v)(q:Q v H):rIxT K (.ref p) (.int i) H Q:=⟨p,xs,i,v,rfl,rfl,h,e,q⟩
theorem q3a {p:Addr}{xs:List V}{i:Int}{v:V}(h:SqL K H p xs)(e:atI xs i=some v)(q:Q v H):rIxL K (.ref p) (.int i) H Q:=⟨p,xs,i,v,rfl,rfl,h,e,q⟩
theorem r_lenT {p:Addr}{xs:List V}(h:SqT K H p xs)(q:Q (.int xs.length) H):rLen K [.ref p] H Q:=⟨p,xs,rfl,.inr h,q⟩
theorem r_lenL {p:Addr}{xs:List V}(h:SqL K H p xs)(q:Q (.int xs.length) H):rLen K [.ref p] H Q:=⟨p,xs,rfl,.inl h,q⟩
theorem q7j {p q:Addr}{xs ys:List V}(h1:SqT K H p xs)(h2:SqT K H q ys)(h:xs≠[])(hy:ys≠[])(hz:Nat.ble (xs.length+ys.length) sizeLine=true)(k:∀r,H r=none->Q (.ref r) (upd H r (.tup (xs++ys)))):qap K (.ref p) (.ref q) H Q:=
 ⟨p,q,xs,ys,rfl,rfl,h1,h2,h,Nat.le_of_ble_eq_true hz,fun e=>(hy e).elim,fun _=>k⟩
theorem atI0 {v:V}{l:List V}:atI (v::l) 0=some v:=q0i (j:=0) rfl
theorem qbr {xs:List V}{j:Nat}{v:V}(h:xs[j]? =some v):atI xs (0+(j:Int))=some v:=by rw[Int.zero_add];exact q0i h
theorem q6Z {α β:Type}(f:α->β)(xs:List α){i:Nat}(hi:i<xs.length):(xs.take i).map f++[f xs[i]]=(xs.take (i+1)).map f:=by rw[List.take_succ_eq_append_getElem hi,List.map_append];rfl
theorem q8P {x:V}{n a:String}{b:Bool}(h:tyS H x=some a)(k:q7H n=true)(e:subS a n=b)(q:Q (.bl b) H):q6F [x,.ty n] H Q:=⟨x,n,a,rfl,h,k,by rw[e];exact q⟩
theorem q8O {i:Int}(q:Q (.bl false) H):q6F [.int i,.ty "bool"] H Q:=q8P rfl (by decide +kernel) (by decide +kernel) q
theorem q8N {i:Int}(q:Q (.bl true) H):q6F [.int i,.ty "int"] H Q:=q8P rfl (by decide +kernel) (by decide +kernel) q
theorem q8L (q:Q (.bl false) H):q6F [.non,.ty "list"] H Q:=q8P rfl (by decide +kernel) (by decide +kernel) q
theorem q8M {p:Addr}{xs:List V}(h:H p=some (.lst xs))(q:Q (.bl true) H):q6F [.ref p,.ty "list"] H Q:=q8P (qa8 h) (by decide +kernel) (by decide +kernel) q
theorem r_seq {t u:TS}(q:t ⟨u ⟨nx,rt,bk,ct⟩,rt,bk,ct⟩ σ H):tSeq t u ⟨nx,rt,bk,ct⟩ σ H:=q
theorem r_asg (q:ta σ H fun x H1=>g x σ H1 nx):tAsg ta g ⟨nx,rt,bk,ct⟩ σ H:=q
theorem r_name {i:Nat}{v:V}{N:St->Hp->Prop}(q:N (σ.set i (some v)) H):q9s i v σ H N:=q
theorem r_ifS {t u:TS}{D:Ends}(q:c σ H fun k H1=>if k=true then t D σ H1 else u D σ H1):tIfS c t u D σ H:=q
theorem r_ret (q:ta σ H rt):tRet ta ⟨nx,rt,bk,ct⟩ σ H:=q
theorem r_next (q:nx σ H):tNext ⟨nx,rt,bk,ct⟩ σ H:=q
theorem r_drop (q:ta σ H fun _ H1=>nx σ H1):tDrop ta ⟨nx,rt,bk,ct⟩ σ H:=q
theorem r_augS {to ti te:TE}{tget:V->V->Hp->VK->Prop}{tip:TIp}{tset:TSet}(q:to σ H fun o H1=>ti σ H1 fun i H2=>tget o i H2 fun x H3=>te σ H3 fun y H4=>tip x y H4 fun z H5=>tset o i z H5 fun H6=>nx σ H6):tAugS to ti te tget tip tset ⟨nx,rt,bk,ct⟩ σ H:=q
theorem r_ipI {f:Int->Int->Int}{i j:Int}(q:Q (.int (f i j)) H):ipI f (.int i) (.int j) H Q:=⟨i,j,rfl,rfl,q⟩
theorem q68 {p:Addr}{xs:List V}{k:Int}{j:Nat}{v:V}{R:Hp->Prop}(h:H p=some (.lst xs))(e:ixN xs.length k=some j)(q:R (upd H p (.lst (xs.set j v)))):rSetL (.ref p) (.int k) v H R:=⟨p,xs,k,j,rfl,rfl,h,e,q⟩
theorem r_gT {n:Nat}{gs:TGs}{p:Addr}{xs:List V}{N:St->Hp->Prop}(h:SqT K H p xs)(e:xs.length=n)(q:gs xs σ H N):gTup K n gs (.ref p) σ H N:=⟨p,xs,rfl,h,e,q⟩
theorem r_gc {gs:TGs}{v:V}{vs:List V}{N:St->Hp->Prop}(q:g v σ H fun σ' H'=>gs vs σ' H' N):gCons g gs (v::vs) σ H N:=⟨v,vs,rfl,q⟩
theorem r_gn {N:St->Hp->Prop}(q:N σ H):gNil [] σ H N:=⟨rfl,q⟩
theorem q2y {p:Addr}{xs:List V}{y:V}(h:H p=some (.lst xs))(hz:xs.length<sizeLine)(q:Q .non (upd H p (.lst (xs++[y])))):q5B (.ref p) [y] H Q:=⟨p,xs,y,rfl,rfl,h,hz,q⟩
theorem r_tyL {p:Addr}{xs:List V}{P:Prop}(h:H p=some (.lst xs))(q:P):tyV K "list" (.ref p) H/\P:=⟨.inl ⟨rfl,_,SqL.of h⟩,q⟩
theorem ifd {p:Prop}[Decidable p]{A B:Prop}(h1:p->A)(h2:¬p->B):if decide p=true then A else B:=by
 by_cases h:p
 ·rw [if_pos (decide_eq_true h)];exact h1 h
 ·rw [if_neg (by simp[h])];exact h2 h
theorem ifn {p:Prop}[Decidable p]{A B:Prop}(h1:¬p->A)(h2:p->B):if (!decide p)=true then A else B:=by
 by_cases h:p
 ·rw [if_neg (by simp[h])];exact h2 h
 ·rw [if_pos (by simp[h])];exact h1 h
theorem r_min2 {x y:Int}(q:Q (.int (if y<x then y else x)) H):rMin2 [.int x,.int y] H Q:=⟨x,y,rfl,q⟩
theorem q8J {p:Addr}{ys:List V}(h:SqL K H p ys)(q:∀l,H l=none->Q (.ref l) (upd H l (.tup ys))):q9J K [.ref p] H Q:=⟨p,ys,rfl,.inl ⟨h,q⟩⟩
theorem r_lof {p:Addr}{ys:List V}(h:SqL K H p ys\/SqT K H p ys)(q:∀l,H l=none->Q (.ref l) (upd H l (.lst ys))):q9L K [.ref p] H Q:=⟨p,ys,rfl,h,q⟩
theorem ifnT {A B:Prop}(h:B):if (!true)=true then A else B:=iteF h
theorem ifnF {A B:Prop}(h:A):if (!false)=true then A else B:=iteT h
theorem q12 {a b:Addr}{o u:HO}(h:H b=some u)(n:H a=none):upd H a o b=some u:=by rw[qp (qv h n)];exact h
theorem up_oth {a b:Addr}{o u:HO}(h:H b=some u)(n:b≠a):upd H a o b=some u:=by rw[qp n];exact h
end
section
variable {σ:St}{H:Hp}{g:TG}{tb:TS}{nx bk ct:St->Hp->Prop}{rt:VK}{t:TA}{wi:TI}
theorem r_for (q:wi σ H fun J H1=>∃W:Nat->Nat->St->Hp->Prop,(∃m,W 0 m σ H1)/\∀i m σ H,W i m σ H->
  (J.stop i H/\nx σ H)\/(J.go i H/\∃N:St->Hp->Prop,(∀σ' H',N σ' H'->∃m',m'<m/\W (i+1) m' σ' H')/\∀x H',J.yld i H x H'->g x σ H' fun σ2 H2=>tb ⟨N,rt,nx,N⟩ σ2 H2)):tFor wi g tb ⟨nx,rt,bk,ct⟩ σ H:=q
def rRg (R:It->Hp->Prop):List V->Hp->Prop:=fun vs H1=>∃j:Int,vs=[.int j]/\ -(2 ^ 62)<=j/\j<2 ^ 62/\R (Itr 0 j.toNat) H1
def rRg2 (R:It->Hp->Prop):List V->Hp->Prop:=fun vs H1=>∃i j:Int,vs=[.int i,.int j]/\(-(2 ^ 62)<=i/\i<2 ^ 62/\ -(2 ^ 62)<=j/\j<2 ^ 62)/\R (Itr i (j - i).toNat) H1
theorem r_rng1 {R:It->Hp->Prop}(q:t σ H (rRg R)):iRng1 t σ H R:=q
theorem r_rng2 {R:It->Hp->Prop}(q:t σ H (rRg2 R)):iRng2 t σ H R:=q
theorem r_comp {tc:TT}{te:TE}{own:Nat}{caps:List Nat}{Q:VK}(q:wi σ H fun J H1=>∀D,H1 D=none->∃W:Nat->Nat->St->Hp->Prop,(∃m,W 0 m (q2K own caps σ) (upd H1 D (.lst [])))/\∀i m σ' H',W i m σ' H'->
  (J.stop i H'/\Q (.ref D) H')\/(J.go i H'/\∃N:St->Hp->Prop,(∀σ'' H'',N σ'' H''->∃m',m'<m/\W (i+1) m' σ'' H'')/\∀x H2,J.yld i H' x H2->g x σ' H2 fun σ3 H3=>tc σ3 H3 fun b H4=>
   if b=true then te σ3 H4 fun y H5=>∃ys,H5 D=some (.lst ys)/\ys.length<sizeLine/\N σ3 (upd H5 D (.lst (ys++[y]))) else N σ3 H4)):q8C wi g tc te own caps σ H Q:=q
theorem r_yes {B:Bool->Hp->Prop}(q:B true H):tYes σ H B:=q
theorem r_iL {K:PySem.W.Frag}{tl:TE}{R:It->Hp->Prop}(q:tl σ H fun x H1=>∃a,x= .ref a/\(∃xs,SqL K H1 a xs)/\R (Itl K a) H1):qb7 K tl σ H R:=q
theorem r_iT {K:PySem.W.Frag}{tl:TE}{R:It->Hp->Prop}(q:tl σ H fun x H1=>∃a,x= .ref a/\(∃xs,SqT K H1 a xs)/\R (Itt K a) H1):iTup K tl σ H R:=q
theorem r_eL {K:PySem.W.Frag}{R:It->Hp->Prop}(q:t σ H fun vs H1=>∃a,vs=[.ref a]/\(∃xs,SqL K H1 a xs)/\R (Ite fun H xs=>SqL K H a xs) H1):q7Q K t σ H R:=q
theorem r_eT {K:PySem.W.Frag}{R:It->Hp->Prop}(q:t σ H fun vs H1=>∃a,vs=[.ref a]/\(∃xs,SqT K H1 a xs)/\R (Ite fun H xs=>SqT K H a xs) H1):q7P K t σ H R:=q
theorem r_refL {K:PySem.W.Frag}{p:Addr}{xs:List V}{R:Addr->Prop}(h:SqL K H p xs)(q:R p):∃a,V.ref p= .ref a/\(∃xs,SqL K H a xs)/\R a:=⟨p,rfl,⟨xs,h⟩,q⟩
theorem r_refT {K:PySem.W.Frag}{p:Addr}{xs:List V}{R:Addr->Prop}(h:SqT K H p xs)(q:R p):∃a,V.ref p= .ref a/\(∃xs,SqT K H a xs)/\R a:=⟨p,rfl,⟨xs,h⟩,q⟩
theorem qaj {K:PySem.W.Frag}{p:Addr}{xs:List V}{R:Addr->Prop}(h:SqL K H p xs)(q:R p):∃a,[V.ref p]=[.ref a]/\(∃xs,SqL K H a xs)/\R a:=⟨p,rfl,⟨xs,h⟩,q⟩
theorem qai {K:PySem.W.Frag}{p:Addr}{xs:List V}{R:Addr->Prop}(h:SqT K H p xs)(q:R p):∃a,[V.ref p]=[.ref a]/\(∃xs,SqT K H a xs)/\R a:=⟨p,rfl,⟨xs,h⟩,q⟩
theorem r_rg {j:Int}{R:It->Hp->Prop}(h: -1000000<=j/\j<=1000000)(q:R (Itr 0 j.toNat) H):rRg R [.int j] H:=⟨j,rfl,by omega,by omega,q⟩
theorem r_rg2 {i j:Int}{R:It->Hp->Prop}(h:(-1000000<=i/\i<=1000000)/\ -1000000<=j/\j<=1000000)(q:R (Itr i (j - i).toNat) H):rRg2 R [.int i,.int j] H:=⟨i,j,rfl,by omega,q⟩
end
section
variable {J:It}{g:TG}{tb:TS}{nx:St->Hp->Prop}{rt:VK}{σ:St}{H:Hp}{K:PySem.W.Frag}{a:Addr}{xs:List V}{tc:TT}{te:TE}{R:Hp->Prop}{D:Addr}
abbrev ForG (J:It)(g:TG)(tb:TS)(nx:St->Hp->Prop)(rt:VK)(σ:St)(H:Hp):Prop:=∃W:Nat->Nat->St->Hp->Prop,(∃m,W 0 m σ H)/\∀i m σ H,W i m σ H->
  (J.stop i H/\nx σ H)\/(J.go i H/\∃N:St->Hp->Prop,(∀σ' H',N σ' H'->∃m',m'<m/\W (i+1) m' σ' H')/\∀x H',J.yld i H x H'->g x σ H' fun σ2 H2=>tb ⟨N,rt,nx,N⟩ σ2 H2)
theorem q4d (n:Nat)(Pv:Nat->St->Hp->Prop)(h0:Pv 0 σ H)
  (go:∀i σ H,i<n->Pv i σ H->J.go i H/\∀x H',J.yld i H x H'->g x σ H' fun σ2 H2=>tb ⟨Pv (i+1),rt,nx,Pv (i+1)⟩ σ2 H2)(stop:∀σ H,Pv n σ H->J.stop n H/\nx σ H):ForG J g tb nx rt σ H:=by
 refine⟨fun i m σ H=>m=n - i/\i<=n/\Pv i σ H,⟨n,by simp,Nat.zero_le _,h0⟩,?_⟩
 rintro i m σ H ⟨rfl,hi,p⟩
 by_cases hlt:i<n
 ·obtain ⟨q1,q2⟩:=go i σ H hlt p
  exact .inr ⟨q1,Pv (i+1),fun σ' H' p'=>⟨n - (i+1),by omega,rfl,hlt,p'⟩,q2⟩
 ·have e:i=n:=by omega
  subst e
  exact .inl (stop σ H p)
theorem q16 {lo:Int}{n:Nat}(Pv:Nat->St->Hp->Prop)(h0:Pv 0 σ H)(go:∀i σ H,i<n->Pv i σ H->g (.int (lo+(i:Nat))) σ H fun σ2 H2=>tb ⟨Pv (i+1),rt,nx,Pv (i+1)⟩ σ2 H2)(stop:∀σ H,Pv n σ H->nx σ H):ForG (Itr lo n) g tb nx rt σ H:=
 q4d n Pv h0 (fun i σ H hi p=>⟨hi,fun x H' ⟨e1,e2⟩=>by subst e1 e2;exact go i σ _ hi p⟩) fun σ H p=>⟨Nat.le_refl _,stop σ H p⟩
theorem q2c (xs:List V)(Pv:Nat->St->Hp->Prop)(h0:Pv 0 σ H)(hl:∀i σ H,Pv i σ H->SqL K H a xs)(go:∀i x σ H,xs[i]? =some x->Pv i σ H->g x σ H fun σ2 H2=>tb ⟨Pv (i+1),rt,nx,Pv (i+1)⟩ σ2 H2)(stop:∀σ H,Pv xs.length σ H->nx σ H):ForG (Itl K a) g tb nx rt σ H:=
 q4d xs.length Pv h0 (fun i σ H hi p=>⟨⟨xs,xs[i],hl i σ H p,by simp[hi]⟩,fun x H' ⟨e1,e2⟩=>by subst e1;exact go i x σ _ (e2 xs (hl i σ _ p)) p⟩) fun σ H p=>⟨⟨xs,hl _ σ H p,Nat.le_refl _⟩,stop σ H p⟩
theorem q7W (xs:List V)(Pv:Nat->St->Hp->Prop)(h0:Pv 0 σ H)(hl:∀i σ H,Pv i σ H->SqT K H a xs)(go:∀i x σ H,xs[i]? =some x->Pv i σ H->g x σ H fun σ2 H2=>tb ⟨Pv (i+1),rt,nx,Pv (i+1)⟩ σ2 H2)(stop:∀σ H,Pv xs.length σ H->nx σ H):ForG (Itt K a) g tb nx rt σ H:=
 q4d xs.length Pv h0 (fun i σ H hi p=>⟨⟨xs,xs[i],hl i σ H p,by simp[hi]⟩,fun x H' ⟨e1,e2⟩=>by subst e1;exact go i x σ _ (e2 xs (hl i σ _ p)) p⟩) fun σ H p=>⟨⟨xs,hl _ σ H p,Nat.le_refl _⟩,stop σ H p⟩
theorem q7X {Sq:Hp->List V->Prop}(xs:List V)(Pv:Nat->St->Hp->Prop)(h0:Pv 0 σ H)(hl:∀i σ H,Pv i σ H->Sq H xs)(go:∀i x σ H T,xs[i]? =some x->Pv i σ H->H T=none->g (.ref T) σ (upd H T (.tup [.int (i:Nat),x])) fun σ2 H2=>tb ⟨Pv (i+1),rt,nx,Pv (i+1)⟩ σ2 H2)
  (stop:∀σ H,Pv xs.length σ H->nx σ H):ForG (Ite Sq) g tb nx rt σ H:=
 q4d xs.length Pv h0 (fun i σ H hi p=>⟨⟨xs,xs[i],hl i σ H p,by simp[hi]⟩,fun x H' ⟨T,hT,e1,e2⟩=>by
  have hx:xs[i]? =some xs[i]:=by simp[hi]
  have e3:=e2 xs xs[i] (hl i σ _ p) hx
  subst e1 e3
  exact go i _ σ _ T hx p hT⟩) fun σ H p=>⟨⟨xs,hl _ σ H p,Nat.le_refl _⟩,stop σ H p⟩
abbrev q8y (J:It)(g:TG)(tc:TT)(te:TE)(R:Hp->Prop)(D:Addr)(σ:St)(H:Hp):Prop:=∃W:Nat->Nat->St->Hp->Prop,(∃m,W 0 m σ H)/\∀i m σ H,W i m σ H->
   (J.stop i H/\R H)\/(J.go i H/\∃N:St->Hp->Prop,(∀σ' H',N σ' H'->∃m',m'<m/\W (i+1) m' σ' H')/\∀x H',J.yld i H x H'->g x σ H' fun σ3 H3=>tc σ3 H3 fun b H4=>
    if b=true then te σ3 H4 fun y H5=>∃ys,H5 D=some (.lst ys)/\ys.length<sizeLine/\N σ3 (upd H5 D (.lst (ys++[y]))) else N σ3 H4)
theorem q0t {lo:Int}{n:Nat}(Pv:Nat->St->Hp->Prop)(h0:Pv 0 σ H)(go:∀i σ H,i<n->Pv i σ H->g (.int (lo+(i:Nat))) σ H fun σ3 H3=>tc σ3 H3 fun b H4=>
   if b=true then te σ3 H4 fun y H5=>∃ys,H5 D=some (.lst ys)/\ys.length<sizeLine/\Pv (i+1) σ3 (upd H5 D (.lst (ys++[y]))) else Pv (i+1) σ3 H4)(stop:∀σ H,Pv n σ H->R H):q8y (Itr lo n) g tc te R D σ H:=
 q3o n Pv h0 (fun i σ H hi p=>⟨hi,fun x H' ⟨e1,e2⟩=>by subst e1 e2;exact go i σ _ hi p⟩) fun σ H p=>⟨Nat.le_refl _,stop σ H p⟩
theorem q4g (xs:List V)(Pv:Nat->St->Hp->Prop)(h0:Pv 0 σ H)(hl:∀i σ H,Pv i σ H->SqL K H a xs)(go:∀i x σ H,xs[i]? =some x->Pv i σ H->g x σ H fun σ3 H3=>tc σ3 H3 fun b H4=>
   if b=true then te σ3 H4 fun y H5=>∃ys,H5 D=some (.lst ys)/\ys.length<sizeLine/\Pv (i+1) σ3 (upd H5 D (.lst (ys++[y]))) else Pv (i+1) σ3 H4)(stop:∀σ H,Pv xs.length σ H->R H):q8y (Itl K a) g tc te R D σ H:=
 q3o xs.length Pv h0 (fun i σ H hi p=>⟨⟨xs,xs[i],hl i σ H p,by simp[hi]⟩,fun x H' ⟨e1,e2⟩=>by subst e1;exact go i x σ _ (e2 xs (hl i σ _ p)) p⟩) fun σ H p=>⟨⟨xs,hl _ σ H p,Nat.le_refl _⟩,stop σ H p⟩
theorem q6l (xs:List V)(Pv:Nat->St->Hp->Prop)(h0:Pv 0 σ H)(hl:∀i σ H,Pv i σ H->SqT K H a xs)(go:∀i x σ H,xs[i]? =some x->Pv i σ H->g x σ H fun σ3 H3=>tc σ3 H3 fun b H4=>
   if b=true then te σ3 H4 fun y H5=>∃ys,H5 D=some (.lst ys)/\ys.length<sizeLine/\Pv (i+1) σ3 (upd H5 D (.lst (ys++[y]))) else Pv (i+1) σ3 H4)(stop:∀σ H,Pv xs.length σ H->R H):q8y (Itt K a) g tc te R D σ H:=
 q3o xs.length Pv h0 (fun i σ H hi p=>⟨⟨xs,xs[i],hl i σ H p,by simp[hi]⟩,fun x H' ⟨e1,e2⟩=>by subst e1;exact go i x σ _ (e2 xs (hl i σ _ p)) p⟩) fun σ H p=>⟨⟨xs,hl _ σ H p,Nat.le_refl _⟩,stop σ H p⟩
end
section
variable {X:Cx}{pos:Pos}{tg:Expr}{es:List Expr}{e o l:Expr}{ta te tl:TE}{t:TA}{K:PySem.W.Frag}
theorem q2r (K:PySem.W.Frag)(h:X.K=K:=by rfl):PGet X (rIxL K):=by subst h;exact q9r
theorem q0A (K:PySem.W.Frag)(hl:PE X l tl)(h:X.K=K:=by rfl):PI X tg l (qb7 K tl):=by subst h;exact qav hl
theorem q45 (K:PySem.W.Frag)(hl:PE X l tl)(h:X.K=K:=by rfl):PI X tg l (iTup K tl):=by subst h;exact pi_tup hl
theorem q7q {elts:List Expr}{k:Nat}{tp:Pos}{a:Expr}{p pos:Pos}(K:PySem.W.Frag)(hg:Gl X "enumerate")(hm:X.mg "enumerate"=none)(ha:PA X [a] t)(h:X.K=K:=by rfl)(hs:starEach [a] X.env=[(false,eval a X.env)]:=by rfl):PI X (.Tuple elts k tp) (.Call (.Name "enumerate" p) [a] [] pos) (q7Q K t):=by subst h;exact q8V hg hm ha hs
theorem q7p {elts:List Expr}{k:Nat}{tp:Pos}{a:Expr}{p pos:Pos}(K:PySem.W.Frag)(hg:Gl X "enumerate")(hm:X.mg "enumerate"=none)(ha:PA X [a] t)(h:X.K=K:=by rfl)(hs:starEach [a] X.env=[(false,eval a X.env)]:=by rfl):PI X (.Tuple elts k tp) (.Call (.Name "enumerate" p) [a] [] pos) (q7P K t):=by subst h;exact q8U hg hm ha hs
theorem qaA (K:PySem.W.Frag)(hu:X.A.units<cLine)(h:X.K=K:=by rfl):OpR X (compareOp .NotEq) (rNeLs K):=by subst h;exact op_neL hu
theorem qG:1000000<sizeLine:=by decide
end
def q0N (H H':Hp):Prop:=∀p xs,H p=some (.tup xs)->H' p=some (.tup xs)
theorem q0N.trans {H H1 H2:Hp}(a:q0N H H1)(b:q0N H1 H2):q0N H H2:=fun p xs h=>b p xs (a p xs h)
theorem Same.ts {H H':Hp}(s:Same H H'):q0N H H':=fun p _ h=>s p _ h
theorem q0N.lst {H:Hp}{a:Addr}{ys:List V}{o:HO}(h:H a=some (.lst ys)):q0N H (upd H a o):=fun p xs e=>by rw[qp (q3y e h (by intro z;cases z))];exact e
end L2
namespace Ce
open PySem L2
def bit (x:Int)(t:Nat):Bool:=decide (x / 2 ^ t % 2=1)
def cnt (P:Nat->Bool):Nat->Nat
 |0=>0
 |n+1=>cnt P n+(if P n=true then 1 else 0)
theorem q3p {P R:Nat->Bool}:∀{n:Nat},(∀i,i<n->P i=R i)->cnt P n=cnt R n
 |0,_=>rfl
 |n+1,h=>by
  show cnt P n+_=cnt R n+_
  rw[q3p fun i hi=>h i (Nat.lt_succ_of_lt hi),h n (Nat.lt_succ_self n)]
theorem q8i (P:Nat->Bool):∀n,cnt P n<=n
 |0=>Nat.le_refl 0
 |n+1=>by
  have:=q8i P n
  show cnt P n+_<=n+1
  split<;>omega
theorem q8h {P:Nat->Bool}:∀{n:Nat},(∀i,i<n->P i=false)->cnt P n=0
 |0,_=>rfl
 |n+1,h=>by
  show cnt P n+_=0
  rw[q8h fun i hi=>h i (Nat.lt_succ_of_lt hi),h n (Nat.lt_succ_self n)]
  rfl
theorem q1R (w:Nat):(0:Int)<2 ^ w:=Int.pow_pos (by decide)
theorem q4i (t:Nat):bit 0 t=false:=by simp[bit]
theorem q8w {x:Int}{w t:Nat}(h0:0<=x)(h:x<2 ^ w)(ht:w<=t):bit x t=false:=by
 have h2:(2:Int) ^ w<=2 ^ t:=by
  have:(2:Int) ^ t=2 ^ w*2 ^ (t - w):=by rw[<-Int.pow_add];congr 1;omega
  rw[this]
  have:=q1R (t - w)
  have h3:=q1R w
  calc (2:Int) ^ w=2 ^ w*1:=by omega
   _<=2 ^ w*2 ^ (t - w):=Int.mul_le_mul_of_nonneg_left (by omega) (by omega)
 have:x / 2 ^ t=0:=Int.ediv_eq_zero_of_lt h0 (by omega)
 simp[bit,this]
theorem set_map {α:Type}(f:Nat->α)(n j:Nat)(v:α):((List.range n).map f).set j v=(List.range n).map fun k=>if k=j then v else f k:=by
 apply List.ext_getElem?
 intro i
 rw[List.getElem?_set]
 simp only[List.getElem?_map,List.length_map,List.length_range]
 by_cases h:j=i
 ·subst h
  by_cases hj:j<n
  ·simp [hj]
  ·simp [hj]
 ·have h':¬i=j:=fun e=>h e.symm
  by_cases hi:i<n
  ·simp [h,h',hi]
  ·simp [h,hi]
def dP (ds:Nat->Option Int)(op k:Int)(w:Nat):Bool:=decide (ds w=some k)&&bit op w
theorem qbm (ds:Nat->Option Int)(k:Int)(w:Nat):dP ds 0 k w=false:=by simp[dP,q4i]
theorem q0g (x:Int){n:Int}(h:0<n):0<=x % n:=Int.emod_nonneg _ (by omega)
theorem q0k (x:Int){n:Int}(h:0<n):x % n<n:=Int.emod_lt_of_pos _ h
theorem qaQ (x:Int)(n:Nat)(h:0<n):∃j:Nat,j<n/\x % (n:Int)=(j:Int):=⟨(x % n).toNat,by have:=q0g x (n:=n) (by omega);have:=q0k x (n:=n) (by omega);omega,by have:=q0g x (n:=n) (by omega);omega⟩
theorem q1c (x:Int)(t:Nat):decide (Builtin.bitAnd (x / 2 ^ t) 1=1)=bit x t:=by
 unfold bit
 rw[PyProof.Rows.bitAnd_m1]
inductive Gt where
 |plain|door (k:Int)|need (k:Int)|bar (b:Int)|wade (h k:Int)|float (h:Int)
def Gt.vs:Gt->List V
 | .plain=>[.str "plain"]
 | .door k=>[.str "door",.int k]
 | .need k=>[.str "need",.int k]
 | .bar b=>[.str "bar",.int b]
 | .wade h k=>[.str "wade",.int h,.int k]
 | .float h=>[.str "float",.int h]
def Gt.ok:Gt->Prop
 | .plain=>True
 | .door k=>0<=k/\k<12
 | .need k=>0<=k/\k<12
 | .bar b=>0<=b/\b<8
 | .wade h k=>(0<=h/\h<10)/\0<=k/\k<12
 | .float h=>0<=h/\h<10
def Gt.dk:Gt->Option Int
 | .door k=>some k
 |_=>none
def Gt.word:Gt->Str
 | .plain=>"plain"
 | .door _=>"door"
 | .need _=>"need"
 | .bar _=>"bar"
 | .wade _ _=>"wade"
 | .float _=>"float"
def Gt.ns:Gt->List Int
 | .plain=>[]
 | .door k=>[k]
 | .need k=>[k]
 | .bar b=>[b]
 | .wade h k=>[h,k]
 | .float h=>[h]
theorem Gt.vs_eq (g:Gt):g.vs= .str g.word::g.ns.map V.int:=by cases g<;>rfl
theorem Gt.flat (g:Gt):g.vs.all q0Q=true:=by cases g<;>rfl
theorem q5Z:("need":Str)≠"door":=by decide +kernel
theorem q76:("bar":Str)≠"door":=by decide +kernel
theorem q4A:("float":Str)≠"door":=by decide +kernel
theorem q75:("plain":Str)≠"door":=by decide +kernel
theorem q8E:("wade":Str)≠"door":=by decide +kernel
theorem q4m (g:Gt):decide (g.word="door")=g.dk.isSome:=by
 cases g with
 |plain=>exact decide_eq_false q75
 |door k=>exact decide_eq_true rfl
 |need k=>exact decide_eq_false q5Z
 |bar k=>exact decide_eq_false q76
 |wade h k=>exact decide_eq_false q8E
 |float k=>exact decide_eq_false q4A
theorem q84 {g:Gt}(h:g.word="door"):∃k,g= .door k:=by
 have:=q4m g
 rw[h] at this
 cases g with
 |door k=>exact⟨k,rfl⟩
 |_=>simp[Gt.dk] at this
theorem q81 {a b:Str}(h:a≠b):eqV (.str a) (.str b)=false:=by
 simp[eqV,h]
theorem qbc (g:Gt)(k:Int):eqVs g.vs [.str "door",.int k]=decide (g.dk=some k):=by
 cases g with
 |plain=>simp[eqVs,Gt.vs,Gt.dk]
 |door j=>
  simp[eqVs,Gt.vs,Gt.dk,eqV]
  rw[Bool.beq_eq_decide_eq]
 |need j=>simp[eqVs,Gt.vs,Gt.dk,q81 q5Z]
 |bar j=>simp[eqVs,Gt.vs,Gt.dk,q81 q76]
 |wade h j=>simp[eqVs,Gt.vs,Gt.dk]
 |float j=>simp[eqVs,Gt.vs,Gt.dk,q81 q4A]
structure Way where
 a:Int
 b:Int
 g:Gt
 back:Bool
structure Cl where
 rooms:Int
 fst:Int
 lst:Int
 ways:List Way
 things:List (Int×Int)
 levers:List (Int×Int)
 wheels:List (Int×Int)
 bars:Int
 water:Int
structure ClOk (C:Cl):Prop where
 r1:1<=C.rooms
 r2:C.rooms<=14
 f:0<=C.fst/\C.fst<C.rooms
 l:0<=C.lst/\C.lst<C.rooms
 wl:C.ways.length<=20
 tl:C.things.length<=8
 ll:C.levers.length<=4
 vl:C.wheels.length<=4
 w:∀x∈C.ways,(0<=x.a/\x.a<C.rooms)/\(0<=x.b/\x.b<C.rooms)/\x.a≠x.b/\x.g.ok
 t:∀x∈C.things,(0<=x.1/\x.1<C.rooms)/\0<=x.2/\x.2<12
 lv:∀x∈C.levers,(0<=x.1/\x.1<C.rooms)/\1<=x.2/\x.2<=255
 wh:∀x∈C.wheels,(0<=x.1/\x.1<C.rooms)/\0<=x.2/\x.2<=9
 b:0<=C.bars/\C.bars<=255
 wa:0<=C.water/\C.water<=9
def qI (H:Hp)(p:Addr)(x:Int×Int):Prop:=H p=some (.tup [.int x.1,.int x.2])
def q1U (H:Hp)(p:Addr)(x:Way):Prop:=∃g,H p=some (.tup [.int x.a,.int x.b,.ref g,.bl x.back])/\H g=some (.tup x.g.vs)
def Rows {α:Type}(At:Hp->Addr->α->Prop)(H:Hp)(ps:List Addr)(xs:List α):Prop:=ps.length=xs.length/\∀(i:Nat) (p:Addr) (x:α),ps[i]? =some p->xs[i]? =some x->At H p x
def q2R {α:Type}(At:Hp->Addr->α->Prop)(H:Hp)(q:Addr)(xs:List α):Prop:=∃ps,H q=some (.tup (ps.map V.ref))/\Rows At H ps xs
def q0b {α:Type}(At:Hp->Addr->α->Prop)(H:Hp)(q:Addr)(xs:List α):Prop:=∃ps,H q=some (.lst (ps.map V.ref))/\Rows At H ps xs
section
variable {α:Type}{At:Hp->Addr->α->Prop}{H H':Hp}{ps:List Addr}{xs:List α}{p q:Addr}{x:α}
theorem qI.mono (s:q0N H H'){p:Addr}{x:Int×Int}(h:qI H p x):qI H' p x:=s _ _ h
theorem q1U.mono (s:q0N H H'){p:Addr}{x:Way}(h:q1U H p x):q1U H' p x:=let ⟨g,h1,h2⟩:=h;⟨g,s _ _ h1,s _ _ h2⟩
theorem Rows.mono (m:∀p x,At H p x->At H' p x)(h:Rows At H ps xs):Rows At H' ps xs:=⟨h.1,fun i p x h1 h2=>m p x (h.2 i p x h1 h2)⟩
theorem Rows.nil:Rows At H [] []:=⟨rfl,fun i p x h _=>by simp at h⟩
theorem Rows.snoc (h:Rows At H ps xs)(hx:At H p x):Rows At H (ps++[p]) (xs++[x]):=by
 refine⟨by simp[h.1],fun i q y h1 h2=>?_⟩
 by_cases hi:i<ps.length
 ·rw [List.getElem?_append_left hi] at h1
  rw[List.getElem?_append_left (by rw[<-h.1];exact hi)] at h2
  exact h.2 i q y h1 h2
 ·have e:i=ps.length:=by
   have:=(List.getElem?_eq_some_iff.mp h1).1
   simp at this
   omega
  subst e
  rw[List.getElem?_append_right (Nat.le_refl _)] at h1
  rw[List.getElem?_append_right (by rw[h.1];exact Nat.le_refl _),<-h.1] at h2
  simp at h1 h2
  rw[<-h1,<-h2]
  exact hx
theorem Rows.get (h:Rows At H ps xs){i:Nat}(hi:i<xs.length):∃p,(ps.map V.ref)[i]? =some (.ref p)/\At H p xs[i]:=by
 have hp:i<ps.length:=by rw[h.1];exact hi
 exact⟨ps[i],by simp[hp],h.2 i _ _ (by simp[hp]) (by simp[hi])⟩
theorem q2R.mono (s:q0N H H')(m:∀p x,At H p x->At H' p x)(h:q2R At H q xs):q2R At H' q xs:=let ⟨ps,h1,h2⟩:=h;⟨ps,s _ _ h1,h2.mono m⟩
theorem q2R.get (h:q2R At H q xs):∃vs,H q=some (.tup vs)/\vs.length=xs.length/\∀i (hi:i<xs.length),∃p,vs[i]? =some (.ref p)/\At H p xs[i]:=by
 obtain⟨ps,h1,h2⟩:=h
 exact⟨_,h1,by simp[h2.1],fun i hi=>h2.get hi⟩
end
structure ClAt (H:Hp)(c:Addr)(C:Cl):Prop where
 ex:∃w t l v,H c=some (.tup [.int C.rooms,.int C.fst,.int C.lst,.ref w,.ref t,.ref l,.ref v,.int C.bars,.int C.water])/\q2R q1U H w C.ways/\q2R qI H t C.things/\q2R qI H l C.levers/\q2R qI H v C.wheels
theorem ClAt.mono {H H':Hp}(s:q0N H H'){c:Addr}{C:Cl}(h:ClAt H c C):ClAt H' c C:=by
 obtain⟨w,t,l,v,h0,h1,h2,h3,h4⟩:=h.ex
 exact⟨w,t,l,v,s _ _ h0,h1.mono s (fun _ _=>q1U.mono s),h2.mono s (fun _ _=>qI.mono s),h3.mono s (fun _ _=>qI.mono s),h4.mono s (fun _ _=>qI.mono s)⟩
def WOk (r:Int)(x:Way):Prop:=(0<=x.a/\x.a<r)/\(0<=x.b/\x.b<r)/\x.a≠x.b/\x.g.ok
def POk (r lo hi:Int)(x:Int×Int):Prop:=(0<=x.1/\x.1<r)/\lo<=x.2/\x.2<=hi
structure Grown {α:Type}(At:Hp->Addr->α->Prop)(ok:α->Prop)(most:Nat)(H:Hp)(l:Addr):Prop where
 ex:∃xs:List α,q0b At H l xs/\xs.length<=most/\∀x∈xs,ok x
section
variable {α:Type}{At:Hp->Addr->α->Prop}{ok:α->Prop}{most:Nat}{H H':Hp}{l m:Addr}
theorem Grown.at (g:Grown At ok most H l):∃xs,H l=some (.lst xs)/\xs.length<=most:=by
 obtain⟨xs,⟨ps,h1,h2⟩,h3,_⟩:=g.ex
 exact⟨_,h1,by rw[List.length_map,h2.1];exact h3⟩
theorem Grown.none (h:H l=some (.lst [])):Grown At ok most H l:=⟨[],⟨[],h,Rows.nil⟩,Nat.zero_le _,fun _ h=>by simp at h⟩
theorem Grown.same (g:Grown At ok most H l)(mo:∀p x,At H p x->At H' p x)(s:Same H H'):Grown At ok most H' l:=by
 obtain⟨xs,⟨ps,h1,h2⟩,h3,h4⟩:=g.ex
 exact⟨xs,⟨ps,s _ _ h1,h2.mono mo⟩,h3,h4⟩
theorem Grown.app (g:Grown At ok most H l){ys:List V}{p:Addr}{x:α}(mo:∀q x,At H q x->At (upd H l (.lst (ys++[.ref p]))) q x)(hy:H l=some (.lst ys))(hl:ys.length<most)(hx:At H p x)(hok:ok x):Grown At ok most (upd H l (.lst (ys++[.ref p]))) l:=by
 obtain⟨xs,⟨ps,h1,h2⟩,h3,h4⟩:=g.ex
 rw[h1] at hy
 have e:ps.map V.ref=ys:=by
  have:=Option.some.inj hy
  injection this
 subst e
 refine⟨xs++[x],⟨ps++[p],by rw[qg,List.map_append];rfl,(h2.mono mo).snoc (mo _ _ hx)⟩,?_,fun z hz=>?_⟩
 ·rw [List.length_append,<-h2.1]
  rw[List.length_map] at hl
  exact hl
 ·rcases List.mem_append.mp hz with hz|hz
  ·exact h4 z hz
  ·rw [List.mem_singleton.mp hz];exact hok
end
def tP (C:Cl)(tk k:Int)(t:Nat):Bool:=decide ((C.things.getD t (0,0)).2=k)&&bit tk t
def dsOf (C:Cl)(w:Nat):Option Int:=(C.ways[w]?).bind fun x=>x.g.dk
def hold (C:Cl)(tk op k:Int):Int:=(cnt (tP C tk k) C.things.length:Int) - (cnt (dP (dsOf C) op k) C.ways.length:Int)
def cl (f:Int->Int):List V:=(List.range 12).map fun k:Nat=>V.int (f k)
theorem q7R (C:Cl)(k:Int):hold C 0 0 k=0:=by
 unfold hold
 rw[q8h fun i _=>by simp[tP,q4i],q8h fun i _=>qbm _ _ _]
 rfl
theorem cl_len (f:Int->Int):(cl f).length=12:=by simp[cl]
theorem q8m {f:Int->Int}{k:Int}(h0:0<=k)(h1:k<12):atI (cl f) k=some (.int (f k)):=by
 obtain⟨j,rfl⟩:∃j:Nat,k=(j:Int):=⟨k.toNat,by omega⟩
 exact q0i (by simp[cl,show j<12 by omega])
theorem cl_ix {f:Int->Int}{k:Int}(h0:0<=k)(h1:k<12):ixN (cl f).length k=some k.toNat:=by
 rw[cl_len]
 unfold ixN
 rw[if_pos h0,if_pos (by omega)]
theorem qa2 {f:Int->Int}{k v:Int}(h0:0<=k)(h1:k<12):(cl f).set k.toNat (.int v)=cl fun j=>if j=k then v else f j:=by
 unfold cl
 rw[set_map]
 refine List.map_congr_left fun j _=>?_
 by_cases e:(j:Int)=k
 ·rw [if_pos (by omega)]
  show _=V.int (if (j:Int)=k then v else f j)
  rw[if_pos e]
 ·rw [if_neg (by omega)]
  show _=V.int (if (j:Int)=k then v else f j)
  rw[if_neg e]
theorem q2t {f g:Int->Int}(h:∀k,0<=k->k<12->f k=g k):cl f=cl g:=by
 unfold cl
 refine List.map_congr_left fun j hj=>?_
 rw[List.mem_range] at hj
 rw[h j (by omega) (by omega)]
structure StOk (C:Cl)(rm tk op b wt:Int):Prop where
 hrm:0<=rm/\rm<C.rooms
 htk:0<=tk/\tk<2 ^ C.things.length
 hop:0<=op/\op<2 ^ C.ways.length
 dr:∀i,i<C.ways.length->bit op i=true->(dsOf C i).isSome=true
 hb:0<=b/\b<=255
 hwt:0<=wt/\wt<=9
 held:∀k,0<=k->k<12->0<=hold C tk op k
end Ce
namespace L2
open PySem PySem.Spec PyProof.Rows
def rSumL (K:PySem.W.Frag):List V->Hp->VK->Prop:=fun xs H Q=>∃(p:Addr) (ns:List Int),xs=[.ref p]/\SqL K H p (ns.map V.int)/\Q (.int ns.sum) H
section
variable {X:Cx}
theorem sumLK (K:PySem.W.Frag)(hc:X.calm=true)(hK:X.K=K:=by rfl):q2F X (.builtin "sum") (rSumL K):=by
 subst hK
 intro pins s σ H xs us Q I r h
 obtain⟨p,ns,rfl,hq,q⟩:=h
 obtain⟨u,rfl,rx⟩:=q6v r
 cases rx
 obtain⟨its,rv,pl,hz⟩:=I.list hq
 have hi:=q3J rv
 have hl:=pl.isList
 obtain⟨ys,e⟩:=hi.allInts.items
 have hns:ns=ys.toList.map (·.1):=by rw[<-hi.numsOf,<-nums_intItems,<-e]
 rw[e] at hl
 refine sum_intListG (I.ok.hd hc) hl fun h' tk t' hk=>⟨.int ns.sum,H,I.kept (t':=tk) hk,⟨t',?_⟩,q⟩
 rw[preSum_eq,List.take_of_length_le (by simp),hns]
end
section
variable {H:Hp}{Q:VK}{K:PySem.W.Frag}{σ:St}
theorem qal {r r':R2}{ta tb tc:TE}(q:ta σ H fun x H1=>tb σ H1 fun y H2=>r x y H2 fun z H3=>∃k,z= .bl k/\(if k=true then tc σ H3 fun w' H4=>r' y w' H4 Q else Q (.bl false) H3)):q9D r r' ta tb tc σ H Q:=q
theorem qak {l:Addr}{xs:List V}{i:Int}{k:Nat}{y:V}(h:H l=some (.lst xs))(h1: -(2 ^ 63)<=i/\i<2 ^ 63)(e:seqIndex? i xs.length=some k)(hy:xs[k]? =some y)(q:Q y (upd H l (.lst (xs.eraseIdx k)))):q9K (.ref l) [.int i] H Q:=⟨l,xs,i,k,y,rfl,rfl,h,h1.1,h1.2,e,hy,q⟩
theorem q9H {p:Addr}{ns:List Int}(h:SqL K H p (ns.map V.int))(q:Q (.int ns.sum) H):rSumL K [.ref p] H Q:=⟨p,ns,rfl,h,q⟩
end
end L2
namespace Ce
open PySem L2
theorem q1C {x:Int}(h:0<=x)(t:Nat):bit x t=x.toNat.testBit t:=by
 unfold bit
 rw[Nat.testBit_eq_decide_div_mod_eq]
 obtain⟨n,rfl⟩:∃n:Nat,x=(n:Int):=⟨x.toNat,by omega⟩
 rw[Int.toNat_natCast]
 congr 1
 have e:((n:Int) / 2 ^ t % 2=1)=((((n / 2 ^ t % 2:Nat):Int))=((1:Nat):Int)):=by
  rw[Int.natCast_emod,Int.natCast_ediv,Int.natCast_pow]
  rfl
 rw[e,Int.natCast_inj]
theorem q60 {C:Cl}(ok:ClOk C):StOk C C.fst 0 0 C.bars C.water:=
 ⟨ok.f,⟨by decide,q1R _⟩,⟨by decide,q1R _⟩,fun i _ hb=>(by rw[q4i] at hb;cases hb),ok.b,ok.wa,fun k _ _=>(by rw[q7R];exact Int.le_refl 0)⟩
end Ce
namespace L2
open PySem PySem.Spec PyProof.Rows
structure LaidM (K:PySem.W.Frag)(C:Addr)(m qual:Str)(st:Stmt)(ps:List Str):Prop where
 ex:∃f fd,Fun K m qual st f fd/\Meth K C m f/\q1V K fd ps []
structure LaidI (K:PySem.W.Frag)(mg:Str->Option Value)(x:Str)(C:Addr)(qual:Str)(st:Stmt)(ps:List Str):Prop where
 ex:∃f fd,Fun K "__init__" qual st f fd/\Mk K C f/\q1V K fd ps []
 at_:mg x=some (.ref C)
structure LaidC (K:PySem.W.Frag)(mg:Str->Option Value)(x m qual:Str)(st:Stmt)(ps:List Str):Prop where
 ex:∃C f fd,mg x=some (.ref C)/\Fun K m qual st f fd/\CMeth K C m f/\q1V K fd ps []
section
variable {P:Program}{w:World}{K:PySem.W.Frag}{mg:Str->Option Value}{base:Heap}
theorem LaidM.vm {C:Addr}{m qual:Str}{st:Stmt}{N ps:List Str}{k:Nat}{sp:Sp}(L:LaidM K C m qual st ps)(cl:Cls K C)(S:FnScope N ps (qf st))(len:∀vs H Q E,sp vs H Q E->vs.length=ps.length)
  (hbody:∀(f:Addr) (cdv:Value) (A:Around) (outer:List Env) (s:Shared) (H:Hp) (vs:List V) (Q:VK) (E:XK),Room k (A.deeper (envOfC qual (qf st) s.heap.objs.size f cdv))->sp vs H Q E->
   ∃t,PSs (cxOf CX0 P w K mg base N qual (qf st) f cdv A outer s H E).nox (qU st) t/\t {nx:=fun _ H'=>Q .non H',rt:=Q} (start N vs) H):VMeth P w K mg base (k+1) C m ps sp:=by
 obtain⟨f,fd,F,hm,b⟩:=L.ex
 exact⟨cl,f,fd,hm,F.ok S len (fun cdv A outer s H vs Q E hr h=>hbody f cdv A outer s H vs Q E hr h),b⟩
theorem LaidI.makes {x:Str}{C:Addr}{qual:Str}{st:Stmt}{N ps:List Str}{k:Nat}{sp:Sp}(L:LaidI K mg x C qual st ps)(S:FnScope N ps (qf st))(len:∀vs H Q E,sp vs H Q E->vs.length=ps.length)
  (hbody:∀(f:Addr) (cdv:Value) (A:Around) (outer:List Env) (s:Shared) (H:Hp) (vs:List V) (Q:VK) (E:XK),Room k (A.deeper (envOfC qual (qf st) s.heap.objs.size f cdv))->sp vs H Q E->
   ∃t,PSs (cxOf CX0 P w K mg base N qual (qf st) f cdv A outer s H E).nox (qU st) t/\t {nx:=fun _ H'=>Q .non H',rt:=Q} (start N vs) H):Makes P w K mg base (k+1) x C ps sp:=by
 obtain⟨f,fd,F,M,b⟩:=L.ex
 exact⟨⟨f,fd,M,F.ok S len (fun cdv A outer s H vs Q E hr h=>hbody f cdv A outer s H vs Q E hr h),b⟩,L.at_⟩
theorem LaidC.cc {x m qual:Str}{st:Stmt}{N ps:List Str}{k:Nat}{sp:Sp}(L:LaidC K mg x m qual st ps)(S:FnScope N ps (qf st))(len:∀vs H Q E,sp vs H Q E->vs.length=ps.length)
  (hbody:∀(f:Addr) (cdv:Value) (A:Around) (outer:List Env) (s:Shared) (H:Hp) (vs:List V) (Q:VK) (E:XK),Room k (A.deeper (envOfC qual (qf st) s.heap.objs.size f cdv))->sp vs H Q E->
   ∃t,PSs (cxOf CX0 P w K mg base N qual (qf st) f cdv A outer s H E).nox (qU st) t/\t {nx:=fun _ H'=>Q .non H',rt:=Q} (start N vs) H):CCal P w K mg base (k+1) x m ps sp:=by
 obtain⟨C,f,fd,hm,F,cm,b⟩:=L.ex
 exact⟨C,f,fd,hm,cm,F.ok S len (fun cdv A outer s H vs Q E hr h=>hbody f cdv A outer s H vs Q E hr h),b⟩
end
def rFld (K:PySem.W.Frag)(f:Str)(x:V)(H:Hp)(Q:VK):Prop:=∃a C dx fs v,x= .ref a/\H a=some (.ins C dx fs)/\Cls K C/\qF K C f/\fs.lookup f=some v/\Q v H
def rSetF (K:PySem.W.Frag)(f:Str)(x y:V)(H:Hp)(R:Hp->Prop):Prop:=∃a C dx fs,x= .ref a/\H a=some (.ins C dx fs)/\Cls K C/\qF K C f/\fs.length<1000/\R (upd H a (.ins C dx (putF f y fs)))
def rVM (P:Program)(w:World)(K:PySem.W.Frag)(mg:Str->Option Value)(base:Heap)(k:Nat)(m:Str)(σ:St)(t:TA)(x:V)(H:Hp)(Q:VK):Prop:=∃a C dx fs ps sp,x= .ref a/\H a=some (.ins C dx fs)/\VMeth P w K mg base k C m ps sp/\fs.lookup m=none/\t σ H fun vs H2=>sp (x::vs) H2 Q E0
section
variable {σ:St}{H:Hp}{Q:VK}{K:PySem.W.Frag}{ta tv:TE}{t:TA}{f m:Str}{nx bk ct:St->Hp->Prop}{rt:VK}{P:Program}{w:World}{mg:Str->Option Value}{base:Heap}{k:Nat}
theorem r_fld0 (q:ta σ H fun x H1=>rFld K f x H1 Q):tFld K ta f σ H Q:=q
theorem qah (q:tv σ H fun y H1=>ta σ H1 fun x H2=>rSetF K f x y H2 fun H3=>nx σ H3):sFld K ta tv f ⟨nx,rt,bk,ct⟩ σ H:=q
theorem r_vm0 (q:ta σ H fun x H1=>rVM P w K mg base k m σ t x H1 Q):tVM P w K mg base k m ta t σ H Q:=q
theorem q19 {a C dx:Addr}{fs:List (Str×V)}{v:V}(h:H a=some (.ins C dx fs))(c:Cls K C)(n:qF K C f)(l:fs.lookup f=some v)(q:Q v H):rFld K f (.ref a) H Q:=⟨a,C,dx,fs,v,rfl,h,c,n,l,q⟩
theorem q1Z {a C dx:Addr}{fs:List (Str×V)}{y:V}{R:Hp->Prop}(h:H a=some (.ins C dx fs))(c:Cls K C)(n:qF K C f)(l:fs.length<1000)(q:R (upd H a (.ins C dx (putF f y fs)))):rSetF K f (.ref a) y H R:=⟨a,C,dx,fs,rfl,h,c,n,l,q⟩
theorem r_vm {a C dx:Addr}{fs:List (Str×V)}{ps:List Str}{sp:Sp}(h:H a=some (.ins C dx fs))(v:VMeth P w K mg base k C m ps sp)(l:fs.lookup m=none)(q:t σ H fun vs H2=>sp (.ref a::vs) H2 Q E0):rVM P w K mg base k m σ t (.ref a) H Q:=⟨a,C,dx,fs,ps,sp,rfl,h,v,l,q⟩
theorem r_make {C:Addr}{sp:Sp}{E:XK}(q:t σ H fun vs H1=>∀x dx,H1 x=none->H1 dx=none->dx≠x->sp (.ref x::(vs++[])) (upd (upd H1 dx (.own x)) x (.ins C dx [])) (fun v H2=>v= .non/\Q (.ref x) H2) E):q71 C sp [] E t σ H Q:=q
end
section
variable {X:Cx}
theorem q14 {o value:Expr}{ta tv:TE}{f:Str}{pos pos':Pos}(K:PySem.W.Frag)(ha:PE X o ta)(hv:PE X value tv)(hs:swapsWith value (some (.Attribute o f pos')) pos.line X.env=pure false)(hK:X.K=K:=by rfl):PS X (.Assign [.Attribute o f pos'] value pos) (sFld K ta tv f):=by subst hK;exact ps_fld ha hv hs
end
end L2
namespace L2
open PySem PySem.Spec PyProof.Rows
inductive Deq (K:PySem.W.Frag)(H:Hp):Nat->V->V->Bool->Prop where
 |flat {n:Nat} {x y:V} (fx:q0Q x=true) (fy:q0Q y=true):Deq K H n x y (eqV x y)
 |same {n:Nat} (a:Addr):Deq K H n (.ref a) (.ref a) true
 | tup {n:Nat} {a b:Addr} {xs ys:List V} {e:Nat->Bool} (hne:a≠b) (ha:SqT K H a xs) (hb:SqT K H b ys) (h:∀j,j<xs.length->j<ys.length->Deq K H n (xs.getD j .non) (ys.getD j .non) (e j)):
   Deq K H (n+1) (.ref a) (.ref b) ((List.range (min xs.length ys.length)).all e&&xs.length==ys.length)
 | lst {n:Nat} {a b:Addr} {xs ys:List V} {e:Nat->Bool} (hne:a≠b) (ha:SqL K H a xs) (hb:SqL K H b ys) (hl:xs.length=ys.length) (h:∀j,j<xs.length->j<ys.length->Deq K H n (xs.getD j .non) (ys.getD j .non) (e j)):
   Deq K H (n+1) (.ref a) (.ref b) ((List.range xs.length).all e)
 |lstn {n:Nat} {a b:Addr} {xs ys:List V} (hne:a≠b) (ha:SqL K H a xs) (hb:SqL K H b ys) (hl:xs.length≠ys.length):Deq K H (n+1) (.ref a) (.ref b) false
section
variable {X:Cx}{pins:List (Addr×Obj)}{σ:St}{H:Hp}{s:Shared}
theorem eqAt_D (I:Inv X pins σ H s){n:Nat}{x y:V}{b:Bool}(d:Deq X.K H n x y b):∀{A:Around} {u v:Value},A.units+n<cLine->RelV x u->RelV y v->SeqAt.EqAt A s u v b:=by
 induction d with
 |flat fx fy=>intro A u v _ rx ry;exact q6j rx ry fx fy
 |same a=>intro A u v _ rx ry;cases rx;cases ry;exact SeqAt.EqAt.same _
 | @tup n a b xs ys e hne ha hb h ih=>
  intro A u v hu rx ry
  cases rx
  cases ry
  obtain⟨ia,ra,pa,_⟩:=I.tuple ha
  obtain⟨ib,rb,pb,_⟩:=I.tuple hb
  have la:=ra.length
  have lb:=rb.length
  refine SeqAt.EqAt.of_refs hne ?_
  have q:=SeqAt.RcAt.tuples (A:=A) (e:=e) (show s.heap.IsTuple a ia.toArray from pa) (show s.heap.IsTuple b ib.toArray from pb) (by omega) (fun j h1 h2=>ih j (by simpa[la] using h1) (by simpa[lb] using h2) (by show A.units+1+n<cLine;omega) (q0F ra h1) (q0F rb h2))
  simpa[la,lb] using q
 | @lst n a b xs ys e hne ha hb hl h ih=>
  intro A u v hu rx ry
  cases rx
  cases ry
  obtain⟨ia,ra,pa,_⟩:=I.list ha
  obtain⟨ib,rb,pb,_⟩:=I.list hb
  have la:=ra.length
  have lb:=rb.length
  refine SeqAt.EqAt.of_refs hne ?_
  have q:=SeqAt.RcAt.lists (A:=A) (e:=e) pa.isList pb.isList (by simp;omega) (by omega) (fun j h1 h2=>ih j (by simpa[la] using h1) (by simpa[lb] using h2) (by show A.units+1+n<cLine;omega) (q0F ra h1) (q0F rb h2))
  simpa[la] using q
 | @lstn n a b xs ys hne ha hb hl=>
  intro A u v hu rx ry
  cases rx
  cases ry
  obtain⟨ia,ra,pa,_⟩:=I.list ha
  obtain⟨ib,rb,pb,_⟩:=I.list hb
  have la:=ra.length
  have lb:=rb.length
  exact SeqAt.EqAt.of_refs hne (SeqAt.RcAt.lists_lengths pa.isList pb.isList (by simp;omega) (by omega))
end
def rNeD (K:PySem.W.Frag)(n:Nat):R2:=fun x y H Q=>
 (∃p q xs ys e,x= .ref p/\y= .ref q/\SqL K H p xs/\SqL K H q ys/\xs.length=ys.length/\(∀j,j<xs.length->j<ys.length->Deq K H n (xs.getD j .non) (ys.getD j .non) (e j))/\Q (.bl (!(List.range xs.length).all e)) H)\/
 (∃p q xs ys,x= .ref p/\y= .ref q/\SqL K H p xs/\SqL K H q ys/\xs.length≠ys.length/\Q (.bl true) H)
section
variable {X:Cx}
theorem op_neD (K:PySem.W.Frag)(n:Nat)(hu:X.A.units+n+1<cLine)(hK:X.K=K:=by rfl):OpR X (compareOp .NotEq) (rNeD K n):=by
 subst hK
 intro pins s σ H x y v u Q I rx ry h
 rcases h with⟨p,q,xs,ys,e,rfl,rfl,hp,hq,hl,hd,k⟩|⟨p,q,xs,ys,rfl,rfl,hp,hq,hl,k⟩
 ·cases rx
  cases ry
  obtain⟨ia,ra,pa,_⟩:=I.list hp
  obtain⟨ib,rb,pb,_⟩:=I.list hq
  have la:=ra.length
  have lb:=rb.length
  refine SeqAt.RcNeAt.lists (e:=e) pa.isList pb.isList (by simp;omega) (by omega) (fun j h1 h2=>eqAt_D I (hd j (by simpa[la] using h1) (by simpa[lb] using h2)) (by show X.A.units+1+n<cLine;omega) (q0F ra h1) (q0F rb h2)) _ _ _ _ ⟨.bl _,H,I,?_,k⟩
  show Value.bool _=Value.bool _
  simp[la]
 ·cases rx
  cases ry
  obtain⟨ia,ra,pa,_⟩:=I.list hp
  obtain⟨ib,rb,pb,_⟩:=I.list hq
  have la:=ra.length
  have lb:=rb.length
  exact SeqAt.RcNeAt.lists_lengths pa.isList pb.isList (by simp;omega) (by omega) _ _ _ _ ⟨.bl true,H,I,rfl,k⟩
end
theorem q4k (n:Nat):((List.range n).all fun _=>true)=true:=by simp
section
variable {H:Hp}{Q:VK}{K:PySem.W.Frag}{n:Nat}{p q:Addr}{xs ys:List V}
theorem r_neDT (hp:SqL K H p xs)(hq:SqL K H q ys)(hl:xs.length=ys.length)(h:∀j,j<xs.length->Deq K H n (xs.getD j .non) (ys.getD j .non) true)(k:Q (.bl false) H):rNeD K n (.ref p) (.ref q) H Q:=
 .inl ⟨p,q,xs,ys,fun _=>true,rfl,rfl,hp,hq,hl,fun j h1 _=>h j h1,by rw[q4k];exact k⟩
theorem Deq.self {x:V}(h:q0Q x=true\/∃a,x= .ref a):Deq K H n x x true:=by
 rcases h with h|⟨a,rfl⟩
 ·have:=Deq.flat (K:=K) (H:=H) (n:=n) h h
  rw[q6i h] at this
  exact this
 ·exact .same a
end
end L2
namespace L2
open PySem PySem.Spec PyProof.Rows
end L2
namespace HT
open PySem PyProof.Rows
section
variable {prog:Program}{w:World}{A:Around}{E:Value->Shared->Prop}{s:Shared}
theorem q9z {t b:Addr}{vs ws:List Value}{Q:Value->Shared->Prop}(ht:IsTup s.heap t vs.toArray)(hb:IsTup s.heap b ws.toArray)(hv:vs=[])(h:Q (.ref b) s):wpAny (model prog w) A (binaryOp .Add (.ref t) (.ref b)) Q E s:=by
 obtain⟨⟨cls,dd,data,sl⟩,ho,hc,n,hd⟩:=id ht
 obtain⟨⟨cls2,dd2,data2,sl2⟩,ho2,hc2,n2,hd2⟩:=id hb
 simp only at hc hd hc2 hd2
 subst hc hd hc2 hd2
 exact concat_meets ⟨_,ho,rfl⟩ ⟨_,ho2,rfl⟩ noFill_tuple_add seq_tuple_add PySem.F.slot_tuple_add PySem.F.entry_tuple_add (PySem.F.args_tuple_add_2 _ _)
   (tuple_addW0 t b vs.toArray ws.toArray n n2 dd dd2 sl sl2 (by simp[hv])) ⟨ho,ho2,h⟩
end
end HT
namespace L2
open PySem PySem.Spec PyProof.Rows
def q4Y (K:PySem.W.Frag):R2:=fun x y H Q=>∃a b xs ys,x= .ref a/\y= .ref b/\SqT K H a xs/\SqT K H b ys/\xs.length+ys.length<=sizeLine/\
 (xs=[]->Q (.ref b) H)/\(xs≠[]->ys=[]->Q (.ref a) H)/\(xs≠[]->ys≠[]->∀p,H p=none->Q (.ref p) (upd H p (.tup (xs++ys))))
section
variable {X:Cx}
theorem q33 (K:PySem.W.Frag)(hK:X.K=K:=by rfl):OpR X (binaryOp .Add) (q4Y K):=by
 subst hK
 intro pins s σ H x y v u Q I rx ry h
 obtain⟨a,b,xs,ys,e1,e2,ha,hb,hz,q0,q1,q2⟩:=h
 by_cases hx:xs=[]
 ·subst e1 e2
  cases rx
  cases ry
  obtain⟨its,r1,p1,_⟩:=I.tuple ha
  obtain⟨its2,r2,p2,_⟩:=I.tuple hb
  exact HT.q9z p1 p2 (r1.nil_iff.mpr hx) ⟨.ref b,H,I,rfl,q0 hx⟩
 ·exact q7u pins s σ H x y v u Q I rx ry ⟨a,b,xs,ys,e1,e2,ha,hb,hx,hz,q1 hx,q2 hx⟩
end
section
variable {H:Hp}{Q:VK}{K:PySem.W.Frag}
theorem qan {p q:Addr}{ys:List V}(h1:SqT K H p [])(h2:SqT K H q ys)(hz:ys.length<=sizeLine)(k:Q (.ref q) H):q4Y K (.ref p) (.ref q) H Q:=
 ⟨p,q,[],ys,rfl,rfl,h1,h2,by simpa using hz,fun _=>k,fun e=>(e rfl).elim,fun e=>(e rfl).elim⟩
theorem qam {p q:Addr}{x:V}{xs:List V}(h1:SqT K H p (x::xs))(h2:SqT K H q [])(hz:(x::xs).length<=sizeLine)(k:Q (.ref p) H):q4Y K (.ref p) (.ref q) H Q:=
 ⟨p,q,x::xs,[],rfl,rfl,h1,h2,by simpa using hz,fun e=>by simp at e,fun _ _=>k,fun _ e=>(e rfl).elim⟩
theorem q1M {p q:Addr}{x y:V}{xs ys:List V}(h1:SqT K H p (x::xs))(h2:SqT K H q (y::ys))(hz:Nat.ble ((x::xs).length+(y::ys).length) sizeLine=true)(k:∀r,H r=none->Q (.ref r) (upd H r (.tup (x::xs++y::ys)))):q4Y K (.ref p) (.ref q) H Q:=
 ⟨p,q,x::xs,y::ys,rfl,rfl,h1,h2,Nat.le_of_ble_eq_true hz,fun e=>by simp at e,fun _ e=>by simp at e,fun _ _=>k⟩
end
end L2
namespace Ce
open PySem L2
def q3g (g:Gt)(f:Int->Int)(op:Bool)(bars wt:Int):Bool:=match g with
 | .plain=>true
 | .door _=>op
 | .need k=>decide (0<f k)
 | .bar b=>bit bars b.toNat
 | .wade h k=>decide (wt<=h)||decide (0<f k)
 | .float h=>decide (h<=wt)
inductive Wd where
 |go|pull|take|turn|unlock
 deriving DecidableEq
def Wd.str:Wd->Str
 | .go=>"go"
 | .pull=>"pull"
 | .take=>"take"
 | .turn=>"turn"
 | .unlock=>"unlock"
def Wd.part:Wd->Int
 | .go=>3
 | .pull=>5
 | .take=>4
 | .turn=>6
 | .unlock=>3
structure Sd where
 rm:Int
 tk:Int
 op:Int
 b:Int
 wt:Int
def Sd.vs (s:Sd):List V:=[.int s.rm,.int s.tk,.int s.op,.int s.b,.int s.wt]
def Sd.ok (C:Cl)(s:Sd):Prop:=StOk C s.rm s.tk s.op s.b s.wt
def q0G (x:Way)(rm:Int):Bool:=decide (rm=x.a)||(decide (rm=x.b)&&x.back)
def canB (C:Cl)(s:Sd)(i:Nat):Wd->Bool
 | .go=>match C.ways[i]? with
  |some x=>q0G x s.rm&&q3g x.g (hold C s.tk s.op) (bit s.op i) s.b s.wt
  |none=>false
 | .pull=>match C.levers[i]? with
  |some x=>decide (s.rm=x.1)
  |none=>false
 | .take=>match C.things[i]? with
  |some x=>decide (s.rm=x.1)&& !bit s.tk i
  |none=>false
 | .turn=>match C.wheels[i]? with
  |some x=>decide (s.rm=x.1)&& !decide (s.wt=x.2)
  |none=>false
 | .unlock=>match C.ways[i]? with
  |some x=>match x.g.dk with
   |some k=>(q0G x s.rm&& !bit s.op i)&&decide (0<hold C s.tk s.op k)
   |none=>false
  |none=>false
def q09 (C:Cl)(s:Sd)(i:Nat):Wd->Sd
 | .go=>match C.ways[i]? with
  |some x=>{s with rm:=if s.rm=x.a then x.b else x.a}
  |none=>s
 | .pull=>match C.levers[i]? with
  |some x=>{s with b:=Builtin.bitXor s.b x.2}
  |none=>s
 | .take=>{s with tk:=s.tk+2 ^ i}
 | .turn=>match C.wheels[i]? with
  |some x=>{s with wt:=x.2}
  |none=>s
 | .unlock=>{s with op:=s.op+2 ^ i}
def Cl.num (C:Cl):Wd->Nat
 | .go=>C.ways.length
 | .pull=>C.levers.length
 | .take=>C.things.length
 | .turn=>C.wheels.length
 | .unlock=>C.ways.length
def canD (C:Cl)(s:Sd)(d:Wd)(n:Int):Bool:= !decide (s.rm=C.lst)&&(decide (0<=n)&&canB C s n.toNat d)
def q0R (C:Cl)(s:Sd)(d:Wd)(n:Int):Sd:=q09 C s n.toNat d
theorem q5S {C:Cl}{s:Sd}{i:Nat}{d:Wd}(h:canB C s i d=true):i<C.num d:=by
 cases d<;>simp only[canB] at h
 ·cases e:C.ways[i]? with
  |none=>rw[e] at h;simp at h
  |some x=>exact(List.getElem?_eq_some_iff.mp e).1
 ·cases e:C.levers[i]? with
  |none=>rw[e] at h;simp at h
  |some x=>exact(List.getElem?_eq_some_iff.mp e).1
 ·cases e:C.things[i]? with
  |none=>rw[e] at h;simp at h
  |some x=>exact(List.getElem?_eq_some_iff.mp e).1
 ·cases e:C.wheels[i]? with
  |none=>rw[e] at h;simp at h
  |some x=>exact(List.getElem?_eq_some_iff.mp e).1
 ·cases e:C.ways[i]? with
  |none=>rw[e] at h;simp at h
  |some x=>exact(List.getElem?_eq_some_iff.mp e).1
theorem q8p {C:Cl}{s:Sd}{d:Wd}{n:Int}(h:s.rm=C.lst):canD C s d n=false:=by simp[canD,h]
theorem q6r {C:Cl}{s:Sd}{d:Wd}{n:Int}(h:n<0):canD C s d n=false:=by
 have:¬0<=n:=by omega
 simp[canD,this]
theorem q5R {C:Cl}{s:Sd}{d:Wd}{n:Int}(h:¬n<C.num d):canD C s d n=false:=by
 by_cases h0:0<=n
 ·have:canB C s n.toNat d=false:=by
   cases e:canB C s n.toNat d with
   |false=>rfl
   |true=>have:=q5S e;omega
  simp[canD,this]
 ·exact q6r (by omega)
theorem q5Q {C:Cl}{s:Sd}{d:Wd}{i:Nat}(h:¬s.rm=C.lst):canD C s d (i:Int)=canB C s i d:=by
 have:(0:Int)<=(i:Int):=by omega
 simp[canD,h,this]
theorem q0x {C:Cl}{s:Sd}{d:Wd}{n:Int}(h:canD C s d n=true):¬s.rm=C.lst/\∃i:Nat,n=(i:Int)/\i<C.num d/\canB C s i d=true:=by
 unfold canD at h
 simp only[Bool.and_eq_true,Bool.not_eq_true',decide_eq_false_iff_not,decide_eq_true_eq] at h
 exact⟨h.1,n.toNat,by omega,q5S h.2.2,h.2.2⟩
theorem q8v {x:Int}{w:Nat}(h:bit x w=false):Builtin.bitOr x (2 ^ w)=x+2 ^ w:=by
 rw[PyProof.Rows.bitOr_and,PySem.W.kbt_bit]
 have:x / 2 ^ w % 2=0:=by
  unfold bit at h
  have h':=of_decide_eq_false h
  omega
 rw[this]
 simp
theorem q3s (x y:Nat):x+y=(x ^^^ y)+2*(x &&& y):=by
 have key:∀n x y,x<2 ^ n->y<2 ^ n->x+y=(x ^^^ y)+2*(x &&& y):=by
  intro n
  induction n with
  | zero => intro x y hx hy;have:x=0:=by simpa using hx
            have:y=0:=by simpa using hy
            subst_vars;rfl
  |succ n ih=>
   intro x y hx hy
   have h:=ih (x / 2) (y / 2) (by rw[Nat.pow_succ] at hx;omega) (by rw[Nat.pow_succ] at hy;omega)
   have e1:(x ^^^ y) / 2=(x / 2) ^^^ (y / 2):=Nat.xor_div_two
   have e2:(x &&& y) / 2=(x / 2) &&& (y / 2):=Nat.and_div_two
   have m1:(x ^^^ y) % 2=(x % 2+y % 2) % 2:=by
    have h1:(x ^^^ y) % 2=(x % 2) ^^^ (y % 2):=Nat.xor_mod_two_pow (n:=1)
    rw[h1]
    have a:x % 2=0\/x % 2=1:=by omega
    have b:y % 2=0\/y % 2=1:=by omega
    rcases a with a|a<;>rcases b with b|b<;>simp[a,b]
   have m2:(x &&& y) % 2=(x % 2)*(y % 2):=by
    have h1:(x &&& y) % 2=(x % 2) &&& (y % 2):=Nat.and_mod_two_pow (n:=1)
    rw[h1]
    have a:x % 2=0\/x % 2=1:=by omega
    have b:y % 2=0\/y % 2=1:=by omega
    rcases a with a|a<;>rcases b with b|b<;>simp[a,b]
   have a:x % 2=0\/x % 2=1:=by omega
   have b:y % 2=0\/y % 2=1:=by omega
   rw[<-e1,<-e2] at h
   rcases a with a|a<;>rcases b with b|b<;>rw[a,b] at m1 m2<;>omega
 exact key (x+y) x y (Nat.lt_of_le_of_lt (Nat.le_add_right x y) Nat.lt_two_pow_self) (Nat.lt_of_le_of_lt (Nat.le_add_left y x) Nat.lt_two_pow_self)
theorem q5k {x y:Int}(hx:0<=x)(hy:0<=y):Builtin.bitXor x y=((x.toNat ^^^ y.toNat:Nat):Int):=by
 rw[PyProof.Rows.bitXor_and,PyProof.Rows.bitAnd_pp hx hy]
 have:=q3s x.toNat y.toNat
 omega
theorem q4l {x y:Int}(hx:0<=x)(hx':x<=255)(hy:0<=y)(hy':y<=255):0<=Builtin.bitXor x y/\Builtin.bitXor x y<=255:=by
 rw[q5k hx hy]
 have:x.toNat ^^^ y.toNat<2 ^ 8:=Nat.xor_lt_two_pow (by omega) (by omega)
 omega
theorem go_end {x:Way}{rm:Int}(h:q0G x rm=true):(if rm=x.a then x.b else x.a)=x.a+x.b - rm:=by
 unfold q0G at h
 simp only[Bool.or_eq_true,Bool.and_eq_true,decide_eq_true_eq] at h
 by_cases e:rm=x.a
 ·rw [if_pos e];omega
 ·rw [if_neg e]
  rcases h with h|h
  ·exact absurd h e
  ·omega
theorem q8x {x i:Nat}(h:x.testBit i=false):x+2 ^ i=x ^^^ 2 ^ i:=by
 have h1:=q3s x (2 ^ i)
 have h2:x &&& 2 ^ i=0:=by
  apply Nat.eq_of_testBit_eq
  intro j
  rw[Nat.testBit_and,Nat.testBit_two_pow,Nat.zero_testBit]
  by_cases e:i=j
  ·rw [<-e,h];simp
  ·simp [e]
 omega
theorem q2E {x:Int}{i:Nat}(h0:0<=x)(h:bit x i=false)(j:Nat):bit (x+2 ^ i) j=(decide (i=j) ^^ bit x j):=by
 obtain⟨n,rfl⟩:∃n:Nat,x=(n:Int):=⟨x.toNat,by omega⟩
 have hp:=q1R i
 have e:((n:Int)+2 ^ i)=((n+2 ^ i:Nat):Int):=by rw[Int.natCast_add,Int.natCast_pow];rfl
 rw[q1C h0,Int.toNat_natCast] at h
 rw[e,q1C (by omega),q1C h0,Int.toNat_natCast,Int.toNat_natCast,q8x h,Nat.testBit_xor,Nat.testBit_two_pow,Bool.xor_comm]
theorem qa4 {x:Int}{i m:Nat}(h0:0<=x)(h1:x<2 ^ m)(hi:i<m)(h:bit x i=false):0<=x+2 ^ i/\x+2 ^ i<2 ^ m:=by
 obtain⟨n,rfl⟩:∃n:Nat,x=(n:Int):=⟨x.toNat,by omega⟩
 have hp:=q1R i
 have e:((n:Int)+2 ^ i)=((n+2 ^ i:Nat):Int):=by rw[Int.natCast_add,Int.natCast_pow];rfl
 have em:(2:Int) ^ m=((2 ^ m:Nat):Int):=by rw[Int.natCast_pow];rfl
 rw[q1C h0,Int.toNat_natCast] at h
 rw[em] at h1
 have hn:n<2 ^ m:=by omega
 have:n ^^^ 2 ^ i<2 ^ m:=Nat.xor_lt_two_pow hn (Nat.pow_lt_pow_right (by decide) hi)
 rw[e,em,q8x h]
 omega
theorem q5O {P R:Nat->Bool}{i:Nat}(h:∀j,j≠i->R j=P j)(hi:P i=false):∀m,cnt R m=cnt P m+(if i<m then(if R i=true then 1 else 0) else 0)
 |0=>by simp[cnt]
 |m+1=>by
  show cnt R m+_=cnt P m+_+_
  rw[q5O h hi m]
  by_cases e:m=i
  ·subst e
   rw[if_neg (Nat.lt_irrefl _),if_pos (Nat.lt_succ_self _),hi]
   simp
  ·rw [h m e]
   by_cases h2:i<m
   ·rw [if_pos h2,if_pos (show i<m+1 by omega),Nat.add_right_comm]
   ·rw [if_neg h2,if_neg (show¬i<m+1 by omega),Nat.add_right_comm]
theorem q7S {C:Cl}{tk op:Int}{i:Nat}(h0:0<=tk)(hi:i<C.things.length)(hb:bit tk i=false)(k:Int):hold C (tk+2 ^ i) op k=hold C tk op k+(if C.things[i].2=k then 1 else 0):=by
 unfold hold
 have e:cnt (tP C (tk+2 ^ i) k) C.things.length=cnt (tP C tk k) C.things.length+(if C.things[i].2=k then 1 else 0):=by
  rw[q5O (P:=tP C tk k) (i:=i) (fun j hj=>by simp[tP,q2E h0 hb,show¬i=j from fun z=>hj z.symm]) (by simp[tP,hb]),if_pos hi]
  congr 1
  simp only[tP,q2E h0 hb,hb]
  by_cases ek:C.things[i].2=k
  ·simp [ek,hi]
  ·simp [ek,hi]
 rw[e]
 split<;>omega
theorem q5J {C:Cl}{tk op:Int}{i:Nat}(h0:0<=op)(hi:i<C.ways.length)(hb:bit op i=false)(k:Int):hold C tk (op+2 ^ i) k=hold C tk op k - (if C.ways[i].g.dk=some k then 1 else 0):=by
 unfold hold
 have eds:dsOf C i=C.ways[i].g.dk:=by simp[dsOf,hi]
 have e:cnt (dP (dsOf C) (op+2 ^ i) k) C.ways.length=cnt (dP (dsOf C) op k) C.ways.length+(if C.ways[i].g.dk=some k then 1 else 0):=by
  rw[q5O (P:=dP (dsOf C) op k) (i:=i) (fun j hj=>by simp[dP,q2E h0 hb,show¬i=j from fun z=>hj z.symm]) (by simp[dP,hb]),if_pos hi]
  congr 1
  simp only[dP,q2E h0 hb,hb,eds]
  by_cases ek:C.ways[i].g.dk=some k
  ·simp [ek]
  ·simp [ek]
 rw[e]
 split<;>omega
theorem qbd {C:Cl}{s:Sd}{d:Wd}{n:Int}(ok:ClOk C)(h:s.ok C)(hc:canD C s d n=true):(q0R C s d n).ok C:=by
 obtain⟨hl,i,rfl,hi,hb⟩:=q0x hc
 unfold q0R
 rw[Int.toNat_natCast]
 obtain⟨h1,h2,h3,h4,h5,h6,h7⟩:=id h
 cases d with
 |go=>
  have hi':i<C.ways.length:=hi
  have w:=ok.w _ (List.getElem_mem hi')
  simp only[q09,List.getElem?_eq_getElem hi']
  refine⟨?_,h2,h3,h4,h5,h6,h7⟩
  by_cases e:s.rm=C.ways[i].a
  ·simp only[e,if_true]
   exact w.2.1
  ·simp only[e,if_false]
   exact w.1
 |pull=>
  have hi':i<C.levers.length:=hi
  have w:=ok.lv _ (List.getElem_mem hi')
  simp only[q09,List.getElem?_eq_getElem hi']
  exact⟨h1,h2,h3,h4,q4l h5.1 h5.2 (by omega) w.2.2,h6,h7⟩
 |take=>
  have hi':i<C.things.length:=hi
  have ho:bit s.tk i=false:=by
   simp only[canB,List.getElem?_eq_getElem hi',Bool.and_eq_true,Bool.not_eq_true'] at hb
   exact hb.2
  refine⟨h1,qa4 h2.1 h2.2 hi' ho,h3,h4,h5,h6,fun k k0 k1=>?_⟩
  show 0<=hold C (s.tk+2 ^ i) s.op k
  rw[q7S h2.1 hi' ho]
  have:=h7 k k0 k1
  split<;>omega
 |turn=>
  have hi':i<C.wheels.length:=hi
  have w:=ok.wh _ (List.getElem_mem hi')
  simp only[q09,List.getElem?_eq_getElem hi']
  exact⟨h1,h2,h3,h4,h5,w.2,h7⟩
 |unlock=>
  have hi':i<C.ways.length:=hi
  have eds:dsOf C i=C.ways[i].g.dk:=by simp[dsOf,hi']
  cases hk:C.ways[i].g.dk with
  |none=>simp[canB,hi',hk] at hb
  |some kd=>
   simp only[canB,List.getElem?_eq_getElem hi',hk,Bool.and_eq_true,Bool.not_eq_true',decide_eq_true_eq] at hb
   refine⟨h1,h2,qa4 h3.1 h3.2 hi' hb.1.2,fun j hj hbj=>?_,h5,h6,fun k k0 k1=>?_⟩
   ·replace hbj:bit (s.op+2 ^ i) j=true:=hbj
    rw[q2E h3.1 hb.1.2] at hbj
    by_cases e:i=j
    ·rw [<-e,eds,hk];rfl
    ·have:bit s.op j=true:=by simpa[e] using hbj
     exact h4 j hj this
   ·show 0<=hold C s.tk (s.op+2 ^ i) k
    rw[q5J h3.1 hi' hb.1.2,hk]
    have:=h7 k k0 k1
    by_cases e:kd=k
    ·rw [if_pos (by rw[e]),<-e];omega
    ·rw [if_neg (by intro z;exact e (Option.some.inj z))];omega
def rowD (d:Wd)(n:Nat):List (Wd×Nat):=(List.range n).map fun i=>(d,i)
theorem q40 (d:Wd)(n:Nat):(rowD d n).length=n:=by simp[rowD]
theorem q7h (d:Wd)(n:Nat):rowD d (n+1)=rowD d n++[(d,n)]:=by simp[rowD,List.range_succ]
def allD (C:Cl):List (Wd×Nat):=rowD .go C.ways.length++rowD .pull C.levers.length++rowD .take C.things.length++rowD .turn C.wheels.length++rowD .unlock C.ways.length
def fitD (C:Cl)(s:Sd):List (Wd×Nat):=(allD C).filter fun x=>canD C s x.1 (x.2:Int)
theorem q6s {C:Cl}(ok:ClOk C):(allD C).length<=56:=by
 have:=ok.wl
 have:=ok.tl
 have:=ok.ll
 have:=ok.vl
 simp only[allD,List.length_append,q40]
 omega
theorem q6g {C:Cl}(ok:ClOk C)(s:Sd):(fitD C s).length<=56:=Nat.le_trans (List.length_filter_le _ _) (q6s ok)
theorem q9g {d d':Wd}{n i:Nat}:(d',i)∈rowD d n↔d'=d/\i<n:=by
 simp only[rowD,List.mem_map,List.mem_range,Prod.mk.injEq]
 constructor
 ·rintro ⟨j,h,rfl,rfl⟩;exact⟨rfl,h⟩
 ·rintro ⟨rfl,h⟩;exact⟨i,h,rfl,rfl⟩
theorem q9h {C:Cl}{d:Wd}{i:Nat}:(d,i)∈allD C↔i<C.num d:=by
 simp only[allD,List.mem_append,q9g]
 cases d<;>simp[Cl.num]
theorem q4a {C:Cl}{s:Sd}{d:Wd}{i:Nat}:(d,i)∈fitD C s↔canD C s d (i:Int)=true:=by
 simp only[fitD,List.mem_filter,q9h]
 constructor
 ·exact fun h=>h.2
 ·intro h
  obtain⟨_,j,e,hj,_⟩:=q0x h
  have:i=j:=by omega
  exact⟨by rw[this];exact hj,h⟩
theorem go_of {C:Cl}{s:Sd}{i:Nat}(hc:canD C s .go (i:Int)=true):∃x,C.ways[i]? =some x/\q0G x s.rm=true/\q3g x.g (hold C s.tk s.op) (bit s.op i) s.b s.wt=true/\¬s.rm=C.lst/\q0R C s .go (i:Int)={s with rm:=if s.rm=x.a then x.b else x.a}:=by
 obtain⟨hl,j,e,hi,hb⟩:=q0x hc
 have e':i=j:=by omega
 subst e'
 have hi':i<C.ways.length:=hi
 have hx:C.ways[i]? =some C.ways[i]:=List.getElem?_eq_getElem hi'
 simp only[canB,hx,Bool.and_eq_true] at hb
 exact⟨C.ways[i],hx,hb.1,hb.2,hl,by unfold q0R;rw[Int.toNat_natCast];simp[q09,hi']⟩
theorem q8A {x y:Int}(hx:0<=x)(hx':x<=255)(hy:0<=y)(hy':y<=255):Builtin.bitXor (Builtin.bitXor x y) y=x:=by
 have h:=q4l hx hx' hy hy'
 rw[q5k h.1 hy,q5k hx hy,Int.toNat_natCast,Nat.xor_assoc,Nat.xor_self,Nat.xor_zero]
 omega
theorem qaq {C:Cl}{s:Sd}{i:Nat}(hc:canD C s .pull (i:Int)=true):∃x,C.levers[i]? =some x/\s.rm=x.1/\¬s.rm=C.lst/\q0R C s .pull (i:Int)={s with b:=Builtin.bitXor s.b x.2}:=by
 obtain⟨hl,j,e,hi,hb⟩:=q0x hc
 have e':i=j:=by omega
 subst e'
 have hi':i<C.levers.length:=hi
 have hx:C.levers[i]? =some C.levers[i]:=List.getElem?_eq_getElem hi'
 simp only[canB,hx,decide_eq_true_eq] at hb
 exact⟨C.levers[i],hx,hb,hl,by unfold q0R;rw[Int.toNat_natCast];simp[q09,hi']⟩
theorem qab {C:Cl}{s:Sd}{i:Nat}(hc:canD C s .take (i:Int)=true):∃x,C.things[i]? =some x/\q0R C s .take (i:Int)={s with tk:=s.tk+2 ^ i}:=by
 obtain⟨hl,j,e,hi,hb⟩:=q0x hc
 have e':i=j:=by omega
 subst e'
 have hi':i<C.things.length:=hi
 exact⟨C.things[i],List.getElem?_eq_getElem hi',by unfold q0R;rw[Int.toNat_natCast];rfl⟩
theorem qa9 {C:Cl}{s:Sd}{i:Nat}(hc:canD C s .turn (i:Int)=true):∃x,C.wheels[i]? =some x/\¬s.wt=x.2/\q0R C s .turn (i:Int)={s with wt:=x.2}:=by
 obtain⟨hl,j,e,hi,hb⟩:=q0x hc
 have e':i=j:=by omega
 subst e'
 have hi':i<C.wheels.length:=hi
 have hx:C.wheels[i]? =some C.wheels[i]:=List.getElem?_eq_getElem hi'
 simp only[canB,hx,Bool.and_eq_true,Bool.not_eq_true',decide_eq_false_iff_not] at hb
 exact⟨C.wheels[i],hx,hb.2,by unfold q0R;rw[Int.toNat_natCast];simp[q09,hi']⟩
theorem q6W {C:Cl}{s:Sd}{i:Nat}(hc:canD C s .unlock (i:Int)=true):∃x kd,C.ways[i]? =some x/\x.g= .door kd/\q0R C s .unlock (i:Int)={s with op:=s.op+2 ^ i}:=by
 obtain⟨hl,j,e,hi,hb⟩:=q0x hc
 have e':i=j:=by omega
 subst e'
 have hi':i<C.ways.length:=hi
 cases hg:C.ways[i].g with
 |door kd=>exact⟨C.ways[i],kd,List.getElem?_eq_getElem hi',hg,by unfold q0R;rw[Int.toNat_natCast];rfl⟩
 |_=>simp[canB,hi',hg,Gt.dk] at hb
end Ce
namespace L2
open PySem PySem.Spec PyProof.Rows
section
variable {X:Cx}{o e:Expr}{es:List Expr}{m:Str}{apos pos:Pos}{k k':Nat}{ta:TE}{t:TA}
theorem q9P {pl:Sem Bool}(P:Program)(w:World)(K:PySem.W.Frag)(mg:Str->Option Value)(base:Heap)(hr:Room k' X.A)(hk:k<=k')(he:PE X o ta)(ha:PA X (e::es) t)
  (e1:X.prog=P:=by rfl)(e2:X.w=w:=by rfl)(e3:X.K=K:=by rfl)(e4:X.mg=mg:=by rfl)(e5:X.base=base:=by rfl)
  (hst:starEach (e::es) X.env=(false,eval e X.env)::starEach es X.env:=by rfl)(hpl:(backTo pos (starEach es X.env)).any (·.1)=false:=by rfl)
  (ht:eval (.Call (.Attribute o m apos) (e::es) [] pos) X.env=(do
   let ov<-eval o X.env
   standAt apos.atName
   let (f,first)<-holding [ov] (getMethod ov m pl)
   callWith pos f first (backTo pos (starEach (e::es) X.env)) (backToKw pos (keywordEach [] X.env))):=by rfl):
  PE X (.Call (.Attribute o m apos) (e::es) [] pos) (tVM P w K mg base k m ta t):=by
 subst e1 e2 e3 e4 e5
 exact q3c (hr.mono hk) he ha hst hpl ht
theorem qaw {pl:Sem Bool}(P:Program)(w:World)(K:PySem.W.Frag)(mg:Str->Option Value)(base:Heap)(hr:Room k' X.A)(hk:k<=k')(he:PE X o ta)
  (e1:X.prog=P:=by rfl)(e2:X.w=w:=by rfl)(e3:X.K=K:=by rfl)(e4:X.mg=mg:=by rfl)(e5:X.base=base:=by rfl)
  (ht:eval (.Call (.Attribute o m apos) [] [] pos) X.env=(do
   let ov<-eval o X.env
   standAt apos.atName
   let (f,first)<-holding [ov] (getMethod ov m pl)
   callWith pos f first (backTo pos (starEach [] X.env)) (backToKw pos (keywordEach [] X.env))):=by rfl):
  PE X (.Call (.Attribute o m apos) [] [] pos) (tVM P w K mg base k m ta tNil):=by
 subst e1 e2 e3 e4 e5
 exact pe_vm0 (hr.mono hk) he ht
end
end L2
namespace L2
open PySem PySem.Spec PyProof.Rows
end L2
namespace L2
open PySem PySem.Spec PyProof.Rows
end L2
namespace L2
open PySem PySem.Spec PyProof.Rows
end L2
namespace L2
open PySem PySem.Spec PyProof.Rows
end L2
namespace L2
open PySem PySem.Spec PyProof.Rows
end L2
namespace L2
open PySem PySem.Spec PyProof.Rows
end L2
namespace L2
open PySem PySem.Spec PyProof.Rows
end L2
namespace L2
open PySem PySem.Spec PyProof.Rows
end L2
namespace L2
open PySem PySem.Spec PyProof.Rows
end L2
namespace L2
open PySem PySem.Spec PyProof.Rows
end L2
namespace L2
open PySem PySem.Spec PyProof.Rows
section
variable {κ:Type}[DecidableEq κ]
def valV (kvs:List (κ×V))(k:κ):Option V:=(kvs.find? fun kv=>decide (kv.1=k)).map (·.2)
def putK (kvs:List (κ×V))(k:κ)(v:V):List (κ×V):=
 if (kvs.any fun kv=>decide (kv.1=k))=true then kvs.map (fun kv=>if kv.1=k then(kv.1,v) else kv) else kvs++[(k,v)]
theorem q2S {p:κ×V}{r:List (κ×V)}{k:κ}(e:p.1=k):valV (p::r) k=some p.2:=by simp[valV,List.find?_cons,e]
theorem q2T {p:κ×V}{r:List (κ×V)}{k:κ}(e:¬p.1=k):valV (p::r) k=valV r k:=by simp[valV,List.find?_cons,e]
theorem q2U (k:κ):∀kvs:List (κ×V),(kvs.any fun kv=>decide (kv.1=k))=(valV kvs k).isSome
 |[]=>rfl
 |p::r=>by
  rw[List.any_cons]
  by_cases e:p.1=k
  ·simp only[q2S e,decide_eq_true e,Bool.true_or,Option.isSome_some]
  ·rw [q2T e,decide_eq_false e,Bool.false_or];exact q2U k r
theorem q3h (kvs:List (κ×V))(k:κ)(v:V):(putK kvs k v).length<=kvs.length+1:=by
 unfold putK
 split
 ·rw [List.length_map];omega
 ·rw [List.length_append,List.length_cons,List.length_nil];omega
theorem RelO.isSome_eq {o:Option V}{u:Option Value}(r:RelO o u):o.isSome=u.isSome:=by
 cases o with
 |none=>cases u with
  |none=>rfl
  |some _=>exact(show False from r).elim
 |some _=>cases u with
  |none=>exact(show False from r).elim
  |some _=>rfl
theorem KV.val {kvs:List (κ×V)}{vs:List (κ×Value)}(r:KV kvs vs)(k:κ):RelO (valV kvs k) (valueAt vs k):=by
 unfold KV at r
 induction r with
 |nil=>exact True.intro
 | @cons p q ps qs h t ih=>
  obtain⟨h1,h2⟩:=h
  by_cases e:p.1=k
  ·have e':q.1=k:=h1.symm.trans e
   have b:valueAt (q::qs) k=some q.2:=by simp[valueAt,List.find?_cons,e']
   rw[q2S e,b];exact h2
  ·have e':¬q.1=k:=fun z=>e (h1.trans z)
   have b:valueAt (q::qs) k=valueAt qs k:=by simp[valueAt,List.find?_cons,e']
   rw[q2T e,b];exact ih
theorem KV.any {kvs:List (κ×V)}{vs:List (κ×Value)}(r:KV kvs vs)(k:κ):(kvs.any fun kv=>decide (kv.1=k))=vs.any fun kv=>decide (kv.1=k):=by
 unfold KV at r
 induction r with
 |nil=>rfl
 |cons h t ih=>rw[List.any_cons,List.any_cons,ih,h.1]
theorem KV.repl {kvs:List (κ×V)}{vs:List (κ×Value)}(r:KV kvs vs)(k:κ){y:V}{u:Value}(ry:RelV y u):
  KV (kvs.map fun kv=>if kv.1=k then(kv.1,y) else kv) (vs.map fun kv=>if kv.1=k then(kv.1,u) else kv):=by
 unfold KV at r ⊢
 induction r with
 |nil=>exact .nil
 | @cons p q ps qs h t ih=>
  rw[List.map_cons,List.map_cons]
  refine .cons ?_ ih
  obtain⟨h1,h2⟩:=h
  by_cases e:p.1=k
  ·rw [if_pos e,if_pos (h1.symm.trans e)];exact⟨h1,ry⟩
  ·rw [if_neg e,if_neg (fun z=>e (h1.trans z))];exact⟨h1,h2⟩
theorem KV.put {kvs:List (κ×V)}{vs:List (κ×Value)}(r:KV kvs vs)(k:κ){y:V}{u:Value}(ry:RelV y u):KV (putK kvs k y) (stored vs k u):=by
 unfold putK stored
 rw[r.any k]
 by_cases e:(vs.any fun kv=>decide (kv.1=k))=true
 ·rw [if_pos e,if_pos e];exact r.repl k ry
 ·rw [if_neg e,if_neg e];exact Paired.snoc r ⟨rfl,ry⟩
theorem KV.length {kvs:List (κ×V)}{vs:List (κ×Value)}(r:KV kvs vs):kvs.length=vs.length:=Paired.length r
end
theorem qb4 {P:Program}{w:World}{k:Key}{u:Value}(r:RelV (kV k) u):(q0w P w).is k u=true:=by
 cases k with
 |inl i=>obtain⟨t,e⟩:=(show∃t,u=Value.int i t from r);subst e;exact q5H P w i t
 |inr x=>obtain⟨t,e⟩:=(show∃t,u=Value.str x t from r);subst e;exact q5G P w x t
theorem q5a {P:Program}{w:World}:∀{ks:List Key} {us:List Value},Vals (ks.map kV) us->ItemsAre (q0w P w) ks us
 |[],_,r=>by rw[List.map_nil] at r;cases r;exact .nil
 |k::ks,_,r=>by
  rw[List.map_cons] at r
  cases r with
  |cons h t=>exact .cons (qb4 h) (q5a t)
abbrev KT (H:Hp):List (List Key×V)->List (List Key×Addr×Value)->Prop:=Paired fun p q=>p.1=q.1/\H q.2.1=some (.tup (p.1.map kV))/\RelV p.2 q.2.2
theorem KT.val {H:Hp}{kvs:List (List Key×V)}{xs:List (List Key×Addr×Value)}(r:KT H kvs xs)(k:List Key):RelO (valV kvs k) ((atKey xs k).map (·.2)):=by
 induction r with
 |nil=>exact True.intro
 | @cons p q ps qs h t ih=>
  obtain⟨h1,_,h2⟩:=h
  by_cases e:p.1=k
  ·have e':q.1=k:=h1.symm.trans e
   have b:atKey (q::qs) k=some q.2:=by simp[atKey,List.find?_cons,e']
   rw[q2S e,b];exact h2
  ·have e':¬q.1=k:=fun z=>e (h1.trans z)
   have b:atKey (q::qs) k=atKey qs k:=by simp[atKey,List.find?_cons,e']
   rw[q2T e,b];exact ih
theorem KT.repl {H:Hp}{kvs:List (List Key×V)}{xs:List (List Key×Addr×Value)}(r:KT H kvs xs)(k:List Key){y:V}{u:Value}(ry:RelV y u):
  KT H (kvs.map fun kv=>if kv.1=k then(kv.1,y) else kv) (xs.map (putAt k u)):=by
 induction r with
 |nil=>exact .nil
 | @cons p q ps qs h t ih=>
  rw[List.map_cons,List.map_cons]
  refine .cons ?_ ih
  obtain⟨h1,h2,h3⟩:=h
  unfold putAt
  by_cases e:p.1=k
  ·rw [if_pos e,if_pos (h1.symm.trans e)];exact⟨h1,h2,ry⟩
  ·rw [if_neg e,if_neg (fun z=>e (h1.trans z))];exact⟨h1,h2,h3⟩
theorem KT.put {H:Hp}{kvs:List (List Key×V)}{xs:List (List Key×Addr×Value)}(r:KT H kvs xs)(k:List Key){b:Addr}{y:V}{u:Value}(hb:H b=some (.tup (k.map kV)))(ry:RelV y u):
  KT H (putK kvs k y) (storedH xs k b u):=by
 have e:(kvs.any fun kv=>decide (kv.1=k))=(atKey xs k).isSome:=by
  rw[q2U,(r.val k).isSome_eq,Option.isSome_map]
 unfold putK storedH
 rw[e]
 by_cases q:(atKey xs k).isSome=true
 ·rw [if_pos q,if_pos q];exact r.repl k ry
 ·rw [if_neg q,if_neg q];exact Paired.snoc r ⟨rfl,hb,ry⟩
theorem KT.keeps {H H':Hp}{kvs:List (List Key×V)}{xs:List (List Key×Addr×Value)}(r:KT H kvs xs)(ht:∀b ys,H b=some (.tup ys)->H' b=some (.tup ys)):KT H' kvs xs:=
 Paired.mapP r fun _ _ z=>⟨z.1,ht _ _ z.2.1,z.2.2⟩
section
variable {P:Program}{w:World}{H:Hp}{h:Heap}{a:Addr}
theorem rd_of {u:HO}(ok:HOk P w H h)(e:Rd H a u):q0l P w H h a u:=e.ok ok
theorem dk_rd {kvs:List (Key×V)}(ok:HOk P w H h)(e:Rd H a (.dK kvs)):kvs.length<=sizeLine/\(a==sysModules)=false/\∃vs,KV kvs vs/\h.DictOf (q0w P w) a vs:=
 show q0l P w H h a (.dK kvs) from rd_of ok e
theorem dk_of {kvs:List (Key×V)}(ok:HOk P w H h)(e:H a=some (.dK kvs)):kvs.length<=sizeLine/\(a==sysModules)=false/\∃vs,KV kvs vs/\h.DictOf (q0w P w) a vs:=dk_rd ok (.inl e)
theorem q6d {ks:List Key}(ok:HOk P w H h)(e:H a=some (.tup (ks.map kV))):(tupleKind (q0w P w)).is h ks a:=by
 obtain⟨_,its,r,o,h1,h2,n,h3⟩:=(show q0l P w H h a (.tup (ks.map kV)) from ok a _ e)
 exact⟨o,its.toArray,n,h1,h2,h3,by simpa using q5a r⟩
theorem dt_rd {kvs:List (List Key×V)}(ok:HOk P w H h)(e:Rd H a (.dT kvs)):kvs.length<=sizeLine/\(a==sysModules)=false/\
  ∃xs,KT H kvs xs/\h.DictOfH (tupleKind (q0w P w)) a xs:=by
 obtain⟨z,y,xs,r,o,es,ep,h1,h2,h3,h4,h5⟩:=(show q0l P w H h a (.dT kvs) from rd_of ok e)
 refine⟨z,y,xs,r,o,es,ep,h1,h2,h3,h4,fun x hx=>?_,h5⟩
 have all:∀{l:List (List Key×V)} {m:List (List Key×Addr×Value)},KT H l m->∀x∈m,(tupleKind (q0w P w)).is h x.1 x.2.1:=by
  intro l m q
  induction q with
  |nil=>intro x hx;exact nomatch hx
  | @cons p q ps qs hq t ih=>
   intro x hx
   rcases List.mem_cons.mp hx with e|hx
   ·subst e
    exact q6d ok (by rw[<-hq.1];exact hq.2.1)
   ·exact ih x hx
 exact all r x hx
theorem dt_of {kvs:List (List Key×V)}(ok:HOk P w H h)(e:H a=some (.dT kvs)):kvs.length<=sizeLine/\(a==sysModules)=false/\
  ∃xs,KT H kvs xs/\h.DictOfH (tupleKind (q0w P w)) a xs:=dt_rd ok (.inl e)
end
def DGet (H:Hp)(a:Addr)(y:V)(r:Option V):Prop:=
 (∃kvs k,Rd H a (.dK kvs)/\y=kV k/\r=valV kvs k)\/∃kvs k b,Rd H a (.dT kvs)/\y= .ref b/\H b=some (.tup (k.map kV))/\r=valV kvs k
def DPut (H:Hp)(a:Addr)(y v:V)(H':Hp):Prop:=
 (∃kvs k,H a=some (.dK kvs)/\y=kV k/\kvs.length<sizeLine/\H'=upd H a (.dK (putK kvs k v)))\/
 ∃kvs k b,H a=some (.dT kvs)/\y= .ref b/\H b=some (.tup (k.map kV))/\kvs.length<sizeLine/\H'=upd H a (.dT (putK kvs k v))
theorem DPut.t {H:Hp}{a b:Addr}{kvs:List (List Key×V)}{k:List Key}{v:V}(e:H a=some (.dT kvs))(eb:H b=some (.tup (k.map kV)))(hl:kvs.length<sizeLine):
  DPut H a (.ref b) v (upd H a (.dT (putK kvs k v))):= .inr ⟨kvs,k,b,e,rfl,eb,hl,rfl⟩
section
variable {X:Cx}{pins:List (Addr×Obj)}{σ:St}{H:Hp}{s:Shared}{a:Addr}{y v:V}{u r:Value}{o:Option V}{A:Around}{E:Value->Shared->Prop}
theorem Inv.big (I:Inv X pins σ H s):sysModules<s.heap.objs.size:=by
 have h:mainGlobals<s.heap.objs.size:=(I.mod.glob.keeps I.bk).lt
 exact Nat.lt_trans (by decide) h
theorem qbl {Q:Value->Shared->Prop}(hu:A.units+1<cLine)(I:Inv X pins σ H s)(g:DGet H a y o)(ry:RelV y u)(h:∀s',Inv X pins σ H s'->Q (.bool (!o.isSome)) s'):
  wpAny (model X.prog X.w) A (compareOp .NotIn u (.ref a)) Q E s:=by
 rcases g with⟨kvs,k,e,ey,l⟩|⟨kvs,k,b,e,ey,eb,l⟩
 ·subst ey
  obtain⟨z,hd,vs,rel,dd⟩:=dk_rd I.hok e
  refine wpAny_notIn_of (qb4 ry) hd dd.mapOf ?_
  rw[<-(rel.val k).isSome_eq,<-l]
  exact h _ (I.tok _)
 ·subst ey
  cases(show u=Value.ref b from ry)
  obtain⟨z,hd,xs,rel,dd⟩:=dt_rd I.hok e
  refine wpAny_notIn_heap (tupleKind_room_in1 hu) (q6d I.hok eb) hd dd ?_
  have q:=(rel.val k).isSome_eq
  rw[Option.isSome_map] at q
  rw[<-q,<-l]
  exact h _ (I.tok _)
theorem q5L {h':Heap}{t':Nat}{ob:HO}(I:Inv X pins σ H s)(mu:Mut (H a))(hs:Heap.SameBut a s.heap h')(he:∃q,h'.get? a=some q)(new:q0l X.prog X.w (upd H a ob) h' a ob):
  Inv X pins σ (upd H a ob) {s with heap:=h',toks:=t'}:=
 I.write (x:=a) (e:=a) mu (.inl rfl) (fun b q hb z=>(hs.2 b hb).trans z) he new
theorem dk_new {P:Program}{w:World}{H':Hp}{h':Heap}{kvs:List (Key×V)}{vs:List (Key×Value)}(z:kvs.length<=sizeLine)(hd:(a==sysModules)=false)(rel:KV kvs vs)(dd:h'.DictOf (q0w P w) a vs):
  q0l P w H' h' a (.dK kvs):=⟨z,hd,vs,rel,dd⟩
theorem q8b {H':Hp}{Q:Unit->Shared->Prop}(hu:A.units+1<cLine)(I:Inv X pins σ H s)(g:DPut H a y v H')(ry:RelV y u)(rv:RelV v r)(h:∀s',Inv X pins σ H' s'->Q () s'):
  wpAny (model X.prog X.w) A (setItem (.ref a) u r) Q E s:=by
 rcases g with⟨kvs,k,e,ey,l,eH⟩|⟨kvs,k,b,e,ey,eb,l,eH⟩
 ·subst ey eH
  obtain⟨z,hd,vs,rel,dd⟩:=dk_of I.hok e
  have hz:vs.length<=sizeLine:=by rw[<-rel.length];exact z
  have hl:(putK kvs k v).length<=sizeLine:=by have:=q3h kvs k v;omega
  refine wpAny_setItem_pairs (hsz:=hz) (qb4 ry) dd fun h' dd' hs=>h _ ?_
  have he:∃q,h'.get? a=some q:=let ⟨q,_,_,hq,_⟩:=dd';⟨q,hq⟩
  exact q5L I (by rw[e];exact True.intro) hs he (dk_new hl hd (rel.put k rv) dd')
 ·subst ey eH
  cases(show u=Value.ref b from ry)
  obtain⟨z,hd,xs,rel,dd⟩:=dt_of I.hok e
  have hz:xs.length<=sizeLine:=by rw[<-Paired.length rel];exact z
  have hl:(putK kvs k v).length<=sizeLine:=by have:=q3h kvs k v;omega
  refine wpAny_setItem_heap (hsz:=hz) (tupleKind_room_in1 hu) (q6d I.hok eb) dd fun h' dd' hs=>h _ ?_
  obtain⟨q,es,ep,hq,h2,h3,h4,_,h5⟩:=dd'
  refine q5L I (by rw[e];exact True.intro) hs ⟨q,hq⟩ ⟨hl,hd,_,(rel.put k eb rv).keeps fun c ys ec=>?_,q,es,ep,hq,h2,h3,h4,h5⟩
  rw[qp (q3y ec e (fun z=>nomatch z))]
  exact ec
end
def q73 (ty td:TE):TE:=fun σ H Q=>ty σ H fun y H1=>td σ H1 fun x H2=>∃a o,x= .ref a/\DGet H2 a y o/\Q (.bl (!o.isSome)) H2
def sDPut (td ty tv:TE):TS:=fun D σ H=>tv σ H fun v H1=>td σ H1 fun x H2=>ty σ H2 fun y H3=>∃a H4,x= .ref a/\DPut H3 a y v H4/\D.nx σ H4
section
variable {X:Cx}{o i e value:Expr}{pos pos' tpos:Pos}{td ty tv:TE}
theorem q54 (hu:X.A.units+1<cLine)(hi:PE X i ty)(ho:PE X o td):PC X .NotIn i o (q73 ty td):=by
 intro pins s σ H Q I h
 refine thn (hi pins s σ H _ I h) fun iv s1 ⟨y,H1,I1,ry,q1⟩=>thn (ho pins s1 σ H1 _ I1 q1) fun u s2 ⟨x,H2,I2,rx,a,ov,ex,g,q2⟩=>?_
 subst ex
 obtain rfl:u=Value.ref a:=rx
 exact qbl hu I2 g ry fun s3 I3=>⟨.bl (!ov.isSome),H2,I3,rfl,q2⟩
theorem q5D (hu:X.A.units+1<cLine)(ho:PE X o td)(hi:PE X i ty)(hv:PE X value tv)(hs:swapsWith value (some (.Subscript o i pos')) pos.line X.env=pure false):
  PS X (.Assign [.Subscript o i pos'] value pos) (sDPut td ty tv):=by
 intro pins s σ H D I h
 refine wpAny_Assign_Subscript (thn (hv pins s σ H _ I h) fun r s1 ⟨v,H1,I1,rv,q1⟩=>thn (ho pins s1 σ H1 _ I1 q1) fun u s2 ⟨x,H2,I2,rx,q2⟩=>thn (hi pins s2 σ H2 _ I2 q2) fun iv s3 ⟨y,H3,I3,ry,a,H4,ex,g,q3⟩=>?_) hs
 subst ex
 obtain rfl:u=Value.ref a:=rx
 exact q8b hu I3 g ry rv fun s4 I4=>⟨σ,H4,I4,q3⟩
end
theorem q9x {P:Program}{w:World}{H:Hp}(h:Heap)(hb:sysModules<h.objs.size):q0l P w H (h.push {cls:= .type "dict",data:= .dict #[]}) h.objs.size (.dT []):=
 ⟨Nat.zero_le _,beq_eq_false_iff_ne.mpr (Ne.symm (Nat.ne_of_lt hb)),[],.nil,_,#[],0,Heap.get?_push_size _ rfl,⟨rfl,rfl,rfl⟩,rfl,rfl,List.nodup_nil⟩
def q9C:List (TE×TE)->St->Hp->(List (V×V)->Hp->Prop)->Prop
 |[],_,H,Q=>Q [] H
 |(tk,tv)::r,σ,H,Q=>tk σ H fun x H1=>tv σ H1 fun y H2=>q9C r σ H2 fun ps H3=>Q ((x,y)::ps) H3
abbrev VV:List (V×V)->List (Value×Value)->Prop:=Paired fun p q=>RelV p.1 q.1/\RelV p.2 q.2
def PPs (X:Cx)(pos:Pos)(keys:List (Option Expr))(values:List Expr)(trs:List (TE×TE)):Prop:=
 ∀(pins:List (Addr×Obj)) (s:Shared) (σ:St) (H:Hp) (Q:List (V×V)->Hp->Prop),Inv X pins σ H s->q9C trs σ H Q->
  wpAny (model X.prog X.w) X.A (evalPairs (pairTrees keys values X.env pos)) (fun vs s'=>∃ps H',Inv X pins σ H' s'/\VV ps vs/\Q ps H') X.xe s
theorem qat {X:Cx}{pos:Pos}:PPs X pos [] [] []:=fun pins s σ H Q I h=>pairTrees_nil_walk ⟨[],H,I,.nil,h⟩
theorem q8Q {X:Cx}{pos:Pos}{k v:Expr}{ks:List (Option Expr)}{vs:List Expr}{tk tv:TE}{trs:List (TE×TE)}(hk:PE X k tk)(hv:PE X v tv)(hr:PPs X pos ks vs trs):
  PPs X pos (some k::ks) (v::vs) ((tk,tv)::trs):=fun pins s σ H Q I h=>
 pairTrees_cons_walk (thn (hk pins s σ H _ I h) fun u s1 ⟨x,H1,I1,rx,q1⟩=>thn (hv pins s1 σ H1 _ I1 q1) fun w2 s2 ⟨y,H2,I2,ry,q2⟩=>
  thn (hr pins s2 σ H2 _ I2 q2) fun ws s3 ⟨ps,H3,I3,rel,q3⟩=>⟨(x,y)::ps,H3,I3,.cons ⟨rx,ry⟩ rel,q3⟩)
end L2
namespace Att
open PySem PySem.W PySem.Calls PyProof.Rows
end Att
namespace L2
open PySem PySem.Spec PyProof.Rows
end L2
namespace L2
open PySem PySem.Spec PyProof.Rows
end L2
namespace L2
open PySem PySem.Spec PyProof.Rows
end L2
namespace L2
open PySem PySem.Spec PyProof.Rows
end L2
namespace DI
open PySem PyProof.Rows
section
variable {prog:Program}{w:World}{A:Around}{E:Value->Shared->Prop}{s:Shared}{d it v:Addr}{o:Obj}{es:Array DictEntry}{ep i:Nat}
theorem ty (ho:s.heap.get? d=some o)(hx:o.ExactDict):s.TypeIs (.ref d) "dict":=⟨o,ho,hx.1⟩
theorem keys {Q:Value->Shared->Prop}(hd:(d==sysModules)=false)(ho:s.heap.get? d=some o)(hx:o.ExactDict)(hdat:o.data= .dict es ep)
  (hQ:Q (.ref s.heap.objs.size) {s with heap:=s.heap.push {cls:= .type "dict_keyiterator",data:= .fields #[.ref d,.int 0 0,.int es.size 0,.int ep 0]}}):wpAny (model prog w) A (pyIter (.ref d)) Q E s:=by
 have hT:=ty ho hx
 refine wpAny_pyIter_slot hT F.slot_dict_iter (wpAny_call_entry F.slot_dict_iter hT F.entry_dict_iter ?_ (F.args_dict_iter_1 _))
 unfold Builtin.«dict.__iter__» Builtin.Dict.dictSlotNone Builtin.Dict.showsAll
 refine wpAny_bind (wpAny_bind (wpAny_notOrdered_dict hT (wpAny_pure (wpAny_bind ?_))))
 refine wpAny_pure (wpAny_bind ?_)
 dsimp only
 rw[if_neg (by intro z;rw[hd] at z;cases z)]
 refine wpAny_pure (wpAny_bind (wpAny_dictEntries ho hdat (wpAny_bind (wpAny_dictEpoch ho hdat ?_))))
 refine wpAny_bind (wpAny_newObj_type (wpAny_pure ⟨_,rfl,"dict_keyiterator",_,⟨_,Heap.get?_push_size _ rfl,rfl⟩,F.slot_dict_keyiterator_next.lookup,?_⟩))
 simpa[rawInt] using hQ
theorem qb3 {Q:Option Value->Shared->Prop}(hit:s.heap.IsKeyIter it d i es.size ep)(ho:s.heap.get? d=some o)(hdat:o.data= .dict es ep)(hi:i<es.size)
  (hQ:∀h',h'.IsKeyIter it d (i+1) es.size ep->Heap.SameBut it s.heap h'->Q (some es[i].key) {s with heap:=h'}):wpAny (model prog w) A (pyNext (.ref it)) Q E s:=by
 obtain⟨oi,hoi,hc,hf⟩:=id hit
 have hT:=hit.typeIs
 unfold pyNext
 refine wpAny_bind (wpAny_attempt (wpAny_callSpecial?_slot (name:=Str.ofString "__next__") hT F.slot_dict_keyiterator_next (wpAny_call_entry F.slot_dict_keyiterator_next hT F.entry_dict_keyiterator_next ?_ (F.args_dict_keyiterator_next_1 _))))
 refine wpAny_bind (wpAny_pure (wpAny_bind (wpAny_bind ?_)))
 first|refine wpAny_bind (wpAny_typeNameOfWhole_keyiter hT (wpAny_pure (wpAny_bind (wpAny_fieldsOf hoi hf ?_))))|refine wpAny_bind (wpAny_typeNameOf_keyiter hT (wpAny_pure (wpAny_bind (wpAny_fieldsOf hoi hf ?_))))
 simp only[show Builtin.Dict_items.ownsTuple "dict_keyiterator"=false by decide,Bool.false_eq_true,if_false]
 show wpAny _ _ (if (Value.ref d==Value.none)=true then _ else _) _ _ s
 rw[if_neg (by exact Bool.false_ne_true)]
 refine wpAny_bind (wpAny_pure (wpAny_bind (wpAny_dictEntries ho hdat ?_)))
 rw[if_neg (by simp)]
 refine wpAny_bind (wpAny_pure (wpAny_bind (wpAny_dictEpoch ho hdat ?_)))
 rw[if_neg (by simp)]
 refine wpAny_pure ?_
 simp only[show¬((i:Int)<0) by omega,if_false,Int.toNat_natCast,Array.getElem?_eq_getElem hi]
 refine wpAny_bind ?_
 first|refine wpAny_bind (wpAny_typeNameOfWhole_keyiter hT (wpAny_pure (wpAny_bind (wpAny_isOneOf_keyiter hT ?_))))|refine wpAny_bind (wpAny_typeNameOf_keyiter hT (wpAny_pure (wpAny_bind (wpAny_isOneOf_keyiter hT ?_))))
 show wpAny _ _ (setField (.ref it) 1 (rawInt ((i:Int)+1)) >>= _) _ _ s
 refine wpAny_bind (wpAny_setField hoi hf (by simp) ?_)
 have hit':(s.heap.update it (Obj.mapFields (·.setIfInBounds 1 (rawInt ((i:Int)+1))))).IsKeyIter it d (i+1) es.size ep:=
  ⟨_,Heap.get?_update_self _ hoi (Obj.isFreed_of_fields (Obj.data_mapFields hf _)),(Obj.cls_mapFields ..).trans hc,by rw[Obj.data_mapFields hf];simp[rawInt]⟩
 refine wpAny_bind (wpAny_holding (wpAny_bind (wpAny_isOneOf_keyiter (s:={s with heap:=s.heap.update it (Obj.mapFields (·.setIfInBounds 1 (rawInt ((i:Int)+1))))}) hit'.typeIs ?_)))
 show wpAny _ _ (pure es[i].key) _ _ _
 exact wpAny_pure (wpAny_pure ⟨_,rfl,wpAny_pure (hQ _ hit' (Heap.SameBut.update ..))⟩)
theorem keyEnd {Q:Option Value->Shared->Prop}(hh:A.handled=none)(hit:s.heap.IsKeyIter it d i es.size ep)(ho:s.heap.get? d=some o)(hdat:o.data= .dict es ep)(hi:es.size<=i)
  (hQ:∀h',Heap.ExtBut it s.heap h'->Q none {s with heap:=h'}):wpAny (model prog w) A (pyNext (.ref it)) Q E s:=by
 obtain⟨oi,hoi,hc,hf⟩:=id hit
 have hT:=hit.typeIs
 unfold pyNext
 refine wpAny_bind (wpAny_attempt (wpAny_callSpecial?_slot (name:=Str.ofString "__next__") hT F.slot_dict_keyiterator_next (wpAny_call_entry F.slot_dict_keyiterator_next hT F.entry_dict_keyiterator_next ?_ (F.args_dict_keyiterator_next_1 _))))
 refine wpAny_bind (wpAny_pure (wpAny_bind (wpAny_bind ?_)))
 first|refine wpAny_bind (wpAny_typeNameOfWhole_keyiter hT (wpAny_pure (wpAny_bind (wpAny_fieldsOf hoi hf ?_))))|refine wpAny_bind (wpAny_typeNameOf_keyiter hT (wpAny_pure (wpAny_bind (wpAny_fieldsOf hoi hf ?_))))
 simp only[show Builtin.Dict_items.ownsTuple "dict_keyiterator"=false by decide,Bool.false_eq_true,if_false]
 show wpAny _ _ (if (Value.ref d==Value.none)=true then _ else _) _ _ s
 rw[if_neg (by exact Bool.false_ne_true)]
 refine wpAny_bind (wpAny_pure (wpAny_bind (wpAny_dictEntries ho hdat ?_)))
 rw[if_neg (by simp)]
 refine wpAny_bind (wpAny_pure (wpAny_bind (wpAny_dictEpoch ho hdat ?_)))
 rw[if_neg (by simp)]
 refine wpAny_pure ?_
 simp only[show¬((i:Int)<0) by omega,if_false,Int.toNat_natCast,Array.getElem?_eq_none hi]
 refine wpAny_bind ?_
 first|refine wpAny_bind (wpAny_typeNameOfWhole_keyiter hT (wpAny_pure ?_))|refine wpAny_bind (wpAny_typeNameOf_keyiter hT (wpAny_pure ?_))
 show wpAny _ _ (setField (.ref it) 0 .none >>= _) _ _ s
 refine wpAny_bind (wpAny_setField hoi hf (by simp) ?_)
 show wpAny _ _ (newExc (.type "StopIteration") [] >>= _) _ _ _
 refine wpAny_bind ?_
 simp only[newExc,newTuple]
 refine wpAny_bind (wpAny_newObj_type (wpAny_bind (m:=firstArgMember _ _) (wpAny_of_eq (a:=Value.none) (by first|rfl|(simp only[firstArgMember];rfl)) (wpAny_newObj_type ?_ (by size_fits)))) (by size_fits))
 simp only[raiseNew]
 refine wpAny_bind (wpAny_handled ?_)
 rw[show A.in1.handled=none from hh]
 refine wpAny_bind (wpAny_pure (wpAny_throw ?_))
 refine wpAny_bind (wpAny_isInstance (b:=true) (T:="StopIteration") ⟨_,Heap.get?_push_size _ rfl,rfl⟩ isSubtype_stop ?_)
 exact wpAny_pure (hQ _ (((Heap.SameBut.update ..).extBut.push _).push _))
end
end DI
namespace L2
open PySem PySem.Spec PyProof.Rows
theorem Paired.at' {α β:Type}{F:α->β->Prop}:∀{l:List α} {m:List β} {i:Nat} {x:α} {y:β},Paired F l m->l[i]? =some x->m[i]? =some y->F x y
 |_,_,0,_,_,.cons r _,hx,hy=>by cases hx;cases hy;exact r
 |_,_,i+1,_,_,.cons _ t,hx,hy=>Paired.at' (i:=i) t hx hy
section
variable {X:Cx}{pins:List (Addr×Obj)}{σ:St}{H:Hp}{s:Shared}{a:Addr}
theorem Inv.hold {kvs:List (List Key×V)}(I:Inv X pins σ H s)(e:H a=some (.dT kvs)):∃o,Inv X pins σ (upd H a (.frz o (.dT kvs))) s:=by
 obtain⟨z,y,xs,r,o,es,ep,h1,h2⟩:=(show q0l X.prog X.w H s.heap a (.dT kvs) from I.hok a _ e)
 have ne:∀{b:Addr} {u:HO},H b=some u->(∀k,u≠ .dT k)->b≠a:=fun {b u} q n z=>by rw[z,e] at q;cases q;exact n _ rfl
 refine⟨o,I.un (h':=s.heap) (t':=s.toks) ⟨fun b ob q n _ _=>q,fun b ob q n _ _=>⟨ob.slots,q⟩,fun b ob q n _=>?_,fun b ob q _=>⟨ob,q⟩,fun b ts q=>?_,fun b ob u q=>?_,fun b ps q=>⟨#[],?_⟩⟩ fun b u q=>?_⟩
 ·rw [qp (fun z=>by rw[z,e] at n;cases n)];exact n
 ·rw [qp (ne q fun k z=>by cases z)];exact q
 ·rw [qp (ne q fun k z=>by cases z)];exact q
 ·rw [qp (ne q fun k z=>by cases z)];simpa using q
 ·have ht:∀c ts,H c=some (.tup ts)->upd H a (.frz o (.dT kvs)) c=some (.tup ts):=fun c ts q=>by rw[qp (ne q fun k z=>by cases z)];exact q
  have ho:∀c x,H c=some (.own x)->upd H a (.frz o (.dT kvs)) c=some (.own x):=fun c x q=>by rw[qp (ne q fun k z=>by cases z)];exact q
  by_cases hb:b=a
  ·subst hb
   rw[qg] at q
   cases q
   exact⟨h1,(I.hok b _ e).stay (fun c v _ q=>q) (fun c q=>ho c b q) ht⟩
  ·rw [qp hb] at q
   exact(I.hok b u q).stay (fun c v _ q=>q) (fun c q=>ho c b q) ht
theorem Inv.heldAt {o:Obj}{kvs:List (List Key×V)}{es:Array DictEntry}{ep:Nat}(I:Inv X pins σ H s)(e:H a=some (.frz o (.dT kvs)))(hd:o.data= .dict es ep):s.heap.get? a=some o/\o.ExactDict/\(a==sysModules)=false/\es.size=kvs.length/\
  ∀(i:Nat) (hi:i<kvs.length) (hj:i<es.size),∃b,es[i].key= .ref b/\H b=some (.tup (kvs[i].1.map kV))/\RelV kvs[i].2 es[i].val:=by
 obtain⟨h0,z,y,xs,r,o',es',ep',h1,h2,h3,h4,h5⟩:=(show q0l X.prog X.w H s.heap a (.frz o (.dT kvs)) from I.hok a _ e)
 rw[h0] at h1
 cases h1
 rw[hd] at h3
 cases h3
 have hl:kvs.length=xs.length:=r.length
 have hs:es.size=xs.length:=size_of_entries h4
 refine⟨h0,h2,y,by omega,fun i hi hj=>?_⟩
 have e1:=entry_at h4 i
 have hx:xs[i]? =some (xs[i]'(by omega)):=List.getElem?_eq_getElem _
 rw[Array.getElem?_eq_getElem hj,hx] at e1
 have e2:=Option.some.inj e1
 have rq:=Paired.at' r (List.getElem?_eq_getElem hi) hx
 refine⟨(xs[i]'(by omega)).2.1,by rw[e2];rfl,?_,?_⟩
 ·exact rq.2.1
 ·rw [e2];exact rq.2.2
end
def Itd (a:Addr)(o:Obj)(kvs:List (List Key×V)):It:=
 ⟨fun i H=>H a=some (.frz o (.dT kvs))/\i<kvs.length,fun i H x H'=>H'=H/\∃b p,kvs[i]? =some p/\x= .ref b/\H b=some (.tup (p.1.map kV)),fun i H=>H a=some (.frz o (.dT kvs))/\kvs.length<=i⟩
theorem qaa {P:Program}{w:World}{K:PySem.W.Frag}{tg:Expr}{a it:Addr}{o:Obj}{kvs:List (List Key×V)}{es:Array DictEntry}{ep:Nat}(hd:o.data= .dict es ep):Turn P w K tg (Itd a o kvs) [it] it (fun i h=>h.IsKeyIter it a i es.size ep) where
 mem:=by simp
 obj:=fun i h st b hb=>by
  have e:b=it:=by simpa using hb
  subst e
  obtain⟨o,e,c,d⟩:=st
  exact⟨o,e,fun v z=>by rw[d] at z;cases z⟩
 keep:=fun i h h' st k=>st.at fun o e=>k it (by simp) o e
 item:=by
  intro X hP hw hK hc i pins s σ H E I hf st hg
  subst hP hw hK
  obtain⟨ha,hi⟩:=hg
  obtain⟨f0,f1,f2,f3,f4,f5⟩:=hf it (by simp)
  obtain⟨g0,gx,gm,gs,gi⟩:=I.heldAt ha hd
  have hj:i<es.size:=by omega
  obtain⟨b,kb,tb,_⟩:=gi i hi hj
  refine DI.qb3 st g0 hd hj fun h' st' sb=>?_
  have I1:Inv X pins σ H {s with heap:=h'}:=I.turned (t':=s.toks) (fun b o hb e=>(sb.2 b hb).trans e) f0 f1 f3 f4 f5
  obtain⟨o',e,c,d⟩:=id st'
  exact⟨_,rfl,go_of (s:={s with heap:=h'}) e c d (by decide) ⟨.ref b,H,I1,kb,⟨rfl,b,_,List.getElem?_eq_getElem hi,rfl,tb⟩,st',fun b hb=>(hf b hb).1⟩⟩
 done:=by
  intro X hP hw hK hc i pins s σ H E I hf st hg
  subst hP hw hK
  obtain⟨ha,hi⟩:=hg
  obtain⟨f0,f1,f2,f3,f4,f5⟩:=hf it (by simp)
  obtain⟨g0,gx,gm,gs,gi⟩:=I.heldAt ha hd
  exact DI.keyEnd (I.ok.hd hc) st g0 hd (by omega) fun h' eb=>⟨rfl,I.turned (t':=s.toks) (fun b o hb e=>eb b o hb e) f0 f1 f3 f4 f5⟩
 self:=fun _ _ _ _ _ st h=>wpAny_pyIter_keyiter st h
section
variable {X:Cx}{tg:Expr}
def iDk (tl:TE):TI:=fun σ H R=>tl σ H fun x H1=>∃a o kvs,x= .ref a/\H1 a=some (.frz o (.dT kvs))/\R (Itd a o kvs) H1
theorem pi_dk {l:Expr}{tl:TE}(hl:PE X l tl):PI X tg l (iDk tl):=by
 intro pins s σ H R I h
 refine thn (hl pins s σ H _ I h) fun v s1 ⟨x,H1,I1,r1,q1⟩=>?_
 obtain⟨a,o,kvs,e,ha,q⟩:=q1
 subst e
 cases r1
 obtain⟨es,ep,hd⟩:∃es ep,o.data= .dict es ep:=by
  obtain⟨h0,z,y,xs,r,o',es',ep',h1,h2,h3,h4,h5⟩:=(show q0l X.prog X.w H1 s1.heap a (.frz o (.dT kvs)) from I1.hok a _ ha)
  rw[h0] at h1
  cases h1
  exact⟨_,_,h3⟩
 obtain⟨g0,gx,gm,gs,gi⟩:=I1.heldAt ha hd
 refine DI.keys gm g0 gx hd ?_
 refine⟨s1.heap.objs.size,[s1.heap.objs.size],_,_,H1,rfl,I1.kept (t':=s1.toks) fun b o e=>Heap.get?_push_of_some _ e,qaa hd,⟨_,Heap.get?_push_size _ rfl,rfl,rfl⟩,fun b hb=>?_,q⟩
 have e:b=s1.heap.objs.size:=by simpa using hb
 subst e
 exact I1.fpOk (Nat.le_refl _) (I1.hok.fresh (Nat.le_refl _))
end
def sHold (t:TS):TS:=fun D σ H=>∃a kvs,H a=some (.dT kvs)/\∀o,t D σ (upd H a (.frz o (.dT kvs)))
theorem qar {X:Cx}{s:Stmt}{t:TS}(h:PS X s t):PS X s (sHold t):=by
 intro pins sh σ H D I q
 obtain⟨a,kvs,e,k⟩:=q
 obtain⟨o,I1⟩:=I.hold e
 exact h pins sh σ _ D I1 (k o)
section
variable {K:PySem.W.Frag}{g:TG}{tb:TS}{nx:St->Hp->Prop}{rt:V->Hp->Prop}{σ:St}{H:Hp}{a:Addr}{o:Obj}{kvs:List (List Key×V)}
variable {tc:TT}{te:TE}{R:Hp->Prop}{D:Addr}
theorem qbn (Pv:Nat->St->Hp->Prop)(h0:Pv 0 σ H)(hl:∀i σ H,Pv i σ H->H a=some (.frz o (.dT kvs)))(go:∀i b p σ H,kvs[i]? =some p->H b=some (.tup (p.1.map kV))->Pv i σ H->g (.ref b) σ H fun σ3 H3=>tc σ3 H3 fun b H4=>
   if b=true then te σ3 H4 fun y H5=>∃ys,H5 D=some (.lst ys)/\ys.length<sizeLine/\Pv (i+1) σ3 (upd H5 D (.lst (ys++[y]))) else Pv (i+1) σ3 H4)(stop:∀σ H,Pv kvs.length σ H->R H):q8y (Itd a o kvs) g tc te R D σ H:=
 q3o kvs.length Pv h0 (fun i σ H hi p=>⟨⟨hl i σ H p,hi⟩,fun x H' ⟨e1,b,q,hq,ex,hb⟩=>by subst e1 ex;exact go i b q σ _ hq hb p⟩) fun σ H p=>⟨⟨hl _ σ H p,Nat.le_refl _⟩,stop σ H p⟩
end
end L2
namespace Srt
open PySem PySem.W PyProof.Rows
variable {O:KeyOrd}{key:Nat->O.α}{n:Nat}
end Srt
namespace Srt
open PySem PySem.W PyProof.Rows
end Srt
namespace L2
open PySem PySem.Spec PyProof.Rows PySem.W
end L2
namespace L2
open PySem PySem.Spec PyProof.Rows
theorem q3m {k:Nat}{A:Around}(hr:Room k A):A.units+1<cLine:=by have:=hr.un;omega
section
variable {σ:St}{H:Hp}{Q:VK}{td ty tv:TE}{nx:St->Hp->Prop}{rt:V->Hp->Prop}{bk ct:St->Hp->Prop}
theorem r_dnin (q:ty σ H fun y H1=>td σ H1 fun x H2=>∃a o,x= .ref a/\DGet H2 a y o/\Q (.bl (!o.isSome)) H2):q73 ty td σ H Q:=q
theorem r_dput (q:tv σ H fun v H1=>td σ H1 fun x H2=>ty σ H2 fun y H3=>∃a H4,x= .ref a/\DPut H3 a y v H4/\nx σ H4):sDPut td ty tv ⟨nx,rt,bk,ct⟩ σ H:=q
theorem r_hold {t:TS}{D:Ends}(q:∃a kvs,H a=some (.dT kvs)/\∀o,t D σ (upd H a (.frz o (.dT kvs)))):sHold t D σ H:=q
theorem r_dk {R:It->Hp->Prop}(q:td σ H fun x H1=>∃a o kvs,x= .ref a/\H1 a=some (.frz o (.dT kvs))/\R (Itd a o kvs) H1):iDk td σ H R:=q
end
theorem r_augN {i:Nat}{v:V}{te:TE}{ip:V->V->Hp->VK->Prop}{σ:St}{H:Hp}{nx:St->Hp->Prop}{rt:V->Hp->Prop}{bk ct:St->Hp->Prop}(h:σ[i]? =some (some v))(q:te σ H fun y H1=>ip v y H1 fun z H2=>nx (σ.set i (some z)) H2):tAug i te ip ⟨nx,rt,bk,ct⟩ σ H:=⟨v,h,q⟩
theorem q7i {c:TT}{tb:TS}{σ:St}{H:Hp}{nx:St->Hp->Prop}{rt:V->Hp->Prop}{bk ct:St->Hp->Prop}(W:Nat->St->Hp->Prop)(m:Nat)(h0:W m σ H)
  (go:∀m σ H,W m σ H->c σ H fun b H1=>if b=true then∃N:St->Hp->Prop,(∀σ' H',N σ' H'->∃m',m'<m/\W m' σ' H')/\tb ⟨N,rt,nx,N⟩ σ H1 else nx σ H1):q9B c tb ⟨nx,rt,bk,ct⟩ σ H:=⟨W,⟨m,h0⟩,go⟩
theorem pi_dkK {X:Cx}{tg l:Expr}{tl:TE}(K:PySem.W.Frag)(hl:PE X l tl):PI X tg l (iDk tl):=pi_dk hl
end L2
namespace Ce
open L2 PySem PySem.Spec PyProof.Rows
def Sd.ns (s:Sd):List Int:=[s.rm,s.tk,s.op,s.b,s.wt]
def Sd.key (s:Sd):List Key:=[.inl s.rm,.inl s.tk,.inl s.op,.inl s.b,.inl s.wt]
theorem Sd.ns_inj {a b:Sd}(h:a.ns=b.ns):a=b:=by
 cases a;cases b;simp only[Sd.ns,List.cons.injEq,and_true] at h;obtain⟨h1,h2,h3,h4,h5⟩:=h;subst h1 h2 h3 h4 h5;rfl
theorem Sd.key_inj {a b:Sd}(h:a.key=b.key):a=b:=by
 cases a;cases b;simp only[Sd.key,List.cons.injEq,Sum.inl.injEq,and_true] at h;obtain⟨h1,h2,h3,h4,h5⟩:=h;subst h1 h2 h3 h4 h5;rfl
instance:DecidableEq Sd:=fun a b=>decidable_of_iff (a.ns=b.ns) ⟨Sd.ns_inj,fun h=>by rw[h]⟩
def SAt (H:Hp)(p:Addr)(s:Sd):Prop:=H p=some (.tup s.vs)
theorem SAt.mono {H H':Hp}(s:q0N H H'){p:Addr}{x:Sd}(h:SAt H p x):SAt H' p x:=s _ _ h
theorem SAt.put {H:Hp}{D:Addr}{xs:List V}{o:HO}(hD:H D=some (.lst xs)){p:Addr}{x:Sd}(h:SAt H p x):SAt (upd H D o) p x:=q0N.lst hD _ _ h
abbrev Dk:=List (Sd×V)
def dkv (l:Dk):List (List Key×V):=l.map fun x=>(x.1.key,x.2)
def dat (l:Dk)(s:Sd):Option V:=(l.find? fun x=>decide (x.1=s)).map (·.2)
theorem q4e (s:Sd):∀l:Dk,valV (dkv l) s.key=dat l s
 |[]=>rfl
 |x::l=>by
  by_cases e:x.1=s
  ·rw [show dkv (x::l)=(x.1.key,x.2)::dkv l from rfl,q2S (by rw[e])]
   simp[dat,e]
  ·rw [show dkv (x::l)=(x.1.key,x.2)::dkv l from rfl,q2T (fun z=>e (Sd.key_inj z)),q4e s l]
   simp[dat,e]
theorem q4f {l:Dk}{s:Sd}:dat l s=none↔s∉l.map (·.1):=by
 unfold dat
 rw[Option.map_eq_none_iff,List.find?_eq_none]
 simp only[decide_eq_true_eq,List.mem_map,not_exists,not_and]
theorem q2D {l:Dk}{s:Sd}:(dat l s).isSome=decide (s∈l.map (·.1)):=by
 cases e:dat l s with
 |none=>rw[decide_eq_false (q4f.mp e)];rfl
 |some v=>
  have:¬dat l s=none:=by rw[e];simp
  rw[decide_eq_true (Classical.byContradiction fun z=>this (q4f.mpr z))];rfl
theorem qbf {l:Dk}{s:Sd}{v:V}(h:s∉l.map (·.1)):putK (dkv l) s.key v=dkv (l++[(s,v)]):=by
 unfold putK
 rw[q2U,q4e,q4f.mpr h,if_neg (by decide)]
 simp[dkv]
def DAtS (H:Hp)(a:Addr)(l:Dk):Prop:=H a=some (.dT (dkv l))
theorem qa0 {H:Hp}{a b:Addr}{l:Dk}{s:Sd}(h:Rd H a (.dT (dkv l)))(hb:SAt H b s):DGet H a (.ref b) (dat l s):= .inr ⟨_,s.key,b,h,rfl,hb,(q4e s l).symm⟩
theorem q9Y {H:Hp}{a b:Addr}{l:Dk}{s:Sd}{v:V}(h:DAtS H a l)(hb:SAt H b s)(hl:l.length<sizeLine)(hn:s∉l.map (·.1)):DPut H a (.ref b) v (upd H a (.dT (dkv (l++[(s,v)])))):=by
 have:=DPut.t (k:=s.key) (v:=v) h hb (by simpa[dkv] using hl)
 rwa [qbf hn] at this
inductive Rch {α:Type}(R:α->α->Prop)(a:α):α->Prop where
 |refl:Rch R a a
 |step {b c:α}:Rch R a b->R b c->Rch R a c
structure Srch (R:Sd->Sd->Prop)(s0:Sd)(row:List Sd)(pl:Nat):Prop where
 nd:row.Nodup
 st:s0∈row
 rch:∀x∈row,Rch R s0 x
 cl:∀i (h:i<row.length),i<pl->∀y,R row[i] y->y∈row
theorem Srch.start {R:Sd->Sd->Prop}{s0:Sd}:Srch R s0 [s0] 0:=⟨by simp,by simp,fun x hx=>by rw[List.mem_singleton.mp hx];exact .refl,fun i _ h=>absurd h (Nat.not_lt_zero _)⟩
theorem Srch.end {R:Sd->Sd->Prop}{s0:Sd}{row:List Sd}{pl:Nat}(h:Srch R s0 row pl)(hp:row.length<=pl)(x:Sd):x∈row↔Rch R s0 x:=by
 refine⟨h.rch x,fun hx=>?_⟩
 induction hx with
 |refl=>exact h.st
 |step _ r ih=>
  obtain⟨i,hi,e⟩:=List.getElem_of_mem ih
  exact h.cl i hi (by omega) _ (by rw[e];exact r)
structure Mid (R:Sd->Sd->Prop)(s0 here:Sd)(row:List Sd)(pl:Nat)(done:List Sd):Prop where
 nd:row.Nodup
 st:s0∈row
 rch:∀x∈row,Rch R s0 x
 cl:∀i (h:i<row.length),i<pl->∀y,R row[i] y->y∈row
 at':row[pl]? =some here
 dn:∀y∈done,y∈row
theorem Srch.mid {R:Sd->Sd->Prop}{s0 here:Sd}{row:List Sd}{pl:Nat}(h:Srch R s0 row pl)(e:row[pl]? =some here):Mid R s0 here row pl []:=⟨h.nd,h.st,h.rch,h.cl,e,fun y z=>nomatch z⟩
theorem Mid.old {R:Sd->Sd->Prop}{s0 here y:Sd}{row done:List Sd}{pl:Nat}(h:Mid R s0 here row pl done)(hy:y∈row):Mid R s0 here row pl (done++[y]):=
 ⟨h.nd, h.st, h.rch, h.cl, h.at', fun x hx => by rcases List.mem_append.mp hx with z|z;· exact h.dn x z
                                                 ·rw [List.mem_singleton.mp z];exact hy⟩
theorem Mid.new {R:Sd->Sd->Prop}{s0 here y:Sd}{row done:List Sd}{pl:Nat}(h:Mid R s0 here row pl done)(hy:y∉row)(r:R here y):Mid R s0 here (row++[y]) pl (done++[y]):=by
 have hpl:pl<row.length:=(List.getElem?_eq_some_iff.mp h.at').1
 refine⟨List.nodup_append.mpr ⟨h.nd,by simp,fun a ha b hb e=>?_⟩,List.mem_append_left _ h.st,fun x hx=>?_,fun i hi hl z rz=>?_,?_,fun x hx=>?_⟩
 ·rw [List.mem_singleton.mp hb] at e;subst e;exact hy ha
 ·rcases List.mem_append.mp hx with z|z
  ·exact h.rch x z
  ·rw [List.mem_singleton.mp z]
   exact(h.rch here (List.mem_of_getElem? h.at')).step r
 ·rw [List.getElem_append_left (by omega)] at rz
  exact List.mem_append_left _ (h.cl i (by omega) hl z rz)
 ·rw [List.getElem?_append_left hpl];exact h.at'
 ·rcases List.mem_append.mp hx with z|z
  ·exact List.mem_append_left _ (h.dn x z)
  ·exact List.mem_append_right _ z
theorem Mid.next {R:Sd->Sd->Prop}{s0 here:Sd}{row done:List Sd}{pl:Nat}(h:Mid R s0 here row pl done)(hd:∀y,R here y->y∈done):Srch R s0 row (pl+1):=by
 refine⟨h.nd,h.st,h.rch,fun i hi hl z rz=>?_⟩
 by_cases e:i=pl
 ·subst e
  have:row[i]=here:=(List.getElem?_eq_some_iff.mp h.at').2
  rw[this] at rz
  exact h.dn z (hd z rz)
 ·exact h.cl i hi (by omega) z rz
end Ce
namespace Tim
open PySem PySem.W PyProof.Rows
end Tim
namespace Tim
open PySem PySem.W PyProof.Rows
end Tim
namespace Tim
open PySem PySem.W PyProof.Rows
section
variable {prog:Program}{w:World}{A:Around}{E:Value->Shared->Prop}{s:Shared}{κ:SortKind}{O:KeyOrd}{kf:Keyed->O.α}{Ok:Keyed->Prop}
set_option hygiene false in
local macro_rules| `(tactic| walk_at "tloB")=> `(tactic| (
 obtain⟨x0,x1,x2,x3⟩:=at_arr (a:=a) (i:=ia2) (by omega)
 refine wpS_bind (w_elem x1 ?_)
 refine wpS_bind (w_gl c hk3 (by omega) (oa x0 x3) ob sb fun k' k1' k2' k3'=>?_)
 have le0:∀z∈a.toList.drop ia2,O.kle (kf x0) (kf z):=fun z hz=>by
  obtain⟨j,_,ej⟩:=mem_from' hz
  exact srd_at sa (by omega) x2 ej
 have m4:=m3.bs k' sb fun x hx z hz=>KeyOrd.kle_trans (KeyOrd.kle_of_klt (k2' x hx)) (le0 z hz)
 rw[<-ext_mid,<-Array.toList_append] at m4
 dsimp only
 by_cases hk0':k'>0
 ·rw [if_pos hk0']
  by_cases he:ib3+k'=b.size
  ·rw [if_pos (by simpa using he)]
   exact wpS_pure ⟨q3,.inl ⟨_,rfl,fB m4 he⟩⟩
  ·rw [if_neg (by simpa using he)]
   have m5:=m4.a sa x2 k3'
   rw[<-Array.toList_push] at m5
   refine wpS_bind (w_elem x1 ?_)
   by_cases hf:ia2+1+1=a.size
   ·rw [if_pos (by simpa using hf)]
    exact wpS_pure ⟨q3,.inl ⟨_,rfl,fA m5 hf⟩⟩
   ·rw [if_neg (by simpa using hf)]
    split
    ·exact wpS_pure ⟨q3,.inr ⟨rfl,m5,by show ia2+1+1<a.size;omega,by show ib3+k'<b.size;omega,by show s1<=ia2+1+(ib3+k');omega⟩⟩
    ·exact wpS_pure ⟨q3,rfl,m5,by show ia2+1+1<a.size;omega,by show ib3+k'<b.size;omega,by show s1<=ia2+1+(ib3+k');omega⟩
 ·rw [if_neg hk0']
  have hz:k'=0:=by omega
  subst hz
  have m5:=m3.a sa x2 k3'
  rw[<-Array.toList_push] at m5
  refine wpS_bind (w_elem x1 ?_)
  by_cases hf:ia2+1+1=a.size
  ·rw [if_pos (by simpa using hf)]
   exact wpS_pure ⟨q3,.inl ⟨_,rfl,fA m5 hf⟩⟩
  ·rw [if_neg (by simpa using hf)]
   split
   ·exact wpS_pure ⟨q3,.inr ⟨rfl,m5,by show ia2+1+1<a.size;omega,by show ib3<b.size;omega,by show s1<=ia2+1+ib3;omega⟩⟩
   ·exact wpS_pure ⟨q3,rfl,m5,by show ia2+1+1<a.size;omega,by show ib3<b.size;omega,by show s1<=ia2+1+ib3;omega⟩))
set_option hygiene false in
local macro_rules| `(tactic| walk_at "tloA")=> `(tactic| (
 refine wpS_bind (wpS_modify ?_)
 obtain⟨y0,y1,y2,y3⟩:=at_arr (a:=b) (i:=ib) (by omega)
 refine wpS_bind (w_elem y1 ?_)
 have q3:=q
 have hk3:kindOf st1=κ:=by rw[q.1];exact hk
 refine wpS_bind (w_gr c hk3 (by omega) (ob y0 y3) oa sa fun k k1 k2 k3=>?_)
 have le1:∀z∈b.toList.drop ib,O.kle (kf y0) (kf z):=fun z hz=>by
  obtain⟨j,_,ej⟩:=mem_from' hz
  exact srd_at sb (by omega) y2 ej
 have m2:=m.as k sa fun x hx z hz=>KeyOrd.kle_trans (k2 x hx) (le1 z hz)
 rw[<-ext_mid,<-Array.toList_append] at m2
 dsimp only
 apply use3 (F:=fun o i j=>MI kf a.toList b.toList o.toList i j/\i+1<a.size/\j<b.size/\s1<=i+j)
 rotate_left
 ·intro key
  by_cases hk0:k>0
  ·rw [if_pos hk0]
   by_cases he:ia+k+1=a.size
   ·rw [if_pos (by simpa using he)]
    exact wpS_pure ⟨q3,.inl ⟨_,rfl,fA m2 he⟩⟩
   rw[if_neg (by simpa using he)]
   by_cases he2:ia+k=a.size
   ·rw [if_pos (by simpa using he2)]
    exact wpS_pure ⟨q3,.inl ⟨_,rfl,fC m2 he2⟩⟩
   rw[if_neg (by simpa using he2)]
   refine wpS_bind (w_elem y1 ?_)
   have m3:=m2.b sb y2 fun z hz=>KeyOrd.kle_of_klt (k3 z hz)
   rw[<-Array.toList_push] at m3
   have ba2:ia+k+1<a.size:=by omega
   have pr2:s1<=ia+k+ib:=by omega
   generalize (out++a.extract ia (ia+k)).push y0=out3 at m3 ⊢
   generalize ia+k=ia2 at m3 ba2 pr2 ⊢
   by_cases hf:ib+1=b.size
   ·rw [if_pos (by simpa using hf)]
    exact wpS_pure ⟨q3,.inl ⟨_,rfl,fB m3 hf⟩⟩
   rw[if_neg (by simpa using hf)]
   have bb3:ib+1<b.size:=by omega
   have pr3:s1<=ia2+(ib+1):=by omega
   generalize ib+1=ib3 at m3 bb3 pr3 ⊢
   exact key out3 ia2 ib3 ⟨m3,ba2,bb3,pr3⟩
  ·rw [if_neg hk0]
   refine wpS_bind (w_elem y1 ?_)
   have m3:=m.b sb y2 fun z hz=>KeyOrd.kle_of_klt (k3 z (by rw[show k=0 by omega];exact hz))
   rw[<-Array.toList_push] at m3
   by_cases hf:ib+1=b.size
   ·rw [if_pos (by simpa using hf)]
    exact wpS_pure ⟨q3,.inl ⟨_,rfl,fB m3 hf⟩⟩
   rw[if_neg (by simpa using hf)]
   exact key (out.push y0) ia (ib+1) ⟨m3,ba,by omega,by omega⟩
 ·rintro out3 ia2 ib3 ⟨m3,ba2,bb3,pr3⟩
  walk_at "tloB"))
end
end Tim
namespace Tim
open PySem PySem.W PyProof.Rows
section
variable {prog:Program}{w:World}{A:Around}{E:Value->Shared->Prop}{s:Shared}{κ:SortKind}{O:KeyOrd}{kf:Keyed->O.α}{Ok:Keyed->Prop}
set_option hygiene false in
local macro_rules| `(tactic| walk_at "thiB")=> `(tactic| (
 obtain⟨x0,x1,x2,x3⟩:=at_arr (a:=a) (i:=na2 - 1) (by omega)
 refine wpS_bind (w_elem x1 ?_)
 refine wpS_bind (w_hl c hk3 (by omega) (by omega) (oa x0 x3) ob sb fun k' k1' k2' k3'=>?_)
 have le0:∀z∈a.toList.take na2,O.kle (kf z) (kf x0):=fun z hz=>by
  obtain⟨j,hj,ej⟩:=mem_take_at hz
  exact srd_at sa (by omega) ej x2
 have m4:=m3.bs k' k1' sb fun x hx z hz=>KeyOrd.kle_trans (le0 z hz) (k3' x hx)
 rw[<-ext_part,<-Array.toList_append] at m4
 dsimp only
 by_cases hk0':nb3 - k'>0
 ·rw [if_pos hk0']
  by_cases he:k'=1
  ·rw [if_pos (by simpa using he)]
   exact wpS_pure ⟨q3,.inl ⟨_,rfl,fB m4 he⟩⟩
  rw[if_neg (by simpa using he)]
  by_cases he2:k'=0
  ·rw [if_pos (by simpa using he2)]
   exact wpS_pure ⟨q3,.inl ⟨_,rfl,fC m4 he2⟩⟩
  rw[if_neg (by simpa using he2)]
  have m5:=m4.a' (by omega) sa x2 fun z hz=>KeyOrd.kle_of_klt (k2' z hz)
  rw[<-Array.toList_push] at m5
  refine wpS_bind (w_elem x1 ?_)
  by_cases hf:na2 - 1=0
  ·rw [if_pos (by simpa using hf)]
   exact wpS_pure ⟨q3,.inl ⟨_,rfl,fA m5 hf⟩⟩
  ·rw [if_neg (by simpa using hf)]
   split
   ·exact wpS_pure ⟨q3,.inr ⟨rfl,m5,by show 1<=na2 - 1;omega,by show 2<=k';omega,by show na2 - 1+k'<=s1;omega,by show na2 - 1<=a.size;omega,by show k'<=b.size;omega⟩⟩
   ·exact wpS_pure ⟨q3,rfl,m5,by show 1<=na2 - 1;omega,by show 2<=k';omega,by show na2 - 1+k'<=s1;omega,by show na2 - 1<=a.size;omega,by show k'<=b.size;omega⟩
 ·rw [if_neg hk0']
  have hz:k'=nb3:=by omega
  subst hz
  have m5:=m3.a' (by omega) sa x2 fun z hz=>KeyOrd.kle_of_klt (k2' z hz)
  rw[<-Array.toList_push] at m5
  refine wpS_bind (w_elem x1 ?_)
  by_cases hf:na2 - 1=0
  ·rw [if_pos (by simpa using hf)]
   exact wpS_pure ⟨q3,.inl ⟨_,rfl,fA m5 hf⟩⟩
  ·rw [if_neg (by simpa using hf)]
   split
   ·exact wpS_pure ⟨q3,.inr ⟨rfl,m5,by show 1<=na2 - 1;omega,by show 2<=k';omega,by show na2 - 1+k'<=s1;omega,by show na2 - 1<=a.size;omega,by show k'<=b.size;omega⟩⟩
   ·exact wpS_pure ⟨q3,rfl,m5,by show 1<=na2 - 1;omega,by show 2<=k';omega,by show na2 - 1+k'<=s1;omega,by show na2 - 1<=a.size;omega,by show k'<=b.size;omega⟩))
set_option hygiene false in
local macro_rules| `(tactic| walk_at "thiA")=> `(tactic| (
 refine wpS_bind (wpS_modify ?_)
 obtain⟨y0,y1,y2,y3⟩:=at_arr (a:=b) (i:=nb - 1) (by omega)
 refine wpS_bind (w_elem y1 ?_)
 have q3:=q
 have hk3:kindOf st1=κ:=by rw[q.1];exact hk
 refine wpS_bind (w_hr c hk3 (by omega) (by omega) (ob y0 y3) oa sa fun k k1 k2 k3=>?_)
 have le1:∀z∈b.toList.take nb,O.kle (kf z) (kf y0):=fun z hz=>by
  obtain⟨j,hj,ej⟩:=mem_take_at hz
  exact srd_at sb (by omega) ej y2
 have m2:=m.as k k1 sa fun x hx z hz=>KeyOrd.kle_trans (le1 z hz) (KeyOrd.kle_of_klt (k3 x hx))
 rw[<-ext_part,<-Array.toList_append] at m2
 dsimp only
 generalize hkc:na - k=kc
 apply use3 (F:=fun o i j=>MH kf a.toList b.toList o.toList i j/\1<=i/\i<=a.size/\2<=j/\j<=b.size/\i+j<=s1)
 rotate_left
 ·intro key
  by_cases hk0:kc>0
  ·rw [if_pos hk0]
   by_cases he:k=0
   ·rw [if_pos (by simpa using he)]
    exact wpS_pure ⟨q3,.inl ⟨_,rfl,fA m2 he⟩⟩
   rw[if_neg (by simpa using he)]
   refine wpS_bind (w_elem y1 ?_)
   have m3:=m2.b' (by omega) sb y2 k2
   rw[<-Array.toList_push] at m3
   have ba2:1<=k:=by omega
   have za2:k<=a.size:=by omega
   have pr2:k+nb<=s1:=by omega
   generalize (out++(a.extract k na).reverse).push y0=out3 at m3 ⊢
   generalize k=na2 at m3 ba2 pr2 za2 ⊢
   by_cases hf:nb - 1=1
   ·rw [if_pos (by simpa using hf)]
    exact wpS_pure ⟨q3,.inl ⟨_,rfl,fB m3 hf⟩⟩
   rw[if_neg (by simpa using hf)]
   have bb3:2<=nb - 1:=by omega
   have zb3:nb - 1<=b.size:=by omega
   have pr3:na2+(nb - 1)<=s1:=by omega
   generalize nb - 1=nb3 at m3 bb3 pr3 zb3 ⊢
   exact key out3 na2 nb3 ⟨m3,ba2,za2,bb3,zb3,pr3⟩
  ·rw [if_neg hk0]
   refine wpS_bind (w_elem y1 ?_)
   have m3:=m.b' (by omega) sb y2 (by rw[show k=na by omega] at k2;exact k2)
   rw[<-Array.toList_push] at m3
   by_cases hf:nb - 1=1
   ·rw [if_pos (by simpa using hf)]
    exact wpS_pure ⟨q3,.inl ⟨_,rfl,fB m3 hf⟩⟩
   rw[if_neg (by simpa using hf)]
   exact key (out.push y0) na (nb - 1) ⟨m3,ba,za,by omega,by omega,by omega⟩
 ·rintro out3 na2 nb3 ⟨m3,ba2,za2,bb3,zb3,pr3⟩
  walk_at "thiB"))
end
end Tim
namespace Tim
open PySem PySem.W PyProof.Rows
end Tim
namespace Tim
open PySem PySem.W PyProof.Rows
section
variable {prog:Program}{w:World}{A:Around}{E:Value->Shared->Prop}{s:Shared}{κ:SortKind}{O:KeyOrd}{kf:Keyed->O.α}{Ok:Keyed->Prop}
set_option hygiene false in
local macro_rules| `(tactic| walk_at "tcAsc")=> `(tactic| (
 refine wpS_bind (wpS_mono (wpS_forRange (I:=fun(x:Nat) (c:Option (Option Nat)×Nat) (st':SortSt)=>st1=st'/\c.1=none/\x=c.2/\Upx kf (arrOf st1) lo c.2)
  (Q:=fun(c:Option (Option Nat)×Nat) (st':SortSt)=>st1=st'/\c.1=none/\1<=c.2/\c.2<=nrem/\Upx kf (arrOf st1) lo c.2/\(c.2=nrem\/O.klt (Kx kf (arrOf st1) (lo+c.2)) (Kx kf (arrOf st1) (lo+c.2 - 1)))) ?_ ?_ (show _/\_ from⟨rfl,rfl,rfl,u1⟩)) ?_)
 ·rintro x ⟨r,n⟩ st2 hx1 hx2 ⟨rfl,rfl,e,u⟩
  dsimp only at e u ⊢
  subst e
  refine wpS_bind (w_ltAt c hk1 (by omega) (by omega) ok1 ?_)
  dsimp only
  cases eb:O.blt (Kx kf (arrOf st1) (lo+x)) (Kx kf (arrOf st1) (lo+x - 1)) with
  |true=>
   rw[if_pos rfl]
   exact wpS_pure ⟨rfl,rfl,by show 1<=x;omega,by show x<=nrem;omega,u,.inr eb⟩
  |false=>
   rw[if_neg (by decide)]
   exact wpS_pure ⟨rfl,rfl,rfl,u.snoc (by omega) eb⟩
 ·rintro ⟨r,n⟩ st2 ⟨rfl,rfl,e,u⟩
  dsimp only at e u
  exact⟨rfl,rfl,by show 1<=n;omega,by show n<=nrem;omega,u,.inl (by show n=nrem;omega)⟩))
end
end Tim
namespace Tim
open PySem PySem.W PyProof.Rows
section
variable {prog:Program}{w:World}{A:Around}{E:Value->Shared->Prop}{s:Shared}{κ:SortKind}{O:KeyOrd}{kf:Keyed->O.α}{Ok:Keyed->Prop}{a0:List Keyed}{st:SortSt}{Rs:List (List Keyed)}{rest:List Keyed}
set_option hygiene false in
local macro_rules| `(tactic| walk_at "tsTail")=> `(tactic| (
 refine wpS_bind (wpS_get ?_)
 try dsimp only
 rcases hbk:(pendingOf st2).back? with _|⟨sB,nB,pB⟩
 ·simp only[hbk]
  refine wpS_bind (wpS_modify (wpS_pure ?_))
  exact⟨_,_,hk2,R2.push rfl g1 g2 g3,rfl,(flat_push g2).symm,Nat.add_le_add hxl g1⟩
 ·simp only[hbk]
  refine wpS_bind (wpS_mono (wpS_forRange (I:=fun(y:Nat) (c:Option Unit×Unit) (st':SortSt)=>c.1=none/\∃Rs',kindOf st'=κ/\Rns kf Ok a0 st' Rs' rest2)
   (Q:=fun(c:Option Unit×Unit) (st':SortSt)=>c.1=none/\∃Rs',kindOf st'=κ/\Rns kf Ok a0 st' Rs' rest2) ?_ ?_ (show _/\_ from⟨rfl,_,hk2,R2⟩)) ?_)
  ·rintro y ⟨r,⟨⟩⟩ st3 _ hy ⟨rfl,Rs',hk3,R3⟩
   refine wpS_bind (wpS_get ?_)
   try dsimp only
   split
   ·rename_i older heq
    split
    ·exact wpS_pure ⟨rfl,_,hk3,R3⟩
    ·have hp:1<(pendingOf st3).size:=by
      by_cases hp:(pendingOf st3).size>1
      ·exact hp
      ·rw [if_neg hp] at heq;cases heq
     have hps:=R3.psize
     obtain⟨P,X,Y,S,eR,eP⟩:=split2 (l:=Rs') (i:=(pendingOf st3).size - 2) (by omega)
     rw[eR] at R3
     refine wpS_bind (w_mergeAt c o0 hk3 eP R3 fun Z st4 hk4 R4=>?_)
     rw[if_neg (by decide)]
     exact wpS_pure ⟨rfl,_,hk4,R4⟩
   ·exact wpS_pure ⟨rfl,_,hk3,R3⟩
  ·rintro ⟨r,⟨⟩⟩ st3 z
   exact z
  ·rintro ⟨r,⟨⟩⟩ st3 ⟨rfl,Rs',hk3,R3⟩
   try dsimp only
   refine wpS_bind (wpS_modify (wpS_bind (wpS_modify (wpS_pure ?_))))
   have e0:=R2.len
   have e1:=R3.len
   have e2:Rs.flatten.length=Rs'.flatten.length:=by omega
   exact⟨_,_,hk3,R3.power.push e2 g1 g2 g3,rfl,(congrArg (· +_) e2).trans (flat_push g2).symm,Nat.add_le_add hxl g1⟩))
end
end Tim
namespace Srt
open PySem PySem.W PyProof.Rows
end Srt
namespace L2
open PySem PySem.Spec PyProof.Rows PySem.W
end L2
namespace Ce
open L2 PySem PySem.Spec PyProof.Rows
structure Small (C:Cl):Prop where
 r:C.rooms<=5
 w:C.ways.length<=4
 t:C.things.length<=2
 l:C.levers.length<=1
 v:C.wheels.length<=1
def nx (C:Cl)(s:Sd):List Sd:=(fitD C s).map fun x=>q0R C s x.1 (x.2:Int)
def NxR (C:Cl)(s t:Sd):Prop:=t∈nx C s
theorem qaP {C:Cl}{s t:Sd}(h:NxR C s t):∃(d:Wd) (i:Nat),canD C s d (i:Int)=true/\t=q0R C s d (i:Int):=by
 obtain⟨⟨d,i⟩,hx,rfl⟩:=List.mem_map.mp h
 exact⟨d,i,q4a.mp hx,rfl⟩
theorem nx_ok {C:Cl}{s t:Sd}(ok:ClOk C)(h:s.ok C)(r:NxR C s t):t.ok C:=by
 obtain⟨d,i,hc,rfl⟩:=qaP r
 exact qbd ok h hc
theorem q8f {C:Cl}{s t:Sd}(ok:ClOk C)(h:s.ok C)(r:Rch (NxR C) s t):t.ok C:=by
 induction r with
 |refl=>exact h
 |step _ r ih=>exact nx_ok ok ih r
theorem q6n {P:Nat->Bool}{n:Nat}(h:∀i,n<=i->P i=false):∀{m:Nat},n<=m->cnt P m=cnt P n
 |0,hm=>by rw[Nat.le_zero.mp hm]
 |m+1,hm=>by
  by_cases e:n=m+1
  ·rw [e]
  ·show cnt P m+_=_
   rw[h m (by omega),q6n h (by omega)]
   rfl
theorem q74 (f g:Nat->Int):∀l:List Nat,(l.map fun k=>f k+g k).sum=(l.map f).sum+(l.map g).sum
 |[]=>rfl
 |k::l=>by
  simp only[List.map_cons,List.sum_cons]
  rw[q74 f g l]
  omega
theorem one12:∀j,j<12->((List.range 12).map fun k:Nat=>if decide (j=k)=true then(1:Int) else 0).sum=1:=by decide
theorem kinds {κ:Nat->Option Int}{b:Nat->Bool}:∀{n:Nat},(∀i,i<n->b i=true->∃k:Nat,κ i=some (k:Int)/\k<12)->((List.range 12).map fun k:Nat=>(cnt (fun i=>decide (κ i=some (k:Int))&&b i) n:Int)).sum=(cnt b n:Int)
 |0,_=>rfl
 |n+1,h=>by
  have ih:=kinds (n:=n) fun i hi=>h i (Nat.lt_succ_of_lt hi)
  have e:(fun k:Nat=>(cnt (fun i=>decide (κ i=some (k:Int))&&b i) (n+1):Int))=fun k:Nat=>(cnt (fun i=>decide (κ i=some (k:Int))&&b i) n:Int)+(if (decide (κ n=some (k:Int))&&b n)=true then(1:Int) else 0):=by
   funext k
   show((cnt _ n+_:Nat):Int)=_
   split<;>simp
  rw[e,q74,ih]
  show _=((cnt b n+_:Nat):Int)
  cases hb:b n with
  |false=>
   have:(fun k:Nat=>if (decide (κ n=some (k:Int))&&false)=true then(1:Int) else 0)=fun _=>0:=by funext k;simp
   rw[this,show((List.range 12).map fun _:Nat=>(0:Int)).sum=0 from rfl]
   simp
  |true=>
   obtain⟨j,hj,hl⟩:=h n (Nat.lt_succ_self n) hb
   have:(fun k:Nat=>if (decide (κ n=some (k:Int))&&true)=true then(1:Int) else 0)=fun k=>if decide (j=k)=true then(1:Int) else 0:=by
    funext k
    rw[hj,Bool.and_true]
    congr 1
    simp only[decide_eq_true_eq,eq_iff_iff,Option.some.injEq]
    omega
   rw[this,one12 j hl]
   simp
theorem q9E:∀{l:List Nat} {f g:Nat->Int},(∀k∈l,f k<=g k)->(l.map f).sum<=(l.map g).sum
 |[],_,_,_=>Int.le_refl _
 |k::l,f,g,h=>by
  have:=q9E (l:=l) (f:=f) (g:=g) fun j hj=>h j (List.mem_cons_of_mem _ hj)
  have:=h k (.head _)
  simp only[List.map_cons,List.sum_cons]
  omega
theorem q7t {C:Cl}{s:Sd}(ok:ClOk C)(h:s.ok C):cnt (bit s.op) C.ways.length<=cnt (bit s.tk) C.things.length:=by
 have e1:((List.range 12).map fun k:Nat=>(cnt (dP (dsOf C) s.op (k:Int)) C.ways.length:Int)).sum=(cnt (bit s.op) C.ways.length:Int):=by
  refine kinds fun i hi hb=>?_
  have hd:=h.dr i hi hb
  unfold dsOf at hd ⊢
  rw[List.getElem?_eq_getElem hi] at hd ⊢
  obtain⟨k,hk⟩:=Option.isSome_iff_exists.mp hd
  have hg:=(ok.w _ (List.getElem_mem hi)).2.2.2
  have hk':C.ways[i].g.dk=some k:=hk
  cases eg:C.ways[i].g with
  |door k'=>
   rw[eg] at hg hk'
   have hg:0<=k'/\k'<12:=hg
   refine⟨k'.toNat,?_,by omega⟩
   show C.ways[i].g.dk=_
   rw[eg]
   show some k'=_
   congr 1
   omega
  |_=>rw[eg] at hk';cases hk'
 have e2:((List.range 12).map fun k:Nat=>(cnt (tP C s.tk (k:Int)) C.things.length:Int)).sum=(cnt (bit s.tk) C.things.length:Int):=by
  have:=kinds (κ:=fun i=>some (C.things.getD i (0,0)).2) (b:=bit s.tk) (n:=C.things.length) fun i hi _=>by
   have ht:=(ok.t _ (List.getElem_mem hi)).2
   refine⟨(C.things[i].2).toNat,?_,by omega⟩
   simp only[List.getD_eq_getElem?_getD,List.getElem?_eq_getElem hi,Option.getD_some]
   congr 1
   omega
  rw[<-this]
  congr 1
  refine List.map_congr_left fun k _=>?_
  congr 1
  refine q3p fun i _=>?_
  unfold tP
  congr 1
  simp
 have e3:=q9E (l:=List.range 12) (f:=fun k:Nat=>(cnt (dP (dsOf C) s.op (k:Int)) C.ways.length:Int)) (g:=fun k:Nat=>(cnt (tP C s.tk (k:Int)) C.things.length:Int)) fun k hk=>by
  have hk:k<12:=List.mem_range.mp hk
  have:=h.held k (by omega) (by omega)
  unfold hold at this
  omega
 rw[e1,e2] at e3
 omega
def popc (n:Nat):Nat:=cnt (fun i=>n.testBit i) 4
def fits (d:Nat->Bool)(t o:Nat):Bool:=decide (popc o<=popc t)&&(List.range 4).all fun i=> !o.testBit i||d i
def num (d:Nat->Bool)(o:Nat):Nat:=cnt (fun i=> !d i||o.testBit i) 4
def prs (d:Nat->Bool):List (Nat×Nat):=((List.range 4).flatMap fun t=>(List.range 16).map fun o=>(t,o)).filter fun x=>fits d x.1 x.2
def mk4 (d0 d1 d2 d3:Bool)(i:Nat):Bool:=match i with|0=>d0|1=>d1|2=>d2|_=>d3
theorem qas:∀d0 d1 d2 d3:Bool,((prs (mk4 d0 d1 d2 d3)).map fun x=>4*min 5 (1+2*num (mk4 d0 d1 d2 d3) x.2)).sum<=288:=by decide +kernel
def ends (C:Cl)(i:Nat):List Int:=match C.ways[i]? with|some x=>[x.a,x.b]|none=>[0,0]
def dI (C:Cl):Nat->Bool:=mk4 (dsOf C 0).isSome (dsOf C 1).isSome (dsOf C 2).isSome (dsOf C 3).isSome
theorem dI_at {C:Cl}{i:Nat}(h:i<4):dI C i=(dsOf C i).isSome:=by
 match i,h with
 |0,_=>rfl
 |1,_=>rfl
 |2,_=>rfl
 |3,_=>rfl
def rms (C:Cl)(s0:Sd)(o:Nat):List Int:=if 1+2*num (dI C) o<=5 then s0.rm::(List.range 4).flatMap fun i=>if (!dI C i||o.testBit i)=true then ends C i else [] else(List.range 5).map fun n:Nat=>(n:Int)
theorem q9w (C:Cl)(i:Nat):(ends C i).length=2:=by unfold ends;split<;>rfl
theorem qag (C:Cl)(s0:Sd)(o:Nat):(rms C s0 o).length=min 5 (1+2*num (dI C) o):=by
 unfold rms
 split
 ·rename_i h
  have e:((List.range 4).flatMap fun i=>if (!dI C i||o.testBit i)=true then ends C i else []).length=2*num (dI C) o:=by
   have:∀n,((List.range n).flatMap fun i=>if (!dI C i||o.testBit i)=true then ends C i else []).length=2*cnt (fun i=> !dI C i||o.testBit i) n:=fun n=>by
    induction n with
    |zero=>rfl
    |succ n ih=>
     rw[List.range_succ,List.flatMap_append,List.length_append,ih]
     show _=2*(cnt _ n+_)
     simp only[List.flatMap_cons,List.flatMap_nil,List.append_nil]
     split
     ·rw [q9w];omega
     ·simp
   exact this 4
  rw[List.length_cons,e]
  omega
 ·rename_i h
  simp
  omega
def bs2 (C:Cl)(s0:Sd):List Int:=[s0.b,Builtin.bitXor s0.b (C.levers.getD 0 (0,0)).2]
def ws2 (C:Cl)(s0:Sd):List Int:=[s0.wt,(C.wheels.getD 0 (0,0)).2]
def uni (C:Cl)(s0:Sd):List Sd:=(prs (dI C)).flatMap fun x=>(rms C s0 x.2).flatMap fun r=>(bs2 C s0).flatMap fun b=>(ws2 C s0).map fun w=>(⟨r,(x.1:Int),(x.2:Int),b,w⟩:Sd)
theorem qa7 (C:Cl)(s0:Sd):(uni C s0).length<=288:=by
 refine Nat.le_trans (Nat.le_of_eq ?_) (qas (dsOf C 0).isSome (dsOf C 1).isSome (dsOf C 2).isSome (dsOf C 3).isSome)
 unfold uni
 rw[List.length_flatMap]
 congr 1
 refine List.map_congr_left fun x _=>?_
 rw[List.length_flatMap]
 have:∀l:List Int,(l.map fun r=>((bs2 C s0).flatMap fun b=>(ws2 C s0).map fun w=>(⟨r,(x.1:Int),(x.2:Int),b,w⟩:Sd)).length).sum=4*l.length:=fun l=>by
  induction l with
  |nil=>rfl
  |cons r l ih=>
   rw[List.map_cons,List.sum_cons,ih,List.length_cons]
   simp[bs2,ws2]
   omega
 rw[this,qag]
 rfl
structure Bnd (C:Cl)(s0 s:Sd):Prop where
 ok:s.ok C
 rm:s.rm=s0.rm\/∃(i:Nat) (x:Way),C.ways[i]? =some x/\((dsOf C i).isSome=false\/bit s.op i=true)/\(s.rm=x.a\/s.rm=x.b)
 b:s.b∈bs2 C s0
 wt:s.wt∈ws2 C s0
theorem Bnd.step {C:Cl}{s0 s t:Sd}(ok:ClOk C)(sm:Small C)(h0:s0.ok C)(h:Bnd C s0 s)(r:NxR C s t):Bnd C s0 t:=by
 have okt:=nx_ok ok h.ok r
 obtain⟨d,i,hc,rfl⟩:=qaP r
 cases d with
 |go=>
  obtain⟨x,hx,_,hl,_,e⟩:=go_of hc
  rw[e] at okt ⊢
  refine⟨okt,.inr ⟨i,x,hx,?_,?_⟩,h.b,h.wt⟩
  ·show (dsOf C i).isSome=false\/bit s.op i=true
   unfold dsOf
   rw[hx]
   cases eg:x.g with
   |door k=>rw[eg] at hl;exact .inr hl
   |_=>exact .inl (by show(x.g.dk).isSome=false;rw[eg];rfl)
  ·show (if s.rm=x.a then x.b else x.a)=x.a\/(if s.rm=x.a then x.b else x.a)=x.b
   split
   ·exact .inr rfl
   ·exact .inl rfl
 |pull=>
  obtain⟨x,hx,_,_,e⟩:=qaq hc
  rw[e] at okt ⊢
  refine⟨okt,h.rm,?_,h.wt⟩
  have hi:i<C.levers.length:=(List.getElem?_eq_some_iff.mp hx).1
  have hi0:i=0:=by have:=sm.l;omega
  subst hi0
  have ex:C.levers.getD 0 (0,0)=x:=by rw[List.getD_eq_getElem?_getD,hx];rfl
  have hxm:=ok.lv x (List.mem_of_getElem? hx)
  show Builtin.bitXor s.b x.2∈_
  have hb:=h.b
  unfold bs2 at hb ⊢
  rw[ex] at hb ⊢
  rcases List.mem_cons.mp hb with hb|hb
  ·rw [hb];simp
  ·rw [List.mem_singleton.mp hb,q8A h0.hb.1 h0.hb.2 (by omega) (by omega)];simp
 |take=>
  obtain⟨x,hx,e⟩:=qab hc
  rw[e] at okt ⊢
  exact⟨okt,h.rm,h.b,h.wt⟩
 |turn=>
  obtain⟨x,hx,_,e⟩:=qa9 hc
  rw[e] at okt ⊢
  refine⟨okt,h.rm,h.b,?_⟩
  have hi:i<C.wheels.length:=(List.getElem?_eq_some_iff.mp hx).1
  have hi0:i=0:=by have:=sm.v;omega
  subst hi0
  have ex:C.wheels.getD 0 (0,0)=x:=by rw[List.getD_eq_getElem?_getD,hx];rfl
  show x.2∈_
  unfold ws2
  rw[ex]
  simp
 |unlock=>
  obtain⟨hl,j,ej,hj,hcb⟩:=q0x hc
  have ej:i=j:=by omega
  subst ej
  obtain⟨x,kd,hx,hg,e⟩:=q6W hc
  rw[e] at okt ⊢
  refine⟨okt,?_,h.b,h.wt⟩
  have hb:bit s.op i=false:=by
   simp only[canB,hx,hg,Gt.dk,Bool.and_eq_true,Bool.not_eq_true'] at hcb
   exact hcb.1.2
  rcases h.rm with z|⟨k,y,hy,hz,hr⟩
  ·exact .inl z
  ·refine .inr ⟨k,y,hy,?_,hr⟩
   rcases hz with hz|hz
   ·exact .inl hz
   ·refine .inr ?_
    show bit (s.op+2 ^ i) k=true
    rw[q2E h.ok.hop.1 hb]
    by_cases e:i=k
    ·subst e;rw[hb] at hz;cases hz
    ·simp [e,hz]
theorem Bnd.come {C:Cl}{s0 s:Sd}(ok:ClOk C)(sm:Small C)(h0:s0.ok C)(r:Rch (NxR C) s0 s):Bnd C s0 s:=by
 induction r with
 |refl=>exact⟨h0,.inl rfl,by simp[bs2],by simp[ws2]⟩
 |step _ r ih=>exact ih.step ok sm h0 r
theorem cnt4 {x:Int}{n:Nat}(h0:0<=x)(h1:x<2 ^ n)(hn:n<=4):popc x.toNat=cnt (bit x) n:=by
 unfold popc
 rw[<-q6n (P:=bit x) (n:=n) (fun i hi=>q8w h0 h1 hi) hn]
 exact q3p fun i _=>(q1C h0 i).symm
theorem q7n {n m:Nat}(h:n<=m):(2:Int) ^ n<=2 ^ m:=by
 have:(2:Nat) ^ n<=2 ^ m:=Nat.pow_le_pow_right (by decide) h
 exact_mod_cast this
theorem Bnd.mem {C:Cl}{s0 s:Sd}(ok:ClOk C)(sm:Small C)(h:Bnd C s0 s):s∈uni C s0:=by
 have ho:=h.ok
 have p1:=q7n sm.t
 have p2:=q7n sm.w
 have q1:(2:Int) ^ 2=4:=rfl
 have q2:(2:Int) ^ 4=16:=rfl
 have t0:=ho.htk
 have o0:=ho.hop
 obtain⟨rm,tk,op,b,wt⟩:=s
 dsimp only at t0 o0
 have ops:=q7t ok ho
 rw[<-cnt4 t0.1 t0.2 (by have:=sm.t;omega),<-cnt4 o0.1 o0.2 sm.w] at ops
 unfold uni
 refine List.mem_flatMap.mpr ⟨(tk.toNat,op.toNat),List.mem_filter.mpr ⟨List.mem_flatMap.mpr ⟨tk.toNat,List.mem_range.mpr (by omega),List.mem_map.mpr ⟨op.toNat,List.mem_range.mpr (by omega),rfl⟩⟩,?_⟩,List.mem_flatMap.mpr ⟨rm,?_,List.mem_flatMap.mpr ⟨b,h.b,List.mem_map.mpr ⟨wt,h.wt,?_⟩⟩⟩⟩
 ·dsimp only
  unfold fits
  rw[decide_eq_true ops,Bool.true_and,List.all_eq_true]
  intro i hi
  have hi:i<4:=List.mem_range.mp hi
  rw[<-q1C o0.1,dI_at hi]
  cases hb:bit op i with
  |false=>rfl
  |true=>
   have hl:i<C.ways.length:=by
    refine Nat.lt_of_not_le fun z=>?_
    rw[q8w o0.1 o0.2 z] at hb
    cases hb
   rw[ho.dr i hl hb]
   rfl
 ·dsimp only
  unfold rms
  split
  ·rcases h.rm with z|⟨i,x,hx,hz,hr⟩
   ·exact List.mem_cons.mpr (.inl z)
   ·have hi:i<4:=by have:=(List.getElem?_eq_some_iff.mp hx).1;have:=sm.w;omega
    refine List.mem_cons_of_mem _ (List.mem_flatMap.mpr ⟨i,List.mem_range.mpr hi,?_⟩)
    rw[<-q1C o0.1,dI_at hi,if_pos ?_]
    ·unfold ends
     rw[hx]
     have hr:rm=x.a\/rm=x.b:=hr
     simpa using hr
    ·rcases hz with hz|hz
     ·rw [hz];rfl
     ·have hz:bit op i=true:=hz
      rw[hz];simp
  ·have hm:=ho.hrm
   have:=sm.r
   exact List.mem_map.mpr ⟨rm.toNat,List.mem_range.mpr (by dsimp only at hm;omega),by dsimp only at hm;omega⟩
 ·dsimp only
  rw[show((tk.toNat:Nat):Int)=tk by omega,show((op.toNat:Nat):Int)=op by omega]
theorem q5Y:∀{l m:List Sd},l.Nodup->(∀x∈l,x∈m)->l.length<=m.length
 |[],_,_,_=>Nat.zero_le _
 |x::l,m,hn,h=>by
  rw[List.nodup_cons] at hn
  have hx:=h x (.head _)
  have:=q5Y (m:=m.erase x) hn.2 fun y hy=>(List.mem_erase_of_ne fun e=>hn.1 (by rw[<-e];exact hy)).mpr (h y (List.mem_cons_of_mem _ hy))
  rw[List.length_erase_of_mem hx] at this
  have:0<m.length:=List.length_pos_of_mem hx
  rw[List.length_cons]
  omega
theorem few {C:Cl}{s0:Sd}{row:List Sd}(ok:ClOk C)(sm:Small C)(h0:s0.ok C)(nd:row.Nodup)(hr:∀x∈row,Rch (NxR C) s0 x):row.length<=288:=
 Nat.le_trans (q5Y nd fun x hx=>(Bnd.come ok sm h0 (hr x hx)).mem ok sm) (qa7 C s0)
end Ce
namespace DI
open PySem PySem.W PyProof.Rows
end DI
namespace Srt
open PySem PySem.W PyProof.Rows
end Srt
namespace L2
open PySem PySem.Spec PyProof.Rows PySem.W
def tDisp1 (tk tv:TE):TE:=fun σ H Q=>∀p,H p=none->tk σ (upd H p (.dT [])) fun x H1=>tv σ H1 fun y H2=>∃(b:Addr) (k:List Key),x= .ref b/\H2 p=some (.dT [])/\H2 b=some (.tup (k.map kV))/\Q (.ref p) (upd H2 p (.dT [(k,y)]))
theorem q69 {X:Cx}{pos:Pos}{k v:Expr}{tk tv:TE}(hu:X.A.units+1<cLine)(hk:PE X k tk)(hv:PE X v tv):PE X (.Dict [some k] [v] pos) (tDisp1 tk tv):=by
 intro pins s σ H Q I q
 have hn:=I.hok.fresh (Nat.le_refl s.heap.objs.size)
 have I1:=I.laid (a:=s.heap.objs.size) (o:= .dT []) (h':=s.heap.push {cls:= .type "dict",data:= .dict #[]}) (t':=s.toks) (fun _ _ q=>Heap.get?_push_of_some _ q) (Nat.le_refl _) (q9x s.heap I.big)
 have pp:=q8Q (pos:=pos) hk hv qat pins _ σ _ (fun ps H2=>match ps with|[(x,y)]=>∃(b:Addr) (k:List Key),x= .ref b/\H2 s.heap.objs.size=some (.dT [])/\H2 b=some (.tup (k.map kV))/\Q (.ref s.heap.objs.size) (upd H2 s.heap.objs.size (.dT [(k,y)]))|_=>False) I1 (q _ hn)
 rw[arm_eval_Dict,zip_pairTrees [some k] [v] X.env pos rfl rfl,dictDisplay_pairs _ (by intro z;cases z) (by show 1<17;decide)]
 refine wpAny_bind (wpAny_standAt (wpAny_bind ?_))
 unfold subDict
 refine wpAny_bind (wpAny_alloc ?_)
 refine wpAny_bind (wpAny_holding ?_)
 rw[if_pos (by show 1<=15;decide)]
 refine wpAny_bind (wpAny_mono pp (fun ws s2 z=>?_) fun _ _ e=>e)
 obtain⟨ps,H2,I2,rel,z⟩:=z
 cases rel with
 |nil=>exact z.elim
 | @cons p0 q0 _ _ r1 rel=>
 cases rel with
 |cons _ _=>exact z.elim
 |nil=>
  obtain⟨x,y⟩:=p0
  obtain⟨w1,w2⟩:=q0
  obtain⟨b,k,rfl,e,eb,q2⟩:=z
  obtain⟨ra,rb⟩:=r1
  cases(show w1=Value.ref b from ra)
  refine wpAny_holding ?_
  rw[List.forIn_cons]
  obtain⟨z,hd,xs,rel,dd⟩:=dt_of I2.hok e
  have hx:xs=[]:=by cases rel;rfl
  subst hx
  refine wpAny_bind (wpAny_bind (wpAny_bind (wpAny_dictSet_heap (hsz:=Nat.zero_le _) (show X.A.units<cLine from Nat.lt_of_succ_lt hu) (q6d I2.hok eb) dd fun h' dd' hs=>wpAny_pure ?_)))
  dsimp only
  rw[List.forIn_nil]
  refine wpAny_pure (wpAny_pure (wpAny_pure (wpAny_pure ⟨.ref s.heap.objs.size,_,?_,rfl,q2⟩)))
  obtain⟨qo,es,ep,hq,h2,h3,h4,_,h5⟩:=dd'
  refine q5L I2 (by rw[e];exact True.intro) hs ⟨qo,hq⟩ ⟨by show 1<=sizeLine;decide,hd,_,((show KT H2 [] [] from .nil).put k eb rb).keeps fun c ys ec=>?_,qo,es,ep,hq,h2,h3,h4,h5⟩
  rw[qp (q3y ec e (fun z=>nomatch z))]
  exact ec
end L2
namespace L2
open PySem PySem.Spec PyProof.Rows
def q9N:Expr->Bool
 | .Starred .. =>false
 |_=>true
theorem q1W {e:Expr}{es:List Expr}{env:Env}(h:q9N e=true):starEach (e::es) env=(false,eval e env)::starEach es env:=by
 cases e<;>first|rfl|cases h
section
variable {X:Cx}
def CDivB (i j:Int):Prop:=0<j/\j<2 ^ 8000
theorem q47:OpR X (binaryOp .FloorDiv) (rI CDivB fun i j=> .int (i / j)):=opI fun i j _ _ _ _ _ hc q=>by
 have h1:(0:Int)<j:=hc.1
 have h2:j<2 ^ 8000:=hc.2
 refine floordiv_int (by omega) (by rw[Int.fdiv_eq_ediv_of_nonneg i (by omega)];exact q) (.inl (PyProof.noPylong_of_log2 ?_))
 have h3:j.natAbs≠0:=by omega
 have h4:j.natAbs<2 ^ 9000:=by
  have e:((j.natAbs:Nat):Int)=j:=Int.natAbs_of_nonneg (by omega)
  have h5:(j.natAbs:Int)<((2 ^ 8000:Nat):Int):=by rw[e];push_cast;exact h2
  have h6:j.natAbs<2 ^ 8000:=by exact_mod_cast h5
  exact Nat.lt_of_lt_of_le h6 (Nat.pow_le_pow_right (by decide) (by decide))
 exact(Nat.log2_lt h3).mpr h4
end
end L2
namespace L2
open PySem PySem.Spec PyProof.Rows
section
variable {X:Cx}{e:Expr}{te:TE}
theorem bt_set:bootBuiltins "set"=some (.type "set"):=by decide +kernel
def dif (ns:List Int):Nat:=(firstMet (fun i=>ns.getD i 0) ns.length).length
def q72 (K:PySem.W.Frag)(te:TE):TE:=fun σ H Q=>te σ H fun v H1=>∃a ns,v= .ref a/\SqL K H1 a (ns.map V.int)/\ns.length<=50/\Q (.int (dif ns)) H1
theorem q7r {p1 p2 pos1 pos2:Pos}(K:PySem.W.Frag)(hc:X.calm=true)(hg1:Gl X "len")(hm1:X.mg "len"=none)(hg2:Gl X "set")(hm2:X.mg "set"=none)(he:PE X e te)(hp:q9N e=true:=by rfl)(hK:X.K=K:=by rfl):
  PE X (.Call (.Name "len" p1) [.Call (.Name "set" p2) [e] [] pos2] [] pos1) (q72 K te):=by
 subst hK
 intro pins s σ H Q I h
 refine wpAny_Call_Name_kw (q24 I hg1 hm1 qN ?_ (by decide) (by decide))
 refine PyProof.Rows.callWith_builtin1 ?_ rfl rfl
 show wpAny _ _ (spliced [(false,eval (.Call (.Name "set" p2) [e] [] pos2) X.env)]) _ _ s
 refine Calls.spliced_cons ?_
 refine wpAny_Call_Name_kw (q24 I hg2 hm2 bt_set ?_ (by decide) (by decide))
 refine PyProof.Rows.callWith_type1 ?_ (q1W hp) rfl
 rw[q1W hp]
 show wpAny _ _ (spliced [(false,eval e X.env)]) _ _ s
 refine Calls.spliced_cons (thn (he pins s σ H _ I h) fun u s1 ⟨x,H1,I1,r1,p,ns,hx,hq,hl,q⟩=>?_)
 subst hx
 cases r1
 refine Calls.spliced_nil ?_
 obtain⟨its,rv,pl,hz⟩:=I1.list hq
 have hi:=q3J rv
 have hn:=rv.length
 rw[List.length_map] at hn
 have hsb:100<scanBound:=by decide +kernel
 refine PySem.call_set_list (ns:=ns) (I1.ok.hd hc) pl.isList (by simpa using hi) (by rw[List.size_toArray];omega) fun h' tk hS k=>?_
 refine Calls.spliced_nil ?_
 have ez:its.toArray.size=ns.length:=by rw[List.size_toArray,hn]
 rw[ez] at hS
 have hd:=firstMet_length_le (fun i=>ns.getD i 0) ns.length
 have I2:Inv X pins σ H1 {s1 with heap:=h',toks:=tk}:=I1.kept fun b o z=>k b o (Heap.lt_size z) z
 obtain⟨o,es,ep,tb,ho,rest⟩:=hS
 obtain⟨hex,hd',_,_,_,hf,hn'⟩:=rest
 refine call_len_set ho hex hd' hf (by omega) ?_
 exact⟨.int (dif ns),H1,I2.tok _,⟨_,by rw[hn'];rfl⟩,q⟩
end
theorem q6f:∀(l a:List Int),(l.foldl step_dedup a).length<=a.length+l.length/\((l.foldl step_dedup a).length=a.length+l.length↔l.Nodup/\∀x∈l,x∉a)
 |[],a=>⟨Nat.le_refl _,by simp⟩
 |y::l,a=>by
  rw[List.foldl_cons]
  obtain⟨h1,h2⟩:=q6f l (step_dedup a y)
  by_cases hy:y∈a
  ·have e:step_dedup a y=a:=by
    unfold step_dedup
    rw[if_pos (List.any_eq_true.mpr ⟨y,hy,by simp⟩)]
   rw[e] at h1 h2 ⊢
   refine⟨by rw[List.length_cons];omega,⟨fun z=>?_,fun z=>absurd hy (z.2 y (by simp))⟩⟩
   rw[List.length_cons] at z
   omega
  ·have e:step_dedup a y=a++[y]:=by
    unfold step_dedup
    rw[if_neg]
    intro z
    obtain⟨x,hx,ex⟩:=List.any_eq_true.mp z
    have ex':x=y:=by simpa using ex
    exact hy (ex'▸hx)
   rw[e] at h1 h2 ⊢
   rw[List.length_append,List.length_singleton] at h1 h2
   rw[List.length_cons]
   refine⟨by omega,?_⟩
   rw[show a.length+(l.length+1)=a.length+1+l.length by omega,h2,List.nodup_cons]
   constructor
   ·rintro ⟨n,k⟩
    refine⟨⟨fun z=>k y z (by simp),n⟩,fun x hx=>?_⟩
    rcases List.mem_cons.mp hx with rfl|hx
    ·exact hy
    ·exact fun z=>k x hx (List.mem_append_left _ z)
   ·rintro ⟨⟨n1,n2⟩,k⟩
    refine⟨n2,fun x hx z=>?_⟩
    rcases List.mem_append.mp z with z|z
    ·exact k x (List.mem_cons_of_mem _ hx) z
    ·exact n1 ((List.mem_singleton.mp z)▸hx)
theorem dif_eq {ns:List Int}:dif ns=ns.length↔ns.Nodup:=by
 have e:(List.range ns.length).map (fun i=>ns.getD i 0)=ns:=by
  refine List.ext_getElem (by simp) fun i h1 h2=>?_
  simp[List.getD,h2]
 have h:=(q6f ns []).2
 unfold dif firstMet
 rw[e]
 simpa using h
end L2
namespace PySem
open Sem (wp)
section
variable {prog:Program}{w:World}{A:Around}{E:Value->Shared->Prop}{s:Shared}
theorem q6U {z TI TO i1 i2 t1 t2:Addr}{k:Nat}{xs ys:Array Value}{x y a b:Value}{Q:Value->Shared->Prop}(D:ZipApart z TI TO i1 i2 t1 t2)(Z0:IsZip s.heap z TI TO .none)(PI0:IsPair s.heap TI (.ref i1) (.ref i2))(PO0:IsPair s.heap TO a b)
  (w1:s.heap.IsListIter i1 t1 k)(w2:s.heap.IsTupleIter i2 t2 k)(p1:s.heap.IsList t1 xs)(p2:s.heap.IsTuple t2 ys)(ex:xs[k]? =some x)(ey:ys[k]? =some y)
  (fin:∀h',IsZip h' z TI TO (rawInt s.heap.objs.size)->IsPair h' TO x y->h'.IsListIter i1 t1 (k+1)->h'.IsTupleIter i2 t2 (k+1)->IsPair h' s.heap.objs.size x y->
   (∀c o,c≠z->c≠TO->c≠i1->c≠i2->s.heap.get? c=some o->h'.get? c=some o)->Q (.ref s.heap.objs.size) {s with heap:=h'}):
  wpAny (model prog w) A (Builtin.«zip.__next__» ⟨[.ref z],[]⟩) (fun fn s'=>∃v,fn= .done (.ret v)/\Q v s') E s:=by
 show wpAny _ _ (field (.ref z) 2 >>= _) _ _ _
 refine wpAny_bind (wpAny_field Z0 rfl (x:= .bool false) rfl ?_)
 show wpAny _ _ (field (.ref z) 3 >>= _) _ _ _
 refine wpAny_bind (wpAny_field Z0 rfl (x:= .ref TI) rfl (wpAny_bind (wpAny_seqItems PI0 rfl ?_)))
 show wpAny _ _ (Builtin.SmallTypes.ownedTupleIsFree (.ref z) >>= _) _ _ _
 refine wpAny_bind ?_
 unfold Builtin.SmallTypes.ownedTupleIsFree
 refine wpAny_bind (wpAny_field Z0 rfl (x:= .none) rfl (wpAny_pure ?_))
 simp only[if_true]
 refine wpAny_bind (wpAny_rule (wpAny_bind (wpAny_field Z0 rfl (x:= .ref TO) rfl ?_)))
 refine wpAny_bind (wpAny_setField_rec Z0 (by simp) fun g1 Z1 b1=>?_)
 replace Z1:IsZip g1 z TI TO .ellipsis:=Z1
 refine wpAny_bind ?_
 simp only[List.zipIdx_cons,List.zipIdx_nil,List.forIn_cons,List.forIn_nil]
 refine wpAny_bind (wpAny_bind (wpAny_onRaise ?_))
 show wpAny _ _ (Builtin.SmallTypes.nextOf (.ref i1) >>= _) _ _ _
 refine wpAny_bind (wpAny_nextOf_list_item (w1.extBut b1.extBut D.i1z) (p1.extBut b1.extBut D.l1z) ex fun g2 v1 b2=>wpAny_pure ?_)
 have PO2:IsPair g2 TO a b:=b2.extBut _ _ D.TOi1 (b1.extBut _ _ D.TOz PO0)
 refine wpAny_bind (wpAny_seqItems PO2 rfl (wpAny_bind (wpAny_updateSeq_pair PO2 fun g3 PO3 b3=>?_)))
 replace PO3:IsPair g3 TO x b:=PO3
 refine wpAny_bind (wpAny_letGo (wpAny_pure (wpAny_bind (wpAny_bind (wpAny_onRaise ?_)))))
 show wpAny _ _ (Builtin.SmallTypes.nextOf (.ref i2) >>= _) _ _ _
 have w2':g3.IsTupleIter i2 t2 k:=((w2.extBut b1.extBut D.i2z).extBut b2.extBut D.i12.symm).extBut b3.extBut D.TOi2.symm
 have p2':g3.IsTuple t2 ys:=((p2.extBut b1.extBut D.l2z).extBut b2.extBut D.l2i1).extBut b3.extBut D.l2TO
 refine wpAny_bind (q3I w2' p2' ey fun g4 v2 b4=>wpAny_pure ?_)
 have PO4:IsPair g4 TO x b:=b4.extBut _ _ D.TOi2 PO3
 refine wpAny_bind (wpAny_seqItems PO4 rfl (wpAny_bind (wpAny_updateSeq_pair PO4 fun g5 PO5 b5=>?_)))
 replace PO5:IsPair g5 TO x y:=PO5
 refine wpAny_bind (wpAny_letGo (wpAny_pure (wpAny_pure ?_)))
 refine wpAny_bind (wpAny_seqItems PO5 rfl (wpAny_bind (wpAny_newTuple ?_)))
 have e5:g5.objs.size=s.heap.objs.size:=by rw[b5.1,b4.1,b3.1,b2.1,b1.1]
 have Z5:IsZip g5 z TI TO .ellipsis:=b5.extBut _ _ D.TOz.symm (b4.extBut _ _ D.i2z.symm (b3.extBut _ _ D.TOz.symm (b2.extBut _ _ D.i1z.symm Z1)))
 have k5:∀c o,c≠z->c≠TO->c≠i1->c≠i2->s.heap.get? c=some o->g5.get? c=some o:=fun c o c1 c2 c3 c4 q=>b5.extBut _ _ c2 (b4.extBut _ _ c4 (b3.extBut _ _ c2 (b2.extBut _ _ c3 (b1.extBut _ _ c1 q))))
 have u1:g5.IsListIter i1 t1 (k+1):=((v1.extBut b3.extBut D.TOi1.symm).extBut b4.extBut D.i12).extBut b5.extBut D.TOi1.symm
 have u2:g5.IsTupleIter i2 t2 (k+1):=v2.extBut b5.extBut D.TOi2.symm
 have lz:z<g5.objs.size:=Heap.lt_size Z5
 show wpAny _ _ (Builtin.SmallTypes.ownedTupleHandOut (.ref z) (.ref g5.objs.size) >>= _) _ _ _
 refine wpAny_bind ?_
 unfold Builtin.SmallTypes.ownedTupleHandOut
 have Z6:IsZip (g5.push {cls:= .type "tuple",data:= .seq #[x,y]}) z TI TO .ellipsis:=Heap.get?_push_of_some _ Z5
 refine wpAny_bind (wpAny_setField_rec Z6 (by simp) fun g7 Z7 b7=>?_)
 replace Z7:IsZip g7 z TI TO (rawInt g5.objs.size):=Z7
 refine wpAny_setField_rec Z7 (by simp) fun g8 Z8 b8=>?_
 replace Z8:IsZip g8 z TI TO (rawInt g5.objs.size):=Z8
 have up:∀c o,c≠z->g5.get? c=some o->g8.get? c=some o:=fun c o c1 q=>b8.extBut _ _ c1 (b7.extBut _ _ c1 (Heap.get?_push_of_some _ q))
 have T8:IsPair g8 g5.objs.size x y:=b8.extBut _ _ (Nat.ne_of_gt lz) (b7.extBut _ _ (Nat.ne_of_gt lz) (Heap.get?_push_size _ rfl))
 rw[e5] at Z8 T8
 refine wpAny_pure ⟨_,rfl,?_⟩
 show Q (.ref g5.objs.size) _
 rw[e5]
 exact fin g8 Z8 (up _ _ D.TOz PO5) (u1.at fun o q=>up _ o D.i1z q) (u2.at2 fun o q=>up _ o D.i2z q) T8 fun c o c1 c2 c3 c4 q=>up c o c1 (k5 c o c1 c2 c3 c4 q)
theorem q8z {z TI TO i1 i2 t1 t2:Addr}{k:Nat}{xs ys:Array Value}{a b:Value}{Q:Fin->Shared->Prop}(hh:A.handled=none)(D:ZipApart z TI TO i1 i2 t1 t2)(Z0:IsZip s.heap z TI TO .none)(PI0:IsPair s.heap TI (.ref i1) (.ref i2))(PO0:IsPair s.heap TO a b)
  (w1:s.heap.IsListIter i1 t1 k)(w2:s.heap.IsTupleIter i2 t2 k)(p1:s.heap.IsList t1 xs)(p2:s.heap.IsTuple t2 ys)(over:xs[k]? =none\/ys[k]? =none)
  (fin:∀h' e,(∀c o,c≠z->c≠TO->c≠i1->c≠i2->s.heap.get? c=some o->h'.get? c=some o)->(∃o,h'.get? e=some o/\o.cls= .type "StopIteration")->E (.ref e) {s with heap:=h'}):
  wpAny (model prog w) A (Builtin.«zip.__next__» ⟨[.ref z],[]⟩) Q E s:=by
 show wpAny _ _ (field (.ref z) 2 >>= _) _ _ _
 refine wpAny_bind (wpAny_field Z0 rfl (x:= .bool false) rfl ?_)
 show wpAny _ _ (field (.ref z) 3 >>= _) _ _ _
 refine wpAny_bind (wpAny_field Z0 rfl (x:= .ref TI) rfl (wpAny_bind (wpAny_seqItems PI0 rfl ?_)))
 show wpAny _ _ (Builtin.SmallTypes.ownedTupleIsFree (.ref z) >>= _) _ _ _
 refine wpAny_bind ?_
 unfold Builtin.SmallTypes.ownedTupleIsFree
 refine wpAny_bind (wpAny_field Z0 rfl (x:= .none) rfl (wpAny_pure ?_))
 simp only[if_true]
 refine wpAny_bind (wpAny_rule (wpAny_bind (wpAny_field Z0 rfl (x:= .ref TO) rfl ?_)))
 refine wpAny_bind (wpAny_setField_rec Z0 (by simp) fun g1 Z1 b1=>?_)
 replace Z1:IsZip g1 z TI TO .ellipsis:=Z1
 refine wpAny_bind ?_
 simp only[List.zipIdx_cons,List.zipIdx_nil,List.forIn_cons,List.forIn_nil]
 refine wpAny_bind (wpAny_bind (wpAny_onRaise ?_))
 show wpAny _ _ (Builtin.SmallTypes.nextOf (.ref i1) >>= _) _ _ _
 cases ex:xs[k]? with
 |none=>
  refine wpAny_bind (wpAny_nextOf_list_end hh (w1.extBut b1.extBut D.i1z) (p1.extBut b1.extBut D.l1z) ex fun g2 e b2 ee=>?_)
  obtain⟨oe,he,ce⟩:=ee
  have Z2:IsZip g2 z TI TO .ellipsis:=b2 _ _ D.i1z.symm Z1
  have nz:e≠z:=fun q=>by subst q;rw[Z2] at he;cases he;simp at ce
  exact wpAny_setField_rec Z2 (by simp) fun g3 _ b3=>fin g3 e (fun c o c1 _ c3 _ q=>b3.extBut _ _ c1 (b2 _ _ c3 (b1.extBut _ _ c1 q))) ⟨oe,b3.extBut _ _ nz he,ce⟩
 |some x=>
  have ey:ys[k]? =none:=by rcases over with q|q;rw[ex] at q;cases q;exact q
  refine wpAny_bind (wpAny_nextOf_list_item (w1.extBut b1.extBut D.i1z) (p1.extBut b1.extBut D.l1z) ex fun g2 v1 b2=>wpAny_pure ?_)
  have PO2:IsPair g2 TO a b:=b2.extBut _ _ D.TOi1 (b1.extBut _ _ D.TOz PO0)
  refine wpAny_bind (wpAny_seqItems PO2 rfl (wpAny_bind (wpAny_updateSeq_pair PO2 fun g3 PO3 b3=>?_)))
  refine wpAny_bind (wpAny_letGo (wpAny_pure (wpAny_bind (wpAny_bind (wpAny_onRaise ?_)))))
  show wpAny _ _ (Builtin.SmallTypes.nextOf (.ref i2) >>= _) _ _ _
  have w2':g3.IsTupleIter i2 t2 k:=((w2.extBut b1.extBut D.i2z).extBut b2.extBut D.i12.symm).extBut b3.extBut D.TOi2.symm
  have p2':g3.IsTuple t2 ys:=((p2.extBut b1.extBut D.l2z).extBut b2.extBut D.l2i1).extBut b3.extBut D.l2TO
  refine wpAny_bind (q15 hh w2' p2' ey fun g4 e b4 ee=>?_)
  obtain⟨oe,he,ce⟩:=ee
  have Z4:IsZip g4 z TI TO .ellipsis:=b4 _ _ D.i2z.symm (b3.extBut _ _ D.TOz.symm (b2.extBut _ _ D.i1z.symm Z1))
  have nz:e≠z:=fun q=>by subst q;rw[Z4] at he;cases he;simp at ce
  exact wpAny_setField_rec Z4 (by simp) fun g5 _ b5=>fin g5 e (fun c o c1 c2 c3 c4 q=>b5.extBut _ _ c1 (b4 _ _ c4 (b3.extBut _ _ c2 (b2.extBut _ _ c3 (b1.extBut _ _ c1 q))))) ⟨oe,b5.extBut _ _ nz he,ce⟩
theorem q7A {z TI TO i1 i2 t1 t2:Addr}{k:Nat}{xs ys:Array Value}{x y a b:Value}{Q:Option Value->Shared->Prop}(D:ZipApart z TI TO i1 i2 t1 t2)(Z0:IsZip s.heap z TI TO .none)(PI0:IsPair s.heap TI (.ref i1) (.ref i2))(PO0:IsPair s.heap TO a b)
  (w1:s.heap.IsListIter i1 t1 k)(w2:s.heap.IsTupleIter i2 t2 k)(p1:s.heap.IsList t1 xs)(p2:s.heap.IsTuple t2 ys)(ex:xs[k]? =some x)(ey:ys[k]? =some y)
  (fin:∀h',IsZip h' z TI TO (rawInt s.heap.objs.size)->IsPair h' TO x y->h'.IsListIter i1 t1 (k+1)->h'.IsTupleIter i2 t2 (k+1)->IsPair h' s.heap.objs.size x y->
   (∀c o,c≠z->c≠TO->c≠i1->c≠i2->s.heap.get? c=some o->h'.get? c=some o)->Q (some (.ref s.heap.objs.size)) {s with heap:=h'}):
  wpAny (model prog w) A (pyNext (.ref z)) Q E s:=by
 have ty:s.TypeIs (.ref z) "zip":=⟨_,Z0,rfl⟩
 unfold pyNext
 exact wpAny_bind (wpAny_attempt (wpAny_callSpecial?_slot (name:=Str.ofString "__next__") ty F.slot_zip_next (wpAny_call_entry F.slot_zip_next ty F.entry_zip_next
  (q6U D Z0 PI0 PO0 w1 w2 p1 p2 ex ey fun h' a1 a2 a3 a4 a5 a6=>wpAny_pure (fin h' a1 a2 a3 a4 a5 a6)) (F.args_zip_next_1 _))))
theorem q49 {z TI TO i1 i2 t1 t2:Addr}{k:Nat}{xs ys:Array Value}{a b:Value}{Q:Option Value->Shared->Prop}(hh:A.handled=none)(D:ZipApart z TI TO i1 i2 t1 t2)(Z0:IsZip s.heap z TI TO .none)(PI0:IsPair s.heap TI (.ref i1) (.ref i2))(PO0:IsPair s.heap TO a b)
  (w1:s.heap.IsListIter i1 t1 k)(w2:s.heap.IsTupleIter i2 t2 k)(p1:s.heap.IsList t1 xs)(p2:s.heap.IsTuple t2 ys)(over:xs[k]? =none\/ys[k]? =none)
  (fin:∀h',(∀c o,c≠z->c≠TO->c≠i1->c≠i2->s.heap.get? c=some o->h'.get? c=some o)->Q none {s with heap:=h'}):wpAny (model prog w) A (pyNext (.ref z)) Q E s:=by
 have ty:s.TypeIs (.ref z) "zip":=⟨_,Z0,rfl⟩
 unfold pyNext
 refine wpAny_bind (wpAny_attempt (wpAny_callSpecial?_slot (name:=Str.ofString "__next__") ty F.slot_zip_next (wpAny_call_entry F.slot_zip_next ty F.entry_zip_next (q8z hh D Z0 PI0 PO0 w1 w2 p1 p2 over fun h' e hk he=>?_) (F.args_zip_next_1 _))))
 obtain⟨o,ho,hc⟩:=he
 exact wpAny_bind (wpAny_isInstance (T:="StopIteration") (b:=true) ⟨o,ho,hc⟩ isSubtype_stop (wpAny_pure (fin _ hk)))
end
abbrev zM1 (h:Heap)(t1:Addr):Heap:=h.push {cls:= .type "list_iterator",data:= .fields #[.ref t1,.int 0 0]}
abbrev zM2 (h:Heap)(t1 t2:Addr):Heap:=(zM1 h t1).push {cls:= .type "tuple_iterator",data:= .fields #[.ref t2,.int 0 0]}
abbrev zM3 (h:Heap)(t1 t2:Addr):Heap:=(zM2 h t1 t2).push {cls:= .type "tuple",data:= .seq #[.ref h.objs.size,.ref (zM1 h t1).objs.size]}
abbrev zM4 (h:Heap)(t1 t2:Addr):Heap:=(zM3 h t1 t2).push {cls:= .type "tuple",data:= .seq #[.none,.none]}
abbrev zM5 (h:Heap)(t1 t2:Addr):Heap:=(zM4 h t1 t2).push {cls:= .type "zip",data:= .fields #[.none,.bool false,.bool false,.ref (zM2 h t1 t2).objs.size,.ref (zM3 h t1 t2).objs.size]}
theorem q3z (t1 t2:Addr)(xs ys:Array Value):
  Meets (Builtin.«zip.__new__» ⟨[.type "zip",.ref t1,.ref t2],[]⟩) (fun _ R s=>s.heap.IsList t1 xs/\s.heap.IsTuple t2 ys/\R (.ok (.ret (.ref (zM4 s.heap t1 t2).objs.size))) {s with heap:=zM5 s.heap t1 t2}):=
 .of_wp fun prog w A R s h=>by
  obtain⟨hp,g,d,tk,os⟩:=s;obtain⟨q1,q2,h⟩:=h
  have hsub:=sub_zip
  have T1:Heap.IsList (Shared.heap ⟨hp,g,d,tk,os⟩) t1 xs:=q1
  have T2:Heap.IsTuple (Shared.heap ⟨hp.push {cls:= .type "list_iterator",data:= .fields #[.ref t1,.int 0 0]},g,d,tk,os⟩) t2 ys:=Heap.IsTuple.push q2 _
  wp_walk using wpAny_pyIter_list T1,wpAny_pyIter_tuple T2
  exact⟨_,rfl,h⟩
section
variable {prog:Program}{w:World}{A:Around}{E:Value->Shared->Prop}{s:Shared}
theorem q8q {t1 t2:Addr}{xs ys:Array Value}{Q:Value->Shared->Prop}(q1:s.heap.IsList t1 xs)(q2:s.heap.IsTuple t2 ys)
  (h:∀h',IsZip h' (s.heap.objs.size+4) (s.heap.objs.size+2) (s.heap.objs.size+3) .none->IsPair h' (s.heap.objs.size+2) (.ref s.heap.objs.size) (.ref (s.heap.objs.size+1))->
   IsPair h' (s.heap.objs.size+3) .none .none->h'.IsListIter s.heap.objs.size t1 0->h'.IsTupleIter (s.heap.objs.size+1) t2 0->
   (∀c o,s.heap.get? c=some o->h'.get? c=some o)->Q (.ref (s.heap.objs.size+4)) {s with heap:=h'}):
  wpAny (model prog w) A (call (.type "zip") [.ref t1,.ref t2]) Q E s:=by
 refine callType_new F.called_zip (by decide) (F.typeCall_zip_2 _ _) (F.newCall_zip_2 _ _) (fun obj=>F.args_object_init_3 obj _ _) F.entry_zip_new (q3z t1 t2 xs ys) ⟨q1,q2,?_⟩
 have z1:(zM1 s.heap t1).objs.size=s.heap.objs.size+1:=Heap.size_push ..
 have z2:(zM2 s.heap t1 t2).objs.size=s.heap.objs.size+2:=by rw[Heap.size_push,z1]
 have z3:(zM3 s.heap t1 t2).objs.size=s.heap.objs.size+3:=by rw[Heap.size_push,z2]
 have z4:(zM4 s.heap t1 t2).objs.size=s.heap.objs.size+4:=by rw[Heap.size_push,z3]
 have g5:(zM5 s.heap t1 t2).get? (zM4 s.heap t1 t2).objs.size=some _:=Heap.get?_push_size _ rfl
 have g4:(zM5 s.heap t1 t2).get? (zM3 s.heap t1 t2).objs.size=some _:=Heap.get?_push_of_some _ (Heap.get?_push_size _ rfl)
 have g3:(zM5 s.heap t1 t2).get? (zM2 s.heap t1 t2).objs.size=some _:=Heap.get?_push_of_some _ (Heap.get?_push_of_some _ (Heap.get?_push_size _ rfl))
 have g2:(zM5 s.heap t1 t2).get? (zM1 s.heap t1).objs.size=some _:=Heap.get?_push_of_some _ (Heap.get?_push_of_some _ (Heap.get?_push_of_some _ (Heap.get?_push_size _ rfl)))
 have g1:(zM5 s.heap t1 t2).get? s.heap.objs.size=some _:=Heap.get?_push_of_some _ (Heap.get?_push_of_some _ (Heap.get?_push_of_some _ (Heap.get?_push_of_some _ (Heap.get?_push_size _ rfl))))
 show _/\_
 rw[z2,z3,z4] at g5
 rw[z1,z2] at g3
 rw[z3] at g4
 rw[z1] at g2
 rw[z4]
 exact⟨⟨_,g5,rfl⟩,h _ g5 g3 g4 ⟨_,g1,rfl,rfl⟩ ⟨_,g2,rfl,rfl⟩ fun c o q=>Heap.get?_push_of_some _ (Heap.get?_push_of_some _ (Heap.get?_push_of_some _ (Heap.get?_push_of_some _ (Heap.get?_push_of_some _ q))))⟩
end
end PySem
namespace L2
open PySem PySem.Spec PyProof.Rows
def ItzM (K:PySem.W.Frag)(a b:Addr):It:=
 ⟨fun i H=>∃xs ys x y,SqL K H a xs/\SqT K H b ys/\xs[i]? =some x/\ys[i]? =some y,fun i H v H'=>∃T,H T=none/\v= .ref T/\∀xs ys x y,SqL K H a xs->SqT K H b ys->xs[i]? =some x->ys[i]? =some y->H'=upd H T (.tup [x,y]),
  fun i H=>∃xs ys,SqL K H a xs/\SqT K H b ys/\(xs.length<=i\/ys.length<=i)⟩
theorem q6X {P:Program}{w:World}{K:PySem.W.Frag}{elts:List Expr}{k:Nat}{tp:Pos}(a b z TI TO i1 i2:Addr)(D:ZipApart z TI TO i1 i2 a b):
  Turn P w K (.Tuple elts k tp) (ItzM K a b) [z,TI,TO,i1,i2] z (fun i h=>IsZip h z TI TO .none/\IsPair h TI (.ref i1) (.ref i2)/\(∃u v,IsPair h TO u v)/\h.IsListIter i1 a i/\h.IsTupleIter i2 b i) where
 mem:=by simp
 obj:=fun i h st c hc=>by
  obtain⟨q1,q2,⟨u,v,q3⟩,⟨o4,q4,_,d4⟩,⟨o5,q5,_,d5⟩⟩:=st
  simp only[List.mem_cons,List.not_mem_nil,or_false] at hc
  rcases hc with rfl|rfl|rfl|rfl|rfl
  ·exact ⟨_,q1,fun v z=>by cases z⟩
  ·exact ⟨_,q2,fun v z=>by cases z⟩
  ·exact ⟨_,q3,fun v z=>by cases z⟩
  ·exact ⟨_,q4,fun v z=>by rw[d4] at z;cases z⟩
  ·exact ⟨_,q5,fun v z=>by rw[d5] at z;cases z⟩
 keep:=fun i h h' st kk=>by
  obtain⟨q1,q2,⟨u,v,q3⟩,q4,q5⟩:=st
  exact⟨kk z (by simp) _ q1,kk TI (by simp) _ q2,⟨u,v,kk TO (by simp) _ q3⟩,q4.at fun o q=>kk i1 (by simp) o q,q5.at2 fun o q=>kk i2 (by simp) o q⟩
 item:=by
  intro X hP hw hK hc i pins s σ H E I hf st hg
  subst hP hw hK
  obtain⟨xs,ys,x,y,hqa,hqb,hx,hy⟩:=hg
  obtain⟨q1,q2,⟨u0,v0,q3⟩,q4,q5⟩:=st
  obtain⟨ia,ra,pa,hza⟩:=I.list hqa
  obtain⟨ib,rb,pb,hzb⟩:=I.tuple hqb
  have pa:s.heap.IsList a ia.toArray:=pa.isList
  have pb:s.heap.IsTuple b ib.toArray:=pb
  obtain⟨u,hu,ru⟩:=ra.get hx
  obtain⟨v,hv,rv⟩:=rb.get hy
  refine q7A D q1 q2 q3 q4 q5 pa pb (x:=u) (y:=v) (by simpa using hu) (by simpa using hv) fun h' a1 a2 a3 a4 a5 kk=>?_
  have kf:∀c o,c∉[z,TI,TO,i1,i2]->s.heap.get? c=some o->h'.get? c=some o:=fun c o hcc q=>kk c o (fun e=>hcc (by simp[e])) (fun e=>hcc (by simp[e])) (fun e=>hcc (by simp[e])) (fun e=>hcc (by simp[e])) q
  have ne:∀c∈[z,TI,TO,i1,i2],c≠s.heap.objs.size:=fun c hcc=>by
   obtain⟨o4,e4,_⟩:=q4
   obtain⟨o5,e5,_⟩:=q5
   simp only[List.mem_cons,List.not_mem_nil,or_false] at hcc
   rcases hcc with rfl|rfl|rfl|rfl|rfl
   ·exact Nat.ne_of_lt (Heap.lt_size q1)
   ·exact Nat.ne_of_lt (Heap.lt_size q2)
   ·exact Nat.ne_of_lt (Heap.lt_size q3)
   ·exact Nat.ne_of_lt (Heap.lt_size e4)
   ·exact Nat.ne_of_lt (Heap.lt_size e5)
  have I1:Inv X pins σ (upd H s.heap.objs.size (.tup [x,y])) {s with heap:=h',toks:=s.toks}:=I.yields (vals:=[u,v]) hf kf (Nat.le_refl _) ⟨_,a5,rfl,_,rfl⟩ (.cons ru (.cons rv .nil)) (by show 2<=sizeLine;decide)
  have hf1:=q7V (o:= .tup [x,y]) hf ne
  refine⟨_,rfl,wpAny_letOwnedTupleGo_zip a1 fun h'' Z2 sb=>?_⟩
  have I2:Inv X pins σ (upd H s.heap.objs.size (.tup [x,y])) {s with heap:=h'',toks:=s.toks}:=I1.turnedL (t':=s.toks) hf1 fun c o hcc q=>(sb.2 c fun e=>hcc (by simp[e])).trans q
  refine⟨.ref s.heap.objs.size,_,I2,rfl,⟨_,I.hok.fresh (Nat.le_refl _),rfl,fun xs' ys' x' y' hxs hys hx' hy'=>?_⟩,⟨Z2,sb.extBut _ _ D.TIz (kk _ _ D.TIz D.TITO D.TIi1 D.TIi2 q2),⟨u,v,sb.extBut _ _ D.TOz a2⟩,a3.extBut sb.extBut D.i1z,a4.extBut sb.extBut D.i2z⟩,fun c hcc=>(hf1 c hcc).1⟩
  have e1:=I.list_inj hxs hqa
  have e2:=I.tuple_inj hys hqb
  subst e1 e2
  rw[hx] at hx';rw[hy] at hy'
  rw[Option.some.inj hx',Option.some.inj hy']
 done:=by
  intro X hP hw hK hc i pins s σ H E I hf st hg
  subst hP hw hK
  obtain⟨xs,ys,hqa,hqb,over⟩:=hg
  obtain⟨q1,q2,⟨u0,v0,q3⟩,q4,q5⟩:=st
  obtain⟨ia,ra,pa,hza⟩:=I.list hqa
  obtain⟨ib,rb,pb,hzb⟩:=I.tuple hqb
  have la:=ra.length
  have lb:=rb.length
  refine q49 (I.ok.hd hc) D q1 q2 q3 q4 q5 pa.isList (show s.heap.IsTuple b ib.toArray from pb) ?_ fun h' kk=>⟨rfl,I.turnedL (t':=s.toks) hf fun c o hcc q=>kk c o (fun e=>hcc (by simp[e])) (fun e=>hcc (by simp[e])) (fun e=>hcc (by simp[e])) (fun e=>hcc (by simp[e])) q⟩
  rcases over with q|q
  ·exact .inl (by simp;omega)
  ·exact .inr (by simp;omega)
 self:=fun _ _ _ _ _ st h=>wpAny_pyIter_zip st.1 h
section
variable {X:Cx}{elts:List Expr}{k:Nat}{tp:Pos}
def qb6 (K:PySem.W.Frag)(ta:TA):TI:=fun σ H R=>ta σ H fun vs H1=>∃a b,vs=[.ref a,.ref b]/\(∃xs,SqL K H1 a xs)/\(∃ys,SqT K H1 b ys)/\R (ItzM K a b) H1
theorem qau {a b:Expr}{ta:TA}{p pos:Pos}(hg:Gl X "zip")(hm:X.mg "zip"=none)(ha:PA X [a,b] ta)(hs:starEach [a,b] X.env=[(false,eval a X.env),(false,eval b X.env)]:=by rfl)(hs2:starEach [b] X.env=[(false,eval b X.env)]:=by rfl):
  PI X (.Tuple elts k tp) (.Call (.Name "zip" p) [a,b] [] pos) (qb6 X.K ta):=by
 intro pins s σ H R I h
 refine Call_ (q24 I hg hm boot_zip (PyProof.Rows.callWith_type1 (thn (ha pos pins s σ H _ I h) fun us s1 ⟨vs,H1,I1,r1,q1⟩=>?_) (by rw[hs,hs2]) (by rw[hs2];rfl)))
 obtain⟨t1,t2,e,⟨xs,hqa⟩,⟨ys,hqb⟩,q⟩:=q1
 subst e
 obtain⟨u,v,rfl,rx,ry⟩:=qa6 r1
 cases rx
 cases ry
 obtain⟨ia,ra,pa,hza⟩:=I1.list hqa
 obtain⟨ib,rb,pb,hzb⟩:=I1.tuple hqb
 have pa:s1.heap.IsList t1 ia.toArray:=pa.isList
 have pb:s1.heap.IsTuple t2 ib.toArray:=pb
 have l1:t1<s1.heap.objs.size:=by obtain⟨o,q,_⟩:=pa;exact Heap.lt_size q
 have l2:t2<s1.heap.objs.size:=by obtain⟨o,q,_⟩:=pb;exact Heap.lt_size q
 refine q8q pa pb fun h' a1 a2 a3 a4 a5 kk=>wpAny_pyIter_zip a1 ?_
 refine⟨_,[s1.heap.objs.size+4,s1.heap.objs.size+2,s1.heap.objs.size+3,s1.heap.objs.size,s1.heap.objs.size+1],_,_,H1,rfl,I1.kept (t':=s1.toks) kk,q6X t1 t2 _ _ _ _ _ (zipApart_new l1 l2),⟨a1,a2,⟨_,_,a3⟩,a4,a5⟩,fun c hc=>?_,q⟩
 have up:∀n,FpOk X pins H1 (s1.heap.objs.size+n):=fun n=>I1.fpOk (Nat.le_add_right _ _) (I1.hok.fresh (Nat.le_add_right _ _))
 simp only[List.mem_cons,List.not_mem_nil,or_false] at hc
 rcases hc with rfl|rfl|rfl|rfl|rfl
 ·exact up 4
 ·exact up 2
 ·exact up 3
 ·exact up 0
 ·exact up 1
theorem q8T {a b:Expr}{t:TA}{p pos:Pos}(K:PySem.W.Frag)(hg:Gl X "zip")(hm:X.mg "zip"=none)(ha:PA X [a,b] t)(h:X.K=K:=by rfl)(hs:starEach [a,b] X.env=[(false,eval a X.env),(false,eval b X.env)]:=by rfl)(hs2:starEach [b] X.env=[(false,eval b X.env)]:=by rfl):
  PI X (.Tuple elts k tp) (.Call (.Name "zip" p) [a,b] [] pos) (qb6 K t):=by subst h;exact qau hg hm ha hs hs2
end
theorem q8d {K:PySem.W.Frag}{a b:Addr}{g:TG}{tc:TT}{te:TE}{R:Hp->Prop}{σ:St}{H:Hp}{D:Addr}(xs ys:List V)(hl:xs.length=ys.length)(Pv:Nat->St->Hp->Prop)(h0:Pv 0 σ H)(hx:∀i σ H,Pv i σ H->SqL K H a xs)(hy:∀i σ H,Pv i σ H->SqT K H b ys)
  (go:∀i x y σ H T,xs[i]? =some x->ys[i]? =some y->Pv i σ H->H T=none->g (.ref T) σ (upd H T (.tup [x,y])) fun σ3 H3=>tc σ3 H3 fun b H4=>
   if b=true then te σ3 H4 fun y H5=>∃ys,H5 D=some (.lst ys)/\ys.length<sizeLine/\Pv (i+1) σ3 (upd H5 D (.lst (ys++[y]))) else Pv (i+1) σ3 H4)(stop:∀σ H,Pv xs.length σ H->R H):q8y (ItzM K a b) g tc te R D σ H:=
 q3o xs.length Pv h0 (fun i σ H hi p=>⟨⟨xs,ys,xs[i],ys[i],hx i σ H p,hy i σ H p,by simp[hi],by simp[show i<ys.length by omega]⟩,fun x H' ⟨T,e1,e2,e3⟩=>by
  subst e2
  rw[e3 xs ys xs[i] ys[i] (hx i σ H p) (hy i σ H p) (by simp[hi]) (by simp[show i<ys.length by omega])]
  exact go i _ _ σ H T (by simp[hi]) (by simp[show i<ys.length by omega]) p e1⟩) fun σ H p=>⟨⟨xs,ys,hx _ σ H p,hy _ σ H p,.inl (Nat.le_refl _)⟩,stop σ H p⟩
end L2
namespace Dl
def fac:Nat->Int
 |0=>1
 |n+1=>fac n*((n:Int)+1)
theorem q2d:∀n,0<fac n
 |0=>by decide
 |n+1=>Int.mul_pos (q2d n) (by omega)
def divs (f:Int)(ss:List Int):Int:=ss.foldl (fun f s=>f / fac s.toNat) f
def pf:List Int->Int
 |[]=>1
 |s::ss=>fac s.toNat*pf ss
theorem q53:∀ss,0<pf ss
 |[]=>by decide
 |s::ss=>Int.mul_pos (q2d _) (q53 ss)
def ch:Nat->Nat->Int
 |0,_=>1
 |_+1,0=>1
 |a+1,b+1=>ch a (b+1)+ch (a+1) b
theorem q8n:∀a b,ch a b*fac a*fac b=fac (a+b)
 |0,b=>by rw[Nat.zero_add];simp[ch,fac]
 |a+1,0=>by simp[ch,fac]
 |a+1,b+1=>by
  have h1:=q8n a (b+1)
  have h2:=q8n (a+1) b
  rw[show a+1+b=a+(b+1) by omega] at h2
  have e1:fac (a+1)=fac a*((a:Int)+1):=rfl
  have e2:fac (b+1)=fac b*((b:Int)+1):=rfl
  have e3:fac (a+1+(b+1))=fac (a+(b+1))*((a:Int)+1+((b:Int)+1)):=by
   rw[show a+1+(b+1)=(a+(b+1))+1 by omega]
   show fac (a+(b+1))*(((a+(b+1):Nat):Int)+1)=_
   congr 1
   omega
  rw[e3]
  rw[show ch (a+1) (b+1)=ch a (b+1)+ch (a+1) b by rw[ch]]
  rw[e1] at h2
  rw[e2] at h1
  rw[e1,e2]
  grind
def NN (ss:List Int):Prop:=∀s∈ss,0<=s
theorem NN.sum:∀{ss:List Int},NN ss->0<=ss.sum
 |[],_=>by decide
 |s::ss,h=>by
  have h1:=h s List.mem_cons_self
  have h2:=NN.sum (ss:=ss) fun x hx=>h x (List.mem_cons_of_mem _ hx)
  rw[List.sum_cons]
  omega
def mn:List Int->Int
 |[]=>1
 |s::ss=>ch s.toNat ss.sum.toNat*mn ss
theorem q5F:∀{ss:List Int},NN ss->mn ss*pf ss=fac ss.sum.toNat
 |[],_=>by decide
 |s::ss,h=>by
  have h1:=h s List.mem_cons_self
  have h2:NN ss:=fun x hx=>h x (List.mem_cons_of_mem _ hx)
  have ih:=q5F h2
  have e:=q8n s.toNat ss.sum.toNat
  rw[List.sum_cons,show(s+ss.sum).toNat=s.toNat+ss.sum.toNat by have:=h2.sum;omega,<-e,<-ih]
  show ch s.toNat ss.sum.toNat*mn ss*(fac s.toNat*pf ss)=_
  grind
theorem q9Z:∀(ss:List Int) (q:Int),divs (q*pf ss) ss=q
 |[],q=>by show q*1=q;omega
 |s::ss,q=>by
  show divs (q*(fac s.toNat*pf ss) / fac s.toNat) ss=q
  rw[show q*(fac s.toNat*pf ss)=q*pf ss*fac s.toNat by grind,Int.mul_ediv_cancel _ (Int.ne_of_gt (q2d _))]
  exact q9Z ss q
theorem q86 {ss:List Int}(h:NN ss):divs (fac ss.sum.toNat) ss=mn ss:=by
 rw[<-q5F h]
 exact q9Z ss _
theorem q55 {ss:List Int}(h:NN ss):0<mn ss:=by
 have h1:=q5F h
 have h2:=q2d ss.sum.toNat
 have h3:=q53 ss
 rw[<-h1] at h2
 exact Int.pos_of_mul_pos_left h2 h3
def dec (ss:List Int)(j:Nat):List Int:=ss.set j (ss.getD j 0 - 1)
theorem qbk (ss:List Int)(j:Nat):(dec ss j).length=ss.length:=List.length_set
theorem q7c:∀(ss:List Int) (j:Nat) (v:Int),j<ss.length->(ss.set j v).sum=ss.sum - ss.getD j 0+v
 |[],j,v,h=>absurd h (by simp)
 |s::ss,0,v,h=>by simp;omega
 |s::ss,j+1,v,h=>by
  have:=q7c ss j v (by simpa using h)
  simp only[List.set_cons_succ,List.sum_cons,this]
  simp[List.getD]
  omega
theorem q2C {ss:List Int}{j:Nat}(h:j<ss.length):(dec ss j).sum=ss.sum - 1:=by
 unfold dec
 rw[q7c _ _ _ h]
 omega
theorem NN.dec {ss:List Int}{j:Nat}(h:NN ss)(h1:1<=ss.getD j 0):NN (dec ss j):=fun x hx=>by
 unfold Dl.dec at hx
 rcases List.mem_or_eq_of_mem_set hx with hx|rfl
 ·exact h x hx
 ·omega
theorem q7Z {s:Int}(h:1<=s):fac s.toNat=fac (s - 1).toNat*s:=by
 obtain⟨n,rfl⟩:∃n:Nat,s=(n:Int)+1:=⟨(s - 1).toNat,by omega⟩
 rw[show((n:Int)+1).toNat=n+1 by omega,show((n:Int)+1 - 1).toNat=n by omega]
 rfl
theorem q9O:∀(ss:List Int) (j:Nat),j<ss.length->1<=ss.getD j 0->pf ss=pf (dec ss j)*ss.getD j 0
 |[],j,h,_=>absurd h (by simp)
 |s::ss,0,h,h1=>by
  have h1':1<=s:=by simpa using h1
  have e:=q7Z h1'
  show fac s.toNat*pf ss=fac (s - 1).toNat*pf ss*s
  rw[e]
  grind
 |s::ss,j+1,h,h1=>by
  have ih:=q9O ss j (by simpa using h) (by simpa using h1)
  have e:(s::ss).getD (j+1) 0=ss.getD j 0:=by simp
  have e2:dec (s::ss) (j+1)=s::dec ss j:=by unfold dec;rw[e];rfl
  rw[e2,e]
  show fac s.toNat*pf ss=fac s.toNat*pf (dec ss j)*ss.getD j 0
  rw[ih]
  grind
def ob (ss:List Int)(j:Nat):Int:=mn ss*ss.getD j 0 / ss.sum
theorem qbb {ss:List Int}{n:Int}(h:1<=n)(e:ss.sum=n - 1):fac n.toNat=fac ss.sum.toNat*n:=by
 rw[e]
 exact q7Z h
theorem q9T {ss:List Int}{j:Nat}(h:NN ss)(hj:j<ss.length)(h1:1<=ss.getD j 0)(hs:1<=ss.sum):mn ss*ss.getD j 0=mn (dec ss j)*ss.sum:=by
 have a:=q5F h
 have b:=q5F (h.dec h1)
 have c:=q9O ss j hj h1
 have d:=qbb (ss:=dec ss j) hs (q2C hj)
 have p:=q53 (dec ss j)
 rw[d,<-b,c] at a
 have e:mn ss*ss.getD j 0*pf (dec ss j)=mn (dec ss j)*ss.sum*pf (dec ss j):=by grind
 exact Int.eq_of_mul_eq_mul_right (Int.ne_of_gt p) e
theorem q9a {ss:List Int}{j:Nat}(h:NN ss)(hj:j<ss.length)(h1:1<=ss.getD j 0)(hs:1<=ss.sum):ob ss j=mn (dec ss j):=by
 unfold ob
 rw[q9T h hj h1 hs,Int.mul_ediv_cancel _ (by omega)]
theorem q7z {ss:List Int}{j:Nat}(h0:ss.getD j 0=0):ob ss j=0:=by
 unfold ob
 rw[h0]
 simp
theorem q4c {ss:List Int}(h:NN ss)(j:Nat):0<=ss.getD j 0:=by
 by_cases hj:j<ss.length
 ·rw [show ss.getD j 0=ss[j] by simp[List.getD,hj]]
  exact h _ (List.getElem_mem hj)
 ·rw [show ss.getD j 0=0 by simp[List.getD,show ss.length<=j by omega]]
  omega
theorem ob_mul {ss:List Int}{j:Nat}(h:NN ss)(hj:j<ss.length)(hs:1<=ss.sum):ob ss j*ss.sum=mn ss*ss.getD j 0:=by
 have:=q4c h j
 by_cases h0:ss.getD j 0=0
 ·rw [q7z h0,h0];simp
 ·rw [q9a h hj (by omega) hs,q9T h hj (by omega) hs]
theorem ob_nn {ss:List Int}{j:Nat}(h:NN ss):0<=ob ss j:=by
 unfold ob
 exact Int.ediv_nonneg (Int.mul_nonneg (Int.le_of_lt (q55 h)) (q4c h j)) h.sum
def pre (ss:List Int):Nat->Int
 |0=>0
 |j+1=>pre ss j+ob ss j
theorem q8B {ss:List Int}{j:Nat}(hj:j<ss.length):(ss.take (j+1)).sum=(ss.take j).sum+ss.getD j 0:=by
 rw[List.take_succ_eq_append_getElem hj,List.sum_append]
 simp[List.getD,hj]
theorem q7l {ss:List Int}(h:NN ss)(hs:1<=ss.sum):∀j,j<=ss.length->pre ss j*ss.sum=mn ss*(ss.take j).sum
 |0,_=>by simp[pre]
 |j+1,hj=>by
  have ih:=q7l h hs j (by omega)
  have e:=ob_mul h (j:=j) (by omega) hs
  rw[q8B (by omega)]
  show(pre ss j+ob ss j)*ss.sum=_
  grind
theorem q7m {ss:List Int}(h:NN ss)(hs:1<=ss.sum):pre ss ss.length=mn ss:=by
 have:=q7l h hs ss.length (Nat.le_refl _)
 rw[List.take_length] at this
 exact Int.eq_of_mul_eq_mul_right (by omega) this
theorem q30 {ss:List Int}(h:NN ss){i:Nat}:∀{j:Nat},i<=j->pre ss i<=pre ss j
 |0,hij=>by rw[show i=0 by omega];exact Int.le_refl _
 |j+1,hij=>by
  by_cases e:i=j+1
  ·rw [e];exact Int.le_refl _
  ·have:=q30 h (i:=i) (j:=j) (by omega)
   have:=ob_nn h (j:=j)
   show _<=pre ss j+ob ss j
   omega
theorem pre_nn {ss:List Int}(h:NN ss)(j:Nat):0<=pre ss j:=q30 h (i:=0) (j:=j) (by omega)
def enc:List Int->List Nat->Int
 |_,[]=>0
 |ss,o::ds=>pre ss o+enc (dec ss o) ds
def Val:List Int->List Nat->Prop
 |ss,[]=>ss.sum=0
 |ss,o::ds=>o<ss.length/\1<=ss.getD o 0/\Val (dec ss o) ds
theorem q35:∀{ds:List Nat} {ss:List Int},Val ss ds->ss.sum=ds.length
 |[],ss,h=>h
 |o::ds,ss,⟨h1,_,h3⟩=>by
  have:=q35 h3
  rw[q2C h1] at this
  rw[List.length_cons]
  omega
theorem q9W:∀{ds:List Nat} {ss:List Int},NN ss->Val ss ds->0<=enc ss ds/\enc ss ds<mn ss
 |[],ss,h,_=>⟨Int.le_refl _,q55 h⟩
 |o::ds,ss,h,⟨h1,h2,h3⟩=>by
  have ih:=q9W (h.dec h2) h3
  have hs:1<=ss.sum:=by
   have:=q35 h3
   rw[q2C h1] at this
   omega
  have e:=q9a h h1 h2 hs
  have m:=q30 h (i:=o+1) (j:=ss.length) h1
  rw[q7m h hs] at m
  have m':pre ss o+ob ss o<=mn ss:=m
  have p:=pre_nn h o
  show 0<=pre ss o+enc (dec ss o) ds/\pre ss o+enc (dec ss o) ds<mn ss
  omega
theorem q6h {ss:List Int}(h:NN ss){n:Int}(h0:0<=n):∀l,n<pre ss l->∃o,o<l/\pre ss o<=n/\n<pre ss (o+1)
 |0,hl=>absurd hl (by show¬n<0;omega)
 |l+1,hl=>by
  by_cases e:n<pre ss l
  ·obtain ⟨o,h1,h2⟩:=q6h h h0 l e
   exact⟨o,by omega,h2⟩
  ·exact ⟨l,by omega,by omega,hl⟩
theorem q6k:∀(m:Nat) {ss:List Int},NN ss->ss.sum=m->∀n,0<=n->n<mn ss->∃ds,Val ss ds/\enc ss ds=n
 |0,ss,h,hm,n,h0,h1=>by
  have e:=q5F h
  rw[hm] at e
  have p:=q53 ss
  have q:mn ss<=1:=by
   have e':mn ss*pf ss=1:=e
   have:=q55 h
   have:mn ss*1<=mn ss*pf ss:=Int.mul_le_mul_of_nonneg_left (by omega) (by omega)
   omega
  exact⟨[],hm,by show(0:Int)=n;omega⟩
 |m+1,ss,h,hm,n,h0,h1=>by
  have hs:1<=ss.sum:=by omega
  rw[<-q7m h hs] at h1
  obtain⟨o,ho,h2,h3⟩:=q6h h h0 _ h1
  have h3':n<pre ss o+ob ss o:=h3
  have g0:=q4c h o
  have g1:1<=ss.getD o 0:=by
   rcases Int.lt_or_le 0 (ss.getD o 0) with g|g
   ·omega
   ·rw [q7z (by omega)] at h3'
    omega
  rw[q9a h ho g1 hs] at h3'
  obtain⟨ds,v,e⟩:=q6k m (h.dec g1) (by rw[q2C ho];omega) (n - pre ss o) (by omega) (by omega)
  exact⟨o::ds,⟨ho,g1,v⟩,by show pre ss o+enc (dec ss o) ds=n;omega⟩
end Dl
namespace Mine
open PySem L2
theorem bl0 {P:List Value->Prop}(h:P []):∀us:List Value,us.length=0->P us:=fun us e=>by cases us with|nil=>exact h|cons=>cases e
theorem blS {n:Nat}{P:List Value->Prop}(h:∀a (us:List Value),us.length=n->P (a::us)):∀us:List Value,us.length=n+1->P us:=fun us e=>by cases us with|nil=>cases e|cons a us=>exact h a us (Nat.succ.inj e)
def top (i:Nat):Stmt:=PySem.Challenge.pw_delve_k56_whole_good_dealings.main.body.getD i (.Pass ⟨0,0,0,0⟩)
abbrev q7g:Stmt:=top 0
abbrev q2X:Stmt:=top 9
abbrev q2h:Stmt:=top 10
abbrev q1L:Stmt:=top 11
abbrev q2i:Stmt:=top 20
abbrev q3Y:Stmt:=top 42
abbrev q64:Stmt:=top 43
abbrev q0C:Stmt:=top 44
abbrev q1h:Stmt:=top 52
abbrev q38:Stmt:=top 53
abbrev q0P:Stmt:=top 54
abbrev q18:Stmt:=top 55
abbrev q0c:Stmt:=top 56
abbrev q1e:Stmt:=top 59
abbrev q1K:Stmt:=top 61
abbrev q3Z:Stmt:=top 66
abbrev q0U:Stmt:=top 67
abbrev q39:Stmt:=top 68
abbrev q4X:Stmt:=top 69
abbrev q2g:Stmt:=top 70
abbrev q0I:Stmt:=top 71
abbrev q0y:Stmt:=top 72
abbrev q0p:Stmt:=top 73
abbrev q17:Stmt:=top 74
abbrev q1f:Stmt:=top 75
abbrev q1O:Stmt:=top 76
abbrev q2Y:Stmt:=top 77
abbrev q0o:Stmt:=top 78
abbrev q1g:Stmt:=top 79
abbrev q1i:Stmt:=top 81
abbrev q0z:Stmt:=top 82
abbrev q0D:Stmt:=top 83
abbrev qO:Stmt:=top 84
abbrev q0O:Stmt:=top 85
abbrev q03:Stmt:=top 86
abbrev q0V:Stmt:=top 87
abbrev q2O:Stmt:=top 88
abbrev q1w:Stmt:=qH (top 13) 0
abbrev qR:Stmt:=qH (top 13) 1
abbrev q0X:Stmt:=qH (top 14) 0
abbrev q0W:Stmt:=qH (top 14) 1
abbrev q1y:Stmt:=qH (top 15) 0
abbrev q1x:Stmt:=qH (top 15) 1
abbrev q1v:Stmt:=qH (top 16) 0
abbrev q1u:Stmt:=qH (top 16) 1
abbrev q1Q:Stmt:=qH (top 17) 0
abbrev q1P:Stmt:=qH (top 17) 1
abbrev q1k:Stmt:=qH (top 18) 0
abbrev q1j:Stmt:=qH (top 18) 1
abbrev q0Z:Stmt:=qH (top 19) 0
abbrev q0Y:Stmt:=qH (top 19) 1
abbrev q1z:Stmt:=qH (top 46) 0
abbrev q00:Stmt:=qH (top 46) 1
abbrev qS:Stmt:=qH (top 46) 2
abbrev qE:Stmt:=qH (top 46) 4
abbrev q2j:Stmt:=qH (top 47) 0
abbrev q2k:Stmt:=qH (top 47) 1
abbrev q2l:Stmt:=qH (top 47) 2
abbrev q1r:Stmt:=qH (top 48) 0
abbrev q1s:Stmt:=qH (top 48) 1
abbrev q1t:Stmt:=qH (top 48) 2
abbrev q1o:Stmt:=qH (top 49) 0
abbrev q1p:Stmt:=qH (top 49) 1
abbrev q1q:Stmt:=qH (top 49) 2
abbrev q1l:Stmt:=qH (top 50) 0
abbrev q1m:Stmt:=qH (top 50) 1
abbrev q1n:Stmt:=qH (top 50) 2
abbrev q0J:Stmt:=qH (top 51) 0
abbrev q0K:Stmt:=qH (top 51) 1
abbrev q0L:Stmt:=qH (top 51) 2
theorem q7f:FnScope ["number","least","most"] ["number","least","most"] (qf q2X):=⟨rfl,rfl,rfl,by decide +kernel,rfl,by decide +kernel,by decide +kernel⟩
theorem q6C:FnScope ["bits","place"] ["bits","place"] (qf q2h):=⟨rfl,rfl,rfl,by decide +kernel,rfl,by decide +kernel,by decide +kernel⟩
theorem q3D:FnScope ["parts","place","part"] ["parts","place","part"] (qf q1L):=⟨rfl,rfl,rfl,by decide +kernel,rfl,by decide +kernel,by decide +kernel⟩
theorem q3C:FnScope ["gate","word"] ["gate"] (qf q2i):=⟨rfl,rfl,rfl,by decide +kernel,rfl,by decide +kernel,by decide +kernel⟩
theorem q8G:FnScope ["cellar"] ["cellar"] (qf q3Y):=⟨rfl,rfl,rfl,by decide +kernel,rfl,by decide +kernel,by decide +kernel⟩
theorem q2v:FnScope ["cellar","stand","counts","number","thing","kind"] ["cellar","stand"] (qf q64):=⟨rfl,rfl,rfl,by decide +kernel,rfl,by decide +kernel,by decide +kernel⟩
theorem q3T:FnScope ["cellar"] ["cellar"] (qf q0C):=⟨rfl,rfl,rfl,by decide +kernel,rfl,by decide +kernel,by decide +kernel⟩
theorem q4E:FnScope ["way","room"] ["way","room"] (qf q1h):=⟨rfl,rfl,rfl,by decide +kernel,rfl,by decide +kernel,by decide +kernel⟩
theorem q8H:FnScope ["cellar","stand"] ["cellar","stand"] (qf q38):=⟨rfl,rfl,rfl,by decide +kernel,rfl,by decide +kernel,by decide +kernel⟩
theorem q4D:FnScope ["cellar","stand"] ["cellar","stand"] (qf q0P):=⟨rfl,rfl,rfl,by decide +kernel,rfl,by decide +kernel,by decide +kernel⟩
theorem q5x:FnScope ["cellar"] ["cellar"] (qf q18):=⟨rfl,rfl,rfl,by decide +kernel,rfl,by decide +kernel,by decide +kernel⟩
theorem q0B:FnScope ["cellar","pulls","takes","turns","unlocks"] ["cellar"] (qf q0c):=⟨rfl,rfl,rfl,by decide +kernel,rfl,by decide +kernel,by decide +kernel⟩
theorem q01:FnScope ["cellar","begin","walk","row","place","here","pairs","deed","other"] ["cellar","begin"] (qf q1e):=⟨rfl,rfl,rfl,by decide +kernel,rfl,by decide +kernel,by decide +kernel⟩
theorem q6D:FnScope ["cellar","walk"] ["cellar","walk"] (qf q1K):=⟨rfl,rfl,rfl,by decide +kernel,rfl,by decide +kernel,by decide +kernel⟩
theorem q8I:FnScope ["kinds","size"] ["kinds","size"] (qf q3Z):=⟨rfl,rfl,rfl,by decide +kernel,rfl,by decide +kernel,by decide +kernel⟩
theorem qT:FnScope ["kinds","size","number","most","shares","dealing","left","place","own"] ["kinds","size","number"] (qf q0U):=⟨rfl,rfl,rfl,by decide +kernel,rfl,by decide +kernel,by decide +kernel⟩
theorem q63:FnScope ["cellar","places","dealing","things"] ["cellar","places","dealing"] (qf q39):=⟨rfl,rfl,rfl,by decide +kernel,rfl,by decide +kernel,by decide +kernel⟩
theorem q5w:FnScope ["cellar","kinds","places","size","many"] ["cellar","kinds","places"] (qf q4X):=⟨rfl,rfl,rfl,by decide +kernel,rfl,by decide +kernel,by decide +kernel⟩
theorem q6B:FnScope ["cellar"] ["cellar"] (qf q2g):=⟨rfl,rfl,rfl,by decide +kernel,rfl,by decide +kernel,by decide +kernel⟩
theorem q1X:FnScope ["kinds","kind"] ["kinds"] (qf q0I):=⟨rfl,rfl,rfl,by decide +kernel,rfl,by decide +kernel,by decide +kernel⟩
theorem q1J:FnScope ["cellar","places","room"] ["cellar","places"] (qf q0y):=⟨rfl,rfl,rfl,by decide +kernel,rfl,by decide +kernel,by decide +kernel⟩
theorem q2M:FnScope ["dealing"] ["dealing"] (qf q0p):=⟨rfl,rfl,rfl,by decide +kernel,rfl,by decide +kernel,by decide +kernel⟩
theorem q5v:FnScope ["dealing"] ["dealing"] (qf q17):=⟨rfl,rfl,rfl,by decide +kernel,rfl,by decide +kernel,by decide +kernel⟩
theorem q1I:FnScope ["kinds","size","shares","kind"] ["kinds","size"] (qf q1f):=⟨rfl,rfl,rfl,by decide +kernel,rfl,by decide +kernel,by decide +kernel⟩
theorem q5u:FnScope ["kind"] ["kind"] (qf q1O):=⟨rfl,rfl,rfl,by decide +kernel,rfl,by decide +kernel,by decide +kernel⟩
theorem q2f:FnScope ["shares","found","share"] ["shares"] (qf q2Y):=⟨rfl,rfl,rfl,by decide +kernel,rfl,by decide +kernel,by decide +kernel⟩
theorem q2L:FnScope ["shares","own"] ["shares","own"] (qf q0o):=⟨rfl,rfl,rfl,by decide +kernel,rfl,by decide +kernel,by decide +kernel⟩
theorem q0T:FnScope ["number","found","factor"] ["number"] (qf q1g):=⟨rfl,rfl,rfl,by decide +kernel,rfl,by decide +kernel,by decide +kernel⟩
theorem q4F:FnScope ["_law_script","_law_k"] ["_law_script","_law_k"] (qf q1i):=⟨rfl,rfl,rfl,by decide +kernel,rfl,by decide +kernel,by decide +kernel⟩
theorem q0n:FnScope ["_law_number","_law_made","_law_k"] ["_law_number"] (qf q0z):=⟨rfl,rfl,rfl,by decide +kernel,rfl,by decide +kernel,by decide +kernel⟩
theorem q0H:FnScope ["_law_kinds","_law_size","_law_made","_law_kind"] ["_law_kinds","_law_size"] (qf q0D):=⟨rfl,rfl,rfl,by decide +kernel,rfl,by decide +kernel,by decide +kernel⟩
theorem qw:FnScope ["_law_script","_law_cell_here","_law_rooms","_law_ways","_law_wheels","_law_k","_law_kind","_law_some","_law_a","_law_b","_law_levers","_law_own","_law_ends","_law_more"] ["_law_script"] (qf qO):=⟨rfl,rfl,rfl,by decide +kernel,rfl,by decide +kernel,by decide +kernel⟩
theorem q29:FnScope ["_law_one","_law_things","_law_place","_law_kind","_law_taken","_law_doors"] ["_law_one","_law_things","_law_place","_law_kind"] (qf q0O):=⟨rfl,rfl,rfl,by decide +kernel,rfl,by decide +kernel,by decide +kernel⟩
theorem qm:FnScope ["_law_one","_law_things","_law_place","_law_room","_law_taken","_law_opened","_law_bars","_law_water","_law_found","_law_w","_law_a","_law_b","_law_gate","_law_back","_law_lets","_law_t","_law_lever","_law_wheel"] ["_law_one","_law_things","_law_place"] (qf q03):=⟨rfl,rfl,rfl,by decide +kernel,rfl,by decide +kernel,by decide +kernel⟩
theorem q0e:FnScope ["_law_one","_law_things","_law_todo","_law_seen","_law_at","_law_place"] ["_law_one","_law_things"] (qf q0V):=⟨rfl,rfl,rfl,by decide +kernel,rfl,by decide +kernel,by decide +kernel⟩
theorem q0S:FnScope ["_law_script","_law_one","_law_cell_here","_law_left","_law_places","_law_k","_law_kinds","_law_due","_law_number","_law_dealing","_law_things","_law_handed","_law_found"] ["_law_script"] (qf q2O):=⟨rfl,rfl,rfl,by decide +kernel,rfl,by decide +kernel,by decide +kernel⟩
theorem q4S:FnScope ["self","word","numbers"] ["self","word","numbers"] (qf q1w):=⟨rfl,rfl,rfl,by decide +kernel,rfl,by decide +kernel,by decide +kernel⟩
theorem q3V:FnScope ["self"] ["self"] (qf q0X):=⟨rfl,rfl,rfl,by decide +kernel,rfl,by decide +kernel,by decide +kernel⟩
theorem q3U:FnScope ["self","held","opened","bars","water"] ["self","held","opened","bars","water"] (qf q0W):=⟨rfl,rfl,rfl,by decide +kernel,rfl,by decide +kernel,by decide +kernel⟩
theorem q4U:FnScope ["self","kind"] ["self","kind"] (qf q1y):=⟨rfl,rfl,rfl,by decide +kernel,rfl,by decide +kernel,by decide +kernel⟩
theorem q4T:FnScope ["self","held","opened","bars","water"] ["self","held","opened","bars","water"] (qf q1x):=⟨rfl,rfl,rfl,by decide +kernel,rfl,by decide +kernel,by decide +kernel⟩
theorem q4R:FnScope ["self","kind"] ["self","kind"] (qf q1v):=⟨rfl,rfl,rfl,by decide +kernel,rfl,by decide +kernel,by decide +kernel⟩
theorem q4Q:FnScope ["self","held","opened","bars","water"] ["self","held","opened","bars","water"] (qf q1u):=⟨rfl,rfl,rfl,by decide +kernel,rfl,by decide +kernel,by decide +kernel⟩
theorem q5A:FnScope ["self","bar"] ["self","bar"] (qf q1Q):=⟨rfl,rfl,rfl,by decide +kernel,rfl,by decide +kernel,by decide +kernel⟩
theorem q5z:FnScope ["self","held","opened","bars","water"] ["self","held","opened","bars","water"] (qf q1P):=⟨rfl,rfl,rfl,by decide +kernel,rfl,by decide +kernel,by decide +kernel⟩
theorem q4H:FnScope ["self","height","kind"] ["self","height","kind"] (qf q1k):=⟨rfl,rfl,rfl,by decide +kernel,rfl,by decide +kernel,by decide +kernel⟩
theorem q4G:FnScope ["self","held","opened","bars","water"] ["self","held","opened","bars","water"] (qf q1j):=⟨rfl,rfl,rfl,by decide +kernel,rfl,by decide +kernel,by decide +kernel⟩
theorem q3X:FnScope ["self","height"] ["self","height"] (qf q0Z):=⟨rfl,rfl,rfl,by decide +kernel,rfl,by decide +kernel,by decide +kernel⟩
theorem q3W:FnScope ["self","held","opened","bars","water"] ["self","held","opened","bars","water"] (qf q0Y):=⟨rfl,rfl,rfl,by decide +kernel,rfl,by decide +kernel,by decide +kernel⟩
theorem q4W:FnScope ["self","word","number","part"] ["self","word","number","part"] (qf q1z):=⟨rfl,rfl,rfl,by decide +kernel,rfl,by decide +kernel,by decide +kernel⟩
theorem q5y:FnScope ["self","cellar","stand"] ["self","cellar","stand"] (qf q00):=⟨rfl,rfl,rfl,by decide +kernel,rfl,by decide +kernel,by decide +kernel⟩
theorem q4V:FnScope ["self"] ["self"] (qf qS):=⟨rfl,rfl,rfl,by decide +kernel,rfl,by decide +kernel,by decide +kernel⟩
theorem q2N:FnScope ["self","cellar"] ["self","cellar"] (qf qE):=⟨rfl,rfl,rfl,by decide +kernel,rfl,by decide +kernel,by decide +kernel⟩
theorem q6E:FnScope ["self","number"] ["self","number"] (qf q2j):=⟨rfl,rfl,rfl,by decide +kernel,rfl,by decide +kernel,by decide +kernel⟩
theorem q2w:FnScope ["self","cellar","stand","way","opened"] ["self","cellar","stand"] (qf q2k):=⟨rfl,rfl,rfl,by decide +kernel,rfl,by decide +kernel,by decide +kernel⟩
theorem q2x:FnScope ["self","cellar","stand","way","other_end"] ["self","cellar","stand"] (qf q2l):=⟨rfl,rfl,rfl,by decide +kernel,rfl,by decide +kernel,by decide +kernel⟩
theorem q4N:FnScope ["self","number"] ["self","number"] (qf q1r):=⟨rfl,rfl,rfl,by decide +kernel,rfl,by decide +kernel,by decide +kernel⟩
theorem q4O:FnScope ["self","cellar","stand"] ["self","cellar","stand"] (qf q1s):=⟨rfl,rfl,rfl,by decide +kernel,rfl,by decide +kernel,by decide +kernel⟩
theorem q4P:FnScope ["self","cellar","stand"] ["self","cellar","stand"] (qf q1t):=⟨rfl,rfl,rfl,by decide +kernel,rfl,by decide +kernel,by decide +kernel⟩
theorem q4K:FnScope ["self","number"] ["self","number"] (qf q1o):=⟨rfl,rfl,rfl,by decide +kernel,rfl,by decide +kernel,by decide +kernel⟩
theorem q4L:FnScope ["self","cellar","stand"] ["self","cellar","stand"] (qf q1p):=⟨rfl,rfl,rfl,by decide +kernel,rfl,by decide +kernel,by decide +kernel⟩
theorem q4M:FnScope ["self","cellar","stand"] ["self","cellar","stand"] (qf q1q):=⟨rfl,rfl,rfl,by decide +kernel,rfl,by decide +kernel,by decide +kernel⟩
theorem q4I:FnScope ["self","number"] ["self","number"] (qf q1l):=⟨rfl,rfl,rfl,by decide +kernel,rfl,by decide +kernel,by decide +kernel⟩
theorem q2H:FnScope ["self","cellar","stand","wheel"] ["self","cellar","stand"] (qf q1m):=⟨rfl,rfl,rfl,by decide +kernel,rfl,by decide +kernel,by decide +kernel⟩
theorem q4J:FnScope ["self","cellar","stand"] ["self","cellar","stand"] (qf q1n):=⟨rfl,rfl,rfl,by decide +kernel,rfl,by decide +kernel,by decide +kernel⟩
theorem q3w:FnScope ["self","number"] ["self","number"] (qf q0J):=⟨rfl,rfl,rfl,by decide +kernel,rfl,by decide +kernel,by decide +kernel⟩
theorem q13:FnScope ["self","cellar","stand","way","gate"] ["self","cellar","stand"] (qf q0K):=⟨rfl,rfl,rfl,by decide +kernel,rfl,by decide +kernel,by decide +kernel⟩
theorem q3x:FnScope ["self","cellar","stand"] ["self","cellar","stand"] (qf q0L):=⟨rfl,rfl,rfl,by decide +kernel,rfl,by decide +kernel,by decide +kernel⟩
structure Cs where
 Gate:Addr
 Plain:Addr
 Door:Addr
 Need:Addr
 Bar:Addr
 Wade:Addr
 Float:Addr
 Deed:Addr
 Go:Addr
 Pull:Addr
 Take:Addr
 Turn:Addr
 Unlock:Addr
structure TxtR (a:Str->Value->Prop)(n:Str->Prop)(cs:Cs):Prop where
 n_bool:n "bool"
 n_enumerate:n "enumerate"
 n_int:n "int"
 n_isinstance:n "isinstance"
 n_len:n "len"
 n_list:n "list"
 n_min:n "min"
 n_range:n "range"
 n_set:n "set"
 n_sum:n "sum"
 n_tuple:n "tuple"
 n_zip:n "zip"
 e_BARS:∃t,a "BARS" (.int 3 t)
 e_FIRST:∃t,a "FIRST" (.int 1 t)
 e_FIRST_BARS:∃t,a "FIRST_BARS" (.int 7 t)
 e_FIRST_WATER:∃t,a "FIRST_WATER" (.int 8 t)
 e_LAST:∃t,a "LAST" (.int 2 t)
 e_LAST_KIND:∃t,a "LAST_KIND" (.int 11 t)
 e_LEVERS:∃t,a "LEVERS" (.int 5 t)
 e_MOST_DEALINGS:∃t,a "MOST_DEALINGS" (.int 60 t)
 e_MOST_KINDS:∃t,a "MOST_KINDS" (.int 8 t)
 e_MOST_PLACES:∃t,a "MOST_PLACES" (.int 14 t)
 e_MOST_STANDS:∃t,a "MOST_STANDS" (.int 300 t)
 e_OPENED:∃t,a "OPENED" (.int 2 t)
 e_PAIR_NUMBER:∃t,a "PAIR_NUMBER" (.int 1 t)
 e_PAIR_ROOM:∃t,a "PAIR_ROOM" (.int 0 t)
 e_ROOM:∃t,a "ROOM" (.int 0 t)
 e_ROOMS:∃t,a "ROOMS" (.int 0 t)
 e_TAKEN:∃t,a "TAKEN" (.int 1 t)
 e_THINGS:∃t,a "THINGS" (.int 4 t)
 e_WATER:∃t,a "WATER" (.int 4 t)
 e_WAYS:∃t,a "WAYS" (.int 3 t)
 e_WAY_A:∃t,a "WAY_A" (.int 0 t)
 e_WAY_B:∃t,a "WAY_B" (.int 1 t)
 e_WAY_BACK:∃t,a "WAY_BACK" (.int 3 t)
 e_WAY_GATE:∃t,a "WAY_GATE" (.int 2 t)
 e_WHEELS:∃t,a "WHEELS" (.int 6 t)
 c_Gate:a "Gate" (.ref cs.Gate)
 c_Plain:a "Plain" (.ref cs.Plain)
 c_Door:a "Door" (.ref cs.Door)
 c_Need:a "Need" (.ref cs.Need)
 c_Bar:a "Bar" (.ref cs.Bar)
 c_Wade:a "Wade" (.ref cs.Wade)
 c_Float:a "Float" (.ref cs.Float)
 c_Deed:a "Deed" (.ref cs.Deed)
 c_Go:a "Go" (.ref cs.Go)
 c_Pull:a "Pull" (.ref cs.Pull)
 c_Take:a "Take" (.ref cs.Take)
 c_Turn:a "Turn" (.ref cs.Turn)
 c_Unlock:a "Unlock" (.ref cs.Unlock)
abbrev Txt (mg:Str->Option Value)(cs:Cs):Prop:=TxtR (fun x v=>mg x=some v) (fun x=>mg x=none) cs
theorem TxtR.up {a a':Str->Value->Prop}{n n':Str->Prop}{cs:Cs}(h1:∀x v,a x v->a' x v)(h2:∀x,n x->n' x)(t:TxtR a n cs):TxtR a' n' cs:=⟨h2 _ t.n_bool,h2 _ t.n_enumerate,h2 _ t.n_int,h2 _ t.n_isinstance,h2 _ t.n_len,h2 _ t.n_list,h2 _ t.n_min,h2 _ t.n_range,h2 _ t.n_set,h2 _ t.n_sum,h2 _ t.n_tuple,h2 _ t.n_zip,t.e_BARS.imp fun _=>h1 _ _,t.e_FIRST.imp fun _=>h1 _ _,t.e_FIRST_BARS.imp fun _=>h1 _ _,t.e_FIRST_WATER.imp fun _=>h1 _ _,t.e_LAST.imp fun _=>h1 _ _,t.e_LAST_KIND.imp fun _=>h1 _ _,t.e_LEVERS.imp fun _=>h1 _ _,t.e_MOST_DEALINGS.imp fun _=>h1 _ _,t.e_MOST_KINDS.imp fun _=>h1 _ _,t.e_MOST_PLACES.imp fun _=>h1 _ _,t.e_MOST_STANDS.imp fun _=>h1 _ _,t.e_OPENED.imp fun _=>h1 _ _,t.e_PAIR_NUMBER.imp fun _=>h1 _ _,t.e_PAIR_ROOM.imp fun _=>h1 _ _,t.e_ROOM.imp fun _=>h1 _ _,t.e_ROOMS.imp fun _=>h1 _ _,t.e_TAKEN.imp fun _=>h1 _ _,t.e_THINGS.imp fun _=>h1 _ _,t.e_WATER.imp fun _=>h1 _ _,t.e_WAYS.imp fun _=>h1 _ _,t.e_WAY_A.imp fun _=>h1 _ _,t.e_WAY_B.imp fun _=>h1 _ _,t.e_WAY_BACK.imp fun _=>h1 _ _,t.e_WAY_GATE.imp fun _=>h1 _ _,t.e_WHEELS.imp fun _=>h1 _ _,h1 _ _ t.c_Gate,h1 _ _ t.c_Plain,h1 _ _ t.c_Door,h1 _ _ t.c_Need,h1 _ _ t.c_Bar,h1 _ _ t.c_Wade,h1 _ _ t.c_Float,h1 _ _ t.c_Deed,h1 _ _ t.c_Go,h1 _ _ t.c_Pull,h1 _ _ t.c_Take,h1 _ _ t.c_Turn,h1 _ _ t.c_Unlock⟩
structure Tcl (K:W.Frag)(cs:Cs):Prop where
 cl_Plain:Cls K cs.Plain
 no_Plain_numbers:qF K cs.Plain "numbers"
 no_Plain_word:qF K cs.Plain "word"
 cl_Door:Cls K cs.Door
 no_Door_numbers:qF K cs.Door "numbers"
 no_Door_word:qF K cs.Door "word"
 cl_Need:Cls K cs.Need
 no_Need_kind:qF K cs.Need "kind"
 no_Need_numbers:qF K cs.Need "numbers"
 no_Need_word:qF K cs.Need "word"
 cl_Bar:Cls K cs.Bar
 no_Bar_bar:qF K cs.Bar "bar"
 no_Bar_numbers:qF K cs.Bar "numbers"
 no_Bar_word:qF K cs.Bar "word"
 cl_Wade:Cls K cs.Wade
 no_Wade_height:qF K cs.Wade "height"
 no_Wade_kind:qF K cs.Wade "kind"
 no_Wade_numbers:qF K cs.Wade "numbers"
 no_Wade_word:qF K cs.Wade "word"
 cl_Float:Cls K cs.Float
 no_Float_height:qF K cs.Float "height"
 no_Float_numbers:qF K cs.Float "numbers"
 no_Float_word:qF K cs.Float "word"
 cl_Go:Cls K cs.Go
 no_Go_number:qF K cs.Go "number"
 no_Go_part:qF K cs.Go "part"
 no_Go_word:qF K cs.Go "word"
 cl_Pull:Cls K cs.Pull
 no_Pull_number:qF K cs.Pull "number"
 no_Pull_part:qF K cs.Pull "part"
 no_Pull_word:qF K cs.Pull "word"
 cl_Take:Cls K cs.Take
 no_Take_number:qF K cs.Take "number"
 no_Take_part:qF K cs.Take "part"
 no_Take_word:qF K cs.Take "word"
 cl_Turn:Cls K cs.Turn
 no_Turn_number:qF K cs.Turn "number"
 no_Turn_part:qF K cs.Turn "part"
 no_Turn_word:qF K cs.Turn "word"
 cl_Unlock:Cls K cs.Unlock
 no_Unlock_number:qF K cs.Unlock "number"
 no_Unlock_part:qF K cs.Unlock "part"
 no_Unlock_word:qF K cs.Unlock "word"
-- ROOM 13
-- SLIM
-- DROP ok_deed_of
-- DROP ok_behind
-- DROP ok_deedsAt
-- PATCHED
-- DROP ok_cell
-- DROP ok_gate
-- DROP ok_heldL
-- DROP ok_cellar
-- DROP stand_b
-- DROP ok_stand
-- DROP vm_dtext
-- DROP vm_told
-- DROP vm_text
local macro_rules| `(tactic| walk_at "ne")=> `(tactic| refine ifd (fun h=>absurd h (by decide +kernel)) (fun _=>?_))
local macro_rules| `(tactic| walk_at "eq")=> `(tactic| refine ifd (fun _=>?_) (fun h=>absurd rfl h))
local macro_rules| `(tactic| walk_at "at")=> `(tactic| first|rfl|exact atI0|exact qbr (by assumption)|exact q0i (by assumption)|assumption)
local macro_rules| `(tactic| walk_at "hp")=> `(tactic| first|with_reducible assumption|with_reducible exact qg|((with_reducible apply q12);(rotate_left;(with_reducible assumption));walk_at "hp")|exact qg)
local macro_rules| `(tactic| walk_at "sq")=> `(tactic| first|with_reducible assumption|((with_reducible apply SqT.of);walk_at "hp")|((with_reducible apply SqL.of);walk_at "hp")|((with_reducible refine' Same.seq ?s ?h);(case h=>with_reducible assumption);(case s=>walk_at "sm"))|((with_reducible refine' Same.tup ?s ?h);(case h=>with_reducible assumption);(case s=>walk_at "sm")))
local macro_rules| `(tactic| walk_at "sm")=> `(tactic| first|with_reducible assumption|with_reducible exact Same.refl _|((with_reducible refine Same.trans ?_ (Same.upd (by assumption)));walk_at "sm"))
local macro_rules| `(tactic| walk_at "side")=> `(tactic| first|assumption|omega|(exact⟨by omega,by omega⟩)|(exact Or.inl ⟨by omega,by omega⟩)|(exact Or.inr ⟨by omega,by omega⟩)|(exact⟨by omega,by omega,by omega⟩)|(exact⟨by omega,by omega,by decide⟩)|(exact⟨⟨by omega,by omega⟩,by omega,by omega⟩))
local macro_rules| `(tactic| walk_at "rd1")=> `(tactic| first|((with_reducible refine' r_var ?h ?_);(case h=>rfl))|with_reducible refine' r_op ?_|with_reducible refine' r_c ?_|with_reducible refine' r_cons ?_|with_reducible refine' r_nil ?_|with_reducible refine' r_seq ?_|with_reducible refine' r_asg ?_|with_reducible refine' r_name ?_|with_reducible refine' r_call ?_|with_reducible refine' r_cb ?_|with_reducible refine' r_I0 ?_|with_reducible refine' r_test ?_|with_reducible refine' r_bl ?_|with_reducible refine' r_B ?_|with_reducible refine' r_ifS ?_|with_reducible refine' r_ret ?_|with_reducible refine' r_eqI ?_|with_reducible refine' r_eqS ?_|with_reducible refine' r_eqB ?_|with_reducible refine' r_neI ?_|with_reducible refine' r_neS ?_|with_reducible refine' r_neB ?_|with_reducible refine' r_and ?_|with_reducible refine' r_or ?_|with_reducible refine' r_not ?_|with_reducible refine' r_un ?_|with_reducible refine' r_U ?_|with_reducible refine' r_isN ?_|with_reducible refine' r_notN ?_|with_reducible refine' r_andV ?_|with_reducible refine' r_orV ?_|with_reducible refine' r_notV ?_|with_reducible refine' r_if ?_|with_reducible refine' r_tup ?_|with_reducible refine' r_lst ?_|with_reducible refine' r_sl ?_|with_reducible refine' r_np ?_|with_reducible refine' r_pt ?_|with_reducible refine' r_int ?_|with_reducible refine' r_fld0 ?_|with_reducible refine' qah ?_|with_reducible refine' r_vm0 ?_|with_reducible refine' r_make ?_|with_reducible refine' qal ?_|with_reducible refine' r_max2 ?_|with_reducible refine' r_min2 ?_|with_reducible refine' r_inti ?_|with_reducible refine' r_intb ?_|with_reducible refine' r_strs ?_|with_reducible refine' r_next ?_|with_reducible refine' r_drop ?_|with_reducible refine' r_sub ?_|with_reducible refine' r_augS ?_|with_reducible refine' r_ipI ?_|with_reducible refine' r_gc ?_|with_reducible refine' r_gn ?_|with_reducible refine' r_retN ?_|with_reducible refine' r_bm ?_|with_reducible refine' r_bm0 ?_|with_reducible refine' r_for ?_|with_reducible refine' r_rng1 ?_|with_reducible refine' r_rng2 ?_|with_reducible refine' r_comp ?_|with_reducible refine' r_yes ?_|with_reducible refine' r_iL ?_|with_reducible refine' r_iT ?_|with_reducible refine' r_eL ?_|with_reducible refine' r_eT ?_|with_reducible refine' iteT ?_|with_reducible refine' iteF ?_|with_reducible refine' ifnT ?_|with_reducible refine' ifnF ?_|with_reducible refine' r_fs ?_|with_reducible refine' r_fv ?_|with_reducible refine' r_callD ?_|with_reducible refine' r_callK ?_|with_reducible refine' q8N ?_|with_reducible refine' q8O ?_|with_reducible refine' r_isi_bb ?_|with_reducible refine' r_isi_bi ?_|with_reducible refine' r_isi_ss ?_|with_reducible refine' r_isi_sb ?_|with_reducible refine' r_isi_si ?_|with_reducible refine' r_isi_st ?_|with_reducible refine' r_isi_it ?_|with_reducible refine' r_isi_bt ?_|with_reducible refine' r_isi_is ?_|with_reducible refine' r_isi_bs ?_|with_reducible refine' q8L ?_|with_reducible refine' r_notT0 ?_|with_reducible refine' r_dnew ?_|with_reducible refine' r_dget ?_|with_reducible refine' r_din ?_|with_reducible refine' r_dnin ?_|with_reducible refine' r_dput ?_|with_reducible refine' r_hold ?_|with_reducible refine' r_dk ?_|with_reducible refine' r_dp ?_|((with_reducible refine' r_I ?h ?_);(case h=>walk_at "side"))|((with_reducible refine' r_al ?h ?_);(case h=>rfl))|((with_reducible refine' r_aug ?h ?_);(case h=>rfl))|((with_reducible refine' r_augN ?h ?_);(case h=>rfl))|((with_reducible refine' q2P ?h ?e ?_);(case h=>walk_at "sq");(case e=>walk_at "at"))|((with_reducible refine' q3a ?h ?e ?_);(case h=>walk_at "sq");(case e=>walk_at "at"))|((with_reducible refine' r_ixU ?h ?e ?_);(case h=>assumption);(case e=>walk_at "at"))|((with_reducible refine' r_lenT ?h ?_);(case h=>walk_at "sq"))|((with_reducible refine' r_lenL ?h ?_);(case h=>walk_at "sq"))|((with_reducible refine' r_lenU ?h ?_);(case h=>assumption))|((with_reducible refine' r_refT ?h ?_);(case h=>walk_at "sq"))|((with_reducible refine' r_refL ?h ?_);(case h=>walk_at "sq"))|((with_reducible refine' qai ?h ?_);(case h=>walk_at "sq"))|((with_reducible refine' qaj ?h ?_);(case h=>walk_at "sq"))|((with_reducible refine' r_tyL ?h ?_);(case h=>walk_at "hp"))|((with_reducible refine' r_isi_tt ?h ?_);(case h=>walk_at "hp"))|((with_reducible refine' r_isi_tl ?h ?_);(case h=>walk_at "hp"))|((with_reducible refine' q8M ?h ?_);(case h=>walk_at "hp"))|((with_reducible refine' r_isi_lt ?h ?_);(case h=>walk_at "hp"))|((with_reducible refine' r_gT ?h ?e ?_);(case h=>walk_at "sq");(case e=>rfl))|((with_reducible refine' r_gL ?h ?e ?_);(case h=>walk_at "sq");(case e=>rfl))|((with_reducible refine' r_rg ?h ?_);(case h=>walk_at "side"))|((with_reducible refine' r_rg2 ?h ?_);(case h=>walk_at "side")))
local macro_rules| `(tactic| walk_at "rd")=> `(tactic| repeat (walk_at "rd1"))
open Ce Dl
def q5t:Sp:=fun vs H Q _=>∃x t,vs=[.int x,.int t]/\0<=t/\Q (.bl (bit x t.toNat)) H
def q5n:Sp:=fun vs H Q _=>∃(p:Addr) (C:Cl),vs=[.ref p]/\ClAt H p C/\∀(q:Addr) (H':Hp),Same H H'->H' q=some (.tup [.int C.fst,.int 0,.int 0,.int C.bars,.int C.water])->Q (.ref q) H'
def dkV (g:Gt):V:=match g.dk with
 |some k=> .int k
 |none=> .non
def spDk:Sp:=fun vs H Q _=>∃(p:Addr) (C:Cl),vs=[.ref p]/\ClAt H p C/\ClOk C/\∀(q:Addr) (H':Hp),Same H H'->H q=none->H' q=some (.lst (C.ways.map fun x=>dkV x.g))->Q (.ref q) H'
def q61:Sp:=fun vs H Q _=>∃(p q:Addr) (C:Cl) (rm tk op b wt:Int),vs=[.ref p,.ref q]/\ClAt H p C/\ClOk C/\H q=some (.tup [.int rm,.int tk,.int op,.int b,.int wt])/\(∀i,i<C.ways.length->bit op i=true->(dsOf C i).isSome=true)/\
 ∀(r:Addr) (H':Hp),Same H H'->H r=none->H' r=some (.lst (cl (hold C tk op)))->Q (.ref r) H'
theorem q4j {xs:List Int}{j:Nat}(h:j<xs.length):atI (xs.map V.int) (j:Int)=some (.int (xs.getD j 0)):=q0i (by simp[List.getD,h])
theorem q8g {C:Cl}{tk k:Int}{i:Nat}(hi:i<C.things.length):(cnt (tP C tk k) (i+1):Int)=(cnt (tP C tk k) i:Int)+(if bit tk i=true then(if k=C.things[i].2 then 1 else 0) else 0):=by
 show((cnt _ i+_:Nat):Int)=_
 have e:C.things.getD i (0,0)=C.things[i]:=by simp[List.getD,hi]
 unfold tP
 rw[e]
 by_cases h1:bit tk i=true
 ·by_cases h2:C.things[i].2=k
  ·simp [h1,h2]
  ·have:¬k=C.things[i].2:=fun z=>h2 z.symm
   simp[h1,h2,this]
 ·simp [h1]
theorem q8j {C:Cl}{op k:Int}{i:Nat}(hi:i<C.ways.length):(cnt (dP (dsOf C) op k) (i+1):Int)=(cnt (dP (dsOf C) op k) i:Int)+(if bit op i=true then(if C.ways[i].g.dk=some k then 1 else 0) else 0):=by
 show((cnt _ i+_:Nat):Int)=_
 have e:dsOf C i=C.ways[i].g.dk:=by simp[dsOf,hi]
 unfold dP
 rw[e]
 by_cases h1:bit op i=true
 ·by_cases h2:C.ways[i].g.dk=some k
  ·simp [h1,h2]
  ·simp [h1,h2]
 ·simp [h1]
section
variable {P:Program}{w:World}{K:W.Frag}{mg:Str->Option Value}{base:Heap}{cs:Cs}
theorem q6J (T:Txt mg cs)(L:Laid K mg "has_bit" q2h ["bits","place"]):Cal P w K mg base 1 "has_bit" ["bits","place"] q5t:=by
 refine L.cal (k:=0) q6C (fun vs H Q E h=>?_) (fun f cdv A outer s H vs Q E hr h=>?_)
 ·obtain ⟨x,t,rfl,_⟩:=h
  rfl
 ·obtain ⟨x,t,rfl,h0,k⟩:=h
  refine⟨_,(qh (qz (qX q07 (ql q3H (ql q3F (pv 0) (pv 1)) qi) qi (qy _)))),?_⟩
  walk_at "rd"
  rw[q1c]
  exact k
theorem q91 (T:Txt mg cs)(L:Laid K mg "start" q3Y ["cellar"]):Cal P w K mg base 1 "start" ["cellar"] q5n:=by
 obtain⟨t1,e_FIRST⟩:=T.e_FIRST
 obtain⟨t2,e_FIRST_BARS⟩:=T.e_FIRST_BARS
 obtain⟨t3,e_FIRST_WATER⟩:=T.e_FIRST_WATER
 refine L.cal (k:=0) q8G (fun vs H Q E h=>?_) (fun f cdv A outer s H vs Q E hr h=>?_)
 ·obtain ⟨p,C,rfl,_⟩:=h
  rfl
 ·obtain ⟨p,C,rfl,hC,k⟩:=h
  obtain⟨pw,pt,pl,pv',h0,_⟩:=hC.ex
  refine⟨_,(qh (qz (qJ (qc (qq (qj K) (pv 0) (qk (v:= .int 1) rfl e_FIRST ⟨_,rfl⟩) (fun _ _=>rfl)) (qc qi (qc qi (qc (qq (qj K) (pv 0) (qk (v:= .int 7) rfl e_FIRST_BARS ⟨_,rfl⟩) (fun _ _=>rfl)) (qc (qq (qj K) (pv 0) (qk (v:= .int 8) rfl e_FIRST_WATER ⟨_,rfl⟩) (fun _ _=>rfl)) qd)))))))),?_⟩
  walk_at "rd"
  intro q hq
  exact k q _ (Same.upd hq) qg
theorem ok_dk (T:Txt mg cs)(L:Laid K mg "door_kinds" q0C ["cellar"]):Cal P w K mg base 1 "door_kinds" ["cellar"] spDk:=by
 obtain⟨t1,e_WAYS⟩:=T.e_WAYS
 refine L.cal (k:=0) q3T (fun vs H Q E h=>?_) (fun f cdv A outer s H vs Q E hr h=>?_)
 ·obtain ⟨p,C,rfl,_⟩:=h
  rfl
 ·obtain ⟨p,C,rfl,hC,ok,k⟩:=h
  obtain⟨pw,pt,pl,pv',h0,h1,_⟩:=hC.ex
  obtain⟨wv,hw,hwl,hwg⟩:=h1.get
  have big:=qG
  refine⟨_,(qh (qz (q1B (q0v (N:=["a","b","gate","back"]) (own:=4) (caps:=[]) ["cellar"] (qf q0C) (by decide +kernel)) rfl (q45 K (qq (qj K) (pv 0) (qk (v:= .int 3) rfl e_WAYS ⟨_,rfl⟩) (fun _ _=>rfl))) (fun _ _ _ _=>(q2b (n:=4) K rfl (qP (qu (i:=0) (show List.Nodup (["a","b","gate","back"]:List Str) by decide +kernel) rfl (Or.inl rfl)) (qP (qu (i:=1) (show List.Nodup (["a","b","gate","back"]:List Str) by decide +kernel) rfl (Or.inl rfl)) (qP (qu (i:=2) (show List.Nodup (["a","b","gate","back"]:List Str) by decide +kernel) rfl (Or.inl rfl)) (qP (qu (i:=3) (show List.Nodup (["a","b","gate","back"]:List Str) by decide +kernel) rfl (Or.inl rfl)) q2a)))))) (fun _ _ _ _=>q2p) (fun _ _ _ _=>(q32 (qC q07 (qq (qj K) (pv 2) qi (fun _ _=>rfl)) qQ (qy _)) (qq (qj K) (pv 2) qi (fun _ _=>rfl)) q9Q))))),?_⟩
  walk_at "rd"
  intro D hD
  refine q6l wv (fun i σ H'=>∃v0 v1 v2 v3,σ=[v0,v1,v2,v3]/\Same H H'/\H' D=some (.lst ((C.ways.take i).map fun x=>dkV x.g))) ⟨none,none,none,none,rfl,Same.upd hD,by rw[qg];rfl⟩ ?_ ?_ ?_
  ·rintro i σ H' ⟨_,_,_,_,rfl,s1,_⟩
   exact SqT.of (s1 _ _ hw)
  ·rintro i x σ H' hx ⟨v0,v1,v2,v3,rfl,s1,hD1⟩
   have hi:i<C.ways.length:=by rw[<-hwl];exact(List.getElem?_eq_some_iff.mp hx).1
   obtain⟨p1,e,g,hp1,hg⟩:=hwg i hi
   rw[hx] at e
   cases e
   have hp2:=s1 _ _ hp1
   have hg2:=s1 _ _ hg
   have hl:=ok.wl
   rw[Gt.vs_eq] at hg2
   have fin:∀v,v=dkV C.ways[i].g->∃ys,H' D=some (.lst ys)/\ys.length<sizeLine/\∃v0 v1 v2 v3,([some (.int C.ways[i].a),some (.int C.ways[i].b),some (.ref g),some (.bl C.ways[i].back)]:St)=[v0,v1,v2,v3]/\Same H (upd H' D (.lst (ys++[v])))/\(upd H' D (.lst (ys++[v]))) D=some (.lst ((C.ways.take (i+1)).map fun x=>dkV x.g)):=by
    intro v ev
    subst ev
    refine⟨_,hD1,by simp;omega,_,_,_,_,rfl,s1.put hD,?_⟩
    rw[qg,q6Z (fun x:Way=>dkV x.g) C.ways hi]
   walk_at "rd"
   refine ifd (fun hd=>?_) (fun hd=>?_)
   ·obtain ⟨k1,ek⟩:=q84 hd
    rw[ek] at hg2
    walk_at "rd"
    exact fin _ (by rw[ek];rfl)
   ·walk_at "rd"
    refine fin _ ?_
    cases eg:C.ways[i].g with
    |door k1=>rw[eg] at hd;exact absurd rfl hd
    |_=>rfl
  ·rintro σ H' ⟨_,_,_,_,rfl,s1,hD1⟩
   rw[show wv.length=C.ways.length from hwl,List.take_length] at hD1
   exact k D H' s1 hD hD1
theorem qaI (T:Txt mg cs)(L:Laid K mg "held" q64 ["cellar","stand"])(C_has_bit:Cal P w K mg base 1 "has_bit" ["bits","place"] q5t)(C_door_kinds:Cal P w K mg base 1 "door_kinds" ["cellar"] spDk):Cal P w K mg base 2 "held" ["cellar","stand"] q61:=by
 obtain⟨t1,e_LAST_KIND⟩:=T.e_LAST_KIND
 obtain⟨t2,e_OPENED⟩:=T.e_OPENED
 obtain⟨t3,e_TAKEN⟩:=T.e_TAKEN
 obtain⟨t4,e_THINGS⟩:=T.e_THINGS
 refine L.cal (k:=1) q2v (fun vs H Q E h=>?_) (fun f cdv A outer s H vs Q E hr h=>?_)
 ·obtain ⟨p,q,C,_,_,_,_,_,rfl,_⟩:=h
  rfl
 ·obtain ⟨p,q,C,rm,tk,op,b,wt,rfl,hC,ok,hq,hdr,k⟩:=h
  obtain⟨pw,pt,pl,pv',h0,h1,h2,_⟩:=hC.ex
  obtain⟨tv,ht,htl,htg⟩:=h2.get
  have big:=qG
  refine⟨_,(qe (qA (i:=2) q2v.nd rfl (Or.inl rfl) (ql q9S (q0u (qc qi qd)) (ql q0d (qk (v:= .int 11) rfl e_LAST_KIND ⟨_,rfl⟩) qi)))
   (qe (q0j PassesOwn.never rfl (q7p K rfl T.n_enumerate (qc (qq (qj K) (pv 0) (qk (v:= .int 4) rfl e_THINGS ⟨_,rfl⟩) (fun _ _=>rfl)) qd)) (q2b (n:=2) K rfl (qP (qu (i:=3) q2v.nd rfl (Or.inl rfl)) (qP (qu (i:=4) q2v.nd rfl (Or.inl rfl)) q2a))) (qh (q04 (q0q (qx C_has_bit hr (by decide) rfl (qc (qq (qj K) (pv 1) (qk (v:= .int 1) rfl e_TAKEN ⟨_,rfl⟩) (fun _ _=>rfl)) (qc (pv 3) qd)))) (qh (q42 (pv 2) (qq (qj K) (pv 4) qi (fun _ _=>rfl)) (q2r K) qi q6e q2W)) qD)))
   (qe (q0j PassesOwn.never rfl (q7q K rfl T.n_enumerate (qc (qx C_door_kinds hr (by decide) rfl (qc (pv 0) qd)) qd)) (q2b (n:=2) K rfl (qP (qu (i:=3) q2v.nd rfl (Or.inl rfl)) (qP (qu (i:=5) q2v.nd rfl (Or.inl rfl)) q2a))) (qh (q04 (q0q (qx C_has_bit hr (by decide) rfl (qc (qq (qj K) (pv 1) (qk (v:= .int 2) rfl e_OPENED ⟨_,rfl⟩) (fun _ _=>rfl)) (qc (pv 3) qd)))) (qh (q42 (pv 2) (pv 5) (q2r K) qi q7N q2W)) qD)))
   (qh (qz (pv 2)))))),?_⟩
  walk_at "rd"
  intro p1 hp1
  walk_at "rd"
  refine⟨p1,_,_,rfl,rfl,qg,by decide,by decide,by show 1*12<=sizeLine;decide,fun cs hcs=>?_⟩
  have hcs0:H cs=none:=(Same.upd hp1).free hcs
  have s0:Same H (upd (upd H p1 (.lst [.int 0])) cs (.lst (List.replicate (11+1:Int).toNat [V.int 0]).flatten)):=(Same.upd hp1).trans (Same.upd hcs)
  have h0':=s0 _ _ h0
  have ht':=s0 _ _ ht
  walk_at "rd"
  refine q7X tv (fun i σ H'=>∃v3 v4 v5,σ=[some (.ref p),some (.ref q),some (.ref cs),v3,v4,v5]/\Same H H'/\H' cs=some (.lst (cl fun k=>(cnt (tP C tk k) i:Int)))) ⟨none,none,none,rfl,s0,by rw[qg];rfl⟩ ?_ ?_ ?_
  ·rintro i σ H' ⟨_,_,_,rfl,s1,_⟩
   exact SqT.of (s1 _ _ ht)
  ·rintro i x σ H' T1 hx ⟨v3,v4,v5,rfl,s1,hc⟩ hT1
   have hi:i<C.things.length:=by rw[<-htl];exact(List.getElem?_eq_some_iff.mp hx).1
   obtain⟨p2,e,hp2⟩:=htg i hi
   rw[hx] at e
   cases e
   have hp3:H' p2=_:=s1 _ _ hp2
   have hq3:=s1 _ _ hq
   obtain⟨_,k0,k1⟩:=ok.t _ (List.getElem_mem hi)
   have sT:Same H (upd H' T1 (.tup [.int (i:Nat),.ref p2])):=s1.trans (Same.upd hT1)
   have hcT:(upd H' T1 (.tup [.int (i:Nat),.ref p2])) cs=some (.lst (cl fun k=>(cnt (tP C tk k) i:Int))):=q12 hc hT1
   walk_at "rd"
   refine⟨tk,i,rfl,by omega,?_⟩
   rw[Int.toNat_natCast]
   walk_at "rd"
   refine ite2 (fun hb=>?_) (fun hb=>?_)
   ·walk_at "rd"
    refine q3a (SqL.of hcT) (q8m k0 k1) ?_
    walk_at "rd"
    refine q68 hcT (cl_ix k0 k1) ?_
    refine⟨_,_,_,rfl,sT.put hcs0,?_⟩
    rw[qg,qa2 k0 k1]
    congr 2
    refine q2t fun k _ _=>?_
    rw[q8g hi,if_pos hb]
    by_cases ek:k=C.things[i].2
    ·rw [if_pos ek,if_pos ek,ek]
    ·rw [if_neg ek,if_neg ek];omega
   ·walk_at "rd"
    refine⟨_,_,_,rfl,sT,?_⟩
    rw[hcT]
    congr 2
    refine q2t fun k _ _=>?_
    rw[q8g hi,if_neg hb];omega
  ·rintro σ H' ⟨v3,v4,v5,rfl,s1,hc⟩
   rw[show tv.length=C.things.length from htl] at hc
   walk_at "rd"
   refine⟨p,C,rfl,hC.mono s1.ts,ok,fun dk H2 s2 hdk hdk2=>?_⟩
   have s12:=s1.trans s2
   have hc2:=s2 _ _ hc
   walk_at "rd"
   refine q7X (C.ways.map fun x=>dkV x.g) (fun i σ H'=>∃v3 v4 v5,σ=[some (.ref p),some (.ref q),some (.ref cs),v3,v4,v5]/\Same H H'/\H' dk=some (.lst (C.ways.map fun x=>dkV x.g))/\H' cs=some (.lst (cl fun k=>(cnt (tP C tk k) C.things.length:Int) - (cnt (dP (dsOf C) op k) i:Int)))) ⟨v3,v4,v5,rfl,s12,hdk2,?_⟩ ?_ ?_ ?_
   ·rw [hc2]
    refine congrArg (fun l=>some (HO.lst l)) (q2t fun k _ _=>?_)
    show _=_ - ((0:Nat):Int)
    omega
   ·rintro i σ H' ⟨_,_,_,rfl,s3,h3,_⟩
    exact SqL.of h3
   ·rintro i x σ H' T1 hx ⟨v3,v4,v5,rfl,s3,hd3,hc3⟩ hT1
    have hi:i<C.ways.length:=by have:=(List.getElem?_eq_some_iff.mp hx).1;simpa using this
    have ex:x=dkV C.ways[i].g:=by simpa[hi] using hx.symm
    subst ex
    have hq3:=s3 _ _ hq
    have hne:dk≠cs:=fun z=>by rw[z] at hdk;rw[hdk] at hc;cases hc
    have sT:Same H (upd H' T1 (.tup [.int (i:Nat),dkV C.ways[i].g])):=s3.trans (Same.upd hT1)
    have hcT:(upd H' T1 (.tup [.int (i:Nat),dkV C.ways[i].g])) cs=_:=q12 hc3 hT1
    have hdT:(upd H' T1 (.tup [.int (i:Nat),dkV C.ways[i].g])) dk=_:=q12 hd3 hT1
    walk_at "rd"
    refine⟨op,i,rfl,by omega,?_⟩
    rw[Int.toNat_natCast]
    walk_at "rd"
    refine ite2 (fun hb=>?_) (fun hb=>?_)
    ·have hsome:=hdr i hi hb
     have eds:dsOf C i=C.ways[i].g.dk:=by simp[dsOf,hi]
     rw[eds] at hsome
     obtain⟨k2,ek2⟩:=Option.isSome_iff_exists.mp hsome
     have hgok:=(ok.w _ (List.getElem_mem hi)).2.2.2
     have hk2:0<=k2/\k2<12:=by
      cases eg:C.ways[i].g with
      |door j=>rw[eg] at ek2 hgok;cases ek2;exact hgok
      |_=>rw[eg] at ek2;cases ek2
     have ev:dkV C.ways[i].g= .int k2:=by unfold dkV;rw[ek2]
     rw[ev] at hcT hdT sT ⊢
     walk_at "rd"
     refine q3a (SqL.of hcT) (q8m hk2.1 hk2.2) ?_
     walk_at "rd"
     refine q68 hcT (cl_ix hk2.1 hk2.2) ?_
     refine⟨_,_,_,rfl,sT.put hcs0,up_oth hdT hne,?_⟩
     rw[qg,qa2 hk2.1 hk2.2]
     congr 2
     refine q2t fun k _ _=>?_
     rw[q8j hi,if_pos hb,ek2]
     by_cases ek:k=k2
     ·rw [if_pos ek,if_pos (by rw[ek]),ek];omega
     ·rw [if_neg ek,if_neg (by intro z;exact ek (Option.some.inj z).symm)];omega
    ·walk_at "rd"
     refine⟨_,_,_,rfl,sT,hdT,?_⟩
     rw[hcT]
     congr 2
     refine q2t fun k _ _=>?_
     rw[q8j hi,if_neg hb];omega
   ·rintro σ H' ⟨v3,v4,v5,rfl,s3,hd3,hc3⟩
    walk_at "rd"
    rw[List.length_map] at hc3
    exact k cs H' s3 hcs0 hc3
end
def q8k (cs:Cs):Gt->Addr
 | .plain=>cs.Plain
 | .door _=>cs.Door
 | .need _=>cs.Need
 | .bar _=>cs.Bar
 | .wade _ _=>cs.Wade
 | .float _=>cs.Float
def fldB (q:Addr)(g:Gt):List (Str×V):=putF "numbers" (.ref q) (putF "word" (.str g.word) [])
def flds (q:Addr):Gt->List (Str×V)
 | .need k=>putF "kind" (.int k) (fldB q (.need k))
 | .bar b=>putF "bar" (.int b) (fldB q (.bar b))
 | .wade h k=>putF "kind" (.int k) (putF "height" (.int h) (fldB q (.wade h k)))
 | .float h=>putF "height" (.int h) (fldB q (.float h))
 |g=>fldB q g
theorem qb9 (q:Addr)(g:Gt):(flds q g).lookup ("lets":Str)=none:=by
 cases g<;>(unfold flds;first|unfold fldB|skip)<;>simp only[fldB,qM]<;>repeat (first|rfl|rw[if_neg (by decide +kernel)])
theorem q9v (q:Addr)(k:Int):(flds q (.need k)).lookup ("kind":Str)=some (.int k):=by
 unfold flds;rw[qM,if_pos rfl]
theorem qba (q:Addr)(k:Int):(flds q (.bar k)).lookup ("bar":Str)=some (.int k):=by
 unfold flds;rw[qM,if_pos rfl]
theorem q9t (q:Addr)(h k:Int):(flds q (.wade h k)).lookup ("kind":Str)=some (.int k):=by
 unfold flds;rw[qM,if_pos rfl]
theorem q9u (q:Addr)(h k:Int):(flds q (.wade h k)).lookup ("height":Str)=some (.int h):=by
 unfold flds;rw[qM,if_neg (by decide +kernel),qM,if_pos rfl]
theorem q7Y (q:Addr)(h:Int):(flds q (.float h)).lookup ("height":Str)=some (.int h):=by
 unfold flds;rw[qM,if_pos rfl]
structure GObj (cs:Cs)(H:Hp)(p:Addr)(g:Gt):Prop where
 ex:∃dx q,H p=some (.ins (q8k cs g) dx (flds q g))/\H q=some (.tup (g.ns.map V.int))
theorem GObj.mono {cs:Cs}{H H':Hp}{p:Addr}{g:Gt}(s:Same H H')(h:GObj cs H p g):GObj cs H' p g:=let ⟨dx,q,h1,h2⟩:=h.ex;⟨dx,q,s _ _ h1,s _ _ h2⟩
def q1H (K:W.Frag):Sp:=fun vs H Q _=>∃(p C dx q:Addr) (z:Str),vs=[.ref p,.str z,.ref q]/\H p=some (.ins C dx [])/\Cls K C/\qF K C "word"/\qF K C "numbers"/\Q .non (upd H p (.ins C dx (putF "numbers" (.ref q) (putF "word" (.str z) []))))
def spMk (cs:Cs)(wd:Str):Sp:=fun vs H Q _=>∃(p dx:Addr) (g:Gt),vs= .ref p::g.ns.map V.int/\g.word=wd/\H p=some (.ins (q8k cs g) dx [])/\∀H',(∀b o,H b=some o->b≠p->H' b=some o)->GObj cs H' p g->Q .non H'
def qac (cs:Cs):Sp:=fun vs H Q _=>∃(p:Addr) (g:Gt),vs=[.ref p]/\H p=some (.tup g.vs)/\∀(x:Addr) (H':Hp),Same H H'->H x=none->GObj cs H' x g->Q (.ref x) H'
def q2G (cs:Cs)(wd:Str):Sp:=fun vs H Q _=>∃(p hl:Addr) (g:Gt) (f:Int->Int) (op:Bool) (bars wt:Int),vs=[.ref p,.ref hl,.bl op,.int bars,.int wt]/\g.word=wd/\GObj cs H p g/\g.ok/\H hl=some (.lst (cl f))/\Q (.bl (q3g g f op bars wt)) H
section
variable {P:Program}{w:World}{K:W.Frag}{mg:Str->Option Value}{base:Heap}{cs:Cs}
theorem q95 (T:Txt mg cs)(L:LaidC K mg "Gate" "__init__" "Gate.__init__" q1w ["self","word","numbers"]):CCal P w K mg base 1 "Gate" "__init__" ["self","word","numbers"] (q1H K):=by
 refine L.cc (k:=0) q4S (fun vs H Q E h=>?_) (fun f cdv A outer s H vs Q E hr h=>?_)
 ·obtain ⟨p,C,dx,q,z,rfl,_⟩:=h
  rfl
 ·obtain ⟨p,C,dx,q,z,rfl,hp,cl,nw,nn,k⟩:=h
  refine⟨_,(qe (q14 K (pv 0) (pv 1) rfl)
   (qh (q14 K (pv 0) (pv 2) rfl))),?_⟩
  walk_at "rd"
  refine q1Z hp cl nw (by decide) ?_
  walk_at "rd"
  refine q1Z qg cl nn (by show 1<1000;decide) ?_
  rw[q1F]
  exact k
theorem q9e (T:Txt mg cs)(TC:Tcl K cs)(L:LaidI K mg "Plain" cs.Plain "Plain.__init__" q0X ["self"])(C_Gate_init:CCal P w K mg base 1 "Gate" "__init__" ["self","word","numbers"] (q1H K)):Makes P w K mg base 2 "Plain" cs.Plain ["self"] (spMk cs "plain"):=by
 refine L.makes (k:=1) q3V (fun vs H Q E h=>?_) (fun f cdv A outer s H vs Q E hr h=>?_)
 ·obtain ⟨p,dx,g,rfl,hw,_⟩:=h
  cases g<;>first|rfl|exact absurd hw (by simp only[Gt.word];decide +kernel)
 ·obtain ⟨p,dx,g,rfl,hw,hp,k⟩:=h
  cases g<;>first|exact absurd hw (by simp only[Gt.word];decide +kernel)|skip
  refine⟨_,(qh (qK (q3d C_Gate_init hr (by decide) rfl (qc (pv 0) (qc qQ (qc (qJ qd) qd)))))),?_⟩
  walk_at "rd"
  intro t ht
  refine⟨p,cs.Plain,dx,t,_,rfl,q12 hp ht,TC.cl_Plain,TC.no_Plain_word,TC.no_Plain_numbers,?_⟩
  walk_at "rd"
  have hpt:p≠t:=qv hp ht
  refine k _ (fun b o hb hbp=>?_) ⟨dx,t,qg,by rw[qp hpt.symm];exact qg⟩
  rw[qp hbp,qp (qv hb ht)]
  exact hb
theorem qaW (T:Txt mg cs)(TC:Tcl K cs)(L:LaidI K mg "Door" cs.Door "Door.__init__" q1y ["self","kind"])(C_Gate_init:CCal P w K mg base 1 "Gate" "__init__" ["self","word","numbers"] (q1H K)):Makes P w K mg base 2 "Door" cs.Door ["self","kind"] (spMk cs "door"):=by
 refine L.makes (k:=1) q4U (fun vs H Q E h=>?_) (fun f cdv A outer s H vs Q E hr h=>?_)
 ·obtain ⟨p,dx,g,rfl,hw,_⟩:=h
  cases g<;>first|rfl|exact absurd hw (by simp only[Gt.word];decide +kernel)
 ·obtain ⟨p,dx,g,rfl,hw,hp,k⟩:=h
  cases g<;>first|exact absurd hw (by simp only[Gt.word];decide +kernel)|skip
  rename_i n
  refine⟨_,(qh (qK (q3d C_Gate_init hr (by decide) rfl (qc (pv 0) (qc qQ (qc (qJ (qc (pv 1) qd)) qd)))))),?_⟩
  walk_at "rd"
  intro t ht
  refine⟨p,cs.Door,dx,t,_,rfl,q12 hp ht,TC.cl_Door,TC.no_Door_word,TC.no_Door_numbers,?_⟩
  walk_at "rd"
  have hpt:p≠t:=qv hp ht
  refine k _ (fun b o hb hbp=>?_) ⟨dx,t,qg,by rw[qp hpt.symm];exact qg⟩
  rw[qp hbp,qp (qv hb ht)]
  exact hb
theorem qaV (T:Txt mg cs)(TC:Tcl K cs)(L:LaidI K mg "Need" cs.Need "Need.__init__" q1v ["self","kind"])(C_Gate_init:CCal P w K mg base 1 "Gate" "__init__" ["self","word","numbers"] (q1H K)):Makes P w K mg base 2 "Need" cs.Need ["self","kind"] (spMk cs "need"):=by
 refine L.makes (k:=1) q4R (fun vs H Q E h=>?_) (fun f cdv A outer s H vs Q E hr h=>?_)
 ·obtain ⟨p,dx,g,rfl,hw,_⟩:=h
  cases g<;>first|rfl|exact absurd hw (by simp only[Gt.word];decide +kernel)
 ·obtain ⟨p,dx,g,rfl,hw,hp,k⟩:=h
  cases g<;>first|exact absurd hw (by simp only[Gt.word];decide +kernel)|skip
  rename_i n
  refine⟨_,(qe (qK (q3d C_Gate_init hr (by decide) rfl (qc (pv 0) (qc qQ (qc (qJ (qc (pv 1) qd)) qd)))))
   (qh (q14 K (pv 0) (pv 1) rfl))),?_⟩
  walk_at "rd"
  intro t ht
  refine⟨p,cs.Need,dx,t,_,rfl,q12 hp ht,TC.cl_Need,TC.no_Need_word,TC.no_Need_numbers,?_⟩
  walk_at "rd"
  refine q1Z qg TC.cl_Need TC.no_Need_kind (by show 2<1000;decide) ?_
  rw[q1F]
  have hpt:p≠t:=qv hp ht
  refine k _ (fun b o hb hbp=>?_) ⟨dx,t,qg,by rw[qp hpt.symm];exact qg⟩
  rw[qp hbp,qp (qv hb ht)]
  exact hb
theorem mk_bar (T:Txt mg cs)(TC:Tcl K cs)(L:LaidI K mg "Bar" cs.Bar "Bar.__init__" q1Q ["self","bar"])(C_Gate_init:CCal P w K mg base 1 "Gate" "__init__" ["self","word","numbers"] (q1H K)):Makes P w K mg base 2 "Bar" cs.Bar ["self","bar"] (spMk cs "bar"):=by
 refine L.makes (k:=1) q5A (fun vs H Q E h=>?_) (fun f cdv A outer s H vs Q E hr h=>?_)
 ·obtain ⟨p,dx,g,rfl,hw,_⟩:=h
  cases g<;>first|rfl|exact absurd hw (by simp only[Gt.word];decide +kernel)
 ·obtain ⟨p,dx,g,rfl,hw,hp,k⟩:=h
  cases g<;>first|exact absurd hw (by simp only[Gt.word];decide +kernel)|skip
  rename_i n
  refine⟨_,(qe (qK (q3d C_Gate_init hr (by decide) rfl (qc (pv 0) (qc qQ (qc (qJ (qc (pv 1) qd)) qd)))))
   (qh (q14 K (pv 0) (pv 1) rfl))),?_⟩
  walk_at "rd"
  intro t ht
  refine⟨p,cs.Bar,dx,t,_,rfl,q12 hp ht,TC.cl_Bar,TC.no_Bar_word,TC.no_Bar_numbers,?_⟩
  walk_at "rd"
  refine q1Z qg TC.cl_Bar TC.no_Bar_bar (by show 2<1000;decide) ?_
  rw[q1F]
  have hpt:p≠t:=qv hp ht
  refine k _ (fun b o hb hbp=>?_) ⟨dx,t,qg,by rw[qp hpt.symm];exact qg⟩
  rw[qp hbp,qp (qv hb ht)]
  exact hb
theorem q9f (T:Txt mg cs)(TC:Tcl K cs)(L:LaidI K mg "Float" cs.Float "Float.__init__" q0Z ["self","height"])(C_Gate_init:CCal P w K mg base 1 "Gate" "__init__" ["self","word","numbers"] (q1H K)):Makes P w K mg base 2 "Float" cs.Float ["self","height"] (spMk cs "float"):=by
 refine L.makes (k:=1) q3X (fun vs H Q E h=>?_) (fun f cdv A outer s H vs Q E hr h=>?_)
 ·obtain ⟨p,dx,g,rfl,hw,_⟩:=h
  cases g<;>first|rfl|exact absurd hw (by simp only[Gt.word];decide +kernel)
 ·obtain ⟨p,dx,g,rfl,hw,hp,k⟩:=h
  cases g<;>first|exact absurd hw (by simp only[Gt.word];decide +kernel)|skip
  rename_i n
  refine⟨_,(qe (qK (q3d C_Gate_init hr (by decide) rfl (qc (pv 0) (qc qQ (qc (qJ (qc (pv 1) qd)) qd)))))
   (qh (q14 K (pv 0) (pv 1) rfl))),?_⟩
  walk_at "rd"
  intro t ht
  refine⟨p,cs.Float,dx,t,_,rfl,q12 hp ht,TC.cl_Float,TC.no_Float_word,TC.no_Float_numbers,?_⟩
  walk_at "rd"
  refine q1Z qg TC.cl_Float TC.no_Float_height (by show 2<1000;decide) ?_
  rw[q1F]
  have hpt:p≠t:=qv hp ht
  refine k _ (fun b o hb hbp=>?_) ⟨dx,t,qg,by rw[qp hpt.symm];exact qg⟩
  rw[qp hbp,qp (qv hb ht)]
  exact hb
theorem qaR (T:Txt mg cs)(TC:Tcl K cs)(L:LaidI K mg "Wade" cs.Wade "Wade.__init__" q1k ["self","height","kind"])(C_Gate_init:CCal P w K mg base 1 "Gate" "__init__" ["self","word","numbers"] (q1H K)):Makes P w K mg base 2 "Wade" cs.Wade ["self","height","kind"] (spMk cs "wade"):=by
 refine L.makes (k:=1) q4H (fun vs H Q E h=>?_) (fun f cdv A outer s H vs Q E hr h=>?_)
 ·obtain ⟨p,dx,g,rfl,hw,_⟩:=h
  cases g<;>first|rfl|exact absurd hw (by simp only[Gt.word];decide +kernel)
 ·obtain ⟨p,dx,g,rfl,hw,hp,k⟩:=h
  cases g<;>first|exact absurd hw (by simp only[Gt.word];decide +kernel)|skip
  rename_i n1 n2
  refine⟨_,(qe (qK (q3d C_Gate_init hr (by decide) rfl (qc (pv 0) (qc qQ (qc (qJ (qc (pv 1) (qc (pv 2) qd))) qd)))))
   (qe (q14 K (pv 0) (pv 1) rfl)
   (qh (q14 K (pv 0) (pv 2) rfl)))),?_⟩
  walk_at "rd"
  intro t ht
  refine⟨p,cs.Wade,dx,t,_,rfl,q12 hp ht,TC.cl_Wade,TC.no_Wade_word,TC.no_Wade_numbers,?_⟩
  walk_at "rd"
  refine q1Z qg TC.cl_Wade TC.no_Wade_height (by show 2<1000;decide) ?_
  walk_at "rd"
  refine q1Z qg TC.cl_Wade TC.no_Wade_kind (by show 3<1000;decide) ?_
  rw[q1F,q1F]
  have hpt:p≠t:=qv hp ht
  refine k _ (fun b o hb hbp=>?_) ⟨dx,t,qg,by rw[qp hpt.symm];exact qg⟩
  rw[qp hbp,qp (qv hb ht)]
  exact hb
theorem q1T {H:Hp}{Q:VK}{g:Gt}{x dx:Addr}(hx:H x=none)(hdx:H dx=none)(ne:dx≠x)(k:∀(x:Addr) (H':Hp),Same H H'->H x=none->GObj cs H' x g->Q (.ref x) H'):spMk cs g.word (.ref x::(g.ns.map V.int++[])) (upd (upd H dx (.own x)) x (.ins (q8k cs g) dx [])) (fun v H2=>v= .non/\Q (.ref x) H2) E0:=by
 refine⟨x,dx,g,by rw[List.append_nil],rfl,qg,fun H' hk ho=>⟨rfl,k x H' (fun b o hb=>?_) hx ho⟩⟩
 refine hk b o ?_ (qv hb hx)
 rw[qp (qv hb hx),qp (qv hb hdx)]
 exact hb
theorem q6K (T:Txt mg cs)(L:Laid K mg "gate_of" q2i ["gate"])(C_Plain:Makes P w K mg base 2 "Plain" cs.Plain ["self"] (spMk cs "plain"))(C_Door:Makes P w K mg base 2 "Door" cs.Door ["self","kind"] (spMk cs "door"))(C_Need:Makes P w K mg base 2 "Need" cs.Need ["self","kind"] (spMk cs "need"))
  (C_Bar:Makes P w K mg base 2 "Bar" cs.Bar ["self","bar"] (spMk cs "bar"))(C_Wade:Makes P w K mg base 2 "Wade" cs.Wade ["self","height","kind"] (spMk cs "wade"))(C_Float:Makes P w K mg base 2 "Float" cs.Float ["self","height"] (spMk cs "float")):Cal P w K mg base 4 "gate_of" ["gate"] (qac cs):=by
 refine L.cal (k:=3) q3C (fun vs H Q E h=>?_) (fun f cdv A outer s H vs Q E hr h=>?_)
 ·obtain ⟨p,g,rfl,_⟩:=h
  rfl
 ·obtain ⟨p,g,rfl,hp,k⟩:=h
  refine⟨_,(qe (qA (i:=1) q3C.nd rfl (Or.inl rfl) (qq (qj K) (pv 0) qi (fun _ _=>rfl)))
   (qe (q04 (qC q07 (pv 1) qQ (qy _)) (qh (qz (qay C_Plain hr (by decide) rfl))) qD)
   (qe (q04 (qC q07 (pv 1) qQ (qy _)) (qh (qz (q20 C_Door hr (by decide) rfl (qc (qq (qj K) (pv 0) qi (fun _ _=>rfl)) qd)))) qD)
   (qe (q04 (qC q07 (pv 1) qQ (qy _)) (qh (qz (q20 C_Need hr (by decide) rfl (qc (qq (qj K) (pv 0) qi (fun _ _=>rfl)) qd)))) qD)
   (qe (q04 (qC q07 (pv 1) qQ (qy _)) (qh (qz (q20 C_Bar hr (by decide) rfl (qc (qq (qj K) (pv 0) qi (fun _ _=>rfl)) qd)))) qD)
   (qe (q04 (qC q07 (pv 1) qQ (qy _)) (qh (qz (q20 C_Wade hr (by decide) rfl (qc (qq (qj K) (pv 0) qi (fun _ _=>rfl)) (qc (qq (qj K) (pv 0) qi (fun _ _=>rfl)) qd))))) qD)
   (qe (q04 (qC q07 (pv 1) qQ (qy _)) (qh (qz (q20 C_Float hr (by decide) rfl (qc (qq (qj K) (pv 0) qi (fun _ _=>rfl)) qd)))) qD)
   (qh q0r)))))))),?_⟩
  have hp':=hp
  rw[Gt.vs_eq] at hp'
  walk_at "rd"
  refine ifd (fun h1=>?_) (fun h1=>?_)
  ·cases g<;>first|exact absurd h1 (by simp only[Gt.word];decide +kernel)|skip
   walk_at "rd"
   exact fun x dx hx hdx ne=>q1T hx hdx ne k
  walk_at "rd"
  refine ifd (fun h2=>?_) (fun h2=>?_)
  ·cases g<;>first|exact absurd h2 (by simp only[Gt.word];decide +kernel)|skip
   walk_at "rd"
   exact fun x dx hx hdx ne=>q1T hx hdx ne k
  walk_at "rd"
  refine ifd (fun h3=>?_) (fun h3=>?_)
  ·cases g<;>first|exact absurd h3 (by simp only[Gt.word];decide +kernel)|skip
   walk_at "rd"
   exact fun x dx hx hdx ne=>q1T hx hdx ne k
  walk_at "rd"
  refine ifd (fun h4=>?_) (fun h4=>?_)
  ·cases g<;>first|exact absurd h4 (by simp only[Gt.word];decide +kernel)|skip
   walk_at "rd"
   exact fun x dx hx hdx ne=>q1T hx hdx ne k
  walk_at "rd"
  refine ifd (fun h5=>?_) (fun h5=>?_)
  ·cases g<;>first|exact absurd h5 (by simp only[Gt.word];decide +kernel)|skip
   walk_at "rd"
   exact fun x dx hx hdx ne=>q1T hx hdx ne k
  walk_at "rd"
  refine ifd (fun h6=>?_) (fun h6=>?_)
  ·cases g<;>first|exact absurd h6 (by simp only[Gt.word];decide +kernel)|skip
   walk_at "rd"
   exact fun x dx hx hdx ne=>q1T hx hdx ne k
  cases g
  ·exact absurd rfl h1
  ·exact absurd rfl h2
  ·exact absurd rfl h3
  ·exact absurd rfl h4
  ·exact absurd rfl h5
  ·exact absurd rfl h6
theorem q3M (T:Txt mg cs)(TC:Tcl K cs)(L:LaidM K cs.Plain "lets" "Plain.lets" q0W ["self","held","opened","bars","water"]):VMeth P w K mg base 2 cs.Plain "lets" ["self","held","opened","bars","water"] (q2G cs "plain"):=by
 refine L.vm (k:=1) TC.cl_Plain q3U (fun vs H Q E h=>?_) (fun f cdv A outer s H vs Q E hr h=>?_)
 ·obtain ⟨p,hl,g,fn,op,bars,wt,rfl,_⟩:=h
  rfl
 ·obtain ⟨p,hl,g,fn,op,bars,wt,rfl,hw,ho,ok,hh,k⟩:=h
  obtain⟨dx,q,hp,hq⟩:=ho.ex
  cases g<;>first|exact absurd hw (by simp only[Gt.word];decide +kernel)|skip
  refine⟨_,(qh (qz q3e)),?_⟩
  walk_at "rd"
  exact k
theorem q4q (T:Txt mg cs)(TC:Tcl K cs)(L:LaidM K cs.Door "lets" "Door.lets" q1x ["self","held","opened","bars","water"]):VMeth P w K mg base 2 cs.Door "lets" ["self","held","opened","bars","water"] (q2G cs "door"):=by
 refine L.vm (k:=1) TC.cl_Door q4T (fun vs H Q E h=>?_) (fun f cdv A outer s H vs Q E hr h=>?_)
 ·obtain ⟨p,hl,g,fn,op,bars,wt,rfl,_⟩:=h
  rfl
 ·obtain ⟨p,hl,g,fn,op,bars,wt,rfl,hw,ho,ok,hh,k⟩:=h
  obtain⟨dx,q,hp,hq⟩:=ho.ex
  cases g<;>first|exact absurd hw (by simp only[Gt.word];decide +kernel)|skip
  rename_i n
  refine⟨_,(qh (qz (pv 2))),?_⟩
  walk_at "rd"
  exact k
theorem q4p (T:Txt mg cs)(TC:Tcl K cs)(L:LaidM K cs.Need "lets" "Need.lets" q1u ["self","held","opened","bars","water"]):VMeth P w K mg base 2 cs.Need "lets" ["self","held","opened","bars","water"] (q2G cs "need"):=by
 refine L.vm (k:=1) TC.cl_Need q4Q (fun vs H Q E h=>?_) (fun f cdv A outer s H vs Q E hr h=>?_)
 ·obtain ⟨p,hl,g,fn,op,bars,wt,rfl,_⟩:=h
  rfl
 ·obtain ⟨p,hl,g,fn,op,bars,wt,rfl,hw,ho,ok,hh,k⟩:=h
  obtain⟨dx,q,hp,hq⟩:=ho.ex
  cases g<;>first|exact absurd hw (by simp only[Gt.word];decide +kernel)|skip
  rename_i n
  refine⟨_,(qh (qz (qX q2Q (qq (qY K) (pv 1) (q0h K (pv 0) rfl) (fun _ _=>rfl)) qi (qy _)))),?_⟩
  have ok':0<=n/\n<12:=ok
  walk_at "rd"
  refine q19 hp TC.cl_Need TC.no_Need_kind (q9v q n) ?_
  refine q3a (SqL.of hh) (q8m ok'.1 ok'.2) ?_
  walk_at "rd"
  exact k
theorem q5l (T:Txt mg cs)(TC:Tcl K cs)(L:LaidM K cs.Bar "lets" "Bar.lets" q1P ["self","held","opened","bars","water"])(C_has_bit:Cal P w K mg base 1 "has_bit" ["bits","place"] q5t):VMeth P w K mg base 2 cs.Bar "lets" ["self","held","opened","bars","water"] (q2G cs "bar"):=by
 refine L.vm (k:=1) TC.cl_Bar q5z (fun vs H Q E h=>?_) (fun f cdv A outer s H vs Q E hr h=>?_)
 ·obtain ⟨p,hl,g,fn,op,bars,wt,rfl,_⟩:=h
  rfl
 ·obtain ⟨p,hl,g,fn,op,bars,wt,rfl,hw,ho,ok,hh,k⟩:=h
  obtain⟨dx,q,hp,hq⟩:=ho.ex
  cases g<;>first|exact absurd hw (by simp only[Gt.word];decide +kernel)|skip
  rename_i n
  refine⟨_,(qh (qz (qx C_has_bit hr (by decide) rfl (qc (pv 3) (qc (q0h K (pv 0) rfl) qd))))),?_⟩
  have ok':0<=n/\n<8:=ok
  walk_at "rd"
  refine q19 hp TC.cl_Bar TC.no_Bar_bar (qba q n) ?_
  walk_at "rd"
  exact⟨bars,n,rfl,ok'.1,k⟩
theorem q4o (T:Txt mg cs)(TC:Tcl K cs)(L:LaidM K cs.Wade "lets" "Wade.lets" q1j ["self","held","opened","bars","water"]):VMeth P w K mg base 2 cs.Wade "lets" ["self","held","opened","bars","water"] (q2G cs "wade"):=by
 refine L.vm (k:=1) TC.cl_Wade q4G (fun vs H Q E h=>?_) (fun f cdv A outer s H vs Q E hr h=>?_)
 ·obtain ⟨p,hl,g,fn,op,bars,wt,rfl,_⟩:=h
  rfl
 ·obtain ⟨p,hl,g,fn,op,bars,wt,rfl,hw,ho,ok,hh,k⟩:=h
  obtain⟨dx,q,hp,hq⟩:=ho.ex
  cases g<;>first|exact absurd hw (by simp only[Gt.word];decide +kernel)|skip
  rename_i n1 n2
  refine⟨_,(qh (qz (q8W (qX q90 (pv 4) (q0h K (pv 0) rfl) (qy _)) (q2I (qX q2Q (qq (qY K) (pv 1) (q0h K (pv 0) rfl) (fun _ _=>rfl)) qi (qy _)))))),?_⟩
  have ok':(0<=n1/\n1<10)/\0<=n2/\n2<12:=ok
  walk_at "rd"
  refine q19 hp TC.cl_Wade TC.no_Wade_height (q9u q n1 n2) ?_
  walk_at "rd"
  have k':Q (.bl (decide (wt<=n1)||decide (0<fn n2))) H:=k
  refine ifd (fun h1=>?_) (fun h1=>?_)
  ·rw [decide_eq_true h1,Bool.true_or] at k'
   exact k'
  ·rw [decide_eq_false h1,Bool.false_or] at k'
   walk_at "rd"
   refine q19 hp TC.cl_Wade TC.no_Wade_kind (q9t q n1 n2) ?_
   refine q3a (SqL.of hh) (q8m ok'.2.1 ok'.2.2) ?_
   walk_at "rd"
   exact k'
theorem q3N (T:Txt mg cs)(TC:Tcl K cs)(L:LaidM K cs.Float "lets" "Float.lets" q0Y ["self","held","opened","bars","water"]):VMeth P w K mg base 2 cs.Float "lets" ["self","held","opened","bars","water"] (q2G cs "float"):=by
 refine L.vm (k:=1) TC.cl_Float q3W (fun vs H Q E h=>?_) (fun f cdv A outer s H vs Q E hr h=>?_)
 ·obtain ⟨p,hl,g,fn,op,bars,wt,rfl,_⟩:=h
  rfl
 ·obtain ⟨p,hl,g,fn,op,bars,wt,rfl,hw,ho,ok,hh,k⟩:=h
  obtain⟨dx,q,hp,hq⟩:=ho.ex
  cases g<;>first|exact absurd hw (by simp only[Gt.word];decide +kernel)|skip
  rename_i n
  refine⟨_,(qh (qz (qX qaC (pv 4) (q0h K (pv 0) rfl) (qy _)))),?_⟩
  walk_at "rd"
  refine q19 hp TC.cl_Float TC.no_Float_height (q7Y q n) ?_
  walk_at "rd"
  exact k
end
def dcls (cs:Cs):Wd->Addr
 | .go=>cs.Go
 | .pull=>cs.Pull
 | .take=>cs.Take
 | .turn=>cs.Turn
 | .unlock=>cs.Unlock
def dfl (d:Wd)(n:Int):List (Str×V):=putF "part" (.int d.part) (putF "number" (.int n) (putF "word" (.str d.str) []))
theorem qbg (d:Wd)(n:Int):(dfl d n).lookup ("word":Str)=some (.str d.str):=by
 unfold dfl;simp only[qM];repeat (first|rw[if_pos rfl]|rw[if_pos trivial]|rw[if_neg (by decide +kernel)])
theorem q0a (d:Wd)(n:Int):(dfl d n).lookup ("number":Str)=some (.int n):=by
 unfold dfl;simp only[qM];repeat (first|rw[if_pos rfl]|rw[if_pos trivial]|rw[if_neg (by decide +kernel)])
theorem q87 (d:Wd)(n:Int):(dfl d n).lookup ("part":Str)=some (.int d.part):=by
 unfold dfl;simp only[qM];repeat (first|rw[if_pos rfl]|rw[if_pos trivial]|rw[if_neg (by decide +kernel)])
theorem q3n (d:Wd)(n:Int){m:Str}(h1:m≠"part")(h2:m≠"number")(h3:m≠"word"):(dfl d n).lookup m=none:=by
 unfold dfl;simp only[qM];rw[if_neg h1,if_neg h2,if_neg h3];rfl
theorem df_can (d:Wd)(n:Int):(dfl d n).lookup ("can":Str)=none:=q3n d n (by decide +kernel) (by decide +kernel) (by decide +kernel)
theorem qbi (d:Wd)(n:Int):(dfl d n).lookup ("fits":Str)=none:=q3n d n (by decide +kernel) (by decide +kernel) (by decide +kernel)
theorem qbj (d:Wd)(n:Int):(dfl d n).lookup ("done":Str)=none:=q3n d n (by decide +kernel) (by decide +kernel) (by decide +kernel)
theorem qbh (d:Wd)(n:Int):(dfl d n).lookup ("told":Str)=none:=q3n d n (by decide +kernel) (by decide +kernel) (by decide +kernel)
theorem q2J (d:Wd)(n:Int):(dfl d n).lookup ("own_part":Str)=none:=q3n d n (by decide +kernel) (by decide +kernel) (by decide +kernel)
structure DObj (cs:Cs)(H:Hp)(p:Addr)(d:Wd)(n:Int):Prop where
 ex:∃dx,H p=some (.ins (dcls cs d) dx (dfl d n))
theorem DObj.mono {cs:Cs}{H H':Hp}{p:Addr}{d:Wd}{n:Int}(s:Same H H')(h:DObj cs H p d n):DObj cs H' p d n:=let ⟨dx,h1⟩:=h.ex;⟨dx,s _ _ h1⟩
structure DCl (K:W.Frag)(cs:Cs)(d:Wd):Prop where
 cl:Cls K (dcls cs d)
 nw:qF K (dcls cs d) "word"
 nn:qF K (dcls cs d) "number"
 np:qF K (dcls cs d) "part"
theorem q25 {K:W.Frag}{cs:Cs}(TC:Tcl K cs)(d:Wd):DCl K cs d:=by
 cases d
 ·exact ⟨TC.cl_Go,TC.no_Go_word,TC.no_Go_number,TC.no_Go_part⟩
 ·exact ⟨TC.cl_Pull,TC.no_Pull_word,TC.no_Pull_number,TC.no_Pull_part⟩
 ·exact ⟨TC.cl_Take,TC.no_Take_word,TC.no_Take_number,TC.no_Take_part⟩
 ·exact ⟨TC.cl_Turn,TC.no_Turn_word,TC.no_Turn_number,TC.no_Turn_part⟩
 ·exact ⟨TC.cl_Unlock,TC.no_Unlock_word,TC.no_Unlock_number,TC.no_Unlock_part⟩
def RowAt (H:Hp)(C:Cl)(i:Nat)(r:Addr):Wd->Prop
 | .go=>∃x,C.ways[i]? =some x/\q1U H r x
 | .pull=>∃x,C.levers[i]? =some x/\qI H r x
 | .take=>∃x,C.things[i]? =some x/\qI H r x
 | .turn=>∃x,C.wheels[i]? =some x/\qI H r x
 | .unlock=>∃x,C.ways[i]? =some x/\q1U H r x
def q1d:Sp:=fun vs H Q _=>∃n a b:Int,vs=[.int n,.int a,.int b]/\Q (.bl (decide (a<=n)&&decide (n<=b))) H
def q3S:Sp:=fun vs H Q _=>∃(r:Addr) (x:Way) (rm:Int),vs=[.ref r,.int rm]/\q1U H r x/\Q (.bl (q0G x rm)) H
def q5r:Sp:=fun vs H Q _=>∃(q:Addr) (s:Sd) (j:Nat) (n:Int),vs=[.ref q,.int j,.int n]/\j<5/\H q=some (.tup s.vs)/\∀(r:Addr) (H':Hp),Same H H'->H' r=some (.tup (s.vs.set j (.int n)))->Q (.ref r) H'
def q27 (K:W.Frag):Sp:=fun vs H Q _=>∃(p C dx:Addr) (z:Str) (n t:Int),vs=[.ref p,.str z,.int n,.int t]/\H p=some (.ins C dx [])/\Cls K C/\qF K C "word"/\qF K C "number"/\qF K C "part"/\Q .non (upd H p (.ins C dx (putF "part" (.int t) (putF "number" (.int n) (putF "word" (.str z) [])))))
def q1G (cs:Cs)(d:Wd):Sp:=fun vs H Q _=>∃(p dx:Addr) (n:Int),vs=[.ref p,.int n]/\H p=some (.ins (dcls cs d) dx [])/\∀H',(∀b o,H b=some o->b≠p->H' b=some o)->DObj cs H' p d n->Q .non H'
def q3v (cs:Cs)(d:Wd):Sp:=fun vs H Q _=>∃(p c:Addr) (C:Cl) (i:Nat),vs=[.ref p,.ref c]/\DObj cs H p d i/\ClAt H c C/\i<C.num d/\∀r,RowAt H C i r d->Q (.ref r) H
def q36 (cs:Cs)(d:Wd):Sp:=fun vs H Q _=>∃(p c q:Addr) (C:Cl) (s:Sd) (i:Nat),vs=[.ref p,.ref c,.ref q]/\DObj cs H p d i/\ClAt H c C/\ClOk C/\H q=some (.tup s.vs)/\s.ok C/\i<C.num d/\∀H',Same H H'->Q (.bl (canB C s i d)) H'
def qae (cs:Cs)(d:Wd):Sp:=fun vs H Q _=>∃(p c q:Addr) (C:Cl) (s:Sd) (n:Int),vs=[.ref p,.ref c,.ref q]/\DObj cs H p d n/\ClAt H c C/\ClOk C/\H q=some (.tup s.vs)/\s.ok C/\∀H',Same H H'->Q (.bl (canD C s d n)) H'
def q37 (cs:Cs)(d:Wd):Sp:=fun vs H Q _=>∃(p c q:Addr) (C:Cl) (s:Sd) (n:Int),vs=[.ref p,.ref c,.ref q]/\DObj cs H p d n/\ClAt H c C/\ClOk C/\H q=some (.tup s.vs)/\s.ok C/\canD C s d n=true/\∀(r:Addr) (H':Hp),Same H H'->H' r=some (.tup (q0R C s d n).vs)->Q (.ref r) H'
def q5p (cs:Cs)(d:Wd):Sp:=fun vs H Q _=>∃(p:Addr) (n:Int),vs=[.ref p]/\DObj cs H p d n/\∀(r:Addr) (H':Hp),Same H H'->H' r=some (.tup [.str d.str,.int n])->Q (.ref r) H'
section
variable {P:Program}{w:World}{K:W.Frag}{mg:Str->Option Value}{base:Heap}{cs:Cs}
theorem q7v (T:Txt mg cs)(L:Laid K mg "within" q2X ["number","least","most"]):Cal P w K mg base 1 "within" ["number","least","most"] q1d:=by
 refine L.cal (k:=0) q7f (fun vs H Q E h=>?_) (fun f cdv A outer s H vs Q E hr h=>?_)
 ·obtain ⟨n,a,b,rfl,_⟩:=h
  rfl
 ·obtain ⟨n,a,b,rfl,k⟩:=h
  refine⟨_,(qe (q04 (PW.pt (q5C (q0q (qr q2u rfl T.n_isinstance q0M (qc (pv 0) (qc (q46 (v:= .ty "bool") rfl T.n_bool q8u rfl) qd)))) (q4Z (q2n (q0q (qr q2u rfl T.n_isinstance q0M (qc (pv 0) (qc (q46 (v:= .ty "int") rfl T.n_int bt_int rfl) qd)))))))) (qh (qz q3e)) qD)
   (qh (qz (q8Y q90 q90 (pv 1) (pv 0) (pv 2))))),?_⟩
  walk_at "rd"
  refine ifd (fun h=>?_) (fun h=>?_)
  ·walk_at "rd"
   rw[decide_eq_true h,Bool.true_and] at k
   exact k
  ·rw [decide_eq_false h,Bool.false_and] at k
   exact k
theorem q96 (T:Txt mg cs)(L:Laid K mg "can_enter" q1h ["way","room"]):Cal P w K mg base 1 "can_enter" ["way","room"] q3S:=by
 obtain⟨t1,e_WAY_A⟩:=T.e_WAY_A
 obtain⟨t2,e_WAY_B⟩:=T.e_WAY_B
 obtain⟨t3,e_WAY_BACK⟩:=T.e_WAY_BACK
 refine L.cal (k:=0) q4E (fun vs H Q E h=>?_) (fun f cdv A outer s H vs Q E hr h=>?_)
 ·obtain ⟨r,x,rm,rfl,_⟩:=h
  rfl
 ·obtain ⟨r,x,rm,rfl,hW,k⟩:=h
  obtain⟨g,hr1,hg⟩:=hW
  unfold q0G at k
  refine⟨_,(qh (qz (q8W (qX q07 (pv 1) (qq (qj K) (pv 0) (qk (v:= .int 0) rfl e_WAY_A ⟨_,rfl⟩) (fun _ _=>rfl)) (qy _)) (q2I (q6a (qX q07 (pv 1) (qq (qj K) (pv 0) (qk (v:= .int 1) rfl e_WAY_B ⟨_,rfl⟩) (fun _ _=>rfl)) (qy _)) (q2I (qq (qj K) (pv 0) (qk (v:= .int 3) rfl e_WAY_BACK ⟨_,rfl⟩) (fun _ _=>rfl)))))))),?_⟩
  walk_at "rd"
  refine ifd (fun h=>?_) (fun h=>?_)
  ·rw [decide_eq_true h,Bool.true_or] at k
   exact k
  ·rw [decide_eq_false h,Bool.false_or] at k
   walk_at "rd"
   refine ifd (fun h=>?_) (fun h=>?_)
   ·rw [decide_eq_true h,Bool.true_and] at k
    walk_at "rd"
    exact k
   ·rw [decide_eq_false h,Bool.false_and] at k
    exact k
theorem q6L (T:Txt mg cs)(L:Laid K mg "changed" q1L ["parts","place","part"]):Cal P w K mg base 1 "changed" ["parts","place","part"] q5r:=by
 refine L.cal (k:=0) q3D (fun vs H Q E h=>?_) (fun f cdv A outer s H vs Q E hr h=>?_)
 ·obtain ⟨q,s,j,n,rfl,_⟩:=h
  rfl
 ·obtain ⟨q,st,j,n,rfl,hj,hq,k⟩:=h
  have big:=qG
  refine⟨_,(qh (qz (ql (q33 K) (ql (q33 K) (q31 (q2V K) (pv 0) q44 (q43 (pv 1))) (qJ (qc (pv 2) qd))) (q31 (q2V K) (pv 0) (q43 (ql q0d (pv 1) qi)) q44)))),?_⟩
  obtain rfl|rfl|rfl|rfl|rfl:j=0\/j=1\/j=2\/j=3\/j=4:=by omega
  ·walk_at "rd"
   refine⟨q,_,rfl,SqT.of hq,fun e=>absurd (show(0:Nat)=5 from congrArg List.length e) (by decide),fun t1 ht1=>?_⟩
   have s1:=Same.upd (o:= .tup (cutV st.vs none (some ((0:Nat):Int)))) ht1
   have h1:(upd H t1 (.tup (cutV st.vs none (some ((0:Nat):Int))))) t1=some (.tup []):=qg
   generalize upd H t1 (.tup (cutV st.vs none (some ((0:Nat):Int))))=H1 at s1 h1 ⊢
   walk_at "rd"
   intro t2 ht2
   have s2:=Same.upd (o:= .tup [.int n]) ht2
   have h2:=qg (H:=H1) (a:=t2) (o:= .tup [.int n])
   have h12:=s2 _ _ h1
   generalize upd H1 t2 (.tup [.int n])=H2 at s2 h2 h12 ⊢
   refine qan (SqT.of h12) (SqT.of h2) (by show 1<=sizeLine;omega) ?_
   have hq2:=s2 _ _ (s1 _ _ hq)
   walk_at "rd"
   refine⟨q,_,rfl,SqT.of hq2,fun e=>absurd (show(4:Nat)=5 from congrArg List.length e) (by decide),fun t3 ht3=>?_⟩
   have s3:=Same.upd (o:= .tup (cutV st.vs (some (((0:Nat):Int)+1)) none)) ht3
   have h3:(upd H2 t3 (.tup (cutV st.vs (some (((0:Nat):Int)+1)) none))) t3=some (.tup [.int st.tk,.int st.op,.int st.b,.int st.wt]):=qg
   generalize upd H2 t3 (.tup (cutV st.vs (some (((0:Nat):Int)+1)) none))=H3 at s3 h3 ⊢
   refine q1M (SqT.of (s3 _ _ h2)) (SqT.of h3) rfl fun t4 ht4=>?_
   exact k t4 _ (((s1.trans s2).trans s3).trans (Same.upd ht4)) qg
  ·walk_at "rd"
   refine⟨q,_,rfl,SqT.of hq,fun e=>absurd (show(1:Nat)=5 from congrArg List.length e) (by decide),fun t1 ht1=>?_⟩
   have s1:=Same.upd (o:= .tup (cutV st.vs none (some ((1:Nat):Int)))) ht1
   have h1:(upd H t1 (.tup (cutV st.vs none (some ((1:Nat):Int))))) t1=some (.tup [.int st.rm]):=qg
   generalize upd H t1 (.tup (cutV st.vs none (some ((1:Nat):Int))))=H1 at s1 h1 ⊢
   walk_at "rd"
   intro t2 ht2
   have s2:=Same.upd (o:= .tup [.int n]) ht2
   have h2:=qg (H:=H1) (a:=t2) (o:= .tup [.int n])
   have h12:=s2 _ _ h1
   generalize upd H1 t2 (.tup [.int n])=H2 at s2 h2 h12 ⊢
   refine q1M (SqT.of h12) (SqT.of h2) rfl fun t5 ht5=>?_
   have s5:=Same.upd (o:= .tup [.int st.rm,.int n]) ht5
   have h5:=qg (H:=H2) (a:=t5) (o:= .tup [.int st.rm,.int n])
   have hq2:=s5 _ _ (s2 _ _ (s1 _ _ hq))
   show(tSl _ _ _ _) _ (upd H2 t5 (.tup [.int st.rm,.int n])) _
   generalize upd H2 t5 (.tup [.int st.rm,.int n])=H5 at s5 h5 hq2 ⊢
   walk_at "rd"
   refine⟨q,_,rfl,SqT.of hq2,fun e=>absurd (show(3:Nat)=5 from congrArg List.length e) (by decide),fun t3 ht3=>?_⟩
   have s3:=Same.upd (o:= .tup (cutV st.vs (some (((1:Nat):Int)+1)) none)) ht3
   have h3:(upd H5 t3 (.tup (cutV st.vs (some (((1:Nat):Int)+1)) none))) t3=some (.tup [.int st.op,.int st.b,.int st.wt]):=qg
   generalize upd H5 t3 (.tup (cutV st.vs (some (((1:Nat):Int)+1)) none))=H3 at s3 h3 ⊢
   refine q1M (SqT.of (s3 _ _ h5)) (SqT.of h3) rfl fun t4 ht4=>?_
   exact k t4 _ ((((s1.trans s2).trans s5).trans s3).trans (Same.upd ht4)) qg
  ·walk_at "rd"
   refine⟨q,_,rfl,SqT.of hq,fun e=>absurd (show(2:Nat)=5 from congrArg List.length e) (by decide),fun t1 ht1=>?_⟩
   have s1:=Same.upd (o:= .tup (cutV st.vs none (some ((2:Nat):Int)))) ht1
   have h1:(upd H t1 (.tup (cutV st.vs none (some ((2:Nat):Int))))) t1=some (.tup [.int st.rm,.int st.tk]):=qg
   generalize upd H t1 (.tup (cutV st.vs none (some ((2:Nat):Int))))=H1 at s1 h1 ⊢
   walk_at "rd"
   intro t2 ht2
   have s2:=Same.upd (o:= .tup [.int n]) ht2
   have h2:=qg (H:=H1) (a:=t2) (o:= .tup [.int n])
   have h12:=s2 _ _ h1
   generalize upd H1 t2 (.tup [.int n])=H2 at s2 h2 h12 ⊢
   refine q1M (SqT.of h12) (SqT.of h2) rfl fun t5 ht5=>?_
   have s5:=Same.upd (o:= .tup [.int st.rm,.int st.tk,.int n]) ht5
   have h5:=qg (H:=H2) (a:=t5) (o:= .tup [.int st.rm,.int st.tk,.int n])
   have hq2:=s5 _ _ (s2 _ _ (s1 _ _ hq))
   show(tSl _ _ _ _) _ (upd H2 t5 (.tup [.int st.rm,.int st.tk,.int n])) _
   generalize upd H2 t5 (.tup [.int st.rm,.int st.tk,.int n])=H5 at s5 h5 hq2 ⊢
   walk_at "rd"
   refine⟨q,_,rfl,SqT.of hq2,fun e=>absurd (show(2:Nat)=5 from congrArg List.length e) (by decide),fun t3 ht3=>?_⟩
   have s3:=Same.upd (o:= .tup (cutV st.vs (some (((2:Nat):Int)+1)) none)) ht3
   have h3:(upd H5 t3 (.tup (cutV st.vs (some (((2:Nat):Int)+1)) none))) t3=some (.tup [.int st.b,.int st.wt]):=qg
   generalize upd H5 t3 (.tup (cutV st.vs (some (((2:Nat):Int)+1)) none))=H3 at s3 h3 ⊢
   refine q1M (SqT.of (s3 _ _ h5)) (SqT.of h3) rfl fun t4 ht4=>?_
   exact k t4 _ ((((s1.trans s2).trans s5).trans s3).trans (Same.upd ht4)) qg
  ·walk_at "rd"
   refine⟨q,_,rfl,SqT.of hq,fun e=>absurd (show(3:Nat)=5 from congrArg List.length e) (by decide),fun t1 ht1=>?_⟩
   have s1:=Same.upd (o:= .tup (cutV st.vs none (some ((3:Nat):Int)))) ht1
   have h1:(upd H t1 (.tup (cutV st.vs none (some ((3:Nat):Int))))) t1=some (.tup [.int st.rm,.int st.tk,.int st.op]):=qg
   generalize upd H t1 (.tup (cutV st.vs none (some ((3:Nat):Int))))=H1 at s1 h1 ⊢
   walk_at "rd"
   intro t2 ht2
   have s2:=Same.upd (o:= .tup [.int n]) ht2
   have h2:=qg (H:=H1) (a:=t2) (o:= .tup [.int n])
   have h12:=s2 _ _ h1
   generalize upd H1 t2 (.tup [.int n])=H2 at s2 h2 h12 ⊢
   refine q1M (SqT.of h12) (SqT.of h2) rfl fun t5 ht5=>?_
   have s5:=Same.upd (o:= .tup [.int st.rm,.int st.tk,.int st.op,.int n]) ht5
   have h5:=qg (H:=H2) (a:=t5) (o:= .tup [.int st.rm,.int st.tk,.int st.op,.int n])
   have hq2:=s5 _ _ (s2 _ _ (s1 _ _ hq))
   show(tSl _ _ _ _) _ (upd H2 t5 (.tup [.int st.rm,.int st.tk,.int st.op,.int n])) _
   generalize upd H2 t5 (.tup [.int st.rm,.int st.tk,.int st.op,.int n])=H5 at s5 h5 hq2 ⊢
   walk_at "rd"
   refine⟨q,_,rfl,SqT.of hq2,fun e=>absurd (show(1:Nat)=5 from congrArg List.length e) (by decide),fun t3 ht3=>?_⟩
   have s3:=Same.upd (o:= .tup (cutV st.vs (some (((3:Nat):Int)+1)) none)) ht3
   have h3:(upd H5 t3 (.tup (cutV st.vs (some (((3:Nat):Int)+1)) none))) t3=some (.tup [.int st.wt]):=qg
   generalize upd H5 t3 (.tup (cutV st.vs (some (((3:Nat):Int)+1)) none))=H3 at s3 h3 ⊢
   refine q1M (SqT.of (s3 _ _ h5)) (SqT.of h3) rfl fun t4 ht4=>?_
   exact k t4 _ ((((s1.trans s2).trans s5).trans s3).trans (Same.upd ht4)) qg
  ·walk_at "rd"
   refine⟨q,_,rfl,SqT.of hq,fun e=>absurd (show(4:Nat)=5 from congrArg List.length e) (by decide),fun t1 ht1=>?_⟩
   have s1:=Same.upd (o:= .tup (cutV st.vs none (some ((4:Nat):Int)))) ht1
   have h1:(upd H t1 (.tup (cutV st.vs none (some ((4:Nat):Int))))) t1=some (.tup [.int st.rm,.int st.tk,.int st.op,.int st.b]):=qg
   generalize upd H t1 (.tup (cutV st.vs none (some ((4:Nat):Int))))=H1 at s1 h1 ⊢
   walk_at "rd"
   intro t2 ht2
   have s2:=Same.upd (o:= .tup [.int n]) ht2
   have h2:=qg (H:=H1) (a:=t2) (o:= .tup [.int n])
   have h12:=s2 _ _ h1
   generalize upd H1 t2 (.tup [.int n])=H2 at s2 h2 h12 ⊢
   refine q1M (SqT.of h12) (SqT.of h2) rfl fun t5 ht5=>?_
   have s5:=Same.upd (o:= .tup [.int st.rm,.int st.tk,.int st.op,.int st.b,.int n]) ht5
   have h5:=qg (H:=H2) (a:=t5) (o:= .tup [.int st.rm,.int st.tk,.int st.op,.int st.b,.int n])
   have hq2:=s5 _ _ (s2 _ _ (s1 _ _ hq))
   show(tSl _ _ _ _) _ (upd H2 t5 (.tup [.int st.rm,.int st.tk,.int st.op,.int st.b,.int n])) _
   generalize upd H2 t5 (.tup [.int st.rm,.int st.tk,.int st.op,.int st.b,.int n])=H5 at s5 h5 hq2 ⊢
   walk_at "rd"
   refine⟨q,_,rfl,SqT.of hq2,fun e=>absurd (show(0:Nat)=5 from congrArg List.length e) (by decide),fun t3 ht3=>?_⟩
   have s3:=Same.upd (o:= .tup (cutV st.vs (some (((4:Nat):Int)+1)) none)) ht3
   have h3:(upd H5 t3 (.tup (cutV st.vs (some (((4:Nat):Int)+1)) none))) t3=some (.tup []):=qg
   generalize upd H5 t3 (.tup (cutV st.vs (some (((4:Nat):Int)+1)) none))=H3 at s3 h3 ⊢
   refine qam (SqT.of (s3 _ _ h5)) (SqT.of h3) (by show 5<=sizeLine;omega) ?_
   exact k t5 _ (((s1.trans s2).trans s5).trans s3) (s3 _ _ h5)
theorem q97 (T:Txt mg cs)(L:LaidC K mg "Deed" "__init__" "Deed.__init__" q1z ["self","word","number","part"]):CCal P w K mg base 1 "Deed" "__init__" ["self","word","number","part"] (q27 K):=by
 refine L.cc (k:=0) q4W (fun vs H Q E h=>?_) (fun f cdv A outer s H vs Q E hr h=>?_)
 ·obtain ⟨p,C,dx,z,n,t,rfl,_⟩:=h
  rfl
 ·obtain ⟨p,C,dx,z,n,t,rfl,hp,cl,nw,nn,np,k⟩:=h
  refine⟨_,(qe (q14 K (pv 0) (pv 1) rfl)
   (qe (q14 K (pv 0) (pv 2) rfl)
   (qh (q14 K (pv 0) (pv 3) rfl)))),?_⟩
  walk_at "rd"
  refine q1Z hp cl nw (by decide) ?_
  walk_at "rd"
  refine q1Z qg cl nn (by show 1<1000;decide) ?_
  walk_at "rd"
  refine q1Z qg cl np (by show 2<1000;decide) ?_
  rw[q1F,q1F]
  exact k
theorem q56 {H:Hp}{Q:VK}{p dx:Addr}{d:Wd}{n:Int}(k:∀H',(∀b o,H b=some o->b≠p->H' b=some o)->DObj cs H' p d n->Q .non H'):Q .non (upd H p (.ins (dcls cs d) dx (putF "part" (.int d.part) (putF "number" (.int n) (putF "word" (.str d.str) []))))):=
 k _ (fun b o hb hbp=>by rw[qp hbp];exact hb) ⟨dx,qg⟩
theorem mk_go (T:Txt mg cs)(TC:Tcl K cs)(L:LaidI K mg "Go" cs.Go "Go.__init__" q2j ["self","number"])(C_Deed_init:CCal P w K mg base 1 "Deed" "__init__" ["self","word","number","part"] (q27 K)):Makes P w K mg base 2 "Go" cs.Go ["self","number"] (q1G cs .go):=by
 obtain⟨t1,e_WAYS⟩:=T.e_WAYS
 have D:=q25 TC .go
 refine L.makes (k:=1) q6E (fun vs H Q E h=>?_) (fun f cdv A outer s H vs Q E hr h=>?_)
 ·obtain ⟨p,dx,n,rfl,_⟩:=h
  rfl
 ·obtain ⟨p,dx,n,rfl,hp,k⟩:=h
  refine⟨_,(qh (qK (q3d C_Deed_init hr (by decide) rfl (qc (pv 0) (qc qQ (qc (pv 1) (qc (qk (v:= .int 3) rfl e_WAYS ⟨_,rfl⟩) qd))))))),?_⟩
  walk_at "rd"
  refine⟨p,_,dx,_,n,_,rfl,hp,D.cl,D.nw,D.nn,D.np,?_⟩
  walk_at "rd"
  exact q56 k
theorem qaU (T:Txt mg cs)(TC:Tcl K cs)(L:LaidI K mg "Pull" cs.Pull "Pull.__init__" q1r ["self","number"])(C_Deed_init:CCal P w K mg base 1 "Deed" "__init__" ["self","word","number","part"] (q27 K)):Makes P w K mg base 2 "Pull" cs.Pull ["self","number"] (q1G cs .pull):=by
 obtain⟨t1,e_LEVERS⟩:=T.e_LEVERS
 have D:=q25 TC .pull
 refine L.makes (k:=1) q4N (fun vs H Q E h=>?_) (fun f cdv A outer s H vs Q E hr h=>?_)
 ·obtain ⟨p,dx,n,rfl,_⟩:=h
  rfl
 ·obtain ⟨p,dx,n,rfl,hp,k⟩:=h
  refine⟨_,(qh (qK (q3d C_Deed_init hr (by decide) rfl (qc (pv 0) (qc qQ (qc (pv 1) (qc (qk (v:= .int 5) rfl e_LEVERS ⟨_,rfl⟩) qd))))))),?_⟩
  walk_at "rd"
  refine⟨p,_,dx,_,n,_,rfl,hp,D.cl,D.nw,D.nn,D.np,?_⟩
  walk_at "rd"
  exact q56 k
theorem qaT (T:Txt mg cs)(TC:Tcl K cs)(L:LaidI K mg "Take" cs.Take "Take.__init__" q1o ["self","number"])(C_Deed_init:CCal P w K mg base 1 "Deed" "__init__" ["self","word","number","part"] (q27 K)):Makes P w K mg base 2 "Take" cs.Take ["self","number"] (q1G cs .take):=by
 obtain⟨t1,e_THINGS⟩:=T.e_THINGS
 have D:=q25 TC .take
 refine L.makes (k:=1) q4K (fun vs H Q E h=>?_) (fun f cdv A outer s H vs Q E hr h=>?_)
 ·obtain ⟨p,dx,n,rfl,_⟩:=h
  rfl
 ·obtain ⟨p,dx,n,rfl,hp,k⟩:=h
  refine⟨_,(qh (qK (q3d C_Deed_init hr (by decide) rfl (qc (pv 0) (qc qQ (qc (pv 1) (qc (qk (v:= .int 4) rfl e_THINGS ⟨_,rfl⟩) qd))))))),?_⟩
  walk_at "rd"
  refine⟨p,_,dx,_,n,_,rfl,hp,D.cl,D.nw,D.nn,D.np,?_⟩
  walk_at "rd"
  exact q56 k
theorem qaS (T:Txt mg cs)(TC:Tcl K cs)(L:LaidI K mg "Turn" cs.Turn "Turn.__init__" q1l ["self","number"])(C_Deed_init:CCal P w K mg base 1 "Deed" "__init__" ["self","word","number","part"] (q27 K)):Makes P w K mg base 2 "Turn" cs.Turn ["self","number"] (q1G cs .turn):=by
 obtain⟨t1,e_WHEELS⟩:=T.e_WHEELS
 have D:=q25 TC .turn
 refine L.makes (k:=1) q4I (fun vs H Q E h=>?_) (fun f cdv A outer s H vs Q E hr h=>?_)
 ·obtain ⟨p,dx,n,rfl,_⟩:=h
  rfl
 ·obtain ⟨p,dx,n,rfl,hp,k⟩:=h
  refine⟨_,(qh (qK (q3d C_Deed_init hr (by decide) rfl (qc (pv 0) (qc qQ (qc (pv 1) (qc (qk (v:= .int 6) rfl e_WHEELS ⟨_,rfl⟩) qd))))))),?_⟩
  walk_at "rd"
  refine⟨p,_,dx,_,n,_,rfl,hp,D.cl,D.nw,D.nn,D.np,?_⟩
  walk_at "rd"
  exact q56 k
theorem q7B (T:Txt mg cs)(TC:Tcl K cs)(L:LaidI K mg "Unlock" cs.Unlock "Unlock.__init__" q0J ["self","number"])(C_Deed_init:CCal P w K mg base 1 "Deed" "__init__" ["self","word","number","part"] (q27 K)):Makes P w K mg base 2 "Unlock" cs.Unlock ["self","number"] (q1G cs .unlock):=by
 obtain⟨t1,e_WAYS⟩:=T.e_WAYS
 have D:=q25 TC .unlock
 refine L.makes (k:=1) q3w (fun vs H Q E h=>?_) (fun f cdv A outer s H vs Q E hr h=>?_)
 ·obtain ⟨p,dx,n,rfl,_⟩:=h
  rfl
 ·obtain ⟨p,dx,n,rfl,hp,k⟩:=h
  refine⟨_,(qh (qK (q3d C_Deed_init hr (by decide) rfl (qc (pv 0) (qc qQ (qc (pv 1) (qc (qk (v:= .int 3) rfl e_WAYS ⟨_,rfl⟩) qd))))))),?_⟩
  walk_at "rd"
  refine⟨p,_,dx,_,n,_,rfl,hp,D.cl,D.nw,D.nn,D.np,?_⟩
  walk_at "rd"
  exact q56 k
theorem q7E {H:Hp}{Q:VK}{d:Wd}{n:Int}{x dx:Addr}(hx:H x=none)(hdx:H dx=none)(ne:dx≠x)(k:∀(x:Addr) (H':Hp),Same H H'->H x=none->DObj cs H' x d n->Q (.ref x) H'):q1G cs d (.ref x::([.int n]++[])) (upd (upd H dx (.own x)) x (.ins (dcls cs d) dx [])) (fun v H2=>v= .non/\Q (.ref x) H2) E0:=by
 refine⟨x,dx,n,rfl,qg,fun H' hk ho=>⟨rfl,k x H' (fun b o hb=>?_) hx ho⟩⟩
 refine hk b o ?_ (qv hb hx)
 rw[qp (qv hb hx),qp (qv hb hdx)]
 exact hb
theorem q4n {d:Wd}(L:LaidM K (dcls cs d) "own_part" "Deed.own_part" qE ["self","cellar"])(D:DCl K cs d):VMeth P w K mg base 1 (dcls cs d) "own_part" ["self","cellar"] (q3v cs d):=by
 refine L.vm (k:=0) D.cl q2N (fun vs H Q E h=>?_) (fun f cdv A outer s H vs Q E hr h=>?_)
 ·obtain ⟨p,c,C,i,rfl,_⟩:=h
  rfl
 ·obtain ⟨p,c,C,i,rfl,ho,hC,hi,k⟩:=h
  obtain⟨dx,hp⟩:=ho.ex
  obtain⟨pw,pt,pl,pv',h0,hw,ht,hl,hv⟩:=hC.ex
  refine⟨_,(qh (qz (qq (qj K) (qq (qj K) (pv 1) (q0h K (pv 0) rfl) (fun _ _=>rfl)) (q0h K (pv 0) rfl) (fun _ _=>rfl)))),?_⟩
  walk_at "rd"
  refine q19 hp D.cl D.np (q87 d i) ?_
  cases d
  ·obtain ⟨xs,hx,hxl,hxg⟩:=hw.get
   obtain⟨r,e,hr1⟩:=hxg i hi
   refine q2P (SqT.of h0) (v:= .ref pw) rfl ?_
   walk_at "rd"
   refine q19 hp D.cl D.nn (q0a _ i) ?_
   refine q2P (SqT.of hx) (q0i e) ?_
   exact k r ⟨_,List.getElem?_eq_getElem hi,hr1⟩
  ·obtain ⟨xs,hx,hxl,hxg⟩:=hl.get
   obtain⟨r,e,hr1⟩:=hxg i hi
   refine q2P (SqT.of h0) (v:= .ref pl) rfl ?_
   walk_at "rd"
   refine q19 hp D.cl D.nn (q0a _ i) ?_
   refine q2P (SqT.of hx) (q0i e) ?_
   exact k r ⟨_,List.getElem?_eq_getElem hi,hr1⟩
  ·obtain ⟨xs,hx,hxl,hxg⟩:=ht.get
   obtain⟨r,e,hr1⟩:=hxg i hi
   refine q2P (SqT.of h0) (v:= .ref pt) rfl ?_
   walk_at "rd"
   refine q19 hp D.cl D.nn (q0a _ i) ?_
   refine q2P (SqT.of hx) (q0i e) ?_
   exact k r ⟨_,List.getElem?_eq_getElem hi,hr1⟩
  ·obtain ⟨xs,hx,hxl,hxg⟩:=hv.get
   obtain⟨r,e,hr1⟩:=hxg i hi
   refine q2P (SqT.of h0) (v:= .ref pv') rfl ?_
   walk_at "rd"
   refine q19 hp D.cl D.nn (q0a _ i) ?_
   refine q2P (SqT.of hx) (q0i e) ?_
   exact k r ⟨_,List.getElem?_eq_getElem hi,hr1⟩
  ·obtain ⟨xs,hx,hxl,hxg⟩:=hw.get
   obtain⟨r,e,hr1⟩:=hxg i hi
   refine q2P (SqT.of h0) (v:= .ref pw) rfl ?_
   walk_at "rd"
   refine q19 hp D.cl D.nn (q0a _ i) ?_
   refine q2P (SqT.of hx) (q0i e) ?_
   exact k r ⟨_,List.getElem?_eq_getElem hi,hr1⟩
theorem num_at {H:Hp}{c:Addr}{C:Cl}(hC:ClAt H c C)(d:Wd):∃(vs:List V) (p:Addr) (xs:List V),H c=some (.tup vs)/\atI vs d.part=some (.ref p)/\H p=some (.tup xs)/\xs.length=C.num d/\atI vs 2=some (.int C.lst):=by
 obtain⟨pw,pt,pl,pv',h0,hw,ht,hl,hv⟩:=hC.ex
 cases d
 ·obtain ⟨xs,hx,hxl,_⟩:=hw.get
  exact⟨_,pw,xs,h0,rfl,hx,hxl,rfl⟩
 ·obtain ⟨xs,hx,hxl,_⟩:=hl.get
  exact⟨_,pl,xs,h0,rfl,hx,hxl,rfl⟩
 ·obtain ⟨xs,hx,hxl,_⟩:=ht.get
  exact⟨_,pt,xs,h0,rfl,hx,hxl,rfl⟩
 ·obtain ⟨xs,hx,hxl,_⟩:=hv.get
  exact⟨_,pv',xs,h0,rfl,hx,hxl,rfl⟩
 ·obtain ⟨xs,hx,hxl,_⟩:=hw.get
  exact⟨_,pw,xs,h0,rfl,hx,hxl,rfl⟩
theorem q4x {d:Wd}(T:Txt mg cs)(L:LaidM K (dcls cs d) "can" "Deed.can" q00 ["self","cellar","stand"])(D:DCl K cs d)(C_within:Cal P w K mg base 1 "within" ["number","least","most"] q1d)(vf:VMeth P w K mg base 5 (dcls cs d) "fits" ["self","cellar","stand"] (q36 cs d)):VMeth P w K mg base 6 (dcls cs d) "can" ["self","cellar","stand"] (qae cs d):=by
 obtain⟨t1,e_ROOM⟩:=T.e_ROOM
 obtain⟨t2,e_LAST⟩:=T.e_LAST
 refine L.vm (k:=5) D.cl q5y (fun vs H Q E h=>?_) (fun f cdv A outer s H vs Q E hr h=>?_)
 ·obtain ⟨p,c,q,C,st,n,rfl,_⟩:=h
  rfl
 ·obtain ⟨p,c,q,C,st,n,rfl,ho,hC,ok,hq,sok,k⟩:=h
  obtain⟨dx,hp⟩:=ho.ex
  obtain⟨vs,pp,xs,h0,hpp,hx,hxl,hlast⟩:=num_at hC d
  have hq':H q=some (.tup [.int st.rm,.int st.tk,.int st.op,.int st.b,.int st.wt]):=hq
  refine⟨_,(qe (q04 (PW.pt (q5C (qC q07 (qq (qj K) (pv 2) (qk (v:= .int 0) rfl e_ROOM ⟨_,rfl⟩) (fun _ _=>rfl)) (qq (qj K) (pv 1) (qk (v:= .int 2) rfl e_LAST ⟨_,rfl⟩) (fun _ _=>rfl)) (qy _)) (q4Z (q2n (q0q (qx C_within hr (by decide) rfl (qc (q0h K (pv 0) rfl) (qc qi (qc (ql q1N (qr (lenK K) rfl T.n_len qN (qc (qq (qj K) (pv 1) (q0h K (pv 0) rfl) (fun _ _=>rfl)) qd)) qi) qd))))))))) (qh (qz q3e)) qD)
   (qh (qz (q3c (k:=5) (hr.mono (by decide)) (pv 0) (qc (pv 1) (qc (pv 2) qd)))))),?_⟩
  walk_at "rd"
  refine ifd (fun h1=>?_) (fun h1=>?_)
  ·walk_at "rd"
   have:=k H (Same.refl _)
   rw[q8p h1] at this
   exact this
  walk_at "rd"
  refine q19 hp D.cl D.nn (q0a d n) ?_
  walk_at "rd"
  refine q19 hp D.cl D.np (q87 d n) ?_
  refine q2P (SqT.of h0) hpp ?_
  walk_at "rd"
  refine⟨n,0,_,rfl,?_⟩
  walk_at "rd"
  by_cases hin:0<=n/\n<(C.num d:Int)
  ·have e:(decide (0<=n)&&decide (n<=(xs.length:Int) - 1))=true:=by
    rw[decide_eq_true (p:=0<=n) hin.1,decide_eq_true (p:=n<=(xs.length:Int) - 1) (by rw[hxl];omega)]
    rfl
   rw[e]
   walk_at "rd"
   obtain⟨i,rfl⟩:∃i:Nat,n=(i:Int):=⟨n.toNat,by omega⟩
   refine r_vm hp vf (qbi d _) ?_
   walk_at "rd"
   refine⟨p,c,q,C,st,i,rfl,ho,hC,ok,hq,sok,by omega,fun H' s'=>?_⟩
   have:=k H' s'
   rw[q5Q h1] at this
   exact this
  ·have e:(decide (0<=n)&&decide (n<=(xs.length:Int) - 1))=false:=by
    rw[Bool.and_eq_false_iff]
    by_cases h3:0<=n
    ·right;rw[hxl];exact decide_eq_false (by omega)
    ·left;exact decide_eq_false h3
   rw[e]
   walk_at "rd"
   have:=k H (Same.refl _)
   rw[show canD C st d n=false from by
    by_cases h3:0<=n
    ·exact q5R (by omega)
    ·exact q6r (by omega)] at this
   exact this
theorem q2e {d:Wd}(L:LaidM K (dcls cs d) "told" "Deed.told" qS ["self"])(D:DCl K cs d):VMeth P w K mg base 1 (dcls cs d) "told" ["self"] (q5p cs d):=by
 refine L.vm (k:=0) D.cl q4V (fun vs H Q E h=>?_) (fun f cdv A outer s H vs Q E hr h=>?_)
 ·obtain ⟨p,n,rfl,_⟩:=h
  rfl
 ·obtain ⟨p,n,rfl,ho,k⟩:=h
  obtain⟨dx,hp⟩:=ho.ex
  refine⟨_,(qh (qz (qJ (qc (q0h K (pv 0) rfl) (qc (q0h K (pv 0) rfl) qd))))),?_⟩
  walk_at "rd"
  refine q19 hp D.cl D.nw (qbg d n) ?_
  walk_at "rd"
  refine q19 hp D.cl D.nn (q0a d n) ?_
  walk_at "rd"
  intro r hr1
  exact k r _ (Same.upd hr1) qg
theorem q6t (T:Txt mg cs)(D:DCl K cs .go)(L:LaidM K cs.Go "fits" "Go.fits" q2k ["self","cellar","stand"])(vo:VMeth P w K mg base 1 (dcls cs .go) "own_part" ["self","cellar"] (q3v cs .go))(C_can_enter:Cal P w K mg base 1 "can_enter" ["way","room"] q3S)(C_has_bit:Cal P w K mg base 1 "has_bit" ["bits","place"] q5t)
  (C_gate_of:Cal P w K mg base 4 "gate_of" ["gate"] (qac cs))(vl:∀g:Gt,VMeth P w K mg base 2 (q8k cs g) "lets" ["self","held","opened","bars","water"] (q2G cs g.word))(C_held:Cal P w K mg base 2 "held" ["cellar","stand"] q61):VMeth P w K mg base 5 (dcls cs .go) "fits" ["self","cellar","stand"] (q36 cs .go):=by
 obtain⟨t1,e_ROOM⟩:=T.e_ROOM
 obtain⟨t2,e_OPENED⟩:=T.e_OPENED
 obtain⟨t3,e_WAY_GATE⟩:=T.e_WAY_GATE
 obtain⟨t4,e_BARS⟩:=T.e_BARS
 obtain⟨t5,e_WATER⟩:=T.e_WATER
 refine LaidM.vm (k:=4) L D.cl q2w (fun vs H Q E h=>?_) (fun f cdv A outer s H vs Q E hr h=>?_)
 ·obtain ⟨p,c,q,C,st,i,rfl,_⟩:=h
  rfl
 ·obtain ⟨p,c,q,C,st,i,rfl,ho,hC,ok,hq,sok,hi,k⟩:=h
  obtain⟨dx,hp⟩:=ho.ex
  replace hq:H q=some (.tup [.int st.rm,.int st.tk,.int st.op,.int st.b,.int st.wt]):=hq
  refine⟨_,(qe (qA (i:=3) q2w.nd rfl (Or.inl rfl) (q3c (k:=1) (hr.mono (by decide)) (pv 0) (qc (pv 1) qd)))
   (qe (q04 (q2n (q0q (qx C_can_enter hr (by decide) rfl (qc (pv 3) (qc (qq (qj K) (pv 2) (qk (v:= .int 0) rfl e_ROOM ⟨_,rfl⟩) (fun _ _=>rfl)) qd))))) (qh (qz q3e)) qD)
   (qe (qA (i:=4) q2w.nd rfl (Or.inl rfl) (qx C_has_bit hr (by decide) rfl (qc (qq (qj K) (pv 2) (qk (v:= .int 2) rfl e_OPENED ⟨_,rfl⟩) (fun _ _=>rfl)) (qc (q0h K (pv 0) rfl) qd))))
   (qh (qz (q3c (k:=2) (hr.mono (by decide)) (qx C_gate_of hr (by decide) rfl (qc (qq (qj K) (pv 3) (qk (v:= .int 2) rfl e_WAY_GATE ⟨_,rfl⟩) (fun _ _=>rfl)) qd)) (qc (qx C_held hr (by decide) rfl (qc (pv 1) (qc (pv 2) qd))) (qc (pv 4) (qc (qq (qj K) (pv 2) (qk (v:= .int 3) rfl e_BARS ⟨_,rfl⟩) (fun _ _=>rfl)) (qc (qq (qj K) (pv 2) (qk (v:= .int 4) rfl e_WATER ⟨_,rfl⟩) (fun _ _=>rfl)) qd)))))))))),?_⟩
  walk_at "rd"
  refine r_vm hp vo (q2J _ _) ?_
  walk_at "rd"
  refine⟨p,c,C,i,rfl,ho,hC,hi,fun r hrow=>?_⟩
  obtain⟨x,hx,hW⟩:=hrow
  have xok:=ok.w x (List.mem_of_getElem? hx)
  have ecan:canB C st i .go=(q0G x st.rm&&q3g x.g (hold C st.tk st.op) (bit st.op i) st.b st.wt):=by simp[canB,hx]
  obtain⟨g,hr1,hg⟩:=id hW
  walk_at "rd"
  refine⟨r,x,st.rm,rfl,hW,?_⟩
  walk_at "rd"
  cases he:q0G x st.rm with
  |false=>
   walk_at "rd"
   have:=k H (Same.refl _)
   rw[ecan,he] at this
   exact this
  |true=>
   walk_at "rd"
   refine q19 hp D.cl D.nn (q0a _ _) ?_
   walk_at "rd"
   refine⟨st.op,i,rfl,by omega,?_⟩
   rw[Int.toNat_natCast]
   walk_at "rd"
   refine⟨g,x.g,rfl,hg,fun o H1 s1 ho0 hob=>?_⟩
   obtain⟨dxo,qo,hpo,hqo⟩:=hob.ex
   have hq1:=s1 _ _ hq
   refine r_vm hpo (vl x.g) (qb9 qo x.g) ?_
   walk_at "rd"
   refine⟨c,q,C,st.rm,st.tk,st.op,st.b,st.wt,rfl,hC.mono s1.ts,ok,hq1,sok.dr,fun hl H2 s2 hl0 hl2=>?_⟩
   have hq2:=s2 _ _ hq1
   walk_at "rd"
   refine⟨o,hl,x.g,hold C st.tk st.op,_,_,_,rfl,rfl,hob.mono s2,xok.2.2.2,hl2,?_⟩
   have:=k H2 (s1.trans s2)
   rw[ecan,he,Bool.true_and] at this
   exact this
theorem q4t (T:Txt mg cs)(D:DCl K cs .pull)(L:LaidM K cs.Pull "fits" "Pull.fits" q1s ["self","cellar","stand"])(vo:VMeth P w K mg base 1 (dcls cs .pull) "own_part" ["self","cellar"] (q3v cs .pull)):VMeth P w K mg base 5 (dcls cs .pull) "fits" ["self","cellar","stand"] (q36 cs .pull):=by
 obtain⟨t1,e_ROOM⟩:=T.e_ROOM
 obtain⟨t2,e_PAIR_ROOM⟩:=T.e_PAIR_ROOM
 refine LaidM.vm (k:=4) L D.cl q4O (fun vs H Q E h=>?_) (fun f cdv A outer s H vs Q E hr h=>?_)
 ·obtain ⟨p,c,q,C,st,i,rfl,_⟩:=h
  rfl
 ·obtain ⟨p,c,q,C,st,i,rfl,ho,hC,ok,hq,sok,hi,k⟩:=h
  obtain⟨dx,hp⟩:=ho.ex
  replace hq:H q=some (.tup [.int st.rm,.int st.tk,.int st.op,.int st.b,.int st.wt]):=hq
  refine⟨_,(qh (qz (qX q07 (qq (qj K) (pv 2) (qk (v:= .int 0) rfl e_ROOM ⟨_,rfl⟩) (fun _ _=>rfl)) (qq (qj K) (q3c (k:=1) (hr.mono (by decide)) (pv 0) (qc (pv 1) qd)) (qk (v:= .int 0) rfl e_PAIR_ROOM ⟨_,rfl⟩) (fun _ _=>rfl)) (qy _)))),?_⟩
  walk_at "rd"
  refine r_vm hp vo (q2J _ _) ?_
  walk_at "rd"
  refine⟨p,c,C,i,rfl,ho,hC,hi,fun r hrow=>?_⟩
  obtain⟨x,hx,hP⟩:=hrow
  have ecan:canB C st i .pull=decide (st.rm=x.1):=by simp[canB,hx]
  replace hP:H r=some (.tup [.int x.1,.int x.2]):=hP
  walk_at "rd"
  have:=k H (Same.refl _)
  rw[ecan] at this
  exact this
theorem q4s (T:Txt mg cs)(D:DCl K cs .take)(L:LaidM K cs.Take "fits" "Take.fits" q1p ["self","cellar","stand"])(vo:VMeth P w K mg base 1 (dcls cs .take) "own_part" ["self","cellar"] (q3v cs .take))(C_has_bit:Cal P w K mg base 1 "has_bit" ["bits","place"] q5t):VMeth P w K mg base 5 (dcls cs .take) "fits" ["self","cellar","stand"] (q36 cs .take):=by
 obtain⟨t1,e_ROOM⟩:=T.e_ROOM
 obtain⟨t2,e_PAIR_ROOM⟩:=T.e_PAIR_ROOM
 obtain⟨t3,e_TAKEN⟩:=T.e_TAKEN
 refine LaidM.vm (k:=4) L D.cl q4L (fun vs H Q E h=>?_) (fun f cdv A outer s H vs Q E hr h=>?_)
 ·obtain ⟨p,c,q,C,st,i,rfl,_⟩:=h
  rfl
 ·obtain ⟨p,c,q,C,st,i,rfl,ho,hC,ok,hq,sok,hi,k⟩:=h
  obtain⟨dx,hp⟩:=ho.ex
  replace hq:H q=some (.tup [.int st.rm,.int st.tk,.int st.op,.int st.b,.int st.wt]):=hq
  refine⟨_,(qh (qz (q6a (qX q07 (qq (qj K) (pv 2) (qk (v:= .int 0) rfl e_ROOM ⟨_,rfl⟩) (fun _ _=>rfl)) (qq (qj K) (q3c (k:=1) (hr.mono (by decide)) (pv 0) (qc (pv 1) qd)) (qk (v:= .int 0) rfl e_PAIR_ROOM ⟨_,rfl⟩) (fun _ _=>rfl)) (qy _)) (q2I (pe_not (qx C_has_bit hr (by decide) rfl (qc (qq (qj K) (pv 2) (qk (v:= .int 1) rfl e_TAKEN ⟨_,rfl⟩) (fun _ _=>rfl)) (qc (q0h K (pv 0) rfl) qd)))))))),?_⟩
  walk_at "rd"
  refine r_vm hp vo (q2J _ _) ?_
  walk_at "rd"
  refine⟨p,c,C,i,rfl,ho,hC,hi,fun r hrow=>?_⟩
  obtain⟨x,hx,hP⟩:=hrow
  have ecan:canB C st i .take=(decide (st.rm=x.1)&& !bit st.tk i):=by simp[canB,hx]
  replace hP:H r=some (.tup [.int x.1,.int x.2]):=hP
  have k':=k H (Same.refl _)
  rw[ecan] at k'
  walk_at "rd"
  refine ifd (fun h1=>?_) (fun h1=>?_)
  ·rw [decide_eq_true h1,Bool.true_and] at k'
   walk_at "rd"
   refine q19 hp D.cl D.nn (q0a _ _) ?_
   walk_at "rd"
   refine⟨st.tk,i,rfl,by omega,?_⟩
   rw[Int.toNat_natCast]
   walk_at "rd"
   exact k'
  ·rw [decide_eq_false h1,Bool.false_and] at k'
   exact k'
theorem q4r (T:Txt mg cs)(D:DCl K cs .turn)(L:LaidM K cs.Turn "fits" "Turn.fits" q1m ["self","cellar","stand"])(vo:VMeth P w K mg base 1 (dcls cs .turn) "own_part" ["self","cellar"] (q3v cs .turn)):VMeth P w K mg base 5 (dcls cs .turn) "fits" ["self","cellar","stand"] (q36 cs .turn):=by
 obtain⟨t1,e_ROOM⟩:=T.e_ROOM
 obtain⟨t2,e_PAIR_ROOM⟩:=T.e_PAIR_ROOM
 obtain⟨t3,e_WATER⟩:=T.e_WATER
 obtain⟨t4,e_PAIR_NUMBER⟩:=T.e_PAIR_NUMBER
 refine LaidM.vm (k:=4) L D.cl q2H (fun vs H Q E h=>?_) (fun f cdv A outer s H vs Q E hr h=>?_)
 ·obtain ⟨p,c,q,C,st,i,rfl,_⟩:=h
  rfl
 ·obtain ⟨p,c,q,C,st,i,rfl,ho,hC,ok,hq,sok,hi,k⟩:=h
  obtain⟨dx,hp⟩:=ho.ex
  replace hq:H q=some (.tup [.int st.rm,.int st.tk,.int st.op,.int st.b,.int st.wt]):=hq
  refine⟨_,(qe (qA (i:=3) q2H.nd rfl (Or.inl rfl) (q3c (k:=1) (hr.mono (by decide)) (pv 0) (qc (pv 1) qd)))
   (qh (qz (q6a (qX q07 (qq (qj K) (pv 2) (qk (v:= .int 0) rfl e_ROOM ⟨_,rfl⟩) (fun _ _=>rfl)) (qq (qj K) (pv 3) (qk (v:= .int 0) rfl e_PAIR_ROOM ⟨_,rfl⟩) (fun _ _=>rfl)) (qy _)) (q2I (qX q8Z (qq (qj K) (pv 2) (qk (v:= .int 4) rfl e_WATER ⟨_,rfl⟩) (fun _ _=>rfl)) (qq (qj K) (pv 3) (qk (v:= .int 1) rfl e_PAIR_NUMBER ⟨_,rfl⟩) (fun _ _=>rfl)) (qy _))))))),?_⟩
  walk_at "rd"
  refine r_vm hp vo (q2J _ _) ?_
  walk_at "rd"
  refine⟨p,c,C,i,rfl,ho,hC,hi,fun r hrow=>?_⟩
  obtain⟨x,hx,hP⟩:=hrow
  have ecan:canB C st i .turn=(decide (st.rm=x.1)&& !decide (st.wt=x.2)):=by simp[canB,hx]
  replace hP:H r=some (.tup [.int x.1,.int x.2]):=hP
  have k':=k H (Same.refl _)
  rw[ecan] at k'
  walk_at "rd"
  refine ifd (fun h1=>?_) (fun h1=>?_)
  ·rw [decide_eq_true h1,Bool.true_and] at k'
   walk_at "rd"
   exact k'
  ·rw [decide_eq_false h1,Bool.false_and] at k'
   exact k'
theorem q3t (T:Txt mg cs)(D:DCl K cs .unlock)(L:LaidM K cs.Unlock "fits" "Unlock.fits" q0K ["self","cellar","stand"])(vo:VMeth P w K mg base 1 (dcls cs .unlock) "own_part" ["self","cellar"] (q3v cs .unlock))(C_can_enter:Cal P w K mg base 1 "can_enter" ["way","room"] q3S)(C_has_bit:Cal P w K mg base 1 "has_bit" ["bits","place"] q5t)
  (C_held:Cal P w K mg base 2 "held" ["cellar","stand"] q61):VMeth P w K mg base 5 (dcls cs .unlock) "fits" ["self","cellar","stand"] (q36 cs .unlock):=by
 obtain⟨t1,e_ROOM⟩:=T.e_ROOM
 obtain⟨t2,e_OPENED⟩:=T.e_OPENED
 obtain⟨t3,e_WAY_GATE⟩:=T.e_WAY_GATE
 refine LaidM.vm (k:=4) L D.cl q13 (fun vs H Q E h=>?_) (fun f cdv A outer s H vs Q E hr h=>?_)
 ·obtain ⟨p,c,q,C,st,i,rfl,_⟩:=h
  rfl
 ·obtain ⟨p,c,q,C,st,i,rfl,ho,hC,ok,hq,sok,hi,k⟩:=h
  obtain⟨dx,hp⟩:=ho.ex
  replace hq:H q=some (.tup [.int st.rm,.int st.tk,.int st.op,.int st.b,.int st.wt]):=hq
  refine⟨_,(qe (qA (i:=3) q13.nd rfl (Or.inl rfl) (q3c (k:=1) (hr.mono (by decide)) (pv 0) (qc (pv 1) qd)))
   (qe (qA (i:=4) q13.nd rfl (Or.inl rfl) (qq (qj K) (pv 3) (qk (v:= .int 2) rfl e_WAY_GATE ⟨_,rfl⟩) (fun _ _=>rfl)))
   (qe (q04 (PW.pt (q5C (qC q8Z (qq (qj K) (pv 4) qi (fun _ _=>rfl)) qQ (qy _)) (q5C (q2n (q0q (qx C_can_enter hr (by decide) rfl (qc (pv 3) (qc (qq (qj K) (pv 2) (qk (v:= .int 0) rfl e_ROOM ⟨_,rfl⟩) (fun _ _=>rfl)) qd))))) (q4Z (q0q (qx C_has_bit hr (by decide) rfl (qc (qq (qj K) (pv 2) (qk (v:= .int 2) rfl e_OPENED ⟨_,rfl⟩) (fun _ _=>rfl)) (qc (q0h K (pv 0) rfl) qd)))))))) (qh (qz q3e)) qD)
   (qh (qz (qX q2Q (qq (qY K) (qx C_held hr (by decide) rfl (qc (pv 1) (qc (pv 2) qd))) (qq (qj K) (pv 4) qi (fun _ _=>rfl)) (fun _ _=>rfl)) qi (qy _))))))),?_⟩
  walk_at "rd"
  refine r_vm hp vo (q2J _ _) ?_
  walk_at "rd"
  refine⟨p,c,C,i,rfl,ho,hC,hi,fun r hrow=>?_⟩
  obtain⟨x,hx,hW⟩:=hrow
  have xok:=ok.w x (List.mem_of_getElem? hx)
  obtain⟨g,hr1,hg⟩:=id hW
  have hg':=hg
  rw[Gt.vs_eq] at hg'
  walk_at "rd"
  refine ifn (fun hn=>?_) (fun hn=>?_)
  ·walk_at "rd"
   have hdk:x.g.dk=none:=by
    have:=q4m x.g
    rw[decide_eq_false hn] at this
    cases e:x.g.dk with
    |none=>rfl
    |some k=>rw[e] at this;cases this
   have:=k H (Same.refl _)
   rw[show canB C st i .unlock=false by simp[canB,hx,hdk]] at this
   exact this
  obtain⟨kd,ekd⟩:=q84 hn
  have hk:0<=kd/\kd<12:=by have:=xok.2.2.2;rw[ekd] at this;exact this
  have edk:x.g.dk=some kd:=by rw[ekd];rfl
  have ecan:canB C st i .unlock=((q0G x st.rm&& !bit st.op i)&&decide (0<hold C st.tk st.op kd)):=by simp[canB,hx,edk]
  have hg2:H g=some (.tup [.str "door",.int kd]):=by rw[ekd] at hg;exact hg
  walk_at "rd"
  refine⟨r,x,st.rm,rfl,hW,?_⟩
  walk_at "rd"
  cases he:q0G x st.rm with
  |false=>
   walk_at "rd"
   have:=k H (Same.refl _)
   rw[ecan,he] at this
   exact this
  |true=>
   walk_at "rd"
   refine q19 hp D.cl D.nn (q0a _ _) ?_
   walk_at "rd"
   refine⟨st.op,i,rfl,by omega,?_⟩
   rw[Int.toNat_natCast]
   walk_at "rd"
   cases hb:bit st.op i with
   |true=>
    walk_at "rd"
    have:=k H (Same.refl _)
    rw[ecan,he,hb] at this
    exact this
   |false=>
    walk_at "rd"
    refine⟨c,q,C,st.rm,st.tk,st.op,st.b,st.wt,rfl,hC,ok,hq,sok.dr,fun hl H2 s2 hl0 hl2=>?_⟩
    have hg3:=s2 _ _ hg2
    walk_at "rd"
    refine q3a (SqL.of hl2) (q8m hk.1 hk.2) ?_
    walk_at "rd"
    have:=k H2 s2
    rw[ecan,he,hb] at this
    exact this
theorem q6u (T:Txt mg cs)(D:DCl K cs .go)(L:LaidM K cs.Go "done" "Go.done" q2l ["self","cellar","stand"])(vo:VMeth P w K mg base 1 (dcls cs .go) "own_part" ["self","cellar"] (q3v cs .go))(C_changed:Cal P w K mg base 1 "changed" ["parts","place","part"] q5r):VMeth P w K mg base 2 (dcls cs .go) "done" ["self","cellar","stand"] (q37 cs .go):=by
 obtain⟨t1,e_ROOM⟩:=T.e_ROOM
 obtain⟨t2,e_WAY_A⟩:=T.e_WAY_A
 obtain⟨t3,e_WAY_B⟩:=T.e_WAY_B
 refine LaidM.vm (k:=1) L D.cl q2x (fun vs H Q E h=>?_) (fun f cdv A outer s H vs Q E hr h=>?_)
 ·obtain ⟨p,c,q,C,st,n,rfl,_⟩:=h
  rfl
 ·obtain ⟨p,c,q,C,st,n,rfl,ho,hC,ok,hq,sok,hcan,k⟩:=h
  obtain⟨hl,i,rfl,hi,hcb⟩:=q0x hcan
  obtain⟨dx,hp⟩:=ho.ex
  have hq':H q=some (.tup [.int st.rm,.int st.tk,.int st.op,.int st.b,.int st.wt]):=hq
  refine⟨_,(qe (qA (i:=3) q2x.nd rfl (Or.inl rfl) (q3c (k:=1) (hr.mono (by decide)) (pv 0) (qc (pv 1) qd)))
   (qe (qA (i:=4) q2x.nd rfl (Or.inl rfl) (q32 (qC q07 (qq (qj K) (pv 2) (qk (v:= .int 0) rfl e_ROOM ⟨_,rfl⟩) (fun _ _=>rfl)) (qq (qj K) (pv 3) (qk (v:= .int 0) rfl e_WAY_A ⟨_,rfl⟩) (fun _ _=>rfl)) (qy _)) (qq (qj K) (pv 3) (qk (v:= .int 1) rfl e_WAY_B ⟨_,rfl⟩) (fun _ _=>rfl)) (qq (qj K) (pv 3) (qk (v:= .int 0) rfl e_WAY_A ⟨_,rfl⟩) (fun _ _=>rfl))))
   (qh (qz (qx C_changed hr (by decide) rfl (qc (pv 2) (qc (qk (v:= .int 0) rfl e_ROOM ⟨_,rfl⟩) (qc (pv 4) qd)))))))),?_⟩
  walk_at "rd"
  refine r_vm hp vo (q2J _ _) ?_
  walk_at "rd"
  refine⟨p,c,C,i,rfl,ho,hC,hi,fun r hrow=>?_⟩
  obtain⟨x,hx,hW⟩:=hrow
  obtain⟨g,hr1,hg⟩:=id hW
  have edone:q0R C st .go (i:Int)={st with rm:=if st.rm=x.a then x.b else x.a}:=by
   show q09 C st ((i:Int)).toNat .go=_
   rw[Int.toNat_natCast];simp[q09,hx]
  rw[edone] at k
  walk_at "rd"
  refine ifd (fun h1=>?_) (fun h1=>?_)
  ·rw [if_pos h1] at k
   walk_at "rd"
   exact⟨q,st,0,_,rfl,by decide,hq,fun r H' s' hr'=>k r H' s' hr'⟩
  ·rw [if_neg h1] at k
   walk_at "rd"
   exact⟨q,st,0,_,rfl,by decide,hq,fun r H' s' hr'=>k r H' s' hr'⟩
theorem q4w (T:Txt mg cs)(D:DCl K cs .pull)(L:LaidM K cs.Pull "done" "Pull.done" q1t ["self","cellar","stand"])(vo:VMeth P w K mg base 1 (dcls cs .pull) "own_part" ["self","cellar"] (q3v cs .pull))(C_changed:Cal P w K mg base 1 "changed" ["parts","place","part"] q5r):VMeth P w K mg base 2 (dcls cs .pull) "done" ["self","cellar","stand"] (q37 cs .pull):=by
 obtain⟨t1,e_BARS⟩:=T.e_BARS
 obtain⟨t2,e_PAIR_NUMBER⟩:=T.e_PAIR_NUMBER
 refine LaidM.vm (k:=1) L D.cl q4P (fun vs H Q E h=>?_) (fun f cdv A outer s H vs Q E hr h=>?_)
 ·obtain ⟨p,c,q,C,st,n,rfl,_⟩:=h
  rfl
 ·obtain ⟨p,c,q,C,st,n,rfl,ho,hC,ok,hq,sok,hcan,k⟩:=h
  obtain⟨hl,i,rfl,hi,hcb⟩:=q0x hcan
  obtain⟨dx,hp⟩:=ho.ex
  have hq':H q=some (.tup [.int st.rm,.int st.tk,.int st.op,.int st.b,.int st.wt]):=hq
  refine⟨_,(qh (qz (qx C_changed hr (by decide) rfl (qc (pv 2) (qc (qk (v:= .int 3) rfl e_BARS ⟨_,rfl⟩) (qc (ql q9R (qq (qj K) (pv 2) (qk (v:= .int 3) rfl e_BARS ⟨_,rfl⟩) (fun _ _=>rfl)) (qq (qj K) (q3c (k:=1) (hr.mono (by decide)) (pv 0) (qc (pv 1) qd)) (qk (v:= .int 1) rfl e_PAIR_NUMBER ⟨_,rfl⟩) (fun _ _=>rfl))) qd)))))),?_⟩
  walk_at "rd"
  refine r_vm hp vo (q2J _ _) ?_
  walk_at "rd"
  refine⟨p,c,C,i,rfl,ho,hC,hi,fun r hrow=>?_⟩
  obtain⟨x,hx,hP⟩:=hrow
  replace hP:H r=some (.tup [.int x.1,.int x.2]):=hP
  have edone:q0R C st .pull (i:Int)={st with b:=Builtin.bitXor st.b x.2}:=by
   show q09 C st ((i:Int)).toNat .pull=_
   rw[Int.toNat_natCast];simp[q09,hx]
  rw[edone] at k
  walk_at "rd"
  exact⟨q,st,3,_,rfl,by decide,hq,fun r H' s' hr'=>k r H' s' hr'⟩
theorem q4v (T:Txt mg cs)(D:DCl K cs .take)(L:LaidM K cs.Take "done" "Take.done" q1q ["self","cellar","stand"])(C_changed:Cal P w K mg base 1 "changed" ["parts","place","part"] q5r):VMeth P w K mg base 2 (dcls cs .take) "done" ["self","cellar","stand"] (q37 cs .take):=by
 obtain⟨t1,e_TAKEN⟩:=T.e_TAKEN
 refine LaidM.vm (k:=1) L D.cl q4M (fun vs H Q E h=>?_) (fun f cdv A outer s H vs Q E hr h=>?_)
 ·obtain ⟨p,c,q,C,st,n,rfl,_⟩:=h
  rfl
 ·obtain ⟨p,c,q,C,st,n,rfl,ho,hC,ok,hq,sok,hcan,k⟩:=h
  obtain⟨hl,i,rfl,hi,hcb⟩:=q0x hcan
  obtain⟨dx,hp⟩:=ho.ex
  have hq':H q=some (.tup [.int st.rm,.int st.tk,.int st.op,.int st.b,.int st.wt]):=hq
  have hi8:(i:Int)<8:=by have h2:i<C.things.length:=hi;have:=ok.tl;omega
  have hb:bit st.tk i=false:=by
   have h2:i<C.things.length:=hi
   simp only[canB,List.getElem?_eq_getElem h2,Bool.and_eq_true,Bool.not_eq_true'] at hcb
   exact hcb.2
  have edone:q0R C st .take (i:Int)={st with tk:=st.tk+2 ^ i}:=by
   show q09 C st ((i:Int)).toNat .take=_
   rw[Int.toNat_natCast];rfl
  rw[edone] at k
  refine⟨_,(qh (qz (qx C_changed hr (by decide) rfl (qc (pv 2) (qc (qk (v:= .int 1) rfl e_TAKEN ⟨_,rfl⟩) (qc (ql op_or (qq (qj K) (pv 2) (qk (v:= .int 1) rfl e_TAKEN ⟨_,rfl⟩) (fun _ _=>rfl)) (ql q6b qi (q0h K (pv 0) rfl))) qd)))))),?_⟩
  walk_at "rd"
  refine q19 hp D.cl D.nn (q0a _ _) ?_
  walk_at "rd"
  rw[Int.toNat_natCast,Int.one_mul,q8v hb]
  exact⟨q,st,1,_,rfl,by decide,hq,fun r H' s' hr'=>k r H' s' hr'⟩
theorem q4u (T:Txt mg cs)(D:DCl K cs .turn)(L:LaidM K cs.Turn "done" "Turn.done" q1n ["self","cellar","stand"])(vo:VMeth P w K mg base 1 (dcls cs .turn) "own_part" ["self","cellar"] (q3v cs .turn))(C_changed:Cal P w K mg base 1 "changed" ["parts","place","part"] q5r):VMeth P w K mg base 2 (dcls cs .turn) "done" ["self","cellar","stand"] (q37 cs .turn):=by
 obtain⟨t1,e_WATER⟩:=T.e_WATER
 obtain⟨t2,e_PAIR_NUMBER⟩:=T.e_PAIR_NUMBER
 refine LaidM.vm (k:=1) L D.cl q4J (fun vs H Q E h=>?_) (fun f cdv A outer s H vs Q E hr h=>?_)
 ·obtain ⟨p,c,q,C,st,n,rfl,_⟩:=h
  rfl
 ·obtain ⟨p,c,q,C,st,n,rfl,ho,hC,ok,hq,sok,hcan,k⟩:=h
  obtain⟨hl,i,rfl,hi,hcb⟩:=q0x hcan
  obtain⟨dx,hp⟩:=ho.ex
  refine⟨_,(qh (qz (qx C_changed hr (by decide) rfl (qc (pv 2) (qc (qk (v:= .int 4) rfl e_WATER ⟨_,rfl⟩) (qc (qq (qj K) (q3c (k:=1) (hr.mono (by decide)) (pv 0) (qc (pv 1) qd)) (qk (v:= .int 1) rfl e_PAIR_NUMBER ⟨_,rfl⟩) (fun _ _=>rfl)) qd)))))),?_⟩
  walk_at "rd"
  refine r_vm hp vo (q2J _ _) ?_
  walk_at "rd"
  refine⟨p,c,C,i,rfl,ho,hC,hi,fun r hrow=>?_⟩
  obtain⟨x,hx,hP⟩:=hrow
  replace hP:H r=some (.tup [.int x.1,.int x.2]):=hP
  have edone:q0R C st .turn (i:Int)={st with wt:=x.2}:=by
   show q09 C st ((i:Int)).toNat .turn=_
   rw[Int.toNat_natCast];simp[q09,hx]
  rw[edone] at k
  walk_at "rd"
  exact⟨q,st,4,_,rfl,by decide,hq,fun r H' s' hr'=>k r H' s' hr'⟩
theorem q3u (T:Txt mg cs)(D:DCl K cs .unlock)(L:LaidM K cs.Unlock "done" "Unlock.done" q0L ["self","cellar","stand"])(C_changed:Cal P w K mg base 1 "changed" ["parts","place","part"] q5r):VMeth P w K mg base 2 (dcls cs .unlock) "done" ["self","cellar","stand"] (q37 cs .unlock):=by
 obtain⟨t1,e_OPENED⟩:=T.e_OPENED
 refine LaidM.vm (k:=1) L D.cl q3x (fun vs H Q E h=>?_) (fun f cdv A outer s H vs Q E hr h=>?_)
 ·obtain ⟨p,c,q,C,st,n,rfl,_⟩:=h
  rfl
 ·obtain ⟨p,c,q,C,st,n,rfl,ho,hC,ok,hq,sok,hcan,k⟩:=h
  obtain⟨hl,i,rfl,hi,hcb⟩:=q0x hcan
  obtain⟨dx,hp⟩:=ho.ex
  have hq':H q=some (.tup [.int st.rm,.int st.tk,.int st.op,.int st.b,.int st.wt]):=hq
  have hi20:(i:Int)<20:=by have h2:i<C.ways.length:=hi;have:=ok.wl;omega
  have hb:bit st.op i=false:=by
   have h2:i<C.ways.length:=hi
   cases hk:C.ways[i].g.dk with
   |none=>simp[canB,h2,hk] at hcb
   |some kd=>
    simp only[canB,List.getElem?_eq_getElem h2,hk,Bool.and_eq_true,Bool.not_eq_true'] at hcb
    exact hcb.1.2
  have edone:q0R C st .unlock (i:Int)={st with op:=st.op+2 ^ i}:=by
   show q09 C st ((i:Int)).toNat .unlock=_
   rw[Int.toNat_natCast];rfl
  rw[edone] at k
  refine⟨_,(qh (qz (qx C_changed hr (by decide) rfl (qc (pv 2) (qc (qk (v:= .int 2) rfl e_OPENED ⟨_,rfl⟩) (qc (ql op_or (qq (qj K) (pv 2) (qk (v:= .int 2) rfl e_OPENED ⟨_,rfl⟩) (fun _ _=>rfl)) (ql q6b qi (q0h K (pv 0) rfl))) qd)))))),?_⟩
  walk_at "rd"
  refine q19 hp D.cl D.nn (q0a _ _) ?_
  walk_at "rd"
  rw[Int.toNat_natCast,Int.one_mul,q8v hb]
  exact⟨q,st,2,_,rfl,by decide,hq,fun r H' s' hr'=>k r H' s' hr'⟩
end
def DAt (cs:Cs)(H:Hp)(p:Addr)(x:Wd×Nat):Prop:=DObj cs H p x.1 ((x.2:Nat):Int)
def TAt (H:Hp)(p:Addr)(x:Wd×Nat):Prop:=H p=some (.tup [.str x.1.str,.int ((x.2:Nat):Int)])
theorem DAt.mono {cs:Cs}{H H':Hp}(s:Same H H'){p:Addr}{x:Wd×Nat}(h:DAt cs H p x):DAt cs H' p x:=DObj.mono s h
theorem DAt.put {cs:Cs}{H:Hp}{D:Addr}{xs:List V}{o:HO}(hD:H D=some (.lst xs)){p:Addr}{x:Wd×Nat}(h:DAt cs H p x):DAt cs (upd H D o) p x:=by
 obtain⟨dx,hp⟩:=h.ex
 exact⟨dx,by rw[qp (q3y hp hD (by intro z;cases z))];exact hp⟩
theorem q0f {α:Type}{At:Hp->Addr->α->Prop}{H:Hp}{D x:Addr}{ps:List Addr}{xs:List α}{y:α}(mo:∀q z,At H q z->At (upd H D (.lst (ps.map V.ref++[.ref x]))) q z)(hr:Rows At H ps xs)(hx:At H x y):q0b At (upd H D (.lst (ps.map V.ref++[.ref x]))) D (xs++[y]):=
 ⟨ps++[x],by rw[qg,List.map_append];rfl,(hr.mono mo).snoc (mo _ _ hx)⟩
theorem q2Z {α:Type}{At:Hp->Addr->α->Prop}{H:Hp}{ps qs:List Addr}{xs ys:List α}(a:Rows At H ps xs)(b:Rows At H qs ys):Rows At H (ps++qs) (xs++ys):=by
 refine⟨by rw[List.length_append,List.length_append,a.1,b.1],fun i p x h1 h2=>?_⟩
 by_cases hi:i<ps.length
 ·rw [List.getElem?_append_left hi] at h1
  rw[List.getElem?_append_left (by rw[<-a.1];exact hi)] at h2
  exact a.2 i p x h1 h2
 ·rw [List.getElem?_append_right (by omega)] at h1
  rw[List.getElem?_append_right (by rw[<-a.1];omega),<-a.1] at h2
  exact b.2 _ p x h1 h2
def q79 (cs:Cs):Sp:=fun vs H Q _=>∃(c:Addr) (C:Cl),vs=[.ref c]/\ClAt H c C/\ClOk C/\∀(l:Addr) (H':Hp),Same H H'->H l=none->q0b (DAt cs) H' l (rowD .go C.ways.length)->Q (.ref l) H'
def q7b (cs:Cs):Sp:=fun vs H Q _=>∃(c:Addr) (C:Cl),vs=[.ref c]/\ClAt H c C/\ClOk C/\∀(l:Addr) (H':Hp),Same H H'->H l=none->q0b (DAt cs) H' l (allD C)->Q (.ref l) H'
def q7a (cs:Cs):Sp:=fun vs H Q _=>∃(c q:Addr) (C:Cl) (s:Sd),vs=[.ref c,.ref q]/\ClAt H c C/\ClOk C/\H q=some (.tup s.vs)/\s.ok C/\∀(l:Addr) (H':Hp),Same H H'->H l=none->q0b (DAt cs) H' l (fitD C s)->Q (.ref l) H'
section
variable {P:Program}{w:World}{K:W.Frag}{mg:Str->Option Value}{base:Heap}{cs:Cs}
theorem q2m {H0 H':Hp}{D:Addr}{d:Wd}{i:Nat}{v:Option V}{ps:List Addr}{x dx:Addr}(hD:H0 D=none)(s2:Same H0 H')(hi:i<100)(hps:H' D=some (.lst (ps.map V.ref)))(hrw:Rows (DAt cs) H' ps (rowD d i))(hx:H' x=none)(hdx:H' dx=none)(ne:dx≠x):
  q1G cs d (.ref x::([.int (0+((i:Nat):Int))]++[])) (upd (upd H' dx (.own x)) x (.ins (dcls cs d) dx [])) (fun w H2=>w= .non/\∃ys,H2 D=some (.lst ys)/\ys.length<sizeLine/\∃v0,([v]:St)=[v0]/\Same H0 (upd H2 D (.lst (ys++[.ref x])))/\q0b (DAt cs) (upd H2 D (.lst (ys++[.ref x]))) D (rowD d (i+1))) E0:=by
 have big:=qG
 rw[Int.zero_add]
 refine q7E (Q:=fun y H2=>∃ys,H2 D=some (.lst ys)/\ys.length<sizeLine/\∃v0,([v]:St)=[v0]/\Same H0 (upd H2 D (.lst (ys++[y])))/\q0b (DAt cs) (upd H2 D (.lst (ys++[y]))) D (rowD d (i+1))) hx hdx ne fun x H3 s3 hx0 hob=>?_
 have hp3:=s3 _ _ hps
 refine⟨_,hp3,by rw[List.length_map,hrw.1,q40];omega,_,rfl,(s2.trans s3).put hD,?_⟩
 rw[q7h]
 exact q0f (fun _ _=>DAt.put hp3) (hrw.mono fun _ _=>DAt.mono s3) hob
theorem qaK (T:Txt mg cs)(L:Laid K mg "all_goes" q18 ["cellar"])(C_Go:Makes P w K mg base 2 "Go" cs.Go ["self","number"] (q1G cs .go)):Cal P w K mg base 4 "all_goes" ["cellar"] (q79 cs):=by
 obtain⟨t1,e_WAYS⟩:=T.e_WAYS
 refine L.cal (k:=3) q5x (fun vs H Q E h=>?_) (fun f cdv A outer s H vs Q E hr h=>?_)
 ·obtain ⟨c,C,rfl,_⟩:=h
  rfl
 ·obtain ⟨c,C,rfl,hC,ok,k⟩:=h
  obtain⟨pw,pt,pl,pv',h0,hw,ht,hl,hv⟩:=hC.ex
  obtain⟨wv,hwv,hwl,hwg⟩:=hw.get
  have okw:=ok.wl
  have hwl2:(wv.length:Int)<=20:=by omega
  refine⟨_,(qh (qz (q1B (q0v (N:=["number"]) (own:=1) (caps:=[]) ["cellar"] (qf q18) (by decide +kernel)) rfl (qL rfl T.n_range (qc (qr (lenK K) rfl T.n_len qN (qc (qq (qj K) (pv 0) (qk (v:= .int 3) rfl e_WAYS ⟨_,rfl⟩) (fun _ _=>rfl)) qd)) qd)) (fun _ _ _ _=>(qu (i:=0) (show List.Nodup (["number"]:List Str) by decide +kernel) rfl (Or.inl rfl))) (fun _ _ _ _=>q2p) (fun _ _ _ _=>(q20 C_Go hr (by decide) rfl (qc (pv 0) qd)))))),?_⟩
  walk_at "rd"
  intro D hD
  refine q0t (fun i σ H'=>∃v0,σ=[v0]/\Same H H'/\q0b (DAt cs) H' D (rowD .go i)) ⟨none,rfl,Same.upd hD,⟨[],qg,Rows.nil⟩⟩ ?_ ?_
  ·rintro i σ H' hi ⟨v0,rfl,s2,ps,hps,hrw⟩
   walk_at "rd"
   exact fun x dx hx hdx ne => q2m hD s2 (by have:i<wv.length:=by simpa using hi
                                             omega) hps hrw hx hdx ne
  ·rintro σ H' ⟨v0,rfl,s2,hlst⟩
   rw[Int.toNat_natCast,hwl] at hlst
   exact k D H' s2 hD hlst
theorem qaN (T:Txt mg cs)(L:Laid K mg "all_deeds" q0c ["cellar"])(C_all_goes:Cal P w K mg base 4 "all_goes" ["cellar"] (q79 cs))(C_Pull:Makes P w K mg base 2 "Pull" cs.Pull ["self","number"] (q1G cs .pull))(C_Take:Makes P w K mg base 2 "Take" cs.Take ["self","number"] (q1G cs .take))
  (C_Turn:Makes P w K mg base 2 "Turn" cs.Turn ["self","number"] (q1G cs .turn))(C_Unlock:Makes P w K mg base 2 "Unlock" cs.Unlock ["self","number"] (q1G cs .unlock)):Cal P w K mg base 5 "all_deeds" ["cellar"] (q7b cs):=by
 obtain⟨t1,e_WAYS⟩:=T.e_WAYS
 obtain⟨t2,e_LEVERS⟩:=T.e_LEVERS
 obtain⟨t3,e_THINGS⟩:=T.e_THINGS
 obtain⟨t4,e_WHEELS⟩:=T.e_WHEELS
 refine L.cal (k:=4) q0B (fun vs H Q E h=>?_) (fun f cdv A outer s H vs Q E hr h=>?_)
 ·obtain ⟨c,C,rfl,_⟩:=h
  rfl
 ·obtain ⟨c,C,rfl,hC,ok,k⟩:=h
  have big:=qG
  obtain⟨pw,pt,pl,pv',h0,hw,ht,hl,hv⟩:=hC.ex
  obtain⟨wv,hwv,hwl,hwg⟩:=hw.get
  obtain⟨tv,htv,htl,htg⟩:=ht.get
  obtain⟨lv,hlv,hll,hlg⟩:=hl.get
  obtain⟨vv,hvv,hvl,hvg⟩:=hv.get
  have okw:=ok.wl
  have okt:=ok.tl
  have okl:=ok.ll
  have okv:=ok.vl
  have hwl2:(wv.length:Int)<=20:=by omega
  have htl2:(tv.length:Int)<=8:=by omega
  have hll2:(lv.length:Int)<=4:=by omega
  have hvl2:(vv.length:Int)<=4:=by omega
  refine⟨_,(qe (q1A (i:=1) q0B.nd rfl rfl (q0v (N:=["number"]) (own:=1) (caps:=[]) ["cellar","pulls","takes","turns","unlocks"] (qf q0c) (by decide +kernel)) rfl (qL rfl T.n_range (qc (qr (lenK K) rfl T.n_len qN (qc (qq (qj K) (pv 0) (qk (v:= .int 5) rfl e_LEVERS ⟨_,rfl⟩) (fun _ _=>rfl)) qd)) qd)) (fun _ _ _ _=>(qu (i:=0) (show List.Nodup (["number"]:List Str) by decide +kernel) rfl (Or.inl rfl))) (fun _ _ _ _=>q2p) (fun _ _ _ _=>(q20 C_Pull hr (by decide) rfl (qc (pv 0) qd))))
   (qe (q1A (i:=2) q0B.nd rfl rfl (q0v (N:=["number"]) (own:=1) (caps:=[]) ["cellar","pulls","takes","turns","unlocks"] (qf q0c) (by decide +kernel)) rfl (qL rfl T.n_range (qc (qr (lenK K) rfl T.n_len qN (qc (qq (qj K) (pv 0) (qk (v:= .int 4) rfl e_THINGS ⟨_,rfl⟩) (fun _ _=>rfl)) qd)) qd)) (fun _ _ _ _=>(qu (i:=0) (show List.Nodup (["number"]:List Str) by decide +kernel) rfl (Or.inl rfl))) (fun _ _ _ _=>q2p) (fun _ _ _ _=>(q20 C_Take hr (by decide) rfl (qc (pv 0) qd))))
   (qe (q1A (i:=3) q0B.nd rfl rfl (q0v (N:=["number"]) (own:=1) (caps:=[]) ["cellar","pulls","takes","turns","unlocks"] (qf q0c) (by decide +kernel)) rfl (qL rfl T.n_range (qc (qr (lenK K) rfl T.n_len qN (qc (qq (qj K) (pv 0) (qk (v:= .int 6) rfl e_WHEELS ⟨_,rfl⟩) (fun _ _=>rfl)) qd)) qd)) (fun _ _ _ _=>(qu (i:=0) (show List.Nodup (["number"]:List Str) by decide +kernel) rfl (Or.inl rfl))) (fun _ _ _ _=>q2p) (fun _ _ _ _=>(q20 C_Turn hr (by decide) rfl (qc (pv 0) qd))))
   (qe (q1A (i:=4) q0B.nd rfl rfl (q0v (N:=["number"]) (own:=1) (caps:=[]) ["cellar","pulls","takes","turns","unlocks"] (qf q0c) (by decide +kernel)) rfl (qL rfl T.n_range (qc (qr (lenK K) rfl T.n_len qN (qc (qq (qj K) (pv 0) (qk (v:= .int 3) rfl e_WAYS ⟨_,rfl⟩) (fun _ _=>rfl)) qd)) qd)) (fun _ _ _ _=>(qu (i:=0) (show List.Nodup (["number"]:List Str) by decide +kernel) rfl (Or.inl rfl))) (fun _ _ _ _=>q2p) (fun _ _ _ _=>(q20 C_Unlock hr (by decide) rfl (qc (pv 0) qd))))
   (qh (qz (ql q3G (ql q3G (ql q3G (ql q3G (qx C_all_goes hr (by decide) rfl (qc (pv 0) qd)) (pv 1)) (pv 2)) (pv 3)) (pv 4)))))))),?_⟩
  walk_at "rd"
  intro D1 hD1
  refine q0t (fun i σ H'=>∃v0,σ=[v0]/\Same H H'/\q0b (DAt cs) H' D1 (rowD .pull i)) ⟨none,rfl,Same.upd hD1,⟨[],qg,Rows.nil⟩⟩ ?_ ?_
  ·rintro i σ H' hi ⟨v0,rfl,s2,ps,hps,hrw⟩
   walk_at "rd"
   exact fun x dx hx hdx ne => q2m hD1 s2 (by have:i<lv.length:=by simpa using hi
                                              omega) hps hrw hx hdx ne
  rintro σ H1 ⟨v0,rfl,s1,m1⟩
  rw[Int.toNat_natCast,hll] at m1
  have h01:=s1 _ _ h0
  have htv1:=s1 _ _ htv
  walk_at "rd"
  intro D2 hD2
  refine q0t (fun i σ H'=>∃v0,σ=[v0]/\Same H1 H'/\q0b (DAt cs) H' D2 (rowD .take i)) ⟨none,rfl,Same.upd hD2,⟨[],qg,Rows.nil⟩⟩ ?_ ?_
  ·rintro i σ H' hi ⟨v0,rfl,s2,ps,hps,hrw⟩
   walk_at "rd"
   exact fun x dx hx hdx ne => q2m hD2 s2 (by have:i<tv.length:=by simpa using hi
                                              omega) hps hrw hx hdx ne
  rintro σ H2 ⟨v0,rfl,s2,m2⟩
  rw[Int.toNat_natCast,htl] at m2
  have s02:=s1.trans s2
  have h02:=s02 _ _ h0
  have hvv2:=s02 _ _ hvv
  walk_at "rd"
  intro D3 hD3
  refine q0t (fun i σ H'=>∃v0,σ=[v0]/\Same H2 H'/\q0b (DAt cs) H' D3 (rowD .turn i)) ⟨none,rfl,Same.upd hD3,⟨[],qg,Rows.nil⟩⟩ ?_ ?_
  ·rintro i σ H' hi ⟨v0,rfl,s2,ps,hps,hrw⟩
   walk_at "rd"
   exact fun x dx hx hdx ne => q2m hD3 s2 (by have:i<vv.length:=by simpa using hi
                                              omega) hps hrw hx hdx ne
  rintro σ H3 ⟨v0,rfl,s3,m3⟩
  rw[Int.toNat_natCast,hvl] at m3
  have s03:=s02.trans s3
  have h03:=s03 _ _ h0
  have hwv3:=s03 _ _ hwv
  walk_at "rd"
  intro D4 hD4
  refine q0t (fun i σ H'=>∃v0,σ=[v0]/\Same H3 H'/\q0b (DAt cs) H' D4 (rowD .unlock i)) ⟨none,rfl,Same.upd hD4,⟨[],qg,Rows.nil⟩⟩ ?_ ?_
  ·rintro i σ H' hi ⟨v0,rfl,s2,ps,hps,hrw⟩
   walk_at "rd"
   exact fun x dx hx hdx ne => q2m hD4 s2 (by have:i<wv.length:=by simpa using hi
                                              omega) hps hrw hx hdx ne
  rintro σ H4 ⟨v0,rfl,s4,m4⟩
  rw[Int.toNat_natCast,hwl] at m4
  have s04:=s03.trans s4
  walk_at "rd"
  refine⟨c,C,rfl,hC.mono s04.ts,ok,fun l5 H5 s5 hl5 m5=>?_⟩
  obtain⟨p1,e1,r1⟩:=m1
  obtain⟨p2,e2,r2⟩:=m2
  obtain⟨p3,e3,r3⟩:=m3
  obtain⟨p4,e4,r4⟩:=m4
  obtain⟨p5,e5,r5⟩:=m5
  have n1:=r1.1
  have n2:=r2.1
  have n3:=r3.1
  have n4:=r4.1
  have n5:=r5.1
  rw[q40] at n1 n2 n3 n4 n5
  have s45:=s4.trans s5
  have s35:=s3.trans s45
  have s25:=s2.trans s35
  walk_at "rd"
  refine⟨l5,D1,_,_,rfl,rfl,e5,s25 _ _ e1,by simp;omega,fun l6 hl6=>?_⟩
  rw[<-List.map_append]
  have s6:=Same.upd (o:= .lst ((p5++p1).map V.ref)) hl6
  have e6:=qg (H:=H5) (a:=l6) (o:= .lst ((p5++p1).map V.ref))
  generalize upd H5 l6 (.lst ((p5++p1).map V.ref))=H6 at s6 e6 ⊢
  walk_at "rd"
  refine⟨l6,D2,_,_,rfl,rfl,e6,s6 _ _ (s35 _ _ e2),by simp;omega,fun l7 hl7=>?_⟩
  rw[<-List.map_append]
  have s7:=Same.upd (o:= .lst ((p5++p1++p2).map V.ref)) hl7
  have e7:=qg (H:=H6) (a:=l7) (o:= .lst ((p5++p1++p2).map V.ref))
  generalize upd H6 l7 (.lst ((p5++p1++p2).map V.ref))=H7 at s7 e7 ⊢
  have s67:=s6.trans s7
  walk_at "rd"
  refine⟨l7,D3,_,_,rfl,rfl,e7,s67 _ _ (s45 _ _ e3),by simp;omega,fun l8 hl8=>?_⟩
  rw[<-List.map_append]
  have s8:=Same.upd (o:= .lst ((p5++p1++p2++p3).map V.ref)) hl8
  have e8:=qg (H:=H7) (a:=l8) (o:= .lst ((p5++p1++p2++p3).map V.ref))
  generalize upd H7 l8 (.lst ((p5++p1++p2++p3).map V.ref))=H8 at s8 e8 ⊢
  have s68:=s67.trans s8
  walk_at "rd"
  refine⟨l8,D4,_,_,rfl,rfl,e8,s68 _ _ (s5 _ _ e4),by simp;omega,fun l9 hl9=>?_⟩
  rw[<-List.map_append]
  have s9:=Same.upd (o:= .lst ((p5++p1++p2++p3++p4).map V.ref)) hl9
  have e9:=qg (H:=H8) (a:=l9) (o:= .lst ((p5++p1++p2++p3++p4).map V.ref))
  generalize upd H8 l9 (.lst ((p5++p1++p2++p3++p4).map V.ref))=H9 at s9 e9 ⊢
  have s69:=s68.trans s9
  have s09:=(s04.trans s5).trans s69
  refine k l9 H9 s09 ?_ ⟨_,e9,?_⟩
  ·exact (((s04.trans s5).trans s68).free hl9)
  ·exact q2Z (q2Z (q2Z (q2Z (r5.mono fun _ _=>DAt.mono s69) (r1.mono fun _ _=>DAt.mono (s25.trans s69))) (r2.mono fun _ _=>DAt.mono (s35.trans s69))) (r3.mono fun _ _=>DAt.mono (s45.trans s69))) (r4.mono fun _ _=>DAt.mono (s5.trans s69))
theorem qaL (T:Txt mg cs)(L:Laid K mg "fit_deeds" q0P ["cellar","stand"])(C_all_deeds:Cal P w K mg base 5 "all_deeds" ["cellar"] (q7b cs))(vc:∀d,VMeth P w K mg base 6 (dcls cs d) "can" ["self","cellar","stand"] (qae cs d)):Cal P w K mg base 7 "fit_deeds" ["cellar","stand"] (q7a cs):=by
 refine L.cal (k:=6) q4D (fun vs H Q E h=>?_) (fun f cdv A outer s H vs Q E hr h=>?_)
 ·obtain ⟨c,q,C,st,rfl,_⟩:=h
  rfl
 ·obtain ⟨c,q,C,st,rfl,hC,ok,hq,sok,k⟩:=h
  have big:=qG
  have hal:=q6s ok
  refine⟨_,(qh (qz (q1B (q0v (N:=["deed","cellar","stand"]) (own:=1) (caps:=[0,1]) ["cellar","stand"] (qf q0P) (by decide +kernel)) rfl (q0A K (qx C_all_deeds hr (by decide) rfl (qc (pv 0) qd))) (fun _ _ _ _=>(qu (i:=0) (show List.Nodup (["deed","cellar","stand"]:List Str) by decide +kernel) rfl (Or.inl rfl))) (fun _ _ _ _=>(q2o (q0q (q9P (k:=6) P w K mg base hr (by decide) (pv 0) (qc (pv 1) (qc (pv 2) qd)))))) (fun _ _ _ _=>(pv 0))))),?_⟩
  walk_at "rd"
  refine⟨c,C,rfl,hC,ok,fun l H1 s1 hl0 m1=>?_⟩
  obtain⟨ps,e1,r1⟩:=m1
  walk_at "rd"
  intro D hD
  refine q4g (ps.map V.ref) (fun i σ H'=>∃v0,σ=[v0,some (.ref c),some (.ref q)]/\Same H1 H'/\q0b (DAt cs) H' D (((allD C).take i).filter fun x=>canD C st x.1 (x.2:Int))) ⟨none,rfl,Same.upd hD,⟨[],qg,Rows.nil⟩⟩ ?_ ?_ ?_
  ·rintro i σ H' ⟨_,rfl,s2,_⟩
   exact SqL.of (s2 _ _ e1)
  ·rintro i x σ H' hx ⟨v0,rfl,s2,qs,hqs,hrw⟩
   have hi:i<(allD C).length:=by have:=(List.getElem?_eq_some_iff.mp hx).1;rw[List.length_map,r1.1] at this;exact this
   obtain⟨p,ep,hob⟩:=r1.get hi
   rw[hx] at ep
   cases ep
   have hob2:=DAt.mono s2 hob
   obtain⟨dx,hp⟩:=hob2.ex
   have s12:=s1.trans s2
   have hqlen:qs.length<=100:=by
    rw[hrw.1]
    refine Nat.le_trans (List.length_filter_le _ _) ?_
    rw[List.length_take];omega
   walk_at "rd"
   refine r_vm hp (vc _) (df_can _ _) ?_
   walk_at "rd"
   refine⟨p,c,q,C,st,_,rfl,hob2,hC.mono s12.ts,ok,s12 _ _ hq,sok,fun H3 s3=>?_⟩
   have hq3:=s3 _ _ hqs
   walk_at "rd"
   rw[List.take_succ_eq_append_getElem hi,List.filter_append]
   refine ite2 (fun hc=>?_) (fun hc=>?_)
   ·walk_at "rd"
    refine⟨_,hq3,by rw[List.length_map];omega,_,rfl,(s2.trans s3).put hD,?_⟩
    rw[show([(allD C)[i]].filter fun x=>canD C st x.1 (x.2:Int))=[(allD C)[i]] by simp[hc]]
    exact q0f (fun _ _=>DAt.put hq3) (hrw.mono fun _ _=>DAt.mono s3) (DAt.mono s3 hob2)
   ·refine ⟨_,rfl,s2.trans s3,qs,hq3,?_⟩
    rw[show([(allD C)[i]].filter fun x=>canD C st x.1 (x.2:Int))=[] by simp[hc],List.append_nil]
    exact hrw.mono fun _ _=>DAt.mono s3
  ·rintro σ H' ⟨v0,rfl,s2,m2⟩
   rw[List.length_map,r1.1,List.take_length] at m2
   exact k D H' (s1.trans s2) (s1.free hD) m2
end
seal L2.PA L2.PE L2.PI L2.PS L2.PSs L2.PG L2.PT
theorem q6S (x:Int)(t:Nat):decide (Builtin.bitAnd (x / 2 ^ t) 1=0)= !bit x t:=by
 unfold bit
 rw[PyProof.Rows.bitAnd_m1,Bool.eq_iff_iff]
 simp
 omega
theorem qV {H H':Hp}{a:Addr}{o:HO}(e:upd H a o=H')(h:H a=none):Same H H':=e▸Same.upd h
theorem qW {H H':Hp}{a:Addr}{o:HO}(e:upd H a o=H'):H' a=some o:=e▸qg
theorem hu3_of {A:Around}{k:Nat}(hr:Room k A):A.units+1+1<cLine:=by have:=hr.un;omega
theorem q8c {H:Hp}{D:Addr}{kvs:List (List Key×V)}{o:HO}(hD:H D=some (.dT kvs)):q0N H (upd H D o):=fun p xs h=>by rw[qp (q3y h hD (by intro z;cases z))];exact h
theorem DAtS.lput {H:Hp}{R D:Addr}{l:Dk}{xs:List V}{o:HO}(hR:H R=some (.lst xs))(h:DAtS H D l):DAtS (upd H R o) D l:=by
 show upd H R o D=_
 rw[qp (q3y h hR (by intro z;cases z))]
 exact h
def PrAt (C:Cl)(s:Sd)(H:Hp)(p:Addr)(x:Wd×Nat):Prop:=∃t r,H p=some (.tup [.ref t,.ref r])/\TAt H t x/\SAt H r (q0R C s x.1 (x.2:Int))
theorem PrAt.mono {C:Cl}{s:Sd}{H H':Hp}(ts:q0N H H'){p:Addr}{x:Wd×Nat}(h:PrAt C s H p x):PrAt C s H' p x:=let ⟨t,r,a,b,c⟩:=h;⟨t,r,ts _ _ a,ts _ _ b,ts _ _ c⟩
def q78:Sp:=fun vs H Q _=>∃(c q:Addr) (C:Cl) (s:Sd),vs=[.ref c,.ref q]/\ClAt H c C/\ClOk C/\SAt H q s/\s.ok C/\∀(l:Addr) (H':Hp),Same H H'->H l=none->q0b (PrAt C s) H' l (fitD C s)->Q (.ref l) H'
section
variable {P:Program}{w:World}{K:W.Frag}{mg:Str->Option Value}{base:Heap}{cs:Cs}
theorem q93 (T:Txt mg cs)(L:Laid K mg "leads" q38 ["cellar","stand"])(C_fit_deeds:Cal P w K mg base 7 "fit_deeds" ["cellar","stand"] (q7a cs))(vt:∀d,VMeth P w K mg base 1 (dcls cs d) "told" ["self"] (q5p cs d))(vd:∀d,VMeth P w K mg base 2 (dcls cs d) "done" ["self","cellar","stand"] (q37 cs d)):Cal P w K mg base 8 "leads" ["cellar","stand"] q78:=by
 refine L.cal (k:=7) q8H (fun vs H Q E h=>?_) (fun f cdv A outer s H vs Q E hr h=>?_)
 ·obtain ⟨c,q,C,st,rfl,_⟩:=h
  rfl
 ·obtain ⟨c,q,C,st,rfl,hC,ok,hq,sok,k⟩:=h
  have big:=qG
  have hal:=q6g ok st
  refine⟨_,(qh (qz (q1B (q0v (N:=["deed","cellar","stand"]) (own:=1) (caps:=[0,1]) ["cellar","stand"] (qf q38) (by decide +kernel)) rfl (q0A K (qx C_fit_deeds hr (by decide) rfl (qc (pv 0) (qc (pv 1) qd)))) (fun _ _ _ _=>(qu (i:=0) (show List.Nodup (["deed","cellar","stand"]:List Str) by decide +kernel) rfl (Or.inl rfl))) (fun _ _ _ _=>q2p) (fun _ _ _ _=>(qJ (qc (qaw (k:=1) P w K mg base hr (by decide) (pv 0)) (qc (q9P (k:=2) P w K mg base hr (by decide) (pv 0) (qc (pv 1) (qc (pv 2) qd))) qd))))))),?_⟩
  walk_at "rd"
  refine⟨c,q,C,st,rfl,hC,ok,hq,sok,fun l H1 s1 hl0 m1=>?_⟩
  obtain⟨ps,e1,r1⟩:=m1
  walk_at "rd"
  intro D hD
  refine q4g (ps.map V.ref) (fun i σ H'=>∃v0,σ=[v0,some (.ref c),some (.ref q)]/\Same H1 H'/\q0b (PrAt C st) H' D ((fitD C st).take i)) ⟨none,rfl,Same.upd hD,⟨[],qg,Rows.nil⟩⟩ ?_ ?_ ?_
  ·rintro i σ H' ⟨_,rfl,s2,_⟩
   exact SqL.of (s2 _ _ e1)
  ·rintro i x σ H' hx ⟨v0,rfl,s2,qs,hqs,hrw⟩
   have hi:i<(fitD C st).length:=by have:=(List.getElem?_eq_some_iff.mp hx).1;rw[List.length_map,r1.1] at this;exact this
   obtain⟨p,ep,hob⟩:=r1.get hi
   rw[hx] at ep
   cases ep
   have hc:canD C st (fitD C st)[i].1 ((fitD C st)[i].2:Int)=true:=q4a.mp (List.getElem_mem hi)
   have hob2:=DAt.mono s2 hob
   obtain⟨dx,hp⟩:=hob2.ex
   have hqlen:qs.length<=100:=by
    rw[hrw.1,List.length_take];omega
   have s12:=s1.trans s2
   walk_at "rd"
   refine r_vm hp (vt _) (qbh _ _) ?_
   refine⟨p,_,rfl,hob2,fun t H3 s3 ht3=>?_⟩
   have hq3:=s3 _ _ hqs
   have hob3:=DAt.mono s3 hob2
   obtain⟨dx3,hp3⟩:=hob3.ex
   have s13:=s12.trans s3
   walk_at "rd"
   refine r_vm hp3 (vd _) (qbj _ _) ?_
   walk_at "rd"
   refine⟨p,c,q,C,st,_,rfl,hob3,hC.mono s13.ts,ok,s13 _ _ hq,sok,hc,fun r H4 s4 hr4=>?_⟩
   have hq4:=s4 _ _ hq3
   walk_at "rd"
   intro z hz
   have s5:=Same.upd (o:= .tup [.ref t,.ref r]) hz
   have hq5:=s5 _ _ hq4
   have hz5:=qg (H:=H4) (a:=z) (o:= .tup [.ref t,.ref r])
   generalize upd H4 z (.tup [.ref t,.ref r])=H5 at s5 hq5 hz5 ⊢
   refine⟨_,hq5,by rw[List.length_map];omega,_,rfl,(((s2.trans s3).trans s4).trans s5).put hD,?_⟩
   rw[List.take_succ_eq_append_getElem hi]
   exact q0f (fun _ _ h=>PrAt.mono (q0N.lst hq5) h) (hrw.mono fun _ _=>PrAt.mono ((s3.trans s4).trans s5).ts) ⟨t,r,hz5,(s4.trans s5) _ _ ht3,s5 _ _ hr4⟩
  ·rintro σ H' ⟨v0,rfl,s2,m2⟩
   rw[List.length_map,r1.1,List.take_length] at m2
   exact k D H' (s1.trans s2) (s1.free hD) m2
end
def setD (l:Dk)(s:Sd)(v:V):Dk:=l.map fun x=>if x.1=s then(x.1,v) else x
theorem q7d (l:Dk)(s:Sd)(v:V):(setD l s v).map (·.1)=l.map (·.1):=by
 unfold setD
 rw[List.map_map]
 refine List.map_congr_left fun x _=>?_
 show(if x.1=s then(x.1,v) else x).1=x.1
 split<;>rfl
theorem qbe {l:Dk}{s:Sd}{v:V}(h:s∈l.map (·.1)):putK (dkv l) s.key v=dkv (setD l s v):=by
 unfold putK
 rw[q2U,q4e,q2D,decide_eq_true h,if_pos rfl]
 unfold dkv setD
 rw[List.map_map,List.map_map]
 refine List.map_congr_left fun x _=>?_
 show(if x.1.key=s.key then(x.1.key,v) else(x.1.key,x.2))=((if x.1=s then(x.1,v) else x).1.key,(if x.1=s then(x.1,v) else x).2)
 by_cases e:x.1=s
 ·rw [if_pos e,if_pos (by rw[e])]
 ·rw [if_neg e,if_neg fun z=>e (Sd.key_inj z)]
theorem dput_o {H:Hp}{a b:Addr}{l:Dk}{s:Sd}{v:V}(h:DAtS H a l)(hb:SAt H b s)(hl:l.length<sizeLine)(hn:s∈l.map (·.1)):DPut H a (.ref b) v (upd H a (.dT (dkv (setD l s v)))):=by
 have:=DPut.t (k:=s.key) (v:=v) h hb (by simpa[dkv] using hl)
 rwa [qbe hn] at this
def spWF:Sp:=fun vs H Q _=>∃(c q:Addr) (C:Cl) (s:Sd),vs=[.ref c,.ref q]/\ClAt H c C/\ClOk C/\Small C/\SAt H q s/\s.ok C/\∀(d:Addr) (l:Dk) (H':Hp),Same H H'->H d=none->DAtS H' d l->(l.map (·.1)).Nodup->(∀x,x∈l.map (·.1)↔Rch (NxR C) s x)->Q (.ref d) H'
section
variable {P:Program}{w:World}{K:W.Frag}{mg:Str->Option Value}{base:Heap}{cs:Cs}
theorem qaF (T:Txt mg cs)(L:Laid K mg "walk_from" q1e ["cellar","begin"])(C_leads:Cal P w K mg base 8 "leads" ["cellar","stand"] q78):Cal P w K mg base 9 "walk_from" ["cellar","begin"] spWF:=by
 obtain⟨t1,e_MOST_STANDS⟩:=T.e_MOST_STANDS
 refine L.cal (k:=8) q01 (fun vs H Q E h=>?_) (fun f cdv A outer s H vs Q E hr h=>?_)
 ·obtain ⟨c,q,C,st,rfl,_⟩:=h
  rfl
 ·obtain ⟨c,q,C,st,rfl,hC,ok,sm,hq,sok,k⟩:=h
  have big:=qG
  refine⟨_,(qe (qA (i:=2) q01.nd rfl (Or.inl rfl) (q69 (q3m hr) (pv 1) (q0u qd)))
   (qe (qA (i:=3) q01.nd rfl (Or.inl rfl) (q0u (qc (pv 1) qd)))
   (qe (qA (i:=4) q01.nd rfl (Or.inl rfl) qi)
   (qe (q41 PassesOwn.never (qC qaB (pv 4) (qr (lenK K) rfl T.n_len qN (qc (pv 3) qd)) (qy _)) (qe (qA (i:=5) q01.nd rfl (Or.inl rfl) (qq (qY K) (pv 3) (pv 4) (fun _ _=>rfl)))
   (qe (q7k (i:=4) q01.nd rfl (Or.inl rfl) qi q6e)
   (qe (qA (i:=6) q01.nd rfl (Or.inl rfl) (qx C_leads hr (by decide) rfl (qc (pv 0) (qc (pv 5) qd))))
   (qe (q5D (q3m hr) (pv 2) (pv 5) (pv 6) rfl)
   (qe (q0j PassesOwn.never rfl (q0A K (pv 6)) (q2b (n:=2) K rfl (qP (qu (i:=7) q01.nd rfl (Or.inl rfl)) (qP (qu (i:=8) q01.nd rfl (Or.inl rfl)) q2a))) (qh (q04 (q3E (q54 (q3m hr) (pv 8) (pv 2))) (qe (q5D (q3m hr) (pv 2) (pv 8) (q0u qd) rfl)
   (qh (qK (q2q PySem.F.plainAttrs_list PySem.F.slot_list_append PySem.F.type_list_append q02 (pv 3) (qc (pv 8) qd))))) qD)))
   (qh (q04 (qC q2Q (qr (lenK K) rfl T.n_len qN (qc (pv 3) qd)) (qk (v:= .int 300) rfl e_MOST_STANDS ⟨_,rfl⟩) (qy _)) (qh q0r) qD))))))))
   (qh (qz (pv 2))))))),?_⟩
  walk_at "rd"
  intro D hD
  have s1:=Same.upd (o:= .dT []) hD
  have h1:=qg (H:=H) (a:=D) (o:= .dT [])
  generalize upd H D (.dT [])=H1 at s1 h1 ⊢
  walk_at "rd"
  intro e0 he0
  have s2:=s1.trans (Same.upd (o:= .lst []) he0)
  have h2:=(Same.upd (o:= .lst []) he0) _ _ h1
  generalize upd H1 e0 (.lst [])=H2 at s2 h2 ⊢
  refine⟨q,st.key,rfl,h2,s2 _ _ hq,?_⟩
  have s3:Same H (upd H2 D (.dT [(st.key,V.ref e0)])):=s2.put hD
  have d3:DAtS (upd H2 D (.dT [(st.key,V.ref e0)])) D [(st,V.ref e0)]:=qg
  generalize upd H2 D (.dT [(st.key,V.ref e0)])=H3 at s3 d3 ⊢
  walk_at "rd"
  intro R hR3
  have hR:H R=none:=s3.free hR3
  have s4:=s3.trans (Same.upd (o:= .lst [.ref q]) hR3)
  have d4:DAtS (upd H3 R (.lst [.ref q])) D [(st,V.ref e0)]:=(Same.upd (o:= .lst [.ref q]) hR3) _ _ d3
  have hR4:=qg (H:=H3) (a:=R) (o:= .lst [.ref q])
  generalize upd H3 R (.lst [.ref q])=H4 at s4 d4 hR4 ⊢
  walk_at "rd"
  refine q7i (fun m σ H'=>∃(row:List Sd) (l:Dk) (pl:Nat) (v5 v6 v7 v8:Option V),σ=[some (.ref c),some (.ref q),some (.ref D),some (.ref R),some (.int pl),v5,v6,v7,v8]/\Same H H'/\q0b SAt H' R row/\DAtS H' D l/\l.map (·.1)=row/\Srch (NxR C) st row pl/\pl<=row.length/\m=2000 - pl) (2000 - 0)
   ⟨[st],[(st,V.ref e0)],0,none,none,none,none,rfl,s4,⟨[q],hR4,Rows.nil.snoc (s4 _ _ hq)⟩,d4,rfl,Srch.start,by simp,rfl⟩ ?_
  rintro m σ H5 ⟨row,l,pl,v5,v6,v7,v8,rfl,s5,⟨qs,hqs,rqs⟩,hd5,hk,sr,hpl,hm⟩
  have hql:qs.length=row.length:=rqs.1
  have hrl:row.length<=288:=few ok sm sok sr.nd sr.rch
  walk_at "rd"
  rw[List.length_map,hql]
  refine ifd (fun hlt=>?_) (fun hge=>?_)
  ·have hlt':pl<row.length:=by omega
   obtain⟨p,ep,hp5⟩:=rqs.get hlt'
   generalize hx:row[pl]=x at hp5
   have hrx:row[pl]? =some x:=by rw[List.getElem?_eq_getElem hlt',hx]
   have hxr:x∈row:=List.mem_of_getElem? hrx
   have hp5:SAt H5 p x:=hp5
   have xok:x.ok C:=q8f ok sok (sr.rch x hxr)
   have hfl:=q6g ok x
   refine⟨fun σ' H'=>∃(row:List Sd) (l:Dk) (v6 v7 v8:Option V),σ'=[some (.ref c),some (.ref q),some (.ref D),some (.ref R),some (.int ((pl:Int)+1)),some (.ref p),v6,v7,v8]/\Same H H'/\q0b SAt H' R row/\DAtS H' D l/\l.map (·.1)=row/\Srch (NxR C) st row (pl+1)/\pl+1<=row.length,?_,?_⟩
   ·rintro σ' H' ⟨row,l,v6,v7,v8,rfl,z1,z2,z3,z4,z5,z6⟩
    exact⟨2000 - (pl+1),by omega,row,l,pl+1,some (.ref p),v6,v7,v8,rfl,z1,z2,z3,z4,z5,z6,rfl⟩
   ·walk_at "rd"
    refine⟨c,p,C,x,rfl,hC.mono s5.ts,ok,hp5,xok,fun lp H6 s6 hl0 m6=>?_⟩
    obtain⟨ps,hps,rps⟩:=m6
    have s06:=s5.trans s6
    have hd6:DAtS H6 D l:=s6 _ _ hd5
    have neR:lp≠R:=fun z=>by subst z;rw[hl0] at hqs;cases hqs
    have neD:lp≠D:=fun z=>by rw[z,show H5 D=some _ from hd5] at hl0;cases hl0
    have hll:l.length=row.length:=by rw[<-hk,List.length_map]
    walk_at "rd"
    refine⟨D,_,rfl,dput_o hd6 (s6 _ _ hp5) (by omega) (by rw[hk];exact hxr),?_⟩
    have ts7:=q8c (o:= .dT (dkv (setD l x (.ref lp)))) hd6
    have s07:Same H (upd H6 D (.dT (dkv (setD l x (.ref lp))))):=s06.put hD
    have d7:DAtS (upd H6 D (.dT (dkv (setD l x (.ref lp))))) D (setD l x (.ref lp)):=qg
    have l7:upd H6 D (.dT (dkv (setD l x (.ref lp)))) lp=some (.lst (ps.map V.ref)):=by rw[qp neD];exact hps
    have R7:upd H6 D (.dT (dkv (setD l x (.ref lp)))) R=some (.lst (qs.map V.ref)):=by rw[qp (q3y (s6 _ _ hqs) hd6 (by intro z;cases z))];exact s6 _ _ hqs
    generalize upd H6 D (.dT (dkv (setD l x (.ref lp))))=H7 at ts7 s07 d7 l7 R7 ⊢
    have ts67:=s6.ts.trans ts7
    walk_at "rd"
    refine q2c (ps.map V.ref) (fun i σ' H'=>∃(row:List Sd) (l:Dk) (v7 v8:Option V),σ'=[some (.ref c),some (.ref q),some (.ref D),some (.ref R),some (.int ((pl:Int)+1)),some (.ref p),some (.ref lp),v7,v8]/\Same H H'/\H' lp=some (.lst (ps.map V.ref))/\Rows (PrAt C x) H' ps (fitD C x)/\q0b SAt H' R row/\DAtS H' D l/\l.map (·.1)=row/\Mid (NxR C) st x row pl ((nx C x).take i))
     ⟨row,setD l x (.ref lp),v7,v8,rfl,s07,l7,rps.mono fun _ _=>PrAt.mono ts7,⟨qs,R7,rqs.mono fun _ _=>SAt.mono ts67⟩,d7,by rw[q7d];exact hk,sr.mid hrx⟩ ?_ ?_ ?_
    ·rintro i σ' H' ⟨_,_,_,_,rfl,_,e,_⟩
     exact SqL.of e
    ·rintro i z σ' H8 hz ⟨row,l,v7,v8,rfl,s8,l8,rps8,⟨qs,hqs,rqs⟩,hd8,hk,md⟩
     have hi:i<(fitD C x).length:=by have:=(List.getElem?_eq_some_iff.mp hz).1;rw[List.length_map,rps.1] at this;exact this
     obtain⟨p',ep',hp8⟩:=rps8.get hi
     rw[hz] at ep'
     cases ep'
     obtain⟨t,r,e8,_,hr8⟩:=hp8
     have hi':i<(nx C x).length:=by unfold nx;rw[List.length_map];exact hi
     have ey:q0R C x (fitD C x)[i].1 ((fitD C x)[i].2:Int)=(nx C x)[i]:=by simp[nx]
     rw[ey] at hr8
     have hy:NxR C x (nx C x)[i]:=List.getElem_mem hi'
     rw[List.take_succ_eq_append_getElem hi']
     generalize (nx C x)[i]=y at hr8 hy ⊢
     have hr8:SAt H8 r y:=hr8
     have hrl:row.length<=288:=few ok sm sok md.nd md.rch
     have hll:l.length=row.length:=by rw[<-hk,List.length_map]
     walk_at "rd"
     refine⟨D,_,rfl,qa0 (.inl hd8) hr8,?_⟩
     rw[q2D,hk]
     walk_at "rd"
     by_cases hin:y∈row
     ·rw [decide_eq_true hin]
      walk_at "rd"
      exact⟨row,l,_,_,rfl,s8,l8,rps8,⟨qs,hqs,rqs⟩,hd8,hk,md.old hin⟩
     ·rw [decide_eq_false hin]
      walk_at "rd"
      intro e1 he1
      have s9:=Same.upd (o:= .lst []) he1
      generalize upd H8 e1 (.lst [])=H9 at s9 ⊢
      have hd9:DAtS H9 D l:=s9 _ _ hd8
      have hqs9:=s9 _ _ hqs
      have neRD:R≠D:=q3y hqs9 hd9 (by intro z;cases z)
      walk_at "rd"
      refine⟨D,_,rfl,q9Y hd9 (s9 _ _ hr8) (by omega) (by rw[hk];exact hin),?_⟩
      have ts10:=q8c (o:= .dT (dkv (l++[(y,V.ref e1)]))) hd9
      have s10:Same H (upd H9 D (.dT (dkv (l++[(y,V.ref e1)])))):=(s8.trans s9).put hD
      have d10:DAtS (upd H9 D (.dT (dkv (l++[(y,V.ref e1)])))) D (l++[(y,V.ref e1)]):=qg
      have l10:upd H9 D (.dT (dkv (l++[(y,V.ref e1)]))) lp=some (.lst (ps.map V.ref)):=by rw[qp neD];exact s9 _ _ l8
      have R10:upd H9 D (.dT (dkv (l++[(y,V.ref e1)]))) R=some (.lst (qs.map V.ref)):=by rw[qp neRD];exact hqs9
      generalize upd H9 D (.dT (dkv (l++[(y,V.ref e1)])))=H10 at ts10 s10 d10 l10 R10 ⊢
      have ts810:=s9.ts.trans ts10
      walk_at "rd"
      refine q2y R10 (by rw[List.length_map,rqs.1];omega) ?_
      exact⟨row++[y],l++[(y,V.ref e1)],_,_,rfl,s10.put hR,by rw[qp neR];exact l10,rps8.mono fun _ _ h=>PrAt.mono (ts810.trans (q0N.lst R10)) h,q0f (fun _ _=>SAt.put R10) (rqs.mono fun _ _=>SAt.mono ts810) (SAt.mono ts810 hr8),DAtS.lput R10 d10,by rw[List.map_append,hk];rfl,md.new hin hy⟩
    ·rintro σ' H8 ⟨row,l,v7,v8,rfl,s8,l8,rps8,⟨qs,hqs,rqs⟩,hd8,hk,md⟩
     have hrl:row.length<=288:=few ok sm sok md.nd md.rch
     have hql:qs.length=row.length:=rqs.1
     rw[List.length_map,rps.1,show(fitD C x).length=(nx C x).length by simp[nx],List.take_length] at md
     walk_at "rd"
     rw[List.length_map,hql]
     refine ifd (fun hgt=>absurd hgt (by omega)) (fun _=>?_)
     walk_at "rd"
     exact⟨row,l,_,_,_,rfl,s8,⟨qs,hqs,rqs⟩,hd8,hk,md.next fun y hy=>hy,(List.getElem?_eq_some_iff.mp md.at').1⟩
  ·walk_at "rd"
   exact k D l H5 s5 hD hd5 (by rw[hk];exact sr.nd) (by rw[hk];exact sr.end (by omega))
end
theorem q7L {n m:Nat}(h:m<n):ixN n (m:Int)=some m:=by
 unfold ixN
 simp[h]
def kn (ks:List Int)(j:Nat):Int:=((ks.filter (fun k=>decide (k=(j:Int)))).length:Nat)
theorem kn_app (ks:List Int)(k:Int)(j:Nat):kn (ks++[k]) j=kn ks j+(if k=(j:Int) then 1 else 0):=by
 unfold kn
 rw[List.filter_append,List.length_append]
 by_cases h:k=(j:Int)
 ·rw [if_pos h];simp[h]
 ·rw [if_neg h];simp[h]
theorem qb1 (ks:List Int)(k:Int)(j:Nat):kn (k::ks) j=kn ks j+(if k=(j:Int) then 1 else 0):=by
 unfold kn
 rw[List.filter_cons]
 by_cases h:k=(j:Int)
 ·rw [if_pos h];simp[h]
 ·rw [if_neg h];simp[h]
theorem qb0 (ks:List Int)(j:Nat):0<=kn ks j/\kn ks j<=ks.length:=by
 unfold kn
 have:=List.length_filter_le (fun k=>decide (k=(j:Int))) ks
 omega
abbrev cnts (ks:List Int):List Int:=(List.range 12).map (kn ks)
theorem q5N (ks:List Int):cnts ks=[kn ks 0,kn ks 1,kn ks 2,kn ks 3,kn ks 4,kn ks 5,kn ks 6,kn ks 7,kn ks 8,kn ks 9,kn ks 10,kn ks 11]:=rfl
theorem q6P {k:Int}(h:0<=k/\k<=11):k=0\/k=1\/k=2\/k=3\/k=4\/k=5\/k=6\/k=7\/k=8\/k=9\/k=10\/k=11:=by omega
theorem q3O:∀ks:List Int,(∀k∈ks,0<=k/\k<=11)->(cnts ks).sum=ks.length
 |[],_=>rfl
 |k::ks,h=>by
  have ih:=q3O ks fun x hx=>h x (List.mem_cons_of_mem _ hx)
  rw[q5N] at ih ⊢
  simp only[List.sum_cons,List.sum_nil,List.length_cons] at ih ⊢
  rcases q6P (h k List.mem_cons_self) with rfl|rfl|rfl|rfl|rfl|rfl|rfl|rfl|rfl|rfl|rfl|rfl<;>simp[qb1]<;>omega
def shs (ks:List Int)(n:Int):List Int:=(n - ks.length)::cnts ks
theorem q9y (ks:List Int)(a:Int)(m:Nat)(h:m<12):(a::cnts ks).set (m+1) (kn ks m+1)=a::cnts (ks++[(m:Int)]):=by
 have hm:m=0\/m=1\/m=2\/m=3\/m=4\/m=5\/m=6\/m=7\/m=8\/m=9\/m=10\/m=11:=by omega
 rw[q5N,q5N]
 rcases hm with rfl|rfl|rfl|rfl|rfl|rfl|rfl|rfl|rfl|rfl|rfl|rfl<;>simp[kn_app]
theorem qbo (ks:List Int)(a:Int)(m:Nat)(h:m<12):atI ((a::cnts ks).map V.int) ((m:Int)+1)=some (.int (kn ks m)):=by
 rw[show(m:Int)+1=((m+1:Nat):Int) by omega]
 refine q0i ?_
 simp[h]
def many (ks:List Int)(n:Int):Int:=divs (fac n.toNat / fac (n - ks.length).toNat) (cnts ks)
structure DGood (ks:List Int)(n:Int):Prop where
 l:ks.length<=8
 k:∀k∈ks,0<=k/\k<=11
 n:(ks.length:Int)<=n/\n<=14
theorem q28 {ks:List Int}{n:Int}(g:∀k∈ks,0<=k/\k<=11):(shs ks n).sum=n:=by
 show(n - ks.length)+(cnts ks).sum=n
 rw[q3O ks g]
 omega
theorem q62 {ks:List Int}{n:Int}(g:∀k∈ks,0<=k/\k<=11):divs (fac (shs ks n).sum.toNat) (shs ks n)=many ks n:=by
 rw[q28 g]
 rfl
def vO:Option Int->V
 |none=> .non
 |some k=> .int k
def q77:Sp:=fun vs H Q _=>∃k:Int,vs=[.int k]/\Q (.int (k+1)) H
def spFac:Sp:=fun vs H Q _=>∃n:Int,vs=[.int n]/\0<=n/\n<=1000/\Q (.int (fac n.toNat)) H
def q3R:Sp:=fun vs H Q _=>∃(p:Addr) (ss:List Int),vs=[.ref p]/\H p=some (.lst (ss.map V.int))/\(∀s∈ss,0<=s/\s<=14)/\0<=ss.sum/\ss.sum<=14/\Q (.int (divs (fac ss.sum.toNat) ss)) H
def q3Q:Sp:=fun vs H Q _=>∃(p:Addr) (ks:List Int) (n:Int),vs=[.ref p,.int n]/\H p=some (.lst (ks.map V.int))/\(∀k∈ks,0<=k/\k<=11)/\ks.length<=1000/\∀(q:Addr) (H':Hp),Same H H'->H q=none->H' q=some (.lst ((shs ks n).map V.int))->Q (.ref q) H'
def q5o:Sp:=fun vs H Q _=>∃(p:Addr) (ks:List Int),vs=[.ref p]/\H p=some (.lst (ks.map V.int))/\(ks.length<=8/\∀k∈ks,0<=k/\k<=11)/\Q .non H
def q5q:Sp:=fun vs H Q _=>∃(p:Addr) (ks:List Int) (n:Int),vs=[.ref p,.int n]/\H p=some (.lst (ks.map V.int))/\DGood ks n/\∀H',Same H H'->Q (.int (many ks n)) H'
def vD (o:Nat):V:=if o=0 then .non else .int ((o:Int) - 1)
def q0E (os:List (Option Int)):List Int:=os.filterMap id
structure OGood (os:List (Option Int)):Prop where
 n:os.length<=14
 l:(q0E os).length<=8
 k:∀k∈q0E os,0<=k/\k<=11
theorem q9m (os:List (Option Int)):(q0E os).length<=os.length:=List.length_filterMap_le _ _
theorem q59 (os:List (Option Int))(o:Option Int):q0E (os++[o])=q0E os++(match o with|none=>[]|some k=>[k]):=by
 unfold q0E
 rw[List.filterMap_append]
 cases o<;>rfl
theorem q3B {ks:List Int}{n:Int}(h:(ks.length:Int)<=n):NN (shs ks n):=fun s hs=>by
 rcases List.mem_cons.mp hs with rfl|hs
 ·omega
 ·obtain ⟨j,_,rfl⟩:=List.mem_map.mp hs
  exact(qb0 ks j).1
theorem q7D {ks:List Int}{n:Int}(g:DGood ks n):many ks n=mn (shs ks n):=by
 rw[<-q62 g.k,q86 (q3B g.n.1)]
theorem fac_le:∀n,n<15->fac n<=87178291200:=by decide +kernel
theorem mn_le {ss:List Int}(h:NN ss)(hs:ss.sum<=14):mn ss<=87178291200:=by
 have a:=q5F h
 have p:=q53 ss
 have q:=q55 h
 have f:=fac_le ss.sum.toNat (by omega)
 have:mn ss*1<=mn ss*pf ss:=Int.mul_le_mul_of_nonneg_left (by omega) (by omega)
 omega
theorem q5I {ks:List Int}{n:Int}(g:DGood ks n):0<many ks n/\many ks n<=87178291200:=by
 rw[q7D g]
 exact⟨q55 (q3B g.n.1),mn_le (q3B g.n.1) (by rw[q28 g.k];exact g.n.2)⟩
def spOB:Sp:=fun vs H Q _=>∃(p:Addr) (ss:List Int) (j:Nat),vs=[.ref p,.int j]/\H p=some (.lst (ss.map V.int))/\NN ss/\1<=ss.sum/\ss.sum<=14/\j<ss.length/\Q (.int (ob ss j)) H
def q4C:Sp:=fun vs H Q _=>∃(p:Addr) (os:List (Option Int)),vs=[.ref p]/\H p=some (.tup (os.map vO))/\os.length<=1000/\∀(q:Addr) (H':Hp),Same H H'->H' q=some (.lst ((q0E os).map V.int))->Q (.ref q) H'
def spCD:Sp:=fun vs H Q _=>∃(p:Addr) (os:List (Option Int)),vs=[.ref p]/\H p=some (.tup (os.map vO))/\OGood os/\∀H',Same H H'->Q .non H'
noncomputable def dsN (ks:List Int)(n m:Int):List Nat:=open Classical in if h:∃ds,Val (shs ks n) ds/\enc (shs ks n) ds=m then h.choose else []
theorem q9X {ks:List Int}{n m:Int}(g:DGood ks n)(m0:0<=m)(m1:m<many ks n):Val (shs ks n) (dsN ks n m)/\enc (shs ks n) (dsN ks n m)=m:=by
 have h:∃ds,Val (shs ks n) ds/\enc (shs ks n) ds=m:=q6k n.toNat (q3B g.n.1) (by rw[q28 g.k];have:=g.n;omega) m m0 (by rw[<-q7D g];exact m1)
 unfold dsN
 rw[dif_pos h]
 exact h.choose_spec
def qad:Sp:=fun vs H Q _=>∃(p:Addr) (ks:List Int) (n m:Int),vs=[.ref p,.int n,.int m]/\H p=some (.lst (ks.map V.int))/\DGood ks n/\0<=m/\m<many ks n/\∀(q:Addr) (H':Hp),Same H H'->H' q=some (.tup ((dsN ks n m).map vD))->Q (.ref q) H'
theorem q8K {K:W.Frag}{te:TE}{σ:St}{H:Hp}{Q:VK}(q:te σ H fun v H1=>∃a ns,v= .ref a/\SqL K H1 a (ns.map V.int)/\ns.length<=50/\Q (.int (dif ns)) H1):q72 K te σ H Q:=q
theorem r_zipM {K:W.Frag}{ta:TA}{σ:St}{H:Hp}{R:It->Hp->Prop}(q:ta σ H fun vs H1=>∃a b,vs=[.ref a,.ref b]/\(∃xs,SqL K H1 a xs)/\(∃ys,SqT K H1 b ys)/\R (ItzM K a b) H1):qb6 K ta σ H R:=q
structure PlOk (C:Cl)(ns:List Int):Prop where
 d:ns.Nodup
 r:∀x∈ns,0<=x/\x<=C.rooms - 1
def thg (zs:List (Int×Option Int)):List (Int×Int):=zs.filterMap fun x=>x.2.map fun k=>(x.1,k)
def DlOk (C:Cl)(ns:List Int)(os:List (Option Int)):Prop:=PlOk C ns/\OGood os/\os.length=ns.length
theorem q5X {ns:List Int}{os:List (Option Int)}{i:Nat}(h1:i<ns.length)(h2:i<os.length):thg ((ns.zip os).take (i+1))=thg ((ns.zip os).take i)++(match os[i] with|none=>[]|some k=>[(ns[i],k)]):=by
 have hz:i<(ns.zip os).length:=by rw[List.length_zip];omega
 rw[List.take_succ_eq_append_getElem hz,thg,List.filterMap_append,<-thg,List.getElem_zip]
 cases os[i]<;>rfl
theorem q9A (zs:List (Int×Option Int)):(thg zs).length<=zs.length:=List.length_filterMap_le _ _
def spCP:Sp:=fun vs H Q _=>∃(c p:Addr) (C:Cl) (ns:List Int),vs=[.ref c,.ref p]/\ClAt H c C/\H p=some (.lst (ns.map V.int))/\ns.length<=50/\PlOk C ns/\Q .non H
def spDl:Sp:=fun vs H Q _=>∃(c p q:Addr) (C:Cl) (ns:List Int) (os:List (Option Int)),vs=[.ref c,.ref p,.ref q]/\ClAt H c C/\H p=some (.lst (ns.map V.int))/\ns.length<=50/\H q=some (.tup (os.map vO))/\DlOk C ns os/\∀(r:Addr) (H':Hp),Same H H'->ClAt H' r {C with things:=thg (ns.zip os)}->Q (.ref r) H'
theorem r_slA {K:W.Frag}{H:Hp}{Q:VK}{a:Addr}{xs:List V}{lo hi:Option Int}(h:H a=some (.tup xs))(q:∀(r:Addr) (H':Hp),Same H H'->H' r=some (.tup (cutV xs lo hi))->Q (.ref r) H'):qao K (.ref a) lo hi H Q:=
 ⟨a,xs,rfl,SqT.of h,fun e=>q a H (Same.refl _) (by rw[e];exact h),fun p hp=>q p _ (Same.upd hp) qg⟩
theorem q9I {K:W.Frag}{H:Hp}{Q:VK}{a b:Addr}{xs ys:List V}(h:H a=some (.tup xs))(h2:H b=some (.tup ys))(hz:xs.length+ys.length<=sizeLine)(q:∀(r:Addr) (H':Hp),Same H H'->H' r=some (.tup (xs++ys))->Q (.ref r) H'):q4Y K (.ref a) (.ref b) H Q:=
 ⟨a,b,xs,ys,rfl,rfl,SqT.of h,SqT.of h2,hz,fun e=>q b H (Same.refl _) (by rw[e];exact h2),fun _ e=>q a H (Same.refl _) (by rw[e,List.append_nil];exact h),fun _ _ p hp=>q p _ (Same.upd hp) qg⟩
def q5s (K:W.Frag):Sp:=fun vs H Q _=>∃(a:Addr) (ns:List Int) (i:Int),vs=[.ref a,.int i]/\SqL K H a (ns.map V.int)/\ns.length<=63/\0<=i/\i<=100000/\∀c:Int,0<=c->c<2147483647->Q (.int c) H
theorem q7C {zs:List Int}{i:Nat}{x:V}(h:(zs.map V.int)[i]? =some x):∃hi:i<zs.length,x= .int zs[i]:=by
 have hi:i<zs.length:=by have:=(List.getElem?_eq_some_iff.mp h).1;simpa using this
 exact⟨hi,by simpa[hi] using h.symm⟩
def q9F:Sp:=fun vs H Q _=>∃n:Int,vs=[.int n]/\0<=n/\n<=1000/\Q (.int (fac n.toNat)) H
def spLC:Sp:=fun vs H Q _=>∃(p:Addr) (ks:List Int) (n:Int),vs=[.ref p,.int n]/\H p=some (.lst (ks.map V.int))/\DGood ks n/\∀H',Same H H'->Q (.int (many ks n)) H'
theorem q85 (f:Int)(ks:List Int)(i:Nat)(h:i<12):divs f ((cnts ks).take (i+1))=divs f ((cnts ks).take i) / fac (kn ks i).toNat:=by
 have hi:i<(cnts ks).length:=by simp;exact h
 rw[List.take_succ_eq_append_getElem hi]
 unfold divs
 rw[List.foldl_append]
 simp[cnts]
def spCh4:Sp:=fun vs H Q _=>∃(c:Addr) (x0 x1 x2 x3 x4 x5 x6 x7 x8 y:V),vs=[.ref c,.int 4,y]/\H c=some (.tup [x0,x1,x2,x3,x4,x5,x6,x7,x8])/\∀(r:Addr) (H':Hp),Same H H'->H' r=some (.tup [x0,x1,x2,x3,y,x5,x6,x7,x8])->Q (.ref r) H'
theorem q82:∀{ss:List Int} {x:Int},NN ss->x∈ss->x<=ss.sum
 |s::ss,x,h,hx=>by
  have h2:NN ss:=fun y hy=>h y (List.mem_cons_of_mem _ hy)
  have h1:=h s List.mem_cons_self
  rw[List.sum_cons]
  rcases List.mem_cons.mp hx with rfl|hx
  ·have:=h2.sum;omega
  ·have:=q82 h2 hx;omega
section
variable {P:Program}{w:World}{K:W.Frag}{mg:Str->Option Value}{base:Heap}{cs:Cs}
theorem q92 (T:Txt mg cs)(L:Laid K mg "share_of" q1O ["kind"]):Cal P w K mg base 1 "share_of" ["kind"] q77:=by
 refine L.cal (k:=0) q5u (fun vs H Q E h=>?_) (fun f cdv A outer s H vs Q E hr h=>?_)
 ·obtain ⟨k,rfl,_⟩:=h
  rfl
 ·obtain ⟨n,rfl,k⟩:=h
  refine⟨_,(qh (qz (q32 (q3E (pc_isN (pv 0))) qi (ql q0d (pv 0) qi)))),?_⟩
  walk_at "rd"
  rw[show decide (V.int n=V.non)=false by simp]
  walk_at "rd"
  exact k
theorem q5K:∀n,n<15->fac n<2 ^ 8000:=by decide +kernel
theorem ok_fac (T:Txt mg cs)(L:Laid K mg "factorial" q1g ["number"]):Cal P w K mg base 1 "factorial" ["number"] spFac:=by
 refine L.cal (k:=0) q0T (fun vs H Q E h=>?_) (fun f cdv A outer s H vs Q E hr h=>?_)
 ·obtain ⟨k,rfl,_⟩:=h
  rfl
 ·obtain ⟨n,rfl,h0,h1,k⟩:=h
  refine⟨_,(qe (qA (i:=1) q0T.nd rfl (Or.inl rfl) qi)
   (qe (q0j PassesOwn.never rfl (q52 rfl T.n_range (qc qi (qc (ql q0d (pv 0) qi) qd))) (qu (i:=2) q0T.nd rfl (Or.inl rfl)) (qh (qA (i:=1) q0T.nd rfl (Or.inl rfl) (ql q21 (pv 1) (pv 2)))))
   (qh (qz (pv 1))))),?_⟩
  walk_at "rd"
  refine q16 (fun i σ H'=>∃v2,σ=[some (.int n),some (.int (fac (i+1))),v2]/\H'=H) ⟨none,rfl,rfl⟩ ?_ ?_
  ·rintro i σ H' hi ⟨v2,rfl,rfl⟩
   walk_at "rd"
   refine⟨some (V.int (2+(i:Nat))),?_,rfl⟩
   rw[show fac (i+1)*(2+(i:Nat))=fac (i+1+1) by show _=fac (i+1)*(((i+1:Nat):Int)+1);congr 1;omega]
   rfl
  ·rintro σ H' ⟨v2,rfl,rfl⟩
   walk_at "rd"
   rw[show fac ((n+1 - 2).toNat+1)=fac n.toNat by
    by_cases e:n=0
    ·subst e;rfl
    ·rw [show(n+1 - 2).toNat+1=n.toNat by omega]]
   exact k
theorem q7x (T:Txt mg cs)(L:Laid K mg "orders" q2Y ["shares"])(C_factorial:Cal P w K mg base 1 "factorial" ["number"] spFac):Cal P w K mg base 2 "orders" ["shares"] q3R:=by
 refine L.cal (k:=1) q2f (fun vs H Q E h=>?_) (fun f cdv A outer s H vs Q E hr h=>?_)
 ·obtain ⟨p,ss,rfl,_⟩:=h
  rfl
 ·obtain ⟨p,ss,rfl,hp,hs,h0,h1,k⟩:=h
  refine⟨_,(qe (qA (i:=1) q2f.nd rfl (Or.inl rfl) (qx C_factorial hr (by decide) rfl (qc (qr (sumLK K rfl) rfl T.n_sum qa3 (qc (pv 0) qd)) qd)))
   (qe (q0j PassesOwn.never rfl (q0A K (pv 0)) (qu (i:=2) q2f.nd rfl (Or.inl rfl)) (qh (qA (i:=1) q2f.nd rfl (Or.inl rfl) (ql q47 (pv 1) (qx C_factorial hr (by decide) rfl (qc (pv 2) qd))))))
   (qh (qz (pv 1))))),?_⟩
  walk_at "rd"
  refine q9H (SqL.of hp) ?_
  walk_at "rd"
  refine⟨_,rfl,h0,by omega,?_⟩
  walk_at "rd"
  refine q2c (ss.map V.int) (fun i σ H'=>∃v2,σ=[some (.ref p),some (.int (divs (fac ss.sum.toNat) (ss.take i))),v2]/\H'=H) ⟨none,rfl,rfl⟩ ?_ ?_ ?_
  ·rintro i σ H' ⟨_,rfl,rfl⟩
   exact SqL.of hp
  ·rintro i x σ H' hx ⟨v2,rfl,rfl⟩
   have hi:i<ss.length:=by have:=(List.getElem?_eq_some_iff.mp hx).1;simpa using this
   obtain rfl:x= .int ss[i]:=by simpa[hi] using hx.symm
   have hb:=hs _ (List.getElem_mem hi)
   walk_at "rd"
   refine⟨_,rfl,hb.1,by omega,?_⟩
   refine r_I ⟨q2d ss[i].toNat,q5K _ (by omega)⟩ ?_
   walk_at "rd"
   refine⟨some (V.int ss[i]),?_,rfl⟩
   rw[List.take_succ_eq_append_getElem hi]
   unfold divs
   rw[List.foldl_append]
   rfl
  ·rintro σ H' ⟨v2,rfl,rfl⟩
   walk_at "rd"
   rw[List.length_map,List.take_length]
   exact k
theorem q7w (T:Txt mg cs)(L:Laid K mg "shares_of" q1f ["kinds","size"])(C_share_of:Cal P w K mg base 1 "share_of" ["kind"] q77):Cal P w K mg base 2 "shares_of" ["kinds","size"] q3Q:=by
 refine L.cal (k:=1) q1I (fun vs H Q E h=>?_) (fun f cdv A outer s H vs Q E hr h=>?_)
 ·obtain ⟨p,ks,n,rfl,_⟩:=h
  rfl
 ·obtain ⟨p,ks,n,rfl,hp,hk,hl,k⟩:=h
  obtain⟨t1,e_LAST_KIND⟩:=T.e_LAST_KIND
  have big:=qG
  refine⟨_,(qe (qA (i:=2) q1I.nd rfl (Or.inl rfl) (ql q3G (q0u (qc (ql q1N (pv 1) (qr (lenK K) rfl T.n_len qN (qc (pv 0) qd))) qd)) (ql q9S (q0u (qc qi qd)) (ql q0d (qk (v:= .int 11) rfl e_LAST_KIND ⟨_,rfl⟩) qi))))
   (qe (q0j PassesOwn.never rfl (q0A K (pv 0)) (qu (i:=3) q1I.nd rfl (Or.inl rfl)) (qh (q42 (pv 2) (qx C_share_of hr (by decide) rfl (qc (pv 3) qd)) (q2r K) qi q6e q2W)))
   (qh (qz (pv 2))))),?_⟩
  walk_at "rd"
  intro q1 g1
  generalize hG1:upd _ q1 _=H1
  have s1:=qV hG1 g1
  have h1:=qW hG1
  walk_at "rd"
  intro q2 g2
  generalize hG2:upd _ q2 _=H2
  have s2:=qV hG2 g2
  have h2:=qW hG2
  walk_at "rd"
  refine⟨q2,_,_,rfl,rfl,h2,by decide,by decide,by simp;omega,fun q3 g3=>?_⟩
  generalize hG3:upd _ q3 _=H3
  have s3:=qV hG3 g3
  have h3:=qW hG3
  walk_at "rd"
  refine⟨q1,q3,_,_,rfl,rfl,s3 _ _ (s2 _ _ h1),h3,by simp;omega,fun q g=>?_⟩
  generalize hG4:upd _ q _=H4
  have s4:=qV hG4 g
  have h4:=qW hG4
  have s04:=s1.trans (s2.trans (s3.trans s4))
  have hp4:=s04 _ _ hp
  have gq:H q=none:=by
   cases e:H q with
   |none=>rfl
   |some o=>exact absurd ((s1.trans (s2.trans s3)) _ _ e) (by rw[g];simp)
  walk_at "rd"
  refine q2c (ks.map V.int) (fun i σ H'=>∃v3,σ=[some (.ref p),some (.int n),some (.ref q),v3]/\Same H H'/\H' q=some (.lst (((n - ks.length)::cnts (ks.take i)).map V.int))) ⟨none,rfl,s04,by rw[h4];simp[cnts,kn];rfl⟩ ?_ ?_ ?_
  ·rintro i σ H' ⟨_,rfl,s5,_⟩
   exact SqL.of (s5 _ _ hp)
  ·rintro i x σ H' hx ⟨v3,rfl,s5,h5⟩
   have hi:i<ks.length:=by have:=(List.getElem?_eq_some_iff.mp hx).1;simpa using this
   obtain rfl:x= .int ks[i]:=by simpa[hi] using hx.symm
   have hb:=hk _ (List.getElem_mem hi)
   obtain⟨m,em⟩:∃m:Nat,ks[i]=(m:Int):=⟨ks[i].toNat,by omega⟩
   have hm:m<12:=by omega
   rw[em]
   walk_at "rd"
   refine⟨_,rfl,?_⟩
   walk_at "rd"
   refine q3a (SqL.of h5) (qbo _ _ m hm) ?_
   walk_at "rd"
   refine q68 h5 (j:=m+1) (by rw[show(m:Int)+1=((m+1:Nat):Int) by omega];exact q7L (by simp;omega)) ?_
   refine⟨_,rfl,s5.put gq,?_⟩
   rw[qg,<-List.map_set,q9y _ _ _ hm,<-em,<-List.take_succ_eq_append_getElem hi]
  ·rintro σ H' ⟨v3,rfl,s5,h5⟩
   walk_at "rd"
   rw[List.length_map,List.take_length] at h5
   exact k q H' s5 gq h5
theorem q94 (T:Txt mg cs)(L:Laid K mg "check_kinds" q0I ["kinds"])(C_within:Cal P w K mg base 1 "within" ["number","least","most"] q1d):Cal P w K mg base 2 "check_kinds" ["kinds"] q5o:=by
 refine L.cal (k:=1) q1X (fun vs H Q E h=>?_) (fun f cdv A outer s H vs Q E hr h=>?_)
 ·obtain ⟨p,ks,rfl,_⟩:=h
  rfl
 ·obtain ⟨p,ks,rfl,hp,hg0,k⟩:=h
  obtain⟨t1,e_LAST_KIND⟩:=T.e_LAST_KIND
  obtain⟨t2,e_MOST_KINDS⟩:=T.e_MOST_KINDS
  refine⟨_,(qe (q04 (qC q2Q (qr (lenK K) rfl T.n_len qN (qc (pv 0) qd)) (qk (v:= .int 8) rfl e_MOST_KINDS ⟨_,rfl⟩) (qy _)) (qh q0r) qD)
   (qh (q0j PassesOwn.never rfl (q0A K (pv 0)) (qu (i:=1) q1X.nd rfl (Or.inl rfl)) (qh (q04 (q2n (q0q (qx C_within hr (by decide) rfl (qc (pv 1) (qc qi (qc (qk (v:= .int 11) rfl e_LAST_KIND ⟨_,rfl⟩) qd)))))) (qh q0r) qD))))),?_⟩
  walk_at "rd"
  rw[List.length_map]
  refine ifd (fun h8=>absurd h8 (by have:=hg0.1;omega)) (fun h8=>?_)
  ·walk_at "rd"
   refine q2c (ks.map V.int) (fun i σ H'=>∃v1,σ=[some (.ref p),v1]/\H'=H) ⟨none,rfl,rfl⟩ ?_ ?_ ?_
   ·rintro i σ H' ⟨_,rfl,rfl⟩
    exact SqL.of hp
   ·rintro i x σ H' hx ⟨v1,rfl,rfl⟩
    have hi:i<ks.length:=by have:=(List.getElem?_eq_some_iff.mp hx).1;simpa using this
    obtain rfl:x= .int ks[i]:=by simpa[hi] using hx.symm
    have hg:=hg0.2 _ (List.getElem_mem hi)
    walk_at "rd"
    refine⟨_,0,11,rfl,?_⟩
    rw[show(decide (0<=ks[i])&&decide (ks[i]<=11))=true by simp[hg]]
    walk_at "rd"
    exact⟨_,rfl,rfl⟩
   ·rintro σ H' ⟨v1,rfl,rfl⟩
    walk_at "rd"
    exact k
theorem q98 (T:Txt mg cs)(L:Laid K mg "count" q3Z ["kinds","size"])(C_check_kinds:Cal P w K mg base 2 "check_kinds" ["kinds"] q5o)(C_within:Cal P w K mg base 1 "within" ["number","least","most"] q1d)(C_orders:Cal P w K mg base 2 "orders" ["shares"] q3R)(C_shares_of:Cal P w K mg base 2 "shares_of" ["kinds","size"] q3Q):Cal P w K mg base 3 "count" ["kinds","size"] q5q:=by
 refine L.cal (k:=2) q8I (fun vs H Q E h=>?_) (fun f cdv A outer s H vs Q E hr h=>?_)
 ·obtain ⟨p,ks,n,rfl,_⟩:=h
  rfl
 ·obtain ⟨p,ks,n,rfl,hp,dg,k⟩:=h
  obtain⟨t1,e_MOST_PLACES⟩:=T.e_MOST_PLACES
  refine⟨_,(qe (qK (qx C_check_kinds hr (by decide) rfl (qc (pv 0) qd)))
   (qe (q04 (q2n (q0q (qx C_within hr (by decide) rfl (qc (pv 1) (qc (qr (lenK K) rfl T.n_len qN (qc (pv 0) qd)) (qc (qk (v:= .int 14) rfl e_MOST_PLACES ⟨_,rfl⟩) qd)))))) (qh q0r) qD)
   (qh (qz (qx C_orders hr (by decide) rfl (qc (qx C_shares_of hr (by decide) rfl (qc (pv 0) (qc (pv 1) qd))) qd)))))),?_⟩
  walk_at "rd"
  have hg:ks.length<=8/\∀k∈ks,0<=k/\k<=11:=⟨dg.l,dg.k⟩
  refine⟨p,ks,rfl,hp,hg,?_⟩
  walk_at "rd"
  refine⟨n,_,14,rfl,?_⟩
  rw[List.length_map]
  have hn:(ks.length:Int)<=n/\n<=14:=dg.n
  ·rw [show(decide ((ks.length:Int)<=n)&&decide (n<=14))=true by simp[hn]]
   have h8:=hg.1
   walk_at "rd"
   refine⟨p,ks,n,rfl,hp,hg.2,by omega,fun q H1 s1 gq hq=>?_⟩
   walk_at "rd"
   refine⟨q,shs ks n,rfl,hq,fun x hx=>?_,by rw[q28 hg.2];omega,by rw[q28 hg.2];omega,?_⟩
   ·rcases List.mem_cons.mp hx with rfl|hx
    ·omega
    ·obtain ⟨j,_,rfl⟩:=List.mem_map.mp hx
     have:=qb0 ks j
     omega
   rw[q62 hg.2]
   exact k H1 s1
theorem q99 (T:Txt mg cs)(L:Laid K mg "_law_cell" q1i ["_law_script","_law_k"]):Cal P w K mg base 1 "_law_cell" ["_law_script","_law_k"] (q5s K):=by
 refine L.cal (k:=0) q4F (fun vs H Q E h=>?_) (fun f cdv A outer s H vs Q E hr h=>?_)
 ·obtain ⟨a,ns,i,rfl,_⟩:=h
  rfl
 ·obtain ⟨a,ns,i,rfl,hS,hl,h0,h1,k⟩:=h
  refine⟨_,(qe (q04 (qC qaB (pv 1) (qr (lenK K) rfl T.n_len qN (qc (pv 0) qd)) (qy _)) (qh (qz (ql q05 (ql q0d (ql q21 (qq (qY K) (pv 0) (pv 1) (fun _ _=>rfl)) qi) (ql q21 (ql q21 (pv 1) (pv 1)) qi)) qi))) qD)
   (qh (qz (ql q05 (ql q0d (ql q0d (ql q21 (ql q21 (pv 1) (pv 1)) qi) (ql q21 (qr (lenK K) rfl T.n_len qN (qc (pv 0) qd)) qi)) qi) qi)))),?_⟩
  walk_at "rd"
  refine ifd (fun h=>?_) (fun h=>?_)
  ·rw [List.length_map] at h
   obtain⟨j,rfl⟩:∃j:Nat,i=(j:Int):=⟨i.toNat,by omega⟩
   walk_at "rd"
   refine q3a hS (q4j (by omega)) ?_
   walk_at "rd"
   exact k _ (q0g _ (by decide)) (q0k _ (by decide))
  ·walk_at "rd"
   exact k _ (q0g _ (by decide)) (q0k _ (by decide))
theorem ok_ob (T:Txt mg cs)(L:Laid K mg "orders_behind" q0o ["shares","own"])(C_orders:Cal P w K mg base 2 "orders" ["shares"] q3R):Cal P w K mg base 3 "orders_behind" ["shares","own"] spOB:=by
 refine L.cal (k:=2) q2L (fun vs H Q E h=>?_) (fun f cdv A outer s H vs Q E hr h=>?_)
 ·obtain ⟨p,ss,j,rfl,_⟩:=h
  rfl
 ·obtain ⟨p,ss,j,rfl,hp,nn,h1,h2,hj,k⟩:=h
  refine⟨_,(qh (qz (ql q06 (ql q21 (qx C_orders hr (by decide) rfl (qc (pv 0) qd)) (qq (qY K) (pv 0) (pv 1) (fun _ _=>rfl))) (qr (sumLK K rfl) rfl T.n_sum qa3 (qc (pv 0) qd))))),?_⟩
  walk_at "rd"
  refine⟨p,ss,rfl,hp,fun s hs=>⟨nn s hs,by have:=q82 nn hs;omega⟩,by omega,by omega,?_⟩
  rw[q86 nn]
  walk_at "rd"
  refine q3a (SqL.of hp) (q4j hj) ?_
  have g0:=q4c nn j
  have g1:ss.getD j 0<=14:=by
   rw[show ss.getD j 0=ss[j] by simp[List.getD,hj]]
   have:=q82 nn (List.getElem_mem hj)
   omega
  refine r_I (show CMul (mn ss) (ss.getD j 0) from Or.inr ⟨by omega,by omega⟩) ?_
  walk_at "rd"
  refine q9H (SqL.of hp) ?_
  refine r_I (show CDiv _ ss.sum from⟨by omega,by omega⟩) ?_
  exact k
theorem q6I (T:Txt mg cs)(L:Laid K mg "kinds_of" q17 ["dealing"]):Cal P w K mg base 1 "kinds_of" ["dealing"] q4C:=by
 refine L.cal (k:=0) q5v (fun vs H Q E h=>?_) (fun f cdv A outer s H vs Q E hr h=>?_)
 ·obtain ⟨p,os,rfl,_⟩:=h
  rfl
 ·obtain ⟨p,os,rfl,hp,hl,k⟩:=h
  have big:=qG
  refine⟨_,(qh (qz (q1B (q0v (N:=["kind"]) (own:=1) (caps:=[]) ["dealing"] (qf q17) (by decide +kernel)) rfl (q45 K (pv 0)) (fun _ _ _ _=>(qu (i:=0) (show List.Nodup (["kind"]:List Str) by decide +kernel) rfl (Or.inl rfl))) (fun _ _ _ _=>(q2o (q3E (q5E (pv 0))))) (fun _ _ _ _=>(pv 0))))),?_⟩
  walk_at "rd"
  intro D hD
  refine q6l (os.map vO) (fun i σ H'=>∃v0,σ=[v0]/\Same H H'/\H' D=some (.lst ((q0E (os.take i)).map V.int))) ⟨none,rfl,Same.upd hD,by rw[qg];rfl⟩ ?_ ?_ ?_
  ·rintro i σ H' ⟨_,rfl,s1,_⟩
   exact SqT.of (s1 _ _ hp)
  ·rintro i x σ H' hx ⟨v0,rfl,s1,h1⟩
   have hi:i<os.length:=by have:=(List.getElem?_eq_some_iff.mp hx).1;simpa using this
   obtain rfl:x=vO os[i]:=by simpa[hi] using hx.symm
   have et:=List.take_succ_eq_append_getElem hi
   have lk:(q0E (os.take i)).length<=1000:=by
    have:=q9m (os.take i)
    rw[List.length_take] at this
    omega
   cases ho:os[i] with
   |none=>
    walk_at "rd"
    refine⟨_,rfl,s1,?_⟩
    rw[et,q59,ho,h1]
    simp
   |some n=>
    walk_at "rd"
    rw[show(!decide (vO (some n)=V.non))=true by simp[vO]]
    walk_at "rd"
    refine⟨_,h1,by rw[List.length_map];omega,_,rfl,s1.put hD,?_⟩
    rw[qg,et,q59,ho]
    simp[vO]
  ·rintro σ H' ⟨v0,rfl,s1,h1⟩
   rw[List.length_map,List.take_length] at h1
   exact k D H' s1 h1
theorem ok_cd (T:Txt mg cs)(L:Laid K mg "check_dealing" q0p ["dealing"])(C_check_kinds:Cal P w K mg base 2 "check_kinds" ["kinds"] q5o)(C_kinds_of:Cal P w K mg base 1 "kinds_of" ["dealing"] q4C):Cal P w K mg base 3 "check_dealing" ["dealing"] spCD:=by
 refine L.cal (k:=2) q2M (fun vs H Q E h=>?_) (fun f cdv A outer s H vs Q E hr h=>?_)
 ·obtain ⟨p,os,rfl,_⟩:=h
  rfl
 ·obtain ⟨p,os,rfl,hp,og,k⟩:=h
  have hl:=og.n
  obtain⟨t2,e_MOST_PLACES⟩:=T.e_MOST_PLACES
  refine⟨_,(qe (q04 (qC q2Q (qr (lenK K) rfl T.n_len qN (qc (pv 0) qd)) (qk (v:= .int 14) rfl e_MOST_PLACES ⟨_,rfl⟩) (qy _)) (qh q0r) qD)
   (qh (qK (qx C_check_kinds hr (by decide) rfl (qc (qx C_kinds_of hr (by decide) rfl (qc (pv 0) qd)) qd))))),?_⟩
  walk_at "rd"
  rw[List.length_map]
  refine ifd (fun h8=>absurd h8 (by omega)) (fun h8=>?_)
  ·walk_at "rd"
   refine⟨p,os,rfl,hp,by omega,fun q H1 s1 hq=>?_⟩
   walk_at "rd"
   exact⟨q,q0E os,rfl,hq,⟨og.l,og.k⟩,k H1 s1⟩
theorem ok_dof (T:Txt mg cs)(L:Laid K mg "dealing_of" q0U ["kinds","size","number"])(C_count:Cal P w K mg base 3 "count" ["kinds","size"] q5q)(C_within:Cal P w K mg base 1 "within" ["number","least","most"] q1d)(C_shares_of:Cal P w K mg base 2 "shares_of" ["kinds","size"] q3Q)(C_orders_behind:Cal P w K mg base 3 "orders_behind" ["shares","own"] spOB):Cal P w K mg base 4 "dealing_of" ["kinds","size","number"] qad:=by
 refine L.cal (k:=3) qT (fun vs H Q E h=>?_) (fun f cdv A outer s H vs Q E hr h=>?_)
 ·obtain ⟨p,ks,n,m,rfl,_⟩:=h
  rfl
 ·obtain ⟨p,ks,n,m,rfl,hp,g,m0,m1,k⟩:=h
  have big:=qG
  refine⟨_,(qe (qA (i:=3) qT.nd rfl (Or.inl rfl) (ql q1N (qx C_count hr (by decide) rfl (qc (pv 0) (qc (pv 1) qd))) qi))
   (qe (q04 (q2n (q0q (qx C_within hr (by decide) rfl (qc (pv 2) (qc qi (qc (pv 3) qd)))))) (qh q0r) qD)
   (qe (qA (i:=4) qT.nd rfl (Or.inl rfl) (qx C_shares_of hr (by decide) rfl (qc (pv 0) (qc (pv 1) qd))))
   (qe (qA (i:=5) qT.nd rfl (Or.inl rfl) (q0u qd))
   (qe (qA (i:=6) qT.nd rfl (Or.inl rfl) (pv 2))
   (qe (q0j PassesOwn.never rfl (qL rfl T.n_range (qc (pv 1) qd)) (qu (i:=7) qT.nd rfl (Or.inl rfl)) (qe (qA (i:=8) qT.nd rfl (Or.inl rfl) qi)
   (qe (q41 PassesOwn.never (qC qaC (pv 6) (qx C_orders_behind hr (by decide) rfl (qc (pv 4) (qc (pv 8) qd))) (qy _)) (qe (q7k (i:=6) qT.nd rfl (Or.inl rfl) (qx C_orders_behind hr (by decide) rfl (qc (pv 4) (qc (pv 8) qd))) q7N)
   (qh (q7k (i:=8) qT.nd rfl (Or.inl rfl) qi q6e))))
   (qe (q42 (pv 4) (pv 8) (q2r K) qi q7N q2W)
   (qh (qK (q2q PySem.F.plainAttrs_list PySem.F.slot_list_append PySem.F.type_list_append q02 (pv 5) (qc (q32 (qC q07 (pv 8) qi (qy _)) q9Q (ql q1N (pv 8) qi)) qd))))))))
   (qh (qz (q1a (q5W K) rfl T.n_tuple q34 (qc (pv 5) qd)))))))))),?_⟩
  walk_at "rd"
  refine⟨p,ks,n,rfl,hp,g,fun H1 s1=>?_⟩
  have ml:=q5I g
  have hp1:=s1 _ _ hp
  walk_at "rd"
  refine⟨m,0,_,rfl,?_⟩
  rw[show(decide (0<=m)&&decide (m<=many ks n - 1))=true by simp;omega]
  obtain⟨v,e⟩:=q9X g m0 m1
  generalize dsN ks n m=ds at v e k
  have vs:=q35 v
  rw[q28 g.k] at vs
  have n14:=g.n
  walk_at "rd"
  refine⟨p,ks,n,rfl,hp1,g.k,by have:=g.l;omega,fun r H2 s2 gr hr2=>?_⟩
  have gr0:H r=none:=by
   cases e:H r with
   |none=>rfl
   |some o=>exact absurd (s1 _ _ e) (by rw[gr];simp)
  walk_at "rd"
  intro d hd
  generalize hG3:upd _ d _=H3
  have s3:=qV hG3 hd
  have h3:=qW hG3
  have gd0:H d=none:=by
   cases e:H d with
   |none=>rfl
   |some o=>exact absurd (s2 _ _ (s1 _ _ e)) (by rw[hd];simp)
  have rd:r≠d:=fun z=>by rw[<-z,hr2] at hd;cases hd
  have hr3:=s3 _ _ hr2
  walk_at "rd"
  refine q16 (fun i σ H'=>∃(ss:List Int) (v7 v8:Option V),σ=[some (.ref p),some (.int n),some (.int m),some (.int (many ks n - 1)),some (.ref r),some (.ref d),some (.int (enc ss (ds.drop i))),v7,v8]/\Same H H'/\NN ss/\Val ss (ds.drop i)/\H' r=some (.lst (ss.map V.int))/\H' d=some (.lst ((ds.take i).map vD))) ⟨shs ks n,none,none,by rw[List.drop_zero,e];rfl,s1.trans (s2.trans s3),q3B n14.1,v,hr3,by rw[h3];rfl⟩ ?_ ?_
  ·rintro i σ H' hi ⟨ss,v7,v8,rfl,s4,nn,vl,h4,h5⟩
   have hid:i<ds.length:=by omega
   have ed:ds.drop i=ds[i]::ds.drop (i+1):=List.drop_eq_getElem_cons hid
   rw[ed] at vl ⊢
   obtain⟨v1,v2,v3⟩:=vl
   have vq:=q35 v3
   rw[q2C v1,List.length_drop] at vq
   have el:=q9W (nn.dec v2) v3
   rw[<-q9a nn v1 v2 (by omega)] at el
   show tSeq _ _ _ _ _
   walk_at "rd"
   refine⟨fun mm σ H2=>∃j:Nat,j<=ds[i]/\mm=ds[i] - j/\H2=H'/\σ=[some (.ref p),some (.int n),some (.int m),some (.int (many ks n - 1)),some (.ref r),some (.ref d),some (.int (pre ss ds[i] - pre ss j+enc (dec ss ds[i]) (ds.drop (i+1)))),some (.int (0+(i:Nat))),some (.int (j:Int))],⟨_,0,Nat.zero_le _,rfl,rfl,?_⟩,?_⟩
   ·show [some (V.ref p),some (V.int n),some (V.int m),some (V.int (many ks n - 1)),some (V.ref r),some (V.ref d),some (V.int (pre ss ds[i]+enc (dec ss ds[i]) (ds.drop (i+1)))),some (V.int (0+(i:Nat))),some (V.int 0)]=_
    rw[show pre ss ds[i] - pre ss 0=pre ss ds[i] by show pre ss ds[i] - 0=_;omega]
    rfl
   ·rintro mm σ H2 ⟨j,hj,rfl,rfl,rfl⟩
    walk_at "rd"
    refine⟨r,ss,j,rfl,h4,nn,by omega,by omega,by omega,?_⟩
    walk_at "rd"
    by_cases hjo:j<ds[i]
    ·have pm:=q30 nn (i:=j+1) (j:=ds[i]) hjo
     have pm':pre ss j+ob ss j<=pre ss ds[i]:=pm
     rw[decide_eq_true (by omega)]
     refine iteT ⟨fun σ' H''=>H''=H2/\σ'=[some (.ref p),some (.int n),some (.int m),some (.int (many ks n - 1)),some (.ref r),some (.ref d),some (.int (pre ss ds[i] - pre ss j+enc (dec ss ds[i]) (ds.drop (i+1)) - ob ss j)),some (.int (0+(i:Nat))),some (.int ((j:Int)+1))],?_,?_⟩
     ·rintro σ' H'' ⟨rfl,rfl⟩
      refine⟨ds[i] - (j+1),by omega,j+1,hjo,rfl,rfl,?_⟩
      rw[show pre ss ds[i] - pre ss (j+1)+enc (dec ss ds[i]) (ds.drop (i+1))=pre ss ds[i] - pre ss j+enc (dec ss ds[i]) (ds.drop (i+1)) - ob ss j by show pre ss ds[i] - (pre ss j+ob ss j)+_=_;omega]
      rfl
     ·walk_at "rd"
      refine⟨r,ss,j,rfl,h4,nn,by omega,by omega,by omega,?_⟩
      walk_at "rd"
      exact⟨rfl,rfl⟩
    ·have ej:j=ds[i]:=by omega
     rw[ej,decide_eq_false (by omega)]
     rw[show pre ss ds[i] - pre ss ds[i]+enc (dec ss ds[i]) (ds.drop (i+1))=enc (dec ss ds[i]) (ds.drop (i+1)) by omega]
     refine iteF ?_
     walk_at "rd"
     refine q3a (SqL.of h4) (q4j v1) ?_
     walk_at "rd"
     refine q68 h4 (j:=ds[i]) (q7L (by simpa using v1)) ?_
     rw[<-List.map_set,show ss.set ds[i] (ss.getD ds[i] 0 - 1)=dec ss ds[i] from rfl]
     have s5:=s4.put (o:= .lst ((dec ss ds[i]).map V.int)) gr0
     have h6:(upd H2 r (.lst ((dec ss ds[i]).map V.int))) r=some (.lst ((dec ss ds[i]).map V.int)):=qg
     have h7:(upd H2 r (.lst ((dec ss ds[i]).map V.int))) d=some (.lst ((ds.take i).map vD)):=by rw[qp (Ne.symm rd)];exact h5
     generalize upd H2 r _=H4 at s5 h6 h7 ⊢
     have lt:((ds.take i).map vD).length<sizeLine:=by rw[List.length_map,List.length_take];omega
     have fin:∀v,v=vD ds[i]->q5B (.ref d) [v] H4 fun _ H5=>∃(s':List Int) (v7 v8:Option V),[some (V.ref p),some (V.int n),some (V.int m),some (V.int (many ks n - 1)),some (V.ref r),some (V.ref d),some (V.int (enc (dec ss ds[i]) (ds.drop (i+1)))),some (V.int (0+(i:Nat))),some (V.int (ds[i]:Int))]=[some (.ref p),some (.int n),some (.int m),some (.int (many ks n - 1)),some (.ref r),some (.ref d),some (.int (enc s' (ds.drop (i+1)))),v7,v8]/\Same H H5/\NN s'/\Val s' (ds.drop (i+1))/\H5 r=some (.lst (s'.map V.int))/\H5 d=some (.lst ((ds.take (i+1)).map vD)):=fun v hv=>by
      refine q2y h7 lt ⟨dec ss ds[i],_,_,rfl,s5.put gd0,nn.dec v2,v3,?_,?_⟩
      ·rw [qp rd];exact h6
      ·rw [qg,List.take_succ_eq_append_getElem hid,List.map_append,hv];rfl
     walk_at "rd"
     refine ifd (fun h0=>?_) (fun h0=>?_)
     ·walk_at "rd"
      exact fin _ (by unfold vD;rw[if_pos (by omega)])
     ·walk_at "rd"
      exact fin _ (by unfold vD;rw[if_neg (by omega)])
  ·rintro σ H' ⟨ss,v7,v8,rfl,s4,nn,vl,h4,h5⟩
   rw[show n.toNat=ds.length by omega,List.take_length] at h5
   walk_at "rd"
   refine q8J (SqL.of h5) fun q hq=>?_
   exact k q _ (s4.trans (Same.upd hq)) qg
theorem ok_cp (T:Txt mg cs)(L:Laid K mg "check_places" q0y ["cellar","places"])(C_within:Cal P w K mg base 1 "within" ["number","least","most"] q1d):Cal P w K mg base 2 "check_places" ["cellar","places"] spCP:=by
 refine L.cal (k:=1) q1J (fun vs H Q E h=>?_) (fun f cdv A outer s H vs Q E hr h=>?_)
 ·obtain ⟨c,p,C,ns,rfl,_⟩:=h
  rfl
 ·obtain ⟨c,p,C,ns,rfl,hC,hp,hl,pk,k⟩:=h
  obtain⟨t1,e_ROOMS⟩:=T.e_ROOMS
  obtain⟨wv,tv,lv,vv,hc,_,_,_,_⟩:=hC.ex
  refine⟨_,(qe (q04 (qC q8Z (q7r K rfl rfl T.n_len rfl T.n_set (pv 1)) (qr (lenK K) rfl T.n_len qN (qc (pv 1) qd)) (qy _)) (qh q0r) qD)
   (qh (q0j PassesOwn.never rfl (q0A K (pv 1)) (qu (i:=2) q1J.nd rfl (Or.inl rfl)) (qh (q04 (q2n (q0q (qx C_within hr (by decide) rfl (qc (pv 2) (qc qi (qc (ql q1N (qq (qj K) (pv 0) (qk (v:= .int 0) rfl e_ROOMS ⟨_,rfl⟩) (fun _ _=>rfl)) qi) qd)))))) (qh q0r) qD))))),?_⟩
  walk_at "rd"
  refine q8K ?_
  walk_at "rd"
  refine⟨p,ns,rfl,SqL.of hp,hl,?_⟩
  walk_at "rd"
  rw[List.length_map]
  rw[decide_eq_true (show((dif ns:Nat):Int)=((ns.length:Nat):Int) by rw[dif_eq.mpr pk.d])]
  walk_at "rd"
  refine q2c (ns.map V.int) (fun i σ H'=>∃v1,σ=[some (.ref c),some (.ref p),v1]/\H'=H) ⟨none,rfl,rfl⟩ ?_ ?_ ?_
  ·rintro i σ H' ⟨_,rfl,rfl⟩
   exact SqL.of hp
  ·rintro i x σ H' hx ⟨v1,rfl,rfl⟩
   have hi:i<ns.length:=by have:=(List.getElem?_eq_some_iff.mp hx).1;simpa using this
   obtain rfl:x= .int ns[i]:=by simpa[hi] using hx.symm
   have hg:=pk.r _ (List.getElem_mem hi)
   walk_at "rd"
   refine⟨_,0,C.rooms - 1,rfl,?_⟩
   rw[show(decide (0<=ns[i])&&decide (ns[i]<=C.rooms - 1))=true by simp[hg]]
   walk_at "rd"
   exact⟨_,rfl,rfl⟩
  ·rintro σ H' ⟨v1,rfl,rfl⟩
   walk_at "rd"
   exact k
theorem ok_ch4 (T:Txt mg cs)(L:Laid K mg "changed" q1L ["parts","place","part"]):Cal P w K mg base 1 "changed" ["parts","place","part"] spCh4:=by
 refine L.cal (k:=0) q3D (fun vs H Q E h=>?_) (fun f cdv A outer s H vs Q E hr h=>?_)
 ·obtain ⟨c,x0,x1,x2,x3,x4,x5,x6,x7,x8,y,rfl,_⟩:=h
  rfl
 ·obtain ⟨c,x0,x1,x2,x3,x4,x5,x6,x7,x8,y,rfl,hc,k⟩:=h
  have big:=qG
  refine⟨_,(qh (qz (ql (q33 K) (ql (q33 K) (q31 (q2V K) (pv 0) q44 (q43 (pv 1))) (qJ (qc (pv 2) qd))) (q31 (q2V K) (pv 0) (q43 (ql q0d (pv 1) qi)) q44)))),?_⟩
  walk_at "rd"
  refine r_slA hc fun r1 H4 s4 h4=>?_
  have h4':H4 r1=some (.tup [x0,x1,x2,x3]):=h4
  walk_at "rd"
  intro r2 g2'
  generalize hG5:upd _ r2 _=H5
  have s5:=qV hG5 g2'
  have h5:=qW hG5
  refine q9I (s5 _ _ h4') h5 (by simp;omega) fun r3 H6 s6 h6=>?_
  have hc6:=s6 _ _ (s5 _ _ (s4 _ _ hc))
  walk_at "rd"
  refine r_slA hc6 fun r4 H7 s7 h7=>?_
  have h7':H7 r4=some (.tup [x5,x6,x7,x8]):=h7
  refine q9I (s7 _ _ h6) h7' (by simp;omega) fun r5 H8 s8 h8=>?_
  walk_at "rd"
  exact k r5 H8 (s4.trans (s5.trans (s6.trans (s7.trans s8)))) h8
theorem ok_dl (T:Txt mg cs)(L:Laid K mg "dealt" q39 ["cellar","places","dealing"])(C_check_places:Cal P w K mg base 2 "check_places" ["cellar","places"] spCP)(C_check_dealing:Cal P w K mg base 3 "check_dealing" ["dealing"] spCD)(C_changed:Cal P w K mg base 1 "changed" ["parts","place","part"] spCh4):Cal P w K mg base 4 "dealt" ["cellar","places","dealing"] spDl:=by
 refine L.cal (k:=3) q63 (fun vs H Q E h=>?_) (fun f cdv A outer s H vs Q E hr h=>?_)
 ·obtain ⟨c,p,q,C,ns,os,rfl,_⟩:=h
  rfl
 ·obtain ⟨c,p,q,C,ns,os,rfl,hC,hp,hl,hq,dk,k⟩:=h
  have big:=qG
  obtain⟨t1,e_THINGS⟩:=T.e_THINGS
  refine⟨_,(qe (qK (qx C_check_places hr (by decide) rfl (qc (pv 0) (qc (pv 1) qd))))
   (qe (qK (qx C_check_dealing hr (by decide) rfl (qc (pv 2) qd)))
   (qe (q04 (qC q8Z (qr (lenK K) rfl T.n_len qN (qc (pv 2) qd)) (qr (lenK K) rfl T.n_len qN (qc (pv 1) qd)) (qy _)) (qh q0r) qD)
   (qe (qA (i:=3) q63.nd rfl (Or.inl rfl) (q1a (q5W K) rfl T.n_tuple q34 (qc (q1B (q0v (N:=["room","kind"]) (own:=2) (caps:=[]) ["cellar","places","dealing","things"] (qf q39) (by decide +kernel)) rfl (q8T K rfl T.n_zip (qc (pv 1) (qc (pv 2) qd))) (fun _ _ _ _=>(q2b (n:=2) K rfl (qP (qu (i:=0) (show List.Nodup (["room","kind"]:List Str) by decide +kernel) rfl (Or.inl rfl)) (qP (qu (i:=1) (show List.Nodup (["room","kind"]:List Str) by decide +kernel) rfl (Or.inl rfl)) q2a)))) (fun _ _ _ _=>(q2o (q3E (q5E (pv 1))))) (fun _ _ _ _=>(qJ (qc (pv 0) (qc (pv 1) qd))))) qd)))
   (qh (qz (qx C_changed hr (by decide) rfl (qc (pv 0) (qc (qk (v:= .int 4) rfl e_THINGS ⟨_,rfl⟩) (qc (pv 3) qd)))))))))),?_⟩
  walk_at "rd"
  refine⟨c,p,C,ns,rfl,hC,hp,hl,dk.1,?_⟩
  walk_at "rd"
  refine⟨q,os,rfl,hq,dk.2.1,fun H1 s1=>?_⟩
  have hp1:=s1 _ _ hp
  have hq1:=s1 _ _ hq
  have hC1:=hC.mono s1.ts
  walk_at "rd"
  rw[List.length_map,List.length_map]
  have e:os.length=ns.length:=dk.2.2
  ·rw [decide_eq_true (show((os.length:Nat):Int)=((ns.length:Nat):Int) by rw[e])]
   walk_at "rd"
   refine r_zipM ?_
   walk_at "rd"
   refine⟨p,q,rfl,⟨_,SqL.of hp1⟩,⟨_,SqT.of hq1⟩,?_⟩
   intro D hD
   refine q8d (ns.map V.int) (os.map vO) (by simp[e]) (fun i σ H'=>∃v0 v1,σ=[v0,v1]/\Same H1 H'/\q0b qI H' D (thg ((ns.zip os).take i))) ⟨none,none,rfl,Same.upd hD,⟨[],by rw[qg];rfl,Rows.nil⟩⟩ ?_ ?_ ?_ ?_
   ·rintro i σ H' ⟨_,_,rfl,s2,_⟩
    exact SqL.of (s2 _ _ hp1)
   ·rintro i σ H' ⟨_,_,rfl,s2,_⟩
    exact SqT.of (s2 _ _ hq1)
   ·rintro i x y σ H' U hx hy ⟨v0,v1,rfl,s2,ps,h2,hr2⟩ hU
    have hi:i<ns.length:=by have:=(List.getElem?_eq_some_iff.mp hx).1;simpa using this
    have hi2:i<os.length:=by omega
    obtain rfl:x= .int ns[i]:=by simpa[hi] using hx.symm
    obtain rfl:y=vO os[i]:=by simpa[hi2] using hy.symm
    have lps:ps.length<=50:=by
     have:=q9A ((ns.zip os).take i)
     have z:=hr2.1
     rw[List.length_take,List.length_zip] at this
     omega
    generalize hGT:upd _ U _=HT
    have sT:=qV hGT hU
    have tT:=qW hGT
    refine⟨U,_,rfl,SqT.of tT,rfl,?_⟩
    walk_at "rd"
    have et:=q5X hi hi2
    cases ho:os[i] with
    |none=>
     rw[ho] at et
     walk_at "rd"
     refine⟨_,_,rfl,s2.trans sT,ps,sT _ _ h2,?_⟩
     rw[et,List.append_nil]
     exact hr2.mono fun _ _=>qI.mono sT.ts
    |some n=>
     rw[ho] at et
     rw[show(!decide (vO (some n)=V.non))=true by simp[vO]]
     walk_at "rd"
     intro r gr
     generalize hGr:upd _ r _=Hr
     have sr:=qV hGr gr
     have tr:=qW hGr
     have h2r:=sr _ _ (sT _ _ h2)
     refine⟨_,h2r,by rw[List.length_map];omega,_,_,rfl,(s2.trans (sT.trans sr)).put hD,?_⟩
     rw[et]
     exact q0f (fun _ _ z=>qI.mono (q0N.lst h2r) z) (hr2.mono fun _ _=>qI.mono (sT.trans sr).ts) tr
   ·rintro σ H' ⟨v0,v1,rfl,s2,ps,h2,hr2⟩
    rw[List.length_map,show(ns.zip os).take ns.length=ns.zip os from List.take_of_length_le (by rw[List.length_zip];omega)] at hr2
    walk_at "rd"
    refine q8J (SqL.of h2) fun t gt=>?_
    generalize hGt:upd _ t _=H3
    have s3:=qV hGt gt
    have h3:=qW hGt
    obtain⟨wv,tv,lv,vv,hc,c1,c2,c3,c4⟩:=(hC1.mono (s2.trans s3).ts).ex
    walk_at "rd"
    refine⟨c,_,_,_,_,_,_,_,_,_,_,rfl,hc,fun r5 H8 s48 h8=>?_⟩
    have m:=s48.ts
    exact k r5 H8 (s1.trans (s2.trans (s3.trans s48))) ⟨wv,t,lv,vv,h8,c1.mono m (fun _ _=>q1U.mono m),⟨ps,s48 _ _ h3,hr2.mono fun _ _=>qI.mono (s3.trans s48).ts⟩,c3.mono m (fun _ _=>qI.mono m),c4.mono m (fun _ _=>qI.mono m)⟩
theorem qaG (T:Txt mg cs)(L:Laid K mg "_law_product" q0z ["_law_number"]):Cal P w K mg base 1 "_law_product" ["_law_number"] q9F:=by
 refine L.cal (k:=0) q0n (fun vs H Q E h=>?_) (fun f cdv A outer s H vs Q E hr h=>?_)
 ·obtain ⟨k,rfl,_⟩:=h
  rfl
 ·obtain ⟨n,rfl,h0,h1,k⟩:=h
  refine⟨_,(qe (qA (i:=1) q0n.nd rfl (Or.inl rfl) qi)
   (qe (q0j PassesOwn.never rfl (qL rfl T.n_range (qc (pv 0) qd)) (qu (i:=2) q0n.nd rfl (Or.inl rfl)) (qh (qA (i:=1) q0n.nd rfl (Or.inl rfl) (ql q21 (pv 1) (ql q0d (pv 2) qi)))))
   (qh (qz (pv 1))))),?_⟩
  walk_at "rd"
  refine q16 (fun i σ H'=>∃v2,σ=[some (.int n),some (.int (fac i)),v2]/\H'=H) ⟨none,rfl,rfl⟩ ?_ ?_
  ·rintro i σ H' hi ⟨v2,rfl,rfl⟩
   walk_at "rd"
   refine⟨some (V.int (0+(i:Nat))),?_,rfl⟩
   rw[show fac i*(0+(i:Nat)+1)=fac (i+1) by show _=fac i*((i:Int)+1);congr 1;omega]
   rfl
  ·rintro σ H' ⟨v2,rfl,rfl⟩
   walk_at "rd"
   exact k
theorem ok_lc (T:Txt mg cs)(L:Laid K mg "_law_count" q0D ["_law_kinds","_law_size"])(C__law_product:Cal P w K mg base 1 "_law_product" ["_law_number"] q9F):Cal P w K mg base 2 "_law_count" ["_law_kinds","_law_size"] spLC:=by
 refine L.cal (k:=1) q0H (fun vs H Q E h=>?_) (fun f cdv A outer s H vs Q E hr h=>?_)
 ·obtain ⟨p,ks,n,rfl,_⟩:=h
  rfl
 ·obtain ⟨p,ks,n,rfl,hp,g,k⟩:=h
  have big:=qG
  have g1:=g.l
  have g2:=g.n
  refine⟨_,(qe (qA (i:=2) q0H.nd rfl (Or.inl rfl) (ql q47 (qx C__law_product hr (by decide) rfl (qc (pv 1) qd)) (qx C__law_product hr (by decide) rfl (qc (ql q1N (pv 1) (qr (lenK K) rfl T.n_len qN (qc (pv 0) qd))) qd))))
   (qe (q0j PassesOwn.never rfl (qL rfl T.n_range (qc qi qd)) (qu (i:=3) q0H.nd rfl (Or.inr rfl)) (qh (qA (i:=2) q0H.nd rfl (Or.inl rfl) (ql q47 (pv 2) (qx C__law_product hr (by decide) rfl (qc (qr (lenK K) rfl T.n_len qN (qc (q1B (q0v (N:=["_law_one","_law_kind"]) (own:=1) (caps:=[3]) ["_law_kinds","_law_size","_law_made","_law_kind"] (qf q0D) (by decide +kernel)) rfl (q0A K (pv 0)) (fun _ _ _ _=>(qu (i:=0) (show List.Nodup (["_law_one","_law_kind"]:List Str) by decide +kernel) rfl (Or.inl rfl))) (fun _ _ _ _=>(q2o (qC q07 (pv 0) (pv 1) (qy _)))) (fun _ _ _ _=>(pv 0))) qd)) qd))))))
   (qh (qz (pv 2))))),?_⟩
  walk_at "rd"
  refine⟨n,rfl,by omega,by omega,?_⟩
  walk_at "rd"
  rw[List.length_map]
  refine⟨_,rfl,by omega,by omega,?_⟩
  refine r_I ⟨q2d _,q5K _ (by omega)⟩ ?_
  walk_at "rd"
  refine q16 (fun i σ H'=>∃v3,σ=[some (.ref p),some (.int n),some (.int (divs (fac n.toNat / fac (n - ks.length).toNat) ((cnts ks).take i))),v3]/\Same H H') ⟨none,rfl,Same.refl _⟩ ?_ ?_
  ·rintro i σ H' hi ⟨v3,rfl,s1⟩
   have hp1:=s1 _ _ hp
   walk_at "rd"
   intro D hD
   refine q4g (ks.map V.int) (fun j σ H2=>∃v0,σ=[v0,some (.int (0+(i:Nat)))]/\Same H' H2/\H2 D=some (.lst (((ks.take j).filter (fun k=>decide (k=(i:Int)))).map V.int))) ⟨none,rfl,Same.upd hD,by rw[qg];rfl⟩ ?_ ?_ ?_
   ·rintro j σ H2 ⟨_,rfl,s2,_⟩
    exact SqL.of (s2 _ _ hp1)
   ·rintro j x σ H2 hx ⟨v0,rfl,s2,h2⟩
    obtain⟨hj,rfl⟩:=q7C hx
    walk_at "rd"
    rw[show(decide (ks[j]=0+(i:Nat)))=decide (ks[j]=(i:Int)) by congr 1;simp]
    by_cases e:ks[j]=(i:Int)
    ·rw [decide_eq_true e]
     walk_at "rd"
     refine⟨_,h2,?_,_,rfl,s2.put hD,?_⟩
     ·have:=List.length_filter_le (fun k=>decide (k=(i:Int))) (ks.take j)
      rw[List.length_map]
      have:(ks.take j).length<=ks.length:=by rw[List.length_take];omega
      omega
     rw[qg,List.take_succ_eq_append_getElem hj,List.filter_append]
     simp[e]
    ·rw [decide_eq_false e]
     walk_at "rd"
     refine⟨_,rfl,s2,?_⟩
     rw[h2,List.take_succ_eq_append_getElem hj,List.filter_append]
     simp[e]
   ·rintro σ H2 ⟨v0,rfl,s2,h2⟩
    rw[List.length_map,List.take_length] at h2
    walk_at "rd"
    rw[List.length_map]
    have cl:=qb0 ks i
    refine⟨kn ks i,rfl,cl.1,by omega,?_⟩
    refine r_I ⟨q2d _,q5K _ (by omega)⟩ ?_
    walk_at "rd"
    refine⟨some (.int (0+(i:Nat))),?_,s1.trans s2⟩
    rw[q85 _ _ _ hi]
    rfl
  ·rintro σ H' ⟨v3,rfl,s1⟩
   walk_at "rd"
   rw[show(cnts ks).take (Int.toNat 12)=cnts ks from rfl]
   exact k H' s1
end
def st0 (C:Cl):Sd:=⟨C.fst,0,0,C.bars,C.water⟩
def Lds (C:Cl):Prop:=∃x,Rch (NxR C) (st0 C) x/\x.rm=C.lst
def dO (o:Nat):Option Int:=if o=0 then none else some ((o:Int) - 1)
theorem vO_dO (o:Nat):vO (dO o)=vD o:=by
 unfold dO vD
 split<;>rfl
noncomputable def osN (ks:List Int)(n m:Int):List (Option Int):=(dsN ks n m).map dO
noncomputable def cN (C:Cl)(ns ks:List Int)(m:Int):Cl:={C with things:=thg (ns.zip (osN ks ns.length m))}
noncomputable def gdB (C:Cl)(ns ks:List Int)(m:Nat):Bool:=open Classical in decide (Lds (cN C ns ks m))
theorem q9V {C:Cl}{ns ks:List Int}{m:Nat}{b:Bool}(hb:b=true↔Lds (cN C ns ks m)):gdB C ns ks m=b:=by
 classical
 unfold gdB
 cases b with
 |true=>exact decide_eq_true (hb.mp rfl)
 |false=>exact decide_eq_false fun z=>nomatch hb.mpr z
theorem q7s (ks:List Int)(n m:Int):(osN ks n m).map vO=(dsN ks n m).map vD:=by
 unfold osN
 rw[List.map_map]
 exact List.map_congr_left fun o _=>vO_dO o
theorem q9n {ds:List Nat}:(q0E (ds.map dO)).length=(ds.filter fun o=>decide (o≠0)).length:=by
 unfold q0E
 induction ds with
 |nil=>rfl
 |cons o ds ih=>
  rw[List.map_cons,List.filter_cons]
  by_cases e:o=0
  ·rw [show dO o=none by unfold dO;rw[if_pos e]]
   simpa[e] using ih
  ·rw [show dO o=some ((o:Int) - 1) by unfold dO;rw[if_neg e]]
   simpa[e] using ih
theorem q5m:∀{ds:List Nat} {a:Int} {t:List Int},Val (a::t) ds->((ds.filter fun o=>decide (o≠0)).length:Int)<=t.sum+0\/¬NN (a::t)
 |[],a,t,h=>by
  by_cases nn:NN (a::t)
  ·exact .inl (by have:NN t:=fun y hy=>nn y (List.mem_cons_of_mem _ hy);have:=this.sum;simpa using this)
  ·exact .inr nn
 |o::ds,a,t,h=>by
  obtain⟨h1,h2,h3⟩:=h
  by_cases nn:NN (a::t)
  ·left
   have nd:=nn.dec h2
   match o,h1,h2,h3,nd with
   |0,h1,h2,h3,nd=>
    rcases q5m (a:=a - 1) (t:=t) h3 with z|z
    ·simpa using z
    ·exact absurd nd z
   |o+1,h1,h2,h3,nd=>
    have h1':o<t.length:=by simpa using h1
    rcases q5m (a:=a) (t:=dec t o) h3 with z|z
    ·rw [q2C h1'] at z
     rw[List.filter_cons_of_pos (by simp),List.length_cons]
     omega
    ·exact absurd nd z
  ·exact .inr nn
theorem q6V:∀{ds:List Nat} {ss:List Int},Val ss ds->∀o∈ds,o<ss.length
 |[],_,_,o,ho=>nomatch ho
 |d::ds,ss,h,o,ho=>by
  obtain⟨h1,h2,h3⟩:=h
  rcases List.mem_cons.mp ho with rfl|ho
  ·exact h1
  ·have:=q6V h3 o ho
   rwa [qbk] at this
theorem osN_ok {ks:List Int}{n m:Int}(g:DGood ks n)(m0:0<=m)(m1:m<many ks n):OGood (osN ks n m)/\((osN ks n m).length:Int)=n/\(q0E (osN ks n m)).length<=ks.length:=by
 obtain⟨v,_⟩:=q9X g m0 m1
 have hs:=q35 v
 rw[q28 g.k] at hs
 have hl:((osN ks n m).length:Int)=n:=by unfold osN;rw[List.length_map];omega
 have hk:(q0E (osN ks n m)).length<=ks.length:=by
  unfold osN
  rw[q9n]
  rcases q5m (a:=n - ks.length) (t:=cnts ks) v with z|z
  ·rw [q3O ks g.k] at z
   omega
  ·exact absurd (q3B g.n.1) z
 have gl:=g.l
 have gn:=g.n
 refine⟨⟨by omega,by omega,fun k hk=>?_⟩,hl,hk⟩
 obtain⟨x,hx,e⟩:=List.mem_filterMap.mp hk
 obtain⟨o,ho,rfl⟩:=List.mem_map.mp hx
 have ht:=q6V v o ho
 have e:dO o=some k:=e
 unfold dO at e
 split at e
 ·cases e
 ·cases e
  rw[show(shs ks n).length=13 by unfold shs;simp] at ht
  omega
theorem q4z:∀{ns:List Int} {os:List (Option Int)},os.length=ns.length->(thg (ns.zip os)).length=(q0E os).length
 |[],[],_=>rfl
 |_::ns,o::os,h=>by
  have ih:=q4z (ns:=ns) (os:=os) (by simpa using h)
  unfold thg q0E at ih ⊢
  cases o<;>simp[ih]
theorem qaX {ns:List Int}{os:List (Option Int)}{x:Int×Int}(h:x∈thg (ns.zip os)):x.1∈ns/\x.2∈q0E os:=by
 obtain⟨⟨a,o⟩,hz,e⟩:=List.mem_filterMap.mp h
 have hm:=List.of_mem_zip hz
 cases o with
 |none=>cases e
 |some k=>
  cases e
  exact⟨hm.1,List.mem_filterMap.mpr ⟨_,hm.2,rfl⟩⟩
structure Ask (C:Cl)(ns ks:List Int):Prop where
 ok:ClOk C
 r:C.rooms<=4
 w:C.ways.length<=4
 l:C.levers.length<=1
 v:C.wheels.length<=1
 p:PlOk C ns
 n:ns.length<=3
 k:ks.length<=2/\ks.length<=ns.length
 z:∀k∈ks,k=0\/k=1
theorem Ask.dg {C:Cl}{ns ks:List Int}(h:Ask C ns ks):DGood ks ns.length:=⟨by have:=h.k;omega,fun k hk=>by have:=h.z k hk;omega,by have:=h.k;have:=h.n;omega⟩
theorem q9i:∀n,n<4->∀ks∈([[],[0],[1],[0,0],[0,1],[1,0],[1,1]]:List (List Int)),many ks ((n:Nat):Int)<=60:=by decide +kernel
theorem q9l {ks:List Int}(h:ks.length<=2)(z:∀k∈ks,k=0\/k=1):ks∈([[],[0],[1],[0,0],[0,1],[1,0],[1,1]]:List (List Int)):=by
 match ks,h with
 |[],_=>simp
 |[a],_=>rcases z a (by simp) with rfl|rfl<;>simp
 |[a,b],_=>rcases z a (by simp) with rfl|rfl<;>rcases z b (by simp) with rfl|rfl<;>simp
theorem Ask.few {C:Cl}{ns ks:List Int}(h:Ask C ns ks):many ks ns.length<=60:=q9i ns.length (by have:=h.n;omega) ks (q9l h.k.1 h.z)
theorem Ask.dealt {C:Cl}{ns ks:List Int}{m:Int}(h:Ask C ns ks)(m0:0<=m)(m1:m<many ks ns.length):DlOk C ns (osN ks ns.length m)/\ClOk (cN C ns ks m)/\Small (cN C ns ks m):=by
 obtain⟨o1,o2,o3⟩:=osN_ok h.dg m0 m1
 have e:(osN ks ns.length m).length=ns.length:=by omega
 have tl:(thg (ns.zip (osN ks ns.length m))).length<=2:=by rw[q4z e];have:=h.k;omega
 refine⟨⟨h.p,o1,e⟩,{h.ok with tl:=by show(thg _).length<=8;omega,t:=fun x hx=>?_},⟨by have:=h.r;show C.rooms<=5;omega,h.w,tl,h.l,h.v⟩⟩
 obtain⟨x1,x2⟩:=qaX hx
 have a:=h.p.r _ x1
 have b:=o1.k _ x2
 show(0<=x.1/\x.1<C.rooms)/\_
 omega
def q9G:Sp:=fun vs H Q _=>∃(c d:Addr) (C:Cl) (l:Dk),vs=[.ref c,.ref d]/\ClAt H c C/\DAtS H d l/\l.length<=288/\∀(r:Addr) (xs:List V) (H':Hp),(∀H0,Same H0 H->H0 d=none->Same H0 H')->H' r=some (.lst xs)->xs.length=((l.map (·.1)).filter fun x=>decide (x.rm=C.lst)).length->Q (.ref r) H'
def spIsG:Sp:=fun vs H Q _=>∃(c:Addr) (C:Cl),vs=[.ref c]/\ClAt H c C/\ClOk C/\Small C/\∀(b:Bool) (H':Hp),Same H H'->(b=true↔Lds C)->Q (.bl b) H'
def spGd:Sp:=fun vs H Q _=>∃(c p q:Addr) (C:Cl) (ns ks:List Int),vs=[.ref c,.ref p,.ref q]/\ClAt H c C/\H p=some (.lst (ks.map V.int))/\H q=some (.lst (ns.map V.int))/\Ask C ns ks/\∀(r:Addr) (H':Hp),Same H H'->H r=none->H' r=some (.lst (((List.range (many ks ns.length).toNat).filter (gdB C ns ks)).map fun i:Nat=>V.int i))->Q (.ref r) H'
section
variable {P:Program}{w:World}{K:W.Frag}{mg:Str->Option Value}{base:Heap}{cs:Cs}
theorem qaM (T:Txt mg cs)(L:Laid K mg "ends_of" q1K ["cellar","walk"]):Cal P w K mg base 1 "ends_of" ["cellar","walk"] q9G:=by
 obtain⟨t1,e_ROOM⟩:=T.e_ROOM
 obtain⟨t2,e_LAST⟩:=T.e_LAST
 refine L.cal (k:=0) q6D (fun vs H Q E h=>?_) (fun f cdv A outer s H vs Q E hr h=>?_)
 ·obtain ⟨c,d,C,l,rfl,_⟩:=h
  rfl
 ·obtain ⟨c,d,C,l,rfl,hC,hd,hl,k⟩:=h
  have big:=qG
  refine⟨_,(qh (qar (qz (q1B (q0v (N:=["stand","cellar"]) (own:=1) (caps:=[0]) ["cellar","walk"] (qf q1K) (by decide +kernel)) rfl (pi_dkK K (pv 1)) (fun _ _ _ _=>(qu (i:=0) (show List.Nodup (["stand","cellar"]:List Str) by decide +kernel) rfl (Or.inl rfl))) (fun _ _ _ _=>(q2o (qC q07 (qq (qj K) (pv 0) (qk (v:= .int 0) rfl e_ROOM ⟨_,rfl⟩) (fun _ _=>rfl)) (qq (qj K) (pv 1) (qk (v:= .int 2) rfl e_LAST ⟨_,rfl⟩) (fun _ _=>rfl)) (qy _)))) (fun _ _ _ _=>(pv 0)))))),?_⟩
  walk_at "rd"
  refine⟨d,_,hd,fun o=>?_⟩
  have ts:=q8c (o:= .frz o (.dT (dkv l))) hd
  have h1:=qg (H:=H) (a:=d) (o:= .frz o (.dT (dkv l)))
  have s1:∀H0,Same H0 H->H0 d=none->Same H0 (upd H d (.frz o (.dT (dkv l)))):=fun H0 s hn=>s.put hn
  generalize upd H d (.frz o (.dT (dkv l)))=H1 at ts h1 s1 ⊢
  obtain⟨wv,tv,lv,vv,hc,_⟩:=(hC.mono ts).ex
  have kl:(dkv l).length=l.length:=by simp[dkv]
  walk_at "rd"
  refine⟨d,o,_,rfl,h1,fun D hD=>?_⟩
  refine qbn (fun i σ H'=>∃v0,σ=[v0,some (.ref c)]/\Same H1 H'/\∃xs,H' D=some (.lst xs)/\xs.length=(((l.map (·.1)).take i).filter fun x=>decide (x.rm=C.lst)).length) ⟨none,rfl,Same.upd hD,[],qg,rfl⟩ ?_ ?_ ?_
  ·rintro i σ H' ⟨v0,rfl,s2,_⟩
   exact s2 _ _ h1
  ·rintro i b p σ H' hp hb ⟨v0,rfl,s2,xs,hx,xl⟩
   have hi':i<List.length l:=by have:=(List.getElem?_eq_some_iff.mp hp).1;omega
   have hi:i<(l.map (·.1)).length:=by rw[List.length_map];exact hi'
   have hp':p.1=((l.map fun x:Sd×V=>x.1)[i]'hi).key:=by
    rw[dkv,List.getElem?_map,List.getElem?_eq_getElem hi'] at hp
    rw[<-Option.some.inj hp,List.getElem_map]
   rw[hp'] at hb
   rw[List.take_succ_eq_append_getElem hi,List.filter_append,List.length_append]
   generalize (l.map fun x:Sd×V=>x.1)[i]'hi=x at hb ⊢
   have hb':H' b=some (.tup [.int x.rm,.int x.tk,.int x.op,.int x.b,.int x.wt]):=hb
   have hc2:=s2 _ _ hc
   have xl2:xs.length<=288:=by rw[xl];refine Nat.le_trans (List.length_filter_le _ _) ?_;rw[List.length_take,List.length_map];omega
   walk_at "rd"
   refine ifd (fun e=>?_) (fun e=>?_)
   ·walk_at "rd"
    refine⟨_,hx,by omega,_,rfl,s2.put hD,_,qg,?_⟩
    rw[List.length_append,xl]
    simp[e]
   ·walk_at "rd"
    refine⟨_,rfl,s2,_,hx,?_⟩
    rw[xl]
    simp[e]
  ·rintro σ H' ⟨v0,rfl,s2,xs,hx,xl⟩
   rw[show(dkv l).length=(l.map (·.1)).length by rw[kl,List.length_map],List.take_length] at xl
   exact k D xs H' (fun H0 s hn=>(s1 H0 s hn).trans s2) hx xl
theorem ok_isg (T:Txt mg cs)(L:Laid K mg "is_good" q2g ["cellar"])(C_start:Cal P w K mg base 1 "start" ["cellar"] q5n)(C_walk_from:Cal P w K mg base 9 "walk_from" ["cellar","begin"] spWF)(C_ends_of:Cal P w K mg base 1 "ends_of" ["cellar","walk"] q9G):Cal P w K mg base 10 "is_good" ["cellar"] spIsG:=by
 refine L.cal (k:=9) q6B (fun vs H Q E h=>?_) (fun f cdv A outer s H vs Q E hr h=>?_)
 ·obtain ⟨c,C,rfl,_⟩:=h
  rfl
 ·obtain ⟨c,C,rfl,hC,ok,sm,k⟩:=h
  have big:=qG
  refine⟨_,(qh (qz (qX q2Q (qr (lenK K) rfl T.n_len qN (qc (qx C_ends_of hr (by decide) rfl (qc (pv 0) (qc (qx C_walk_from hr (by decide) rfl (qc (pv 0) (qc (qx C_start hr (by decide) rfl (qc (pv 0) qd)) qd))) qd))) qd)) qi (qy _)))),?_⟩
  walk_at "rd"
  refine⟨c,C,rfl,hC,fun q H1 s1 hq=>?_⟩
  have hq:SAt H1 q (st0 C):=hq
  have ok0:(st0 C).ok C:=q60 ok
  walk_at "rd"
  refine⟨c,q,C,st0 C,rfl,hC.mono s1.ts,ok,sm,hq,ok0,fun d l H2 s2 hd0 hd nd mem=>?_⟩
  have s12:=s1.trans s2
  have hl:l.length<=288:=by have:=few ok sm ok0 nd fun x hx=>(mem x).mp hx;rwa [List.length_map] at this
  walk_at "rd"
  refine⟨c,d,C,l,rfl,hC.mono s12.ts,hd,hl,fun r xs H3 s3 hr3 xl=>?_⟩
  have s03:=s3 H s12 (s1.free hd0)
  walk_at "rd"
  refine k _ H3 s03 ?_
  rw[xl,decide_eq_true_iff]
  constructor
  ·intro z
   obtain⟨x,hx⟩:=List.exists_mem_of_length_pos (by omega:0<((l.map (·.1)).filter fun x=>decide (x.rm=C.lst)).length)
   obtain⟨h1,h2⟩:=List.mem_filter.mp hx
   exact⟨x,(mem x).mp h1,of_decide_eq_true h2⟩
  ·rintro ⟨x,h1,h2⟩
   have:=List.length_pos_of_mem ((List.mem_filter (p:=fun x:Sd=>decide (x.rm=C.lst))).mpr ⟨(mem x).mpr h1,decide_eq_true h2⟩)
   omega
theorem qaJ (T:Txt mg cs)(L:Laid K mg "good" q4X ["cellar","kinds","places"])(C_check_places:Cal P w K mg base 2 "check_places" ["cellar","places"] spCP)(C_count:Cal P w K mg base 3 "count" ["kinds","size"] q5q)(C_dealing_of:Cal P w K mg base 4 "dealing_of" ["kinds","size","number"] qad)(C_dealt:Cal P w K mg base 4 "dealt" ["cellar","places","dealing"] spDl)(C_is_good:Cal P w K mg base 10 "is_good" ["cellar"] spIsG):Cal P w K mg base 11 "good" ["cellar","kinds","places"] spGd:=by
 obtain⟨t1,e_MOST_DEALINGS⟩:=T.e_MOST_DEALINGS
 refine L.cal (k:=10) q5w (fun vs H Q E h=>?_) (fun f cdv A outer s H vs Q E hr h=>?_)
 ·obtain ⟨c,p,q,C,ns,ks,rfl,_⟩:=h
  rfl
 ·obtain ⟨c,p,q,C,ns,ks,rfl,hC,hp,hq,as,k⟩:=h
  have big:=qG
  have nl:=as.n
  have fw:=as.few
  have ml:=(q5I as.dg).1
  refine⟨_,(qe (qK (qx C_check_places hr (by decide) rfl (qc (pv 0) (qc (pv 2) qd))))
   (qe (qA (i:=3) q5w.nd rfl (Or.inr rfl) (qr (lenK K) rfl T.n_len qN (qc (pv 2) qd)))
   (qe (qA (i:=4) q5w.nd rfl (Or.inl rfl) (qx C_count hr (by decide) rfl (qc (pv 1) (qc (pv 3) qd))))
   (qe (q04 (qC q2Q (pv 4) (qk (v:= .int 60) rfl e_MOST_DEALINGS ⟨_,rfl⟩) (qy _)) (qh q0r) qD)
   (qh (qz (q1B (q0v (N:=["number","cellar","places","kinds","size"]) (own:=1) (caps:=[0,2,1,3]) ["cellar","kinds","places","size","many"] (qf q4X) (by decide +kernel)) rfl (qL rfl T.n_range (qc (pv 4) qd)) (fun _ _ _ _=>(qu (i:=0) (show List.Nodup (["number","cellar","places","kinds","size"]:List Str) by decide +kernel) rfl (Or.inl rfl))) (fun _ _ _ _=>(q2o (q0q (qx C_is_good hr (by decide) rfl (qc (qx C_dealt hr (by decide) rfl (qc (pv 1) (qc (pv 2) (qc (qx C_dealing_of hr (by decide) rfl (qc (pv 3) (qc (pv 4) (qc (pv 0) qd)))) qd)))) qd))))) (fun _ _ _ _=>(pv 0))))))))),?_⟩
  walk_at "rd"
  refine⟨c,q,C,ns,rfl,hC,hq,by omega,as.p,?_⟩
  walk_at "rd"
  rw[List.length_map]
  refine⟨p,ks,ns.length,rfl,hp,as.dg,fun H1 s1=>?_⟩
  have hp1:=s1 _ _ hp
  have hq1:=s1 _ _ hq
  walk_at "rd"
  refine ifd (fun z=>absurd z (by omega)) (fun _=>?_)
  walk_at "rd"
  intro D hD
  have hD0:H D=none:=s1.free hD
  refine q0t (fun i σ H'=>∃v0,σ=[v0,some (.ref c),some (.ref q),some (.ref p),some (.int ns.length)]/\Same H1 H'/\H' D=some (.lst (((List.range i).filter (gdB C ns ks)).map fun i:Nat=>V.int i))) ⟨none,rfl,Same.upd hD,qg⟩ ?_ ?_
  ·rintro i σ H2 hi ⟨v0,rfl,s2,hd2⟩
   have hi1:(i:Int)<many ks ns.length:=by omega
   have s02:=s1.trans s2
   obtain⟨dk,ok',sm'⟩:=as.dealt (m:=(i:Int)) (by omega) hi1
   walk_at "rd"
   refine⟨p,ks,ns.length,0+(i:Nat),rfl,s2 _ _ hp1,as.dg,by omega,by omega,fun q3 H3 s3 h3=>?_⟩
   rw[Int.zero_add,<-q7s] at h3
   have s03:=s02.trans s3
   walk_at "rd"
   refine⟨c,q,q3,C,ns,_,rfl,hC.mono s03.ts,s03 _ _ hq,by omega,h3,dk,fun r4 H4 s4 h4=>?_⟩
   walk_at "rd"
   refine⟨r4,cN C ns ks (i:Int),rfl,h4,ok',sm',fun b H5 s5 hb=>?_⟩
   have eb:=q9V hb
   have s25:=s3.trans (s4.trans s5)
   have hd5:=s25 _ _ hd2
   rw[List.range_succ,List.filter_append,List.map_append]
   walk_at "rd"
   cases b with
   |true=>
    refine iteT ?_
    walk_at "rd"
    refine⟨_,hd5,?_,_,rfl,(s2.trans s25).put hD,?_⟩
    ·rw [List.length_map]
     have:=List.length_filter_le (gdB C ns ks) (List.range i)
     rw[List.length_range] at this
     omega
    ·rw [qg]
     simp[eb]
   |false=>
    refine iteF ?_
    refine⟨_,rfl,s2.trans s25,?_⟩
    rw[hd5]
    simp[eb]
  ·rintro σ H2 ⟨v0,rfl,s2,hd2⟩
   exact k D H2 (s1.trans s2) hD0 (by simpa using hd2)
end
def spLCel (K:W.Frag):Sp:=fun vs H Q _=>∃(a:Addr) (ns:List Int),vs=[.ref a]/\SqL K H a (ns.map V.int)/\ns.length<=63/\∀(p:Addr) (C:Cl) (H':Hp),Same H H'->ClAt H' p C->ClOk C->(2<=C.rooms/\C.rooms<=4)->C.ways.length<=4->C.levers.length<=1->C.wheels.length<=1->Q (.ref p) H'
abbrev NC:List Str:=["_law_script","_law_cell_here","_law_rooms","_law_ways","_law_wheels","_law_k","_law_kind","_law_some","_law_a","_law_b","_law_levers","_law_own","_law_ends","_law_more"]
theorem Grown.le {α:Type}{At:Hp->Addr->α->Prop}{ok:α->Prop}{n m:Nat}{H:Hp}{l:Addr}(h:n<=m)(g:Grown At ok n H l):Grown At ok m H l:=let ⟨xs,a,b,c⟩:=g.ex;⟨xs,a,by omega,c⟩
section
variable {P:Program}{w:World}{K:W.Frag}{mg:Str->Option Value}{base:Heap}{cs:Cs}
theorem lcel_c {f:Addr}{cdv:Value}{A:Around}{outer:List Env}{s:Shared}{H0:Hp}{E:XK}(T:Txt mg cs)(hr:Room 1 (A.deeper (PyProof.Rows.envOfC "_law_cellar" (qf qO) s.heap.objs.size f cdv))):
  ∃t,PSs (cxOf CX0 P w K mg base NC "_law_cellar" (qf qO) f cdv A outer s H0 E).nox ((qU qO).drop 9) t/\∀(nx bk ct:St->Hp->Prop) (rt:VK) (v0 v5 v6 v7 v8 v9:Option V) (c R:Int) (l0 pw pl:Addr) (vs ls:List (Int×Int)) (H:Hp),0<=c->(2<=R/\R<=4)->Grown q1U (WOk R) 4 H l0->q2R qI H pw vs->vs.length<=1->(∀x∈vs,POk R 0 9 x)->q2R qI H pl ls->ls.length<=1->(∀x∈ls,POk R 1 255 x)->
   (∀(p:Addr) (C:Cl) (H':Hp),Same H H'->ClAt H' p C->ClOk C->(2<=C.rooms/\C.rooms<=4)->C.ways.length<=4->C.levers.length<=1->C.wheels.length<=1->rt (.ref p) H')->
   t ⟨nx,rt,bk,ct⟩ [v0,some (.int c),some (.int R),some (.ref l0),some (.ref pw),v5,v6,v7,v8,v9,some (.ref pl),none,none,none] H:=by
 refine⟨_,(qe (qA (i:=11) qw.nd rfl (Or.inl rfl) (q0u qd))
   (qe (q0j PassesOwn.never rfl (qL rfl T.n_range (qc (ql q05 (ql q06 (pv 1) qi) qi) qd)) (qu (i:=5) qw.nd rfl (Or.inl rfl)) (qh (qK (q2q PySem.F.plainAttrs_list PySem.F.slot_list_append PySem.F.type_list_append q02 (pv 11) (qc (qJ (qc (ql q05 (ql q06 (pv 1) (ql q0d (pv 5) qi)) (pv 2)) (qc (ql q05 (ql q06 (pv 1) (ql q0d (pv 5) qi)) qi) qd))) qd)))))
   (qe (qA (i:=12) qw.nd rfl (Or.inl rfl) (qJ (qc (ql q05 (ql q06 (pv 1) qi) (pv 2)) (qc (ql q05 (ql q06 (pv 1) qi) (pv 2)) qd))))
   (qe (qA (i:=13) qw.nd rfl (Or.inl rfl) (qJ (qc (ql q05 (ql q06 (pv 1) qi) qi) (qc (ql q21 qi (ql q05 (ql q06 (pv 1) qi) qi)) qd))))
   (qh (qz (ql (q48 K) (ql (q48 K) (ql (q48 K) (qJ (qc (pv 2) qd)) (pv 12)) (qJ (qc (q1a (q5W K) rfl T.n_tuple q34 (qc (pv 3) qd)) (qc (q1a (q5W K) rfl T.n_tuple q34 (qc (pv 11) qd)) (qc (pv 10) (qc (pv 4) qd)))))) (pv 13)))))))),?_⟩
 intro nx bk ct rt v0 v5 v6 v7 v8 v9 c R l0 pw pl vs ls H c0 hR g0 hpw hvl hvo hpl hll hlo k
 have big:=qG
 have R0:0<R:=by omega
 walk_at "rd"
 intro D hD
 have s1:=Same.upd (o:= .lst []) hD
 have h1:=qg (H:=H) (a:=D) (o:= .lst [])
 generalize upd H D (.lst [])=H1 at s1 h1 ⊢
 have m3:=q0g (c / 4096) (n:=3) (by decide)
 have m3':=q0k (c / 4096) (n:=3) (by decide)
 walk_at "rd"
 refine q16 (fun i σ H'=>∃v5,σ=[v0,some (.int c),some (.int R),some (.ref l0),some (.ref pw),v5,v6,v7,v8,v9,some (.ref pl),some (.ref D),none,none]/\Same H H'/\i<=2/\∃xs,q0b qI H' D xs/\xs.length=i/\∀x∈xs,POk R 0 11 x) ⟨v5,rfl,s1,by omega,[],⟨[],h1,Rows.nil⟩,rfl,fun x hx=>nomatch hx⟩ ?_ ?_
 ·rintro i σ H' hi ⟨v5,rfl,s2,hi2,xs,⟨ps,hps,rps⟩,xl,xo⟩
  have hi3:i<2:=by omega
  have a0:=q0g (c / (0+(i:Nat)+32)) R0
  have a1:=q0k (c / (0+(i:Nat)+32)) R0
  have b0:=q0g (c / (0+(i:Nat)+128)) (n:=2) (by decide)
  have b1:=q0k (c / (0+(i:Nat)+128)) (n:=2) (by decide)
  walk_at "rd"
  intro t ht
  have s3:=Same.upd (o:= .tup [.int (c / (0+(i:Nat)+32) % R),.int (c / (0+(i:Nat)+128) % 2)]) ht
  have h3:=qg (H:=H') (a:=t) (o:= .tup [.int (c / (0+(i:Nat)+32) % R),.int (c / (0+(i:Nat)+128) % 2)])
  generalize upd H' t _=H3 at s3 h3 ⊢
  have hps3:=s3 _ _ hps
  walk_at "rd"
  refine q2y hps3 (by rw[List.length_map,rps.1];omega) ?_
  refine⟨_,rfl,(s2.trans s3).put hD,by omega,xs++[(c / (0+(i:Nat)+32) % R,c / (0+(i:Nat)+128) % 2)],q0f (fun _ _ z=>qI.mono (q0N.lst hps3) z) (rps.mono fun _ _=>qI.mono s3.ts) h3,by simp[xl],fun x hx=>?_⟩
  rcases List.mem_append.mp hx with hx|hx
  ·exact xo x hx
  ·rw [List.mem_singleton.mp hx]
   exact⟨⟨a0,a1⟩,b0,by show c / (0+(i:Nat)+128) % 2<=11;omega⟩
 ·rintro σ H2 ⟨v5,rfl,s2,hi2,xs,⟨ps,hps,rps⟩,xl,xo⟩
  have f0:=q0g (c / 64) R0
  have f1:=q0k (c / 64) R0
  have e0:=q0g (c / 256) R0
  have e1:=q0k (c / 256) R0
  have w0:=q0g (c / 2048) (n:=4) (by decide)
  have w1:=q0k (c / 2048) (n:=4) (by decide)
  have u0:=q0g (c / 16384) (n:=3) (by decide)
  have u1:=q0k (c / 16384) (n:=3) (by decide)
  obtain⟨ws,⟨qs,hqs,rqs⟩,wl,wo⟩:=g0.ex
  walk_at "rd"
  intro t1 ht1
  generalize hG3:upd _ t1 _=H3
  have s3:=qV hG3 ht1
  have h3:=qW hG3
  walk_at "rd"
  intro t2 ht2
  generalize hG4:upd _ t2 _=H4
  have s4:=qV hG4 ht2
  have h4:=qW hG4
  walk_at "rd"
  intro t3 ht3
  generalize hG5:upd _ t3 _=H5
  have s5:=qV hG5 ht3
  have h5:=qW hG5
  walk_at "rd"
  refine q7j (SqT.of h5) (SqT.of (s5 _ _ (s4 _ _ h3))) (by simp) (by simp) rfl fun t4 ht4=>?_
  generalize hG6:upd _ t4 _=H6
  have s6:=qV hG6 ht4
  have h6:=qW hG6
  have s26:=s3.trans (s4.trans (s5.trans s6))
  walk_at "rd"
  refine q8J (SqL.of ((s2.trans s26) _ _ hqs)) fun t5 ht5=>?_
  generalize hG7:upd _ t5 _=H7
  have s7:=qV hG7 ht5
  have h7:=qW hG7
  walk_at "rd"
  refine q8J (SqL.of ((s26.trans s7) _ _ hps)) fun t6 ht6=>?_
  generalize hG8:upd _ t6 _=H8
  have s8:=qV hG8 ht6
  have h8:=qW hG8
  walk_at "rd"
  intro t7 ht7
  generalize hG9:upd _ t7 _=H9
  have s9:=qV hG9 ht7
  have h9:=qW hG9
  have s69:=s7.trans (s8.trans s9)
  refine q7j (SqT.of (s69 _ _ h6)) (SqT.of h9) (by simp) (by simp) rfl fun t8 ht8=>?_
  generalize hG10:upd _ t8 _=H10
  have s10:=qV hG10 ht8
  have h10:=qW hG10
  walk_at "rd"
  refine q7j (SqT.of h10) (SqT.of (((s5.trans s6).trans (s69.trans s10)) _ _ h4)) (by simp) (by simp) rfl fun t9 ht9=>?_
  generalize hG11:upd _ t9 _=H11
  have s11:=qV hG11 ht9
  have h11:=qW hG11
  have z26:=s26.trans (s69.trans (s10.trans s11))
  have z:=s2.trans z26
  have m:=z.ts
  refine k t9 ⟨R,c / 64 % R,c / 256 % R,ws,xs,ls,vs,c / 2048 % 4,3*(c / 16384 % 3)⟩ H11 z ⟨t5,t6,pl,pw,h11,⟨qs,((s8.trans s9).trans (s10.trans s11)) _ _ h7,rqs.mono fun _ _=>q1U.mono m⟩,⟨ps,(s9.trans (s10.trans s11)) _ _ h8,rps.mono fun _ _=>qI.mono z26.ts⟩,hpl.mono m fun _ _=>qI.mono m,hpw.mono m fun _ _=>qI.mono m⟩ ?_ hR wl hll hvl
  exact {r1:=by show 1<=R;omega,r2:=by show R<=14;omega,f:=⟨f0,f1⟩,l:=⟨e0,e1⟩,wl:=by show ws.length<=20;omega,tl:=by show xs.length<=8;omega,ll:=by show ls.length<=4;omega,vl:=by show vs.length<=4;omega,w:=wo,t:=fun x hx=>⟨(xo x hx).1,(xo x hx).2.1,by have:=(xo x hx).2.2;omega⟩,lv:=hlo,wh:=hvo,b:=by show 0<=c / 2048 % 4/\c / 2048 % 4<=255;omega,wa:=by show 0<=3*(c / 16384 % 3)/\3*(c / 16384 % 3)<=9;omega}
theorem lcel_b {f:Addr}{cdv:Value}{A:Around}{outer:List Env}{s:Shared}{H0:Hp}{E:XK}(T:Txt mg cs)(C__law_cell:Cal P w K mg base 1 "_law_cell" ["_law_script","_law_k"] (q5s K))(hr:Room 1 (A.deeper (PyProof.Rows.envOfC "_law_cellar" (qf qO) s.heap.objs.size f cdv))):
  ∃t,PSs (cxOf CX0 P w K mg base NC "_law_cellar" (qf qO) f cdv A outer s H0 E).nox ((qU qO).drop 5) t/\∀(nx bk ct:St->Hp->Prop) (rt:VK) (a:Addr) (ns:List Int) (v1:Option V) (R:Int) (l0 pw:Addr) (vs:List (Int×Int)) (Hb H:Hp),SqL K Hb a (ns.map V.int)->ns.length<=63->(2<=R/\R<=4)->Same Hb H->Hb l0=none->H l0=some (.lst [])->q2R qI H pw vs->vs.length<=1->(∀x∈vs,POk R 0 9 x)->
   (∀(p:Addr) (C:Cl) (H':Hp),Same Hb H'->ClAt H' p C->ClOk C->(2<=C.rooms/\C.rooms<=4)->C.ways.length<=4->C.levers.length<=1->C.wheels.length<=1->rt (.ref p) H')->
   t ⟨nx,rt,bk,ct⟩ [some (.ref a),v1,some (.int R),some (.ref l0),some (.ref pw),none,none,none,none,none,none,none,none,none] H:=by
 obtain⟨tc,hc,kc⟩:=lcel_c (P:=P) (w:=w) (K:=K) (base:=base) (outer:=outer) (H0:=H0) (E:=E) T hr
 refine⟨_,(qe (q0j PassesOwn.never rfl (q52 rfl T.n_range (qc qi (qc (qr (min2 rfl) rfl T.n_min q8t (qc (qr (lenK K) rfl T.n_len qN (qc (pv 0) qd)) (qc (ql q1N qi (qr (lenK K) rfl T.n_len qN (qc (pv 4) qd))) qd))) qd))) (qu (i:=5) qw.nd rfl (Or.inl rfl)) (qe (qA (i:=1) qw.nd rfl (Or.inl rfl) (qx C__law_cell hr (by decide) rfl (qc (pv 0) (qc (pv 5) qd))))
   (qe (qA (i:=6) qw.nd rfl (Or.inl rfl) (ql q05 (ql q06 (pv 1) qi) qi))
   (qe (qA (i:=7) qw.nd rfl (Or.inl rfl) (q0u (qc (qJ (qc qQ (qc (pv 6) qd))) (qc (qJ (qc qQ (qc (pv 6) qd))) (qc (qJ (qc qQ qd)) (qc (qJ (qc qQ (qc (pv 6) qd))) (qc (qJ (qc qQ (qc (pv 6) qd))) (qc (qJ (qc qQ (qc qi qd))) qd))))))))
   (qe (qA (i:=8) qw.nd rfl (Or.inl rfl) (ql q05 (ql q06 (pv 1) qi) (pv 2)))
   (qe (qA (i:=9) qw.nd rfl (Or.inl rfl) (ql q05 (ql q0d (ql q0d (pv 8) qi) (ql q05 (ql q06 (pv 1) qi) (ql q1N (pv 2) qi))) (pv 2)))
   (qh (qK (q2q PySem.F.plainAttrs_list PySem.F.slot_list_append PySem.F.type_list_append q02 (pv 3) (qc (qJ (qc (pv 8) (qc (pv 9) (qc (qq (qY K) (ql q3G (pv 7) (q0u (qc (qJ (qc qQ (qc qi (qc (pv 6) qd)))) (qc (qJ (qc qQ (qc (ql q1N qi (pv 6)) qd))) qd)))) (ql q05 (pv 1) qi) (fun _ _=>rfl)) (qc (qX q2Q (ql q05 (ql q06 (pv 1) qi) qi) qi (qy _)) qd))))) qd))))))))))
   (qe (qA (i:=1) qw.nd rfl (Or.inl rfl) (qx C__law_cell hr (by decide) rfl (qc (pv 0) (qc qi qd))))
   (qe (qA (i:=10) qw.nd rfl (Or.inl rfl) (qJ qd))
   (qe (q04 (qC q07 (ql q05 (pv 1) qi) qi (qy _)) (qh (qA (i:=10) qw.nd rfl (Or.inl rfl) (qJ (qc (qJ (qc (ql q05 (ql q06 (pv 1) qi) (pv 2)) (qc (ql q0d qi (ql q05 (ql q06 (pv 1) qi) qi)) qd))) qd)))) qD)
   hc)))),?_⟩
 intro nx bk ct rt a ns v1 R l0 pw vs Hb H hS hl hR sb nb hl0 hpw hvl hvo k
 have big:=qG
 obtain⟨pp,hpp,rpp⟩:=hpw
 have epl:pp.length=vs.length:=rpp.1
 have R0:0<R:=by omega
 walk_at "rd"
 rw[List.length_map,List.length_map]
 obtain⟨N,eN,hN⟩:∃N:Int,(if 8 - (pp.length:Int)<(ns.length:Int) then 8 - (pp.length:Int) else(ns.length:Int))=N/\0<=N/\N<=8:=⟨_,rfl,by split<;>omega,by split<;>omega⟩
 rw[eN]
 refine r_rg2 (by omega) ?_
 refine q16 (fun i σ H'=>∃v1 v5 v6 v7 v8 v9,σ=[some (.ref a),v1,some (.int R),some (.ref l0),some (.ref pw),v5,v6,v7,v8,v9,none,none,none,none]/\Same Hb H'/\q0N H H'/\i<=4/\Grown q1U (WOk R) i H' l0) ⟨v1,none,none,none,none,none,rfl,sb,fun _ _ h=>h,by omega,Grown.none hl0⟩ ?_ ?_
 ·rintro i σ H1 hi ⟨v1,v5,v6,v7,v8,v9,rfl,s1,ts1,hi4,g1⟩
  have hi5:i<4:=by omega
  walk_at "rd"
  refine⟨a,ns,_,rfl,s1.seq hS,hl,by omega,by omega,fun c hc hc'=>?_⟩
  have k0:=q0g (c / 8) (n:=2) (by decide)
  have k1:=q0k (c / 8) (n:=2) (by decide)
  walk_at "rd"
  generalize c / 8 % 2=kd at k0 k1 ⊢
  intro p1 q1
  generalize hG2:upd _ p1 _=H2
  have s2:=qV hG2 q1
  have h2:=qW hG2
  walk_at "rd"
  intro p2 q2
  generalize hG3:upd _ p2 _=H3
  have s3:=qV hG3 q2
  have h3:=qW hG3
  walk_at "rd"
  intro p3 q3
  generalize hG4:upd _ p3 _=H4
  have s4:=qV hG4 q3
  have h4:=qW hG4
  walk_at "rd"
  intro p4 q4
  generalize hG5:upd _ p4 _=H5
  have s5:=qV hG5 q4
  have h5:=qW hG5
  walk_at "rd"
  intro p5 q5
  generalize hG6:upd _ p5 _=H6
  have s6:=qV hG6 q5
  have h6:=qW hG6
  walk_at "rd"
  intro p6 q6
  generalize hG7:upd _ p6 _=H7
  have s7:=qV hG7 q6
  have h7:=qW hG7
  walk_at "rd"
  intro p7 q7
  generalize hG8:upd _ p7 _=H8
  have s8:=qV hG8 q7
  have h8:=qW hG8
  obtain⟨ys,hys,yl⟩:=g1.at
  have s18:=s2.trans (s3.trans (s4.trans (s5.trans (s6.trans (s7.trans s8)))))
  have hys8:=s18 _ _ hys
  have a0:=q0g (c / 16) R0
  have a1:=q0k (c / 16) R0
  have R1:0<R - 1:=by omega
  have b0:=q0g (c / 64) R1
  have b1:=q0k (c / 64) R1
  walk_at "rd"
  generalize c / 16 % R=wa at a0 a1 ⊢
  generalize c / 64 % (R - 1)=wb at b0 b1 ⊢
  have e0:=q0g (wa+1+wb) R0
  have e1:=q0k (wa+1+wb) R0
  have ne:wa≠(wa+1+wb) % R:=by
   intro z
   by_cases y:wa+1+wb<R
   ·rw [Int.emod_eq_of_lt (by omega) y] at z;omega
   ·have:(wa+1+wb) % R=wa+1+wb - R:=by rw[<-Int.sub_emod_right,Int.emod_eq_of_lt (by omega) (by omega)]
    omega
  generalize (wa+1+wb) % R=wc at e0 e1 ne ⊢
  walk_at "rd"
  intro p8 q8
  generalize hG9:upd _ p8 _=H9
  have s9:=qV hG9 q8
  have h9:=qW hG9
  walk_at "rd"
  intro p9 q9
  generalize hG10:upd _ p9 _=H10
  have s10:=qV hG10 q9
  have h10:=qW hG10
  walk_at "rd"
  intro pa qa
  generalize hG11:upd _ pa _=H11
  have s11:=qV hG11 qa
  have h11:=qW hG11
  have h8':=(s9.trans (s10.trans s11)) _ _ h8
  walk_at "rd"
  refine⟨p7,pa,_,_,rfl,rfl,h8',h11,by simp;omega,fun pb qb=>?_⟩
  generalize hG12:upd _ pb _=H12
  have s12:=qV hG12 qb
  have h12:=qW hG12
  have z11:=s11.trans s12
  have z10:=s10.trans z11
  have z9:=s9.trans z10
  have z8:=s8.trans z9
  have z7:=s7.trans z8
  have z6:=s6.trans z7
  have z5:=s5.trans z6
  have z4:=s4.trans z5
  have z3:=s3.trans z4
  obtain⟨g,gt,eg,hg,gok⟩:∃(g:Addr) (gt:Gt),atI [V.ref p1,V.ref p2,V.ref p3,V.ref p4,V.ref p5,V.ref p6,V.ref p8,V.ref p9] (c % 8)=some (.ref g)/\H12 g=some (.tup gt.vs)/\gt.ok:=by
   have kk:0<=kd/\kd<12:=by omega
   obtain h|h|h|h|h|h|h|h:c % 8=0\/c % 8=1\/c % 8=2\/c % 8=3\/c % 8=4\/c % 8=5\/c % 8=6\/c % 8=7:=by omega
   all_goals rw[h]
   ·exact ⟨p1,.door kd,rfl,z3 _ _ h2,kk⟩
   ·exact ⟨p2,.need kd,rfl,z4 _ _ h3,kk⟩
   ·exact ⟨p3,.plain,rfl,z5 _ _ h4,trivial⟩
   ·exact ⟨p4,.bar kd,rfl,z6 _ _ h5,by show 0<=kd/\kd<8;omega⟩
   ·exact ⟨p5,.door kd,rfl,z7 _ _ h6,kk⟩
   ·exact ⟨p6,.float 5,rfl,z8 _ _ h7,by show(0:Int)<=5/\(5:Int)<10;omega⟩
   ·exact ⟨p8,.wade 4 kd,rfl,z10 _ _ h9,by show((0:Int)<=4/\(4:Int)<10)/\_;exact⟨by omega,kk⟩⟩
   ·exact ⟨p9,.need (1 - kd),rfl,z11 _ _ h10,by show 0<=1 - kd/\1 - kd<12;omega⟩
  walk_at "rd"
  intro pt qt
  generalize hG13:upd _ pt _=H13
  have s13:=qV hG13 qt
  have h13:=qW hG13
  have z:=s18.trans (z9.trans s13)
  have hys13:=z _ _ hys
  walk_at "rd"
  refine q2y hys13 (by omega) ?_
  refine⟨_,_,_,_,_,_,rfl,(s1.trans z).put nb,ts1.trans (z.ts.trans (q0N.lst hys13)),by omega,?_⟩
  exact(Grown.le (by omega) (g1.same (fun _ _=>q1U.mono z.ts) z)).app (x:=⟨wa,wc,gt,_⟩) (fun _ _=>q1U.mono (q0N.lst hys13)) hys13 (by omega) ⟨g,h13,s13 _ _ hg⟩ ⟨⟨a0,a1⟩,⟨e0,e1⟩,ne,gok⟩
 ·rintro σ H1 ⟨v1,v5,v6,v7,v8,v9,rfl,s1,ts1,hi4,g1⟩
  have g1:=Grown.le hi4 g1
  have hpp1:=ts1 _ _ hpp
  have rpp1:=rpp.mono fun p x (h:qI H p x)=>qI.mono ts1 h
  walk_at "rd"
  refine⟨a,ns,1,rfl,s1.seq hS,hl,by decide,by decide,fun c hc hc'=>?_⟩
  walk_at "rd"
  intro w0 hw0
  have s2:=Same.upd (o:= .tup []) hw0
  have hw2:=qg (H:=H1) (a:=w0) (o:= .tup [])
  generalize upd H1 w0 (.tup [])=H2 at s2 hw2 ⊢
  have f0:=q0g (c / 2) R0
  have f1:=q0k (c / 2) R0
  have f2:=q0g (c / 8) (n:=3) (by decide)
  have f3:=q0k (c / 8) (n:=3) (by decide)
  walk_at "rd"
  refine ifd (fun e3=>?_) (fun e3=>?_)
  ·walk_at "rd"
   intro t1 ht1
   generalize hG4:upd _ t1 _=H4
   have s4:=qV hG4 ht1
   have h4:=qW hG4
   walk_at "rd"
   intro t2 ht2
   generalize hG5:upd _ t2 _=H5
   have s5:=qV hG5 ht2
   have h5:=qW hG5
   have z:=s2.trans (s4.trans s5)
   walk_at "rd"
   exact kc _ _ _ _ _ _ _ _ _ _ c R l0 pw t2 vs [(c / 2 % R,1+c / 8 % 3)] H5 hc hR (g1.same (fun _ _=>q1U.mono z.ts) z) ⟨pp,z _ _ hpp1,rpp1.mono fun _ _=>qI.mono z.ts⟩ hvl hvo ⟨[t1],h5,Rows.nil.snoc (s5 _ _ h4)⟩ (by simp) (fun x hx=>by rw[List.mem_singleton.mp hx];exact⟨⟨f0,f1⟩,by show 1<=1+c / 8 % 3/\1+c / 8 % 3<=255;omega⟩) fun p C H' s'=>k p C H' (s1.trans (z.trans s'))
  ·exact kc _ _ _ _ _ _ _ _ _ _ c R l0 pw w0 vs [] H2 hc hR (g1.same (fun _ _=>q1U.mono s2.ts) s2) ⟨pp,s2 _ _ hpp1,rpp1.mono fun _ _=>qI.mono s2.ts⟩ hvl hvo ⟨[],hw2,Rows.nil⟩ (by simp) (fun x hx=>nomatch hx) fun p C H' s'=>k p C H' (s1.trans (s2.trans s'))
theorem qaH (T:Txt mg cs)(L:Laid K mg "_law_cellar" qO ["_law_script"])(C__law_cell:Cal P w K mg base 1 "_law_cell" ["_law_script","_law_k"] (q5s K)):Cal P w K mg base 2 "_law_cellar" ["_law_script"] (spLCel K):=by
 refine L.cal (k:=1) qw (fun vs H Q E h=>?_) (fun f cdv A outer s H vs Q E hr h=>?_)
 ·obtain ⟨a,ns,rfl,_⟩:=h
  rfl
 ·obtain ⟨a,ns,rfl,hS,hl,k⟩:=h
  have big:=qG
  obtain⟨tb,hb,kb⟩:=lcel_b (P:=P) (w:=w) (base:=base) (outer:=outer) (H0:=H) (E:=E) T C__law_cell hr
  refine⟨_,(qe (qA (i:=1) qw.nd rfl (Or.inl rfl) (qx C__law_cell hr (by decide) rfl (qc (pv 0) (qc qi qd))))
   (qe (qA (i:=2) qw.nd rfl (Or.inl rfl) (ql q0d qi (ql q05 (pv 1) qi)))
   (qe (qA (i:=3) qw.nd rfl (Or.inl rfl) (q0u qd))
   (qe (qA (i:=4) qw.nd rfl (Or.inl rfl) (qJ qd))
   (qe (q04 (qC q07 (ql q05 (qx C__law_cell hr (by decide) rfl (qc (pv 0) (qc qi qd))) qi) qi (qy _)) (qh (qA (i:=4) qw.nd rfl (Or.inl rfl) (qJ (qc (qJ (qc (ql q05 (ql q06 (qx C__law_cell hr (by decide) rfl (qc (pv 0) (qc qi qd))) qi) (pv 2)) (qc (qq (qY K) (q0u (qc qi (qc qi qd))) (ql q05 (ql q06 (qx C__law_cell hr (by decide) rfl (qc (pv 0) (qc qi qd))) qi) qi) (fun _ _=>rfl)) qd))) qd)))) qD)
   hb))))),?_⟩
  rw[show L2.start NC [V.ref a]=[some (V.ref a),none,none,none,none,none,none,none,none,none,none,none,none,none] from rfl]
  walk_at "rd"
  refine⟨a,ns,0,rfl,hS,hl,by decide,by decide,fun c0 hc0 hc0'=>?_⟩
  have r0:=q0g c0 (n:=3) (by decide)
  have r1:=q0k c0 (n:=3) (by decide)
  walk_at "rd"
  intro l0 hl0
  generalize hR:2+c0 % 3=R
  have hR2:2<=R/\R<=4:=by omega
  have R0:0<R:=by omega
  have s1:=Same.upd (o:= .lst []) hl0
  have h1:=qg (H:=H) (a:=l0) (o:= .lst [])
  generalize upd H l0 (.lst [])=H1 at s1 h1 ⊢
  walk_at "rd"
  intro w0 hw0
  have s2:=s1.trans (Same.upd (o:= .tup []) hw0)
  have h2:=(Same.upd (o:= .tup []) hw0) _ _ h1
  have hw2:=qg (H:=H1) (a:=w0) (o:= .tup [])
  generalize upd H1 w0 (.tup [])=H2 at s2 h2 hw2 ⊢
  walk_at "rd"
  refine⟨a,ns,3,rfl,s2.seq hS,hl,by decide,by decide,fun c1 hc1 hc1'=>?_⟩
  walk_at "rd"
  refine ifd (fun e3=>?_) (fun e3=>?_)
  ·walk_at "rd"
   refine⟨a,ns,3,rfl,s2.seq hS,hl,by decide,by decide,fun c2 hc2 hc2'=>?_⟩
   walk_at "rd"
   intro q0 hq0
   have s3:=Same.upd (o:= .lst [.int 2,.int 7]) hq0
   have h3:=qg (H:=H2) (a:=q0) (o:= .lst [.int 2,.int 7])
   generalize upd H2 q0 (.lst [.int 2,.int 7])=H3 at s3 h3 ⊢
   have s03:=s2.trans s3
   walk_at "rd"
   refine⟨a,ns,3,rfl,s03.seq hS,hl,by decide,by decide,fun c3 hc3 hc3'=>?_⟩
   walk_at "rd"
   obtain⟨m,hm,em⟩:∃m:Int,(m=2\/m=7)/\atI [V.int 2,V.int 7] (c3 / 16 % 2)=some (.int m):=by
    obtain h|h:c3 / 16 % 2=0\/c3 / 16 % 2=1:=by omega
    ·exact ⟨2,.inl rfl,by rw[h];rfl⟩
    ·exact ⟨7,.inr rfl,by rw[h];rfl⟩
   refine q3a (SqL.of h3) em ?_
   walk_at "rd"
   intro t1 ht1
   generalize hG4:upd _ t1 _=H4
   have s4:=qV hG4 ht1
   have h4:=qW hG4
   walk_at "rd"
   intro t2 ht2
   generalize hG5:upd _ t2 _=H5
   have s5:=qV hG5 ht2
   have h5:=qW hG5
   have f0:=q0g (c2 / 3) R0
   have f1:=q0k (c2 / 3) R0
   have s25:=s3.trans (s4.trans s5)
   walk_at "rd"
   exact kb _ _ _ _ a ns _ R l0 t2 [(c2 / 3 % R,m)] H H5 hS hl hR2 (s2.trans s25) hl0 (s25 _ _ h2) ⟨[t1],h5,Rows.nil.snoc (s5 _ _ h4)⟩ (by simp) (fun x hx=>by rw[List.mem_singleton.mp hx];exact⟨⟨f0,f1⟩,by show 0<=m/\m<=9;omega⟩) k
  ·exact kb _ _ _ _ a ns _ R l0 w0 [] H H2 hS hl hR2 s2 hl0 h2 ⟨[],hw2,Rows.nil⟩ (by simp) (fun x hx=>nomatch hx) k
end
def qB (C:Cl)(T:List (Int×Int)):Cl:={C with things:=T}
def spHas:Sp:=fun vs H Q _=>∃(c l q:Addr) (C:Cl) (U:List (Int×Int)) (s:Sd) (kd:Int),vs=[.ref c,.ref l,.ref q,.int kd]/\ClAt H c C/\ClOk C/\q0b qI H l U/\U.length<=8/\SAt H q s/\∀H',Same H H'->Q (.int (hold (qB C U) s.tk s.op kd)) H'
section
variable {P:Program}{w:World}{K:W.Frag}{mg:Str->Option Value}{base:Heap}{cs:Cs}
theorem ok_has (T:Txt mg cs)(L:Laid K mg "_law_has" q0O ["_law_one","_law_things","_law_place","_law_kind"]):Cal P w K mg base 1 "_law_has" ["_law_one","_law_things","_law_place","_law_kind"] spHas:=by
 refine L.cal (k:=0) q29 (fun vs H Q E h=>?_) (fun f cdv A outer s H vs Q E hr h=>?_)
 ·obtain ⟨c,l,q,C,U,st,kd,rfl,_⟩:=h
  rfl
 ·obtain ⟨c,l,q,C,U,st,kd,rfl,hC,ok,⟨tv,ht,rt⟩,hU,hq,k⟩:=h
  obtain⟨pw,pt,pl,pv',h0,h1,_⟩:=hC.ex
  obtain⟨wv,hw,hwl,hwg⟩:=h1.get
  have hq:H q=some (.tup [.int st.rm,.int st.tk,.int st.op,.int st.b,.int st.wt]):=hq
  have htl:tv.length=U.length:=rt.1
  have big:=qG
  have hu:=Nat.lt_of_succ_lt (hu_of hr)
  have okw:=ok.wl
  have hwl2:(wv.length:Int)<=20:=by omega
  have htl2:((tv.map V.ref).length:Int)<=8:=by rw[List.length_map];omega
  refine⟨_,(qe (q1A (i:=4) q29.nd rfl rfl (q0v (N:=["_law_t","_law_things","_law_kind","_law_place"]) (own:=1) (caps:=[1,3,2]) ["_law_one","_law_things","_law_place","_law_kind","_law_taken","_law_doors"] (qf q0O) (by decide +kernel)) rfl (qL rfl T.n_range (qc (qr (lenK K) rfl T.n_len qN (qc (pv 1) qd)) qd)) (fun _ _ _ _=>(qu (i:=0) (show List.Nodup (["_law_t","_law_things","_law_kind","_law_place"]:List Str) by decide +kernel) rfl (Or.inl rfl))) (fun _ _ _ _=>(q2o (PW.pt (q50 (qC q07 (qq (qj K) (qq (qY K) (pv 1) (pv 0) (fun _ _=>rfl)) qi (fun _ _=>rfl)) (pv 2) (qy _)) (q3b (qC q07 (ql q3H (ql q3F (qq (qj K) (pv 3) qi (fun _ _=>rfl)) (pv 0)) qi) qi (qy _))))))) (fun _ _ _ _=>(pv 0)))
   (qe (q1A (i:=5) q29.nd rfl rfl (q0v (N:=["_law_w","_law_one","_law_kind","_law_place"]) (own:=1) (caps:=[0,3,2]) ["_law_one","_law_things","_law_place","_law_kind","_law_taken","_law_doors"] (qf q0O) (by decide +kernel)) rfl (qL rfl T.n_range (qc (qr (lenK K) rfl T.n_len qN (qc (qq (qj K) (pv 0) qi (fun _ _=>rfl)) qd)) qd)) (fun _ _ _ _=>(qu (i:=0) (show List.Nodup (["_law_w","_law_one","_law_kind","_law_place"]:List Str) by decide +kernel) rfl (Or.inl rfl))) (fun _ _ _ _=>(q2o (PW.pt (q50 (qC (qaD K hu) (qq (qj K) (qq (qj K) (qq (qj K) (pv 1) qi (fun _ _=>rfl)) (pv 0) (fun _ _=>rfl)) qi (fun _ _=>rfl)) (qJ (qc qQ (qc (pv 2) qd))) (qy _)) (q3b (qC q07 (ql q3H (ql q3F (qq (qj K) (pv 3) qi (fun _ _=>rfl)) (pv 0)) qi) qi (qy _))))))) (fun _ _ _ _=>(pv 0)))
   (qh (qz (ql q1N (qr (lenK K) rfl T.n_len qN (qc (pv 4) qd)) (qr (lenK K) rfl T.n_len qN (qc (pv 5) qd))))))),?_⟩
  walk_at "rd"
  intro D hD
  refine q0t (fun j σ H2=>∃v0,σ=[v0,some (.ref l),some (.int kd),some (.ref q)]/\Same H H2/\∃ys,H2 D=some (.lst ys)/\ys.length=cnt (tP (qB C U) st.tk kd) j) ⟨none,rfl,Same.upd hD,[],qg,rfl⟩ ?_ ?_
  ·rintro j σ H2 hj ⟨v0,rfl,s2,ys,hys,hyl⟩
   have hj2:j<(qB C U).things.length:=by show j<U.length;rw[<-htl];simpa using hj
   obtain⟨p2,hx,hp2⟩:=rt.get hj2
   have hx':atI (tv.map V.ref) (0+(j:Nat))=some (.ref p2):=by rw[Int.zero_add];exact q0i hx
   have hp3:H2 p2=_:=s2 _ _ hp2
   have htb:=s2 _ _ ht
   have hqb:=s2 _ _ hq
   have step:=q8g (C:=qB C U) (tk:=st.tk) (k:=kd) hj2
   have hcl:=q8i (tP (qB C U) st.tk kd) j
   have hUl:(qB C U).things.length=U.length:=rfl
   walk_at "rd"
   refine ifd (fun e1=>?_) (fun e1=>?_)
   ·walk_at "rd"
    rw[q1c,Int.zero_add (j:Int),Int.toNat_natCast]
    refine ite2 (fun hb=>?_) (fun hb=>?_)
    ·walk_at "rd"
     refine⟨_,hys,by omega,_,rfl,s2.put hD,_,qg,?_⟩
     rw[if_pos hb,if_pos (show kd=(qB C U).things[j].2 from e1.symm)] at step
     rw[List.length_append,hyl]
     simp only[List.length_singleton]
     omega
    ·walk_at "rd"
     rw[if_neg hb] at step
     exact⟨_,rfl,s2,_,hys,by omega⟩
   ·walk_at "rd"
    rw[if_neg (show¬kd=(qB C U).things[j].2 from fun z=>e1 z.symm)] at step
    refine⟨_,rfl,s2,_,hys,?_⟩
    split at step<;>omega
  ·rintro σ H2 ⟨v0,rfl,s2,ys,hys,hyl⟩
   have hyl2:ys.length=cnt (tP (qB C U) st.tk kd) U.length:=by rw[hyl,Int.toNat_natCast,List.length_map,htl]
   have h0b:=s2 _ _ h0
   have hwb:=s2 _ _ hw
   walk_at "rd"
   intro D2 hD2
   refine q0t (fun j σ H3=>∃v0,σ=[v0,some (.ref c),some (.int kd),some (.ref q)]/\Same H2 H3/\∃zs,H3 D2=some (.lst zs)/\zs.length=cnt (dP (dsOf C) st.op kd) j) ⟨none,rfl,Same.upd hD2,[],qg,rfl⟩ ?_ ?_
   ·rintro j σ H3 hj ⟨v0,rfl,s3,zs,hzs,hzl⟩
    have hj2:j<C.ways.length:=by rw[<-hwl];simpa using hj
    obtain⟨p2,hx,g2,hp2,hg2⟩:=hwg j hj2
    have sA:=s2.trans s3
    have hp3:=sA _ _ hp2
    have hg3:=sA _ _ hg2
    have h0c:=s3 _ _ h0b
    have hwc:=s3 _ _ hwb
    have step:=q8j (C:=C) (op:=st.op) (k:=kd) hj2
    have hcl:=q8i (dP (dsOf C) st.op kd) j
    walk_at "rd"
    intro t5 ht5
    have s5:Same H3 (upd H3 t5 (.tup [.str "door",.int kd])):=Same.upd ht5
    have hq5:=(sA.trans s5) _ _ hq
    refine⟨g2,t5,_,_,rfl,rfl,SqT.of (s5 _ _ hg3),SqT.of qg,Gt.flat _,rfl,?_⟩
    rw[qbc]
    walk_at "rd"
    refine ifd (fun e1=>?_) (fun e1=>?_)
    ·walk_at "rd"
     rw[q1c,Int.zero_add (j:Int),Int.toNat_natCast]
     refine ite2 (fun hb=>?_) (fun hb=>?_)
     ·walk_at "rd"
      refine⟨_,s5 _ _ hzs,by omega,_,rfl,(s3.trans s5).put hD2,_,qg,?_⟩
      rw[if_pos hb,if_pos e1] at step
      rw[List.length_append,hzl]
      simp only[List.length_singleton]
      omega
     ·walk_at "rd"
      rw[if_neg hb] at step
      exact⟨_,rfl,s3.trans s5,_,s5 _ _ hzs,by omega⟩
    ·walk_at "rd"
     rw[if_neg e1] at step
     refine⟨_,rfl,s3.trans s5,_,s5 _ _ hzs,?_⟩
     split at step<;>omega
   ·rintro σ H3 ⟨v0,rfl,s3,zs,hzs,hzl⟩
    have hzl2:zs.length=cnt (dP (dsOf C) st.op kd) C.ways.length:=by rw[hzl,Int.toNat_natCast,hwl]
    have hys3:=s3 _ _ hys
    walk_at "rd"
    have:=k H3 (s2.trans s3)
    unfold hold at this
    rw[hyl2,hzl2]
    exact this
end
structure Fd (C:Cl)(s:Sd)(R:List Sd)(ng nt np nv:Nat):Prop where
 so:∀y∈R,y=s\/∃d i,canB C s i d=true/\y=q09 C s i d
 go:∀i,i<ng->canB C s i .go=true->q09 C s i .go∈R
 un:∀i,i<ng->canB C s i .unlock=true->q09 C s i .unlock∈R
 tk:∀i,i<nt->canB C s i .take=true->q09 C s i .take∈R
 pl:∀i,i<np->canB C s i .pull=true->q09 C s i .pull∈R
 tn:∀i,i<nv->canB C s i .turn=true->q09 C s i .turn∈R\/q09 C s i .turn=s
 ln:R.length<=ng+nt+np+nv
theorem lt1 {i n:Nat}{p:Prop}(h:i<n+1)(a:i<n->p)(b:i=n->p):p:=by
 rcases Nat.lt_or_eq_of_le (Nat.le_of_lt_succ h) with z|z
 ·exact a z
 ·exact b z
section
variable {C:Cl}{s y:Sd}{R:List Sd}{ng nt np nv:Nat}
theorem Fd.nil:Fd C s [] 0 0 0 0:=⟨fun y hy=>(nomatch hy),fun i hi=>absurd hi (by omega),fun i hi=>absurd hi (by omega),fun i hi=>absurd hi (by omega),fun i hi=>absurd hi (by omega),fun i hi=>absurd hi (by omega),by simp⟩
theorem Fd.take0 (F:Fd C s R ng nt np nv)(h:canB C s nt .take=false):Fd C s R ng (nt+1) np nv:=
 {F with tk:=fun i hi hc=>lt1 hi (fun z=>F.tk i z hc) fun z=>(by rw[z,h] at hc;cases hc),ln:=by have:=F.ln;omega}
theorem Fd.take1 (F:Fd C s R ng nt np nv)(h:canB C s nt .take=true):Fd C s (R++[q09 C s nt .take]) ng (nt+1) np nv where
 so:=fun y hy=>(List.mem_append.mp hy).elim (F.so y) fun z=> .inr ⟨.take,nt,h,List.mem_singleton.mp z⟩
 go:=fun i hi hc=>List.mem_append_left _ (F.go i hi hc)
 un:=fun i hi hc=>List.mem_append_left _ (F.un i hi hc)
 tk:=fun i hi hc=>lt1 hi (fun z=>List.mem_append_left _ (F.tk i z hc)) fun z=>by rw[z];simp
 pl:=fun i hi hc=>List.mem_append_left _ (F.pl i hi hc)
 tn:=fun i hi hc=>(F.tn i hi hc).imp_left (List.mem_append_left _)
 ln:=by have:=F.ln;rw[List.length_append,List.length_singleton];omega
theorem Fd.pull0 (F:Fd C s R ng nt np nv)(h:canB C s np .pull=false):Fd C s R ng nt (np+1) nv:=
 {F with pl:=fun i hi hc=>lt1 hi (fun z=>F.pl i z hc) fun z=>(by rw[z,h] at hc;cases hc),ln:=by have:=F.ln;omega}
theorem Fd.pull1 (F:Fd C s R ng nt np nv)(h:canB C s np .pull=true):Fd C s (R++[q09 C s np .pull]) ng nt (np+1) nv where
 so:=fun y hy=>(List.mem_append.mp hy).elim (F.so y) fun z=> .inr ⟨.pull,np,h,List.mem_singleton.mp z⟩
 go:=fun i hi hc=>List.mem_append_left _ (F.go i hi hc)
 un:=fun i hi hc=>List.mem_append_left _ (F.un i hi hc)
 tk:=fun i hi hc=>List.mem_append_left _ (F.tk i hi hc)
 pl:=fun i hi hc=>lt1 hi (fun z=>List.mem_append_left _ (F.pl i z hc)) fun z=>by rw[z];simp
 tn:=fun i hi hc=>(F.tn i hi hc).imp_left (List.mem_append_left _)
 ln:=by have:=F.ln;rw[List.length_append,List.length_singleton];omega
theorem Fd.turn0 (F:Fd C s R ng nt np nv)(h:canB C s nv .turn=false):Fd C s R ng nt np (nv+1):=
 {F with tn:=fun i hi hc=>lt1 hi (fun z=>F.tn i z hc) fun z=>(by rw[z,h] at hc;cases hc),ln:=by have:=F.ln;omega}
theorem Fd.turn1 (F:Fd C s R ng nt np nv)(h:canB C s nv .turn=true\/q09 C s nv .turn=s):Fd C s (R++[q09 C s nv .turn]) ng nt np (nv+1) where
 so:=fun y hy=>(List.mem_append.mp hy).elim (F.so y) fun z=>by
  rw[List.mem_singleton.mp z]
  rcases h with h|h
  ·exact .inr ⟨.turn,nv,h,rfl⟩
  ·exact .inl h
 go:=fun i hi hc=>List.mem_append_left _ (F.go i hi hc)
 un:=fun i hi hc=>List.mem_append_left _ (F.un i hi hc)
 tk:=fun i hi hc=>List.mem_append_left _ (F.tk i hi hc)
 pl:=fun i hi hc=>List.mem_append_left _ (F.pl i hi hc)
 tn:=fun i hi hc=>lt1 hi (fun z=>(F.tn i z hc).imp_left (List.mem_append_left _)) fun z=>by rw[z];simp
 ln:=by have:=F.ln;rw[List.length_append,List.length_singleton];omega
theorem Fd.way0 (F:Fd C s R ng 0 0 0)(h1:canB C s ng .go=false)(h2:canB C s ng .unlock=false):Fd C s R (ng+1) 0 0 0:=
 {F with go:=fun i hi hc=>lt1 hi (fun z=>F.go i z hc) fun z=>(by rw[z,h1] at hc;cases hc),un:=fun i hi hc=>lt1 hi (fun z=>F.un i z hc) fun z=>(by rw[z,h2] at hc;cases hc),ln:=by have:=F.ln;omega}
theorem Fd.way1 (F:Fd C s R ng 0 0 0){d:Wd}(h:canB C s ng d=true)(h1:canB C s ng .go=true->d= .go)(h2:canB C s ng .unlock=true->d= .unlock):Fd C s (R++[q09 C s ng d]) (ng+1) 0 0 0 where
 so:=fun y hy=>(List.mem_append.mp hy).elim (F.so y) fun z=> .inr ⟨d,ng,h,List.mem_singleton.mp z⟩
 go:=fun i hi hc=>lt1 hi (fun z=>List.mem_append_left _ (F.go i z hc)) fun z=>by rw[z] at hc ⊢;rw[h1 hc];simp
 un:=fun i hi hc=>lt1 hi (fun z=>List.mem_append_left _ (F.un i z hc)) fun z=>by rw[z] at hc ⊢;rw[h2 hc];simp
 tk:=fun i hi=>absurd hi (by omega)
 pl:=fun i hi=>absurd hi (by omega)
 tn:=fun i hi=>absurd hi (by omega)
 ln:=by have:=F.ln;rw[List.length_append,List.length_singleton];omega
theorem Fd.nx (F:Fd C s R C.ways.length C.things.length C.levers.length C.wheels.length)(hl:s.rm≠C.lst):(∀y∈R,NxR C s y\/y=s)/\∀y,NxR C s y->y∈R\/y=s:=by
 refine⟨fun y hy=>?_,fun y hy=>?_⟩
 ·rcases F.so y hy with z|⟨d,i,hc,rfl⟩
  ·exact .inr z
  ·exact .inl (List.mem_map.mpr ⟨(d,i),q4a.mpr (by rw[q5Q hl];exact hc),rfl⟩)
 ·obtain ⟨d,i,hc,rfl⟩:=qaP hy
  rw[q5Q hl] at hc
  have hi:=q5S hc
  show q09 C s i d∈R\/q09 C s i d=s
  cases d with
  |go=>exact .inl (F.go i hi hc)
  |pull=>exact .inl (F.pl i hi hc)
  |take=>exact .inl (F.tk i hi hc)
  |turn=>exact F.tn i hi hc
  |unlock=>exact .inl (F.un i hi hc)
end
def spOn:Sp:=fun vs H Q _=>∃(c l q:Addr) (C:Cl) (U:List (Int×Int)) (s:Sd),vs=[.ref c,.ref l,.ref q]/\ClAt H c C/\ClOk C/\q0b qI H l U/\U.length<=8/\SAt H q s/\s.ok (qB C U)/\s.rm≠C.lst/\∀(r:Addr) (R:List Sd) (H':Hp),Same H H'->H r=none->q0b SAt H' r R->R.length<=60->(∀y∈R,NxR (qB C U) s y\/y=s)->(∀y,NxR (qB C U) s y->y∈R\/y=s)->Q (.ref r) H'
abbrev NO:List Str:=["_law_one","_law_things","_law_place","_law_room","_law_taken","_law_opened","_law_bars","_law_water","_law_found","_law_w","_law_a","_law_b","_law_gate","_law_back","_law_lets","_law_t","_law_lever","_law_wheel"]
section
variable {P:Program}{w:World}{K:W.Frag}{mg:Str->Option Value}{base:Heap}{cs:Cs}
theorem on_b {f:Addr}{cdv:Value}{A:Around}{outer:List Env}{s:Shared}{H0:Hp}{E:XK}(T:Txt mg cs)(hr:Room 1 (A.deeper (PyProof.Rows.envOfC "_law_ways_on" (qf q03) s.heap.objs.size f cdv))):
  ∃t,PSs (cxOf CX0 P w K mg base NO "_law_ways_on" (qf q03) f cdv A outer s H0 E).nox ((qU q03).drop 3) t/\∀(nx bk ct:St->Hp->Prop) (rt:VK) (v2 v9 v10 v11 v12 v13 v14:Option V) (c l D:Addr) (C:Cl) (U:List (Int×Int)) (st:Sd) (R:List Sd) (Hb H:Hp),Same Hb H->Hb D=none->ClAt Hb c C->ClOk C->q0b qI Hb l U->U.length<=8->st.ok (qB C U)->st.rm≠C.lst->q0b SAt H D R->Fd (qB C U) st R C.ways.length 0 0 0->
   (∀(r:Addr) (R:List Sd) (H':Hp),Same Hb H'->Hb r=none->q0b SAt H' r R->R.length<=60->(∀y∈R,NxR (qB C U) st y\/y=st)->(∀y,NxR (qB C U) st y->y∈R\/y=st)->rt (.ref r) H')->
   t ⟨nx,rt,bk,ct⟩ [some (.ref c),some (.ref l),v2,some (.int st.rm),some (.int st.tk),some (.int st.op),some (.int st.b),some (.int st.wt),some (.ref D),v9,v10,v11,v12,v13,v14,none,none,none] H:=by
 refine⟨_,(qe (q0j PassesOwn.never rfl (qL rfl T.n_range (qc (qr (lenK K) rfl T.n_len qN (qc (pv 1) qd)) qd)) (qu (i:=15) qm.nd rfl (Or.inl rfl)) (qh (q04 (PW.pt (q50 (qC q07 (qq (qj K) (qq (qY K) (pv 1) (pv 15) (fun _ _=>rfl)) qi (fun _ _=>rfl)) (pv 3) (qy _)) (q3b (qC q07 (ql q3H (ql q3F (pv 4) (pv 15)) qi) qi (qy _))))) (qh (qK (q2q PySem.F.plainAttrs_list PySem.F.slot_list_append PySem.F.type_list_append q02 (pv 8) (qc (qJ (qc (pv 3) (qc (ql q0d (pv 4) (ql q6b qi (pv 15))) (qc (pv 5) (qc (pv 6) (qc (pv 7) qd)))))) qd)))) qD)))
   (qe (q0j PassesOwn.never rfl (q45 K (qq (qj K) (pv 0) qi (fun _ _=>rfl))) (qu (i:=16) qm.nd rfl (Or.inl rfl)) (qh (q04 (qC q07 (qq (qj K) (pv 16) qi (fun _ _=>rfl)) (pv 3) (qy _)) (qh (qK (q2q PySem.F.plainAttrs_list PySem.F.slot_list_append PySem.F.type_list_append q02 (pv 8) (qc (qJ (qc (pv 3) (qc (pv 4) (qc (pv 5) (qc (ql q9R (pv 6) (qq (qj K) (pv 16) qi (fun _ _=>rfl))) (qc (pv 7) qd)))))) qd)))) qD)))
   (qe (q0j PassesOwn.never rfl (q45 K (qq (qj K) (pv 0) qi (fun _ _=>rfl))) (qu (i:=17) qm.nd rfl (Or.inl rfl)) (qh (q04 (qC q07 (qq (qj K) (pv 17) qi (fun _ _=>rfl)) (pv 3) (qy _)) (qh (qK (q2q PySem.F.plainAttrs_list PySem.F.slot_list_append PySem.F.type_list_append q02 (pv 8) (qc (qJ (qc (pv 3) (qc (pv 4) (qc (pv 5) (qc (pv 6) (qc (qq (qj K) (pv 17) qi (fun _ _=>rfl)) qd)))))) qd)))) qD)))
   (qh (qz (pv 8)))))),?_⟩
 intro nx bk ct rt v2 v9 v10 v11 v12 v13 v14 c l D C U st R Hb H s0 hD hC ok hU hUl sok hl hR F0 k
 have big:=qG
 obtain⟨tv,ht,rtv⟩:=hU
 have htl:tv.length=U.length:=rtv.1
 have htl2:((tv.map V.ref).length:Int)<=8:=by rw[List.length_map];omega
 have okw:=ok.wl
 have okl:=ok.ll
 have okv:=ok.vl
 have ht0:=s0 _ _ ht
 walk_at "rd"
 refine q16 (fun i σ H'=>∃v15 R,σ=[some (.ref c),some (.ref l),v2,some (.int st.rm),some (.int st.tk),some (.int st.op),some (.int st.b),some (.int st.wt),some (.ref D),v9,v10,v11,v12,v13,v14,v15,none,none]/\Same Hb H'/\q0b SAt H' D R/\i<=8/\Fd (qB C U) st R C.ways.length i 0 0) ⟨none,R,rfl,s0,hR,by omega,F0⟩ ?_ ?_
 ·rintro i σ H1 hi ⟨v15,R,rfl,s1,⟨ps,hps,rps⟩,hi8,F⟩
  have hi2:i<(qB C U).things.length:=by show i<U.length;rw[<-htl];simpa using hi
  obtain⟨p2,hx,hp2⟩:=rtv.get hi2
  have hx':atI (tv.map V.ref) (0+(i:Nat))=some (.ref p2):=by rw[Int.zero_add];exact q0i hx
  have hp3:H1 p2=_:=s1 _ _ hp2
  have htb:=s1 _ _ ht
  have ex:(qB C U).things[i]? =some (qB C U).things[i]:=List.getElem?_eq_getElem hi2
  have hUl2:(qB C U).things.length=U.length:=rfl
  have Fl:=F.ln
  walk_at "rd"
  refine ifd (fun h3=>?_) (fun h3=>?_)
  ·walk_at "rd"
   rw[Int.zero_add (i:Int),Int.toNat_natCast,q6S]
   cases hb:bit st.tk i with
   |true=>
    exact⟨_,R,rfl,s1,⟨ps,hps,rps⟩,by omega,F.take0 (by simp[canB,ex,hb])⟩
   |false=>
    refine iteT ?_
    walk_at "rd"
    intro p6 hp6
    generalize hG:upd _ p6 _=H2
    have s2:=qV hG hp6
    have h2:=qW hG
    have hps2:=s2 _ _ hps
    walk_at "rd"
    refine q2y hps2 (by rw[List.length_map,rps.1];omega) ?_
    have hc:canB (qB C U) st i .take=true:=by simp only[canB,ex,hb,Bool.not_false,Bool.and_true];exact decide_eq_true h3.symm
    refine⟨_,R++[q09 (qB C U) st i .take],rfl,(s1.trans s2).put hD,q0f (fun _ _=>SAt.put hps2) (rps.mono fun _ _=>SAt.mono s2.ts) ?_,by omega,F.take1 hc⟩
    show H2 p6=_
    rw[h2,Int.one_mul]
    rfl
  ·exact ⟨_,R,rfl,s1,⟨ps,hps,rps⟩,by omega,F.take0 (by simp only[canB,ex];rw[decide_eq_false fun z=>h3 z.symm];rfl)⟩
 ·rintro σ H1 ⟨v15,R,rfl,s1,hR1,_,F⟩
  have ntl:(List.map V.ref tv).length=U.length:=by rw[List.length_map,htl]
  rw[Int.toNat_natCast,ntl] at F
  have F:Fd (qB C U) st R C.ways.length (qB C U).things.length 0 0:=F
  obtain⟨pw,pt,pl,pv',h0,_,_,hlv,hwh⟩:=hC.ex
  obtain⟨lvs,hlv0,rlv⟩:=hlv
  obtain⟨wvs,hwh0,rwh⟩:=hwh
  have h01:=s1 _ _ h0
  have hlv1:=s1 _ _ hlv0
  walk_at "rd"
  refine q7W (lvs.map V.ref) (fun i σ H'=>∃v16 R,σ=[some (.ref c),some (.ref l),v2,some (.int st.rm),some (.int st.tk),some (.int st.op),some (.int st.b),some (.int st.wt),some (.ref D),v9,v10,v11,v12,v13,v14,v15,v16,none]/\Same Hb H'/\q0b SAt H' D R/\Fd (qB C U) st R C.ways.length (qB C U).things.length i 0) ⟨none,R,rfl,s1,hR1,F⟩ ?_ ?_ ?_
  ·rintro i σ H' ⟨_,_,rfl,s2,_⟩
   exact SqT.of (s2 _ _ hlv0)
  ·rintro i x σ H2 hx ⟨v16,R,rfl,s2,⟨ps,hps,rps⟩,F⟩
   have hi:i<(qB C U).levers.length:=by have:=(List.getElem?_eq_some_iff.mp hx).1;rw[List.length_map,rlv.1] at this;exact this
   obtain⟨p2,hx2,hp2⟩:=rlv.get hi
   rw[hx] at hx2
   cases hx2
   have hp3:H2 p2=_:=s2 _ _ hp2
   have ex:(qB C U).levers[i]? =some (qB C U).levers[i]:=List.getElem?_eq_getElem hi
   have hll:(qB C U).levers.length=C.levers.length:=rfl
   have htt:(qB C U).things.length=U.length:=rfl
   have Fl:=F.ln
   walk_at "rd"
   refine ifd (fun h3=>?_) (fun h3=>?_)
   ·walk_at "rd"
    intro p6 hp6
    generalize hG:upd _ p6 _=H3
    have s3:=qV hG hp6
    have h6:=qW hG
    have hps3:=s3 _ _ hps
    walk_at "rd"
    refine q2y hps3 (by rw[List.length_map,rps.1];omega) ?_
    refine⟨_,R++[q09 (qB C U) st i .pull],rfl,(s2.trans s3).put hD,q0f (fun _ _=>SAt.put hps3) (rps.mono fun _ _=>SAt.mono s3.ts) ?_,F.pull1 (by simp only[canB,ex];exact decide_eq_true h3.symm)⟩
    show H3 p6=_
    rw[h6]
    simp only[q09,ex]
    rfl
   ·exact ⟨_,R,rfl,s2,⟨ps,hps,rps⟩,F.pull0 (by simp only[canB,ex];exact decide_eq_false fun z=>h3 z.symm)⟩
  ·rintro σ H2 ⟨v16,R,rfl,s2,hR2,F⟩
   rw[List.length_map,rlv.1] at F
   have h02:=s2 _ _ h0
   have hwh2:=s2 _ _ hwh0
   walk_at "rd"
   refine q7W (wvs.map V.ref) (fun i σ H'=>∃v17 R,σ=[some (.ref c),some (.ref l),v2,some (.int st.rm),some (.int st.tk),some (.int st.op),some (.int st.b),some (.int st.wt),some (.ref D),v9,v10,v11,v12,v13,v14,v15,v16,v17]/\Same Hb H'/\q0b SAt H' D R/\Fd (qB C U) st R C.ways.length (qB C U).things.length C.levers.length i) ⟨none,R,rfl,s2,hR2,F⟩ ?_ ?_ ?_
   ·rintro i σ H' ⟨_,_,rfl,s3,_⟩
    exact SqT.of (s3 _ _ hwh0)
   ·rintro i x σ H3 hx ⟨v17,R,rfl,s3,⟨ps,hps,rps⟩,F⟩
    have hi:i<(qB C U).wheels.length:=by have:=(List.getElem?_eq_some_iff.mp hx).1;rw[List.length_map,rwh.1] at this;exact this
    obtain⟨p2,hx2,hp2⟩:=rwh.get hi
    rw[hx] at hx2
    cases hx2
    have hp3:H3 p2=_:=s3 _ _ hp2
    have ex:(qB C U).wheels[i]? =some (qB C U).wheels[i]:=List.getElem?_eq_getElem hi
    have hll:(qB C U).wheels.length=C.wheels.length:=rfl
    have htt:(qB C U).things.length=U.length:=rfl
    have Fl:=F.ln
    walk_at "rd"
    refine ifd (fun h3=>?_) (fun h3=>?_)
    ·walk_at "rd"
     intro p6 hp6
     generalize hG:upd _ p6 _=H4
     have s4:=qV hG hp6
     have h6:=qW hG
     have hps4:=s4 _ _ hps
     walk_at "rd"
     refine q2y hps4 (by rw[List.length_map,rps.1];omega) ?_
     have ed:q09 (qB C U) st i .turn={st with wt:=(qB C U).wheels[i].2}:=by simp only[q09,ex]
     refine⟨_,R++[q09 (qB C U) st i .turn],rfl,(s3.trans s4).put hD,q0f (fun _ _=>SAt.put hps4) (rps.mono fun _ _=>SAt.mono s4.ts) ?_,F.turn1 ?_⟩
     ·show H4 p6=_
      rw[h6,ed]
      rfl
     ·by_cases e:st.wt=(qB C U).wheels[i].2
      ·exact .inr (by rw[ed,<-e])
      ·exact .inl (by simp only[canB,ex];rw[decide_eq_true (show st.rm=(qB C U).wheels[i].1 from h3.symm),decide_eq_false e];rfl)
    ·exact ⟨_,R,rfl,s3,⟨ps,hps,rps⟩,F.turn0 (by simp only[canB,ex];rw[decide_eq_false fun z=>h3 z.symm];rfl)⟩
   ·rintro σ H3 ⟨v17,R,rfl,s3,hR3,F⟩
    rw[List.length_map,rwh.1] at F
    have F:Fd (qB C U) st R (qB C U).ways.length (qB C U).things.length (qB C U).levers.length (qB C U).wheels.length:=F
    have Fl:=F.ln
    have htt:(qB C U).things.length=U.length:=rfl
    have hww:(qB C U).ways.length=C.ways.length:=rfl
    have hll:(qB C U).levers.length=C.levers.length:=rfl
    have hvv:(qB C U).wheels.length=C.wheels.length:=rfl
    obtain⟨n1,n2⟩:=F.nx hl
    walk_at "rd"
    exact k D R H3 s3 hD hR3 (by omega) n1 n2
end
theorem seq5 {A1 A2 A3 A4 A5 B:TS}{D:Ends}{σ:St}{H:Hp}(M:St->Hp->Prop)(h2:∀σ H,M σ H->B D σ H)(h1:∀B:TS,(∀σ H,M σ H->B D σ H)->tSeq A1 (tSeq A2 (tSeq A3 (tSeq A4 (tSeq A5 B)))) D σ H):tSeq A1 (tSeq A2 (tSeq A3 (tSeq A4 (tSeq A5 B)))) D σ H:=h1 B h2
theorem can_go {C:Cl}{s:Sd}{i:Nat}{x:Way}(h:C.ways[i]? =some x):canB C s i .go=(q0G x s.rm&&q3g x.g (hold C s.tk s.op) (bit s.op i) s.b s.wt):=by simp only[canB,h]
theorem q8o {C:Cl}{s:Sd}{i:Nat}{x:Way}{k:Int}(h:C.ways[i]? =some x)(hg:x.g= .door k):canB C s i .unlock=((q0G x s.rm&& !bit s.op i)&&decide (0<hold C s.tk s.op k)):=by simp only[canB,h,hg,Gt.dk]
theorem q5P {C:Cl}{s:Sd}{i:Nat}{x:Way}(h:C.ways[i]? =some x)(hg:∀k,x.g≠ .door k):canB C s i .unlock=false:=by
 simp only[canB,h]
 cases e:x.g<;>first|rfl|exact absurd e (hg _)
theorem if_or {p:Prop}[Decidable p]{A B R:Prop}(hA:A)(h:A->¬p->R):if decide p=true then(if true=true then A else B) else R:=ifd (fun _=>hA) (h hA)
theorem q7F {α:Type}{At:Hp->Addr->α->Prop}{H H':Hp}{l:Addr}{xs:List α}(m:∀p x,At H p x->At H' p x)(s:Same H H')(h:q0b At H l xs):q0b At H' l xs:=let ⟨ps,a,b⟩:=h;⟨ps,s _ _ a,b.mono m⟩
section
variable {P:Program}{w:World}{K:W.Frag}{mg:Str->Option Value}{base:Heap}{cs:Cs}
local macro_rules| `(tactic| walk_at "wk")=> `(tactic| repeat (first|walk_at "rd1" |(refine ifd (fun h=>absurd h (by decide)) (fun _=>?_))|(refine ifd (fun _=>?_) (fun h=>absurd (by decide) h))))
theorem ok_on (T:Txt mg cs)(L:Laid K mg "_law_ways_on" q03 ["_law_one","_law_things","_law_place"])(C__law_has:Cal P w K mg base 1 "_law_has" ["_law_one","_law_things","_law_place","_law_kind"] spHas):Cal P w K mg base 2 "_law_ways_on" ["_law_one","_law_things","_law_place"] spOn:=by
 refine L.cal (k:=1) qm (fun vs H Q E h=>?_) (fun f cdv A outer s H vs Q E hr h=>?_)
 ·obtain ⟨c,l,q,C,U,st,rfl,_⟩:=h
  rfl
 ·obtain ⟨c,l,q,C,U,st,rfl,hC,ok,hU,hUl,hq,sok,hl,k⟩:=h
  have big:=qG
  obtain⟨tb,hb,kb⟩:=on_b (P:=P) (w:=w) (base:=base) (outer:=outer) (H0:=H) (E:=E) T hr
  obtain⟨pw,pt,pl,pv',h0,h1,_⟩:=hC.ex
  obtain⟨wv,hw,hwl,hwg⟩:=h1.get
  have okw:=ok.wl
  have hwl2:(wv.length:Int)<=20:=by omega
  have hq':H q=some (.tup [.int st.rm,.int st.tk,.int st.op,.int st.b,.int st.wt]):=hq
  refine⟨_,(qe (q9M (pv 2) (q2b (n:=5) K rfl (qP (qu (i:=3) qm.nd rfl (Or.inl rfl)) (qP (qu (i:=4) qm.nd rfl (Or.inl rfl)) (qP (qu (i:=5) qm.nd rfl (Or.inl rfl)) (qP (qu (i:=6) qm.nd rfl (Or.inl rfl)) (qP (qu (i:=7) qm.nd rfl (Or.inl rfl)) q2a)))))))
   (qe (qA (i:=8) qm.nd rfl (Or.inl rfl) (q0u qd))
   (qe (q0j PassesOwn.never rfl (qL rfl T.n_range (qc (qr (lenK K) rfl T.n_len qN (qc (qq (qj K) (pv 0) qi (fun _ _=>rfl)) qd)) qd)) (qu (i:=9) qm.nd rfl (Or.inl rfl)) (qe (q9M (qq (qj K) (qq (qj K) (pv 0) qi (fun _ _=>rfl)) (pv 9) (fun _ _=>rfl)) (q2b (n:=4) K rfl (qP (qu (i:=10) qm.nd rfl (Or.inl rfl)) (qP (qu (i:=11) qm.nd rfl (Or.inl rfl)) (qP (qu (i:=12) qm.nd rfl (Or.inl rfl)) (qP (qu (i:=13) qm.nd rfl (Or.inl rfl)) q2a))))))
   (qh (q04 (PW.pt (q5C (qC q07 (pv 3) (pv 10) (qy _)) (q4Z (PW.pt (q50 (q0q (pv 13)) (q3b (qC q07 (pv 3) (pv 11) (qy _)))))))) (qe (qA (i:=14) qm.nd rfl (Or.inl rfl) (q8W (qX q07 (qq (qj K) (pv 12) qi (fun _ _=>rfl)) qQ (qy _)) (q2I (q6a (qX q07 (qq (qj K) (pv 12) qi (fun _ _=>rfl)) qQ (qy _)) (q2I (qX q07 (ql q3H (ql q3F (pv 5) (pv 9)) qi) qi (qy _)))))))
   (qe (q04 (qC q07 (qq (qj K) (pv 12) qi (fun _ _=>rfl)) qQ (qy _)) (qh (qA (i:=14) qm.nd rfl (Or.inl rfl) (qX q2Q (qx C__law_has hr (by decide) rfl (qc (pv 0) (qc (pv 1) (qc (pv 2) (qc (qq (qj K) (pv 12) qi (fun _ _=>rfl)) qd))))) qi (qy _)))) qD)
   (qe (q04 (qC q07 (qq (qj K) (pv 12) qi (fun _ _=>rfl)) qQ (qy _)) (qh (qA (i:=14) qm.nd rfl (Or.inl rfl) (qX q07 (ql q3H (ql q3F (pv 6) (qq (qj K) (pv 12) qi (fun _ _=>rfl))) qi) qi (qy _)))) qD)
   (qe (q04 (qC q07 (qq (qj K) (pv 12) qi (fun _ _=>rfl)) qQ (qy _)) (qh (qA (i:=14) qm.nd rfl (Or.inl rfl) (qX qaC (pv 7) (qq (qj K) (pv 12) qi (fun _ _=>rfl)) (qy _)))) qD)
   (qe (q04 (qC q07 (qq (qj K) (pv 12) qi (fun _ _=>rfl)) qQ (qy _)) (qh (qA (i:=14) qm.nd rfl (Or.inl rfl) (q8W (qX q90 (pv 7) (qq (qj K) (pv 12) qi (fun _ _=>rfl)) (qy _)) (q2I (qX q2Q (qx C__law_has hr (by decide) rfl (qc (pv 0) (qc (pv 1) (qc (pv 2) (qc (qq (qj K) (pv 12) qi (fun _ _=>rfl)) qd))))) qi (qy _)))))) qD)
   (qh (q04 (q0q (pv 14)) (qh (qK (q2q PySem.F.plainAttrs_list PySem.F.slot_list_append PySem.F.type_list_append q02 (pv 8) (qc (qJ (qc (ql q1N (ql q0d (pv 10) (pv 11)) (pv 3)) (qc (pv 4) (qc (pv 5) (qc (pv 6) (qc (pv 7) qd)))))) qd)))) (qh (q04 (PW.pt (q50 (qC q07 (qq (qj K) (pv 12) qi (fun _ _=>rfl)) qQ (qy _)) (q3b (qC q2Q (qx C__law_has hr (by decide) rfl (qc (pv 0) (qc (pv 1) (qc (pv 2) (qc (qq (qj K) (pv 12) qi (fun _ _=>rfl)) qd))))) qi (qy _))))) (qh (qK (q2q PySem.F.plainAttrs_list PySem.F.slot_list_append PySem.F.type_list_append q02 (pv 8) (qc (qJ (qc (pv 3) (qc (pv 4) (qc (ql q0d (pv 5) (ql q6b qi (pv 9))) (qc (pv 6) (qc (pv 7) qd)))))) qd)))) qD))))))))) qD))))
   hb))),?_⟩
  rw[show L2.start NO [V.ref c,V.ref l,V.ref q]=[some (V.ref c),some (V.ref l),some (V.ref q),none,none,none,none,none,none,none,none,none,none,none,none,none,none,none] from rfl]
  walk_at "rd"
  intro D hD
  have s1:=Same.upd (o:= .lst []) hD
  have h1:=qg (H:=H) (a:=D) (o:= .lst [])
  generalize upd H D (.lst [])=H1 at s1 h1 ⊢
  have h01:=s1 _ _ h0
  have hw1:=s1 _ _ hw
  walk_at "rd"
  refine q16 (fun i σ H'=>∃v9 v10 v11 v12 v13 v14 R,σ=[some (.ref c),some (.ref l),some (.ref q),some (.int st.rm),some (.int st.tk),some (.int st.op),some (.int st.b),some (.int st.wt),some (.ref D),v9,v10,v11,v12,v13,v14,none,none,none]/\Same H H'/\q0b SAt H' D R/\i<=20/\Fd (qB C U) st R i 0 0 0) ⟨none,none,none,none,none,none,[],rfl,s1,⟨[],h1,Rows.nil⟩,by omega,Fd.nil⟩ ?_ ?_
  ·rintro i σ H2 hi ⟨v9,v10,v11,v12,v13,v14,R,rfl,s2,⟨ps,hps,rps⟩,hi20,F⟩
   have hi2:i<C.ways.length:=by rw[<-hwl];simpa using hi
   obtain⟨p2,hx,g2,hp2,hg2⟩:=hwg i hi2
   have ex:(qB C U).ways[i]? =some C.ways[i]:=List.getElem?_eq_getElem hi2
   have okx:=ok.w _ (List.getElem_mem hi2)
   have eg1:=can_go (s:=st) ex
   generalize C.ways[i]=x at hp2 hg2 ex okx eg1
   have hp3:=s2 _ _ hp2
   have hg3:=s2 _ _ hg2
   have h02:=s2 _ _ h0
   have hw2:=s2 _ _ hw
   have Fl:=F.ln
   walk_at "rd"
   cases he:q0G x st.rm with
   |false=>
    have c1:canB (qB C U) st i .go=false:=by rw[eg1,he];rfl
    have c2:canB (qB C U) st i .unlock=false:=by
     by_cases hd:∃kd,x.g= .door kd
     ·obtain ⟨kd,hd⟩:=hd
      rw[q8o ex hd,he]
      rfl
     ·exact q5P ex fun kd z=>hd ⟨kd,z⟩
    unfold q0G at he
    rw[Bool.or_eq_false_iff,Bool.and_eq_false_iff] at he
    refine ifd (fun z=>absurd z (of_decide_eq_false he.1)) (fun _=>?_)
    walk_at "rd"
    refine ite2 (fun hbk=>?_) (fun hbk=>?_)
    ·walk_at "rd"
     refine ifd (fun z=>?_) (fun _=>?_)
     ·rcases he.2 with y|y
      ·exact absurd z (of_decide_eq_false y)
      ·rw [hbk] at y;cases y
     ·exact ⟨_,_,_,_,_,_,R,rfl,s2,⟨ps,hps,rps⟩,by omega,F.way0 c1 c2⟩
    ·exact ⟨_,_,_,_,_,_,R,rfl,s2,⟨ps,hps,rps⟩,by omega,F.way0 c1 c2⟩
   |true=>
    have he':=he
    unfold q0G at he'
    refine if_or ?_ (fun th np=>?_)
    rotate_left
    ·rw [decide_eq_false np,Bool.false_or,Bool.and_eq_true] at he'
     walk_at "rd"
     refine ite2 (fun _=>?_) (fun z=>absurd he'.2 z)
     walk_at "rd"
     exact ifd (fun _=>th) (fun z=>absurd (of_decide_eq_true he'.1) z)
    refine seq5 (fun σ H'=>σ=[some (.ref c),some (.ref l),some (.ref q),some (.int st.rm),some (.int st.tk),some (.int st.op),some (.int st.b),some (.int st.wt),some (.ref D),some (.int (0+(i:Nat))),some (.int x.a),some (.int x.b),some (.ref g2),some (.bl x.back),some (.bl (q3g x.g (hold (qB C U) st.tk st.op) (bit st.op i) st.b st.wt)),none,none,none]/\Same H2 H') ?_ (fun B fin=>?_)
    ·rintro σ H3 ⟨rfl,s3⟩
     have s03:=s2.trans s3
     have hg4:=s3 _ _ hg3
     have hps3:=s3 _ _ hps
     cases hlt:q3g x.g (hold (qB C U) st.tk st.op) (bit st.op i) st.b st.wt with
     |true=>
      walk_at "rd"
      intro p6 hp6
      generalize hG:upd _ p6 _=H4
      have s4:=qV hG hp6
      have h6:=qW hG
      have hps4:=s4 _ _ hps3
      walk_at "rd"
      refine q2y hps4 (by rw[List.length_map,rps.1];omega) ?_
      refine⟨_,_,_,_,_,_,R++[q09 (qB C U) st i .go],rfl,(s03.trans s4).put hD,q0f (fun _ _=>SAt.put hps4) (rps.mono fun _ _=>SAt.mono (s3.trans s4).ts) ?_,by omega,F.way1 (by rw[eg1,he,hlt];rfl) (fun _=>rfl) fun z=>?_⟩
      ·show H4 p6=_
       rw[h6]
       simp only[q09,ex]
       rw[go_end he]
       rfl
      ·by_cases hd:∃kd,x.g= .door kd
       ·obtain ⟨kd,hd⟩:=hd
        rw[hd] at hlt
        have hlt:bit st.op i=true:=hlt
        rw[q8o ex hd,he,hlt] at z
        cases z
       ·rw [q5P ex fun kd z=>hd ⟨kd,z⟩] at z
        cases z
     |false=>
      have c1:canB (qB C U) st i .go=false:=by rw[eg1,he,hlt];rfl
      by_cases hd:∃kd,x.g= .door kd
      ·obtain ⟨kd,hd⟩:=hd
       rw[hd] at hg4 hlt
       have hlt:bit st.op i=false:=hlt
       have hg5:H3 g2=some (.tup [.str "door",.int kd]):=hg4
       have eu:=q8o (s:=st) ex hd
       rw[he,hlt] at eu
       walk_at "wk"
       refine⟨c,l,q,C,U,st,kd,rfl,hC.mono s03.ts,ok,q7F (fun _ _=>qI.mono s03.ts) s03 hU,hUl,SAt.mono s03.ts hq,fun H4 s4=>?_⟩
       have hps4:=s4 _ _ hps3
       walk_at "rd"
       refine ifd (fun hp=>?_) (fun hp=>?_)
       ·walk_at "rd"
        intro p6 hp6
        generalize hG:upd _ p6 _=H5
        have s5:=qV hG hp6
        have h6:=qW hG
        have s35:=s4.trans s5
        have hps5:=s35 _ _ hps3
        walk_at "rd"
        refine q2y hps5 (by rw[List.length_map,rps.1];omega) ?_
        refine⟨_,_,_,_,_,_,R++[q09 (qB C U) st i .unlock],rfl,(s03.trans s35).put hD,q0f (fun _ _=>SAt.put hps5) (rps.mono fun _ _=>SAt.mono (s3.trans s35).ts) ?_,by omega,F.way1 (by rw[eu,decide_eq_true hp];rfl) (fun z=>by rw[c1] at z;cases z) fun _=>rfl⟩
        show H5 p6=_
        rw[h6,Int.zero_add,Int.toNat_natCast,Int.one_mul]
        rfl
       ·exact ⟨_,_,_,_,_,_,R,rfl,s03.trans s4,⟨ps,s4 _ _ hps3,rps.mono fun _ _=>SAt.mono (s3.trans s4).ts⟩,by omega,F.way0 c1 (by rw[eu,decide_eq_false hp];rfl)⟩
      ·have c2:=q5P (s:=st) ex fun kd z=>hd ⟨kd,z⟩
       have go:∃v9 v10 v11 v12 v13 v14 R',[some (V.ref c),some (.ref l),some (.ref q),some (.int st.rm),some (.int st.tk),some (.int st.op),some (.int st.b),some (.int st.wt),some (.ref D),some (.int (0+(i:Nat))),some (.int x.a),some (.int x.b),some (.ref g2),some (.bl x.back),some (.bl false),none,none,none]=[some (.ref c),some (.ref l),some (.ref q),some (.int st.rm),some (.int st.tk),some (.int st.op),some (.int st.b),some (.int st.wt),some (.ref D),v9,v10,v11,v12,v13,v14,none,none,none]/\Same H H3/\q0b SAt H3 D R'/\i+1<=20/\Fd (qB C U) st R' (i+1) 0 0 0:=⟨_,_,_,_,_,_,R,rfl,s03,⟨ps,hps3,rps.mono fun _ _=>SAt.mono s3.ts⟩,by omega,F.way0 c1 c2⟩
       cases eg:x.g with
       |door kd=>exact absurd ⟨kd,eg⟩ hd
       |plain=>
        rw[eg] at hg4
        have hg5:H3 g2=some (.tup [.str "plain"]):=hg4
        walk_at "wk"
        exact go
       |need kd=>
        rw[eg] at hg4
        have hg5:H3 g2=some (.tup [.str "need",.int kd]):=hg4
        walk_at "wk"
        exact go
       |bar kd=>
        rw[eg] at hg4
        have hg5:H3 g2=some (.tup [.str "bar",.int kd]):=hg4
        walk_at "wk"
        exact go
       |wade h kd=>
        rw[eg] at hg4
        have hg5:H3 g2=some (.tup [.str "wade",.int h,.int kd]):=hg4
        walk_at "wk"
        exact go
       |float h=>
        rw[eg] at hg4
        have hg5:H3 g2=some (.tup [.str "float",.int h]):=hg4
        walk_at "wk"
        exact go
    ·have gok:=okx.2.2.2
     have hU2:=q7F (fun _ _=>qI.mono s2.ts) s2 hU
     have hq2:=SAt.mono s2.ts hq
     cases eg:x.g with
     |plain=>
      rw[eg] at hg3 fin
      have hg5:H2 g2=some (.tup [.str "plain"]):=hg3
      walk_at "wk"
      exact fin _ _ ⟨rfl,Same.refl _⟩
     |door kd=>
      rw[eg] at hg3 fin
      have hg5:H2 g2=some (.tup [.str "door",.int kd]):=hg3
      walk_at "wk"
      rw[Int.zero_add (i:Int),Int.toNat_natCast,q1c]
      exact fin _ _ ⟨by rw[Int.zero_add];rfl,Same.refl _⟩
     |need kd=>
      rw[eg] at hg3 fin
      have hg5:H2 g2=some (.tup [.str "need",.int kd]):=hg3
      walk_at "wk"
      refine⟨c,l,q,C,U,st,kd,rfl,hC.mono s2.ts,ok,hU2,hUl,hq2,fun H4 s4=>?_⟩
      have hg6:=s4 _ _ hg5
      walk_at "wk"
      exact fin _ _ ⟨rfl,s4⟩
     |bar kd=>
      rw[eg] at hg3 fin gok
      have hg5:H2 g2=some (.tup [.str "bar",.int kd]):=hg3
      have gok:0<=kd/\kd<8:=gok
      walk_at "wk"
      rw[q1c]
      exact fin _ _ ⟨rfl,Same.refl _⟩
     |float h=>
      rw[eg] at hg3 fin
      have hg5:H2 g2=some (.tup [.str "float",.int h]):=hg3
      walk_at "wk"
      exact fin _ _ ⟨rfl,Same.refl _⟩
     |wade h kd=>
      rw[eg] at hg3 fin
      have hg5:H2 g2=some (.tup [.str "wade",.int h,.int kd]):=hg3
      walk_at "wk"
      refine ifd (fun hw=>?_) (fun hw=>?_)
      ·walk_at "rd"
       exact fin _ _ ⟨by rw[show q3g (.wade h kd) (hold (qB C U) st.tk st.op) (bit st.op i) st.b st.wt=true by simp[q3g,hw]];rfl,Same.refl _⟩
      ·walk_at "rd"
       refine⟨c,l,q,C,U,st,kd,rfl,hC.mono s2.ts,ok,hU2,hUl,hq2,fun H4 s4=>?_⟩
       walk_at "rd"
       exact fin _ _ ⟨by rw[show q3g (.wade h kd) (hold (qB C U) st.tk st.op) (bit st.op i) st.b st.wt=decide (0<hold (qB C U) st.tk st.op kd) by simp[q3g,hw]];rfl,s4⟩
  ·rintro σ H2 ⟨v9,v10,v11,v12,v13,v14,R,rfl,s2,hR,_,F⟩
   rw[Int.toNat_natCast,hwl] at F
   exact kb _ _ _ _ _ _ _ _ _ _ _ c l D C U st R H H2 s2 hD hC ok hU hUl sok hl hR F k
end
def spLds:Sp:=fun vs H Q _=>∃(c l:Addr) (C:Cl) (U:List (Int×Int)),vs=[.ref c,.ref l]/\ClAt H c C/\ClOk C/\q0b qI H l U/\ClOk (qB C U)/\Small (qB C U)/\∀(b:Bool) (H':Hp),Same H H'->(b=true↔Lds (qB C U))->Q (.bl b) H'
section
variable {P:Program}{w:World}{K:W.Frag}{mg:Str->Option Value}{base:Heap}{cs:Cs}
theorem ok_lds (T:Txt mg cs)(L:Laid K mg "_law_leads" q0V ["_law_one","_law_things"])(C__law_ways_on:Cal P w K mg base 2 "_law_ways_on" ["_law_one","_law_things","_law_place"] spOn):Cal P w K mg base 3 "_law_leads" ["_law_one","_law_things"] spLds:=by
 refine L.cal (k:=2) q0e (fun vs H Q E h=>?_) (fun f cdv A outer s H vs Q E hr h=>?_)
 ·obtain ⟨c,l,C,U,rfl,_⟩:=h
  rfl
 ·obtain ⟨c,l,C,U,rfl,hC,ok0,hU,ok,sm,k⟩:=h
  have big:=qG
  have sok:(st0 (qB C U)).ok (qB C U):=q60 ok
  obtain⟨pw,pt,pl,pv',h0,_⟩:=hC.ex
  have hUl:U.length<=8:=ok.tl
  refine⟨_,(qe (qA (i:=2) q0e.nd rfl (Or.inl rfl) (q0u (qc (qJ (qc (qq (qj K) (pv 0) qi (fun _ _=>rfl)) (qc qi (qc qi (qc (qq (qj K) (pv 0) qi (fun _ _=>rfl)) (qc (qq (qj K) (pv 0) qi (fun _ _=>rfl)) qd)))))) qd)))
   (qe (qA (i:=3) q0e.nd rfl (Or.inl rfl) (q69 (q3m hr) (qq (qY K) (pv 2) qi (fun _ _=>rfl)) q3e))
   (qe (qA (i:=4) q0e.nd rfl (Or.inl rfl) qi)
   (qe (q41 PassesOwn.never (qC qaB (pv 4) (qr (lenK K) rfl T.n_len qN (qc (pv 2) qd)) (qy _)) (qe (q04 (qC q07 (qq (qj K) (qq (qY K) (pv 2) (pv 4) (fun _ _=>rfl)) qi (fun _ _=>rfl)) (qq (qj K) (pv 0) qi (fun _ _=>rfl)) (qy _)) (qh (qz q3e)) qD)
   (qe (q0j PassesOwn.never rfl (q0A K (qx C__law_ways_on hr (by decide) rfl (qc (pv 0) (qc (pv 1) (qc (qq (qY K) (pv 2) (pv 4) (fun _ _=>rfl)) qd))))) (qu (i:=5) q0e.nd rfl (Or.inl rfl)) (qh (q04 (q3E (q54 (q3m hr) (pv 5) (pv 3))) (qe (q5D (q3m hr) (pv 3) (pv 5) q3e rfl)
   (qh (qK (q2q PySem.F.plainAttrs_list PySem.F.slot_list_append PySem.F.type_list_append q02 (pv 2) (qc (pv 5) qd))))) qD)))
   (qh (qA (i:=4) q0e.nd rfl (Or.inl rfl) (ql q0d (pv 4) qi))))))
   (qh (qz q3e)))))),?_⟩
  walk_at "rd"
  intro q hq
  generalize hG1:upd _ q _=H1
  have s1:=qV hG1 hq
  have hq1:SAt H1 q (st0 (qB C U)):=qW hG1
  walk_at "rd"
  intro R hR1
  have hR0:H R=none:=s1.free hR1
  generalize hG2:upd _ R _=H2
  have s2:=qV hG2 hR1
  have hR2:=qW hG2
  have hq2:SAt H2 q (st0 (qB C U)):=s2 _ _ hq1
  walk_at "rd"
  intro D hD
  have hD0:H D=none:=(s1.trans s2).free hD
  have s3:=Same.upd (o:= .dT []) hD
  have h3:=qg (H:=H2) (a:=D) (o:= .dT [])
  generalize upd H2 D (.dT [])=H3 at s3 h3 ⊢
  have hR3:=s3 _ _ hR2
  have hq3:SAt H3 q (st0 (qB C U)):=s3 _ _ hq2
  walk_at "rd"
  refine⟨q,(st0 (qB C U)).key,rfl,h3,hq3,?_⟩
  have neD:R≠D:=q3y hR3 h3 (by intro z;cases z)
  have s4:Same H (upd H3 D (.dT [((st0 (qB C U)).key,V.bl true)])):=((s1.trans s2).trans s3).put hD0
  have ts4:=q8c (o:= .dT [((st0 (qB C U)).key,V.bl true)]) h3
  have d4:DAtS (upd H3 D (.dT [((st0 (qB C U)).key,V.bl true)])) D [(st0 (qB C U),V.bl true)]:=qg
  have R4:upd H3 D (.dT [((st0 (qB C U)).key,V.bl true)]) R=some (.lst [.ref q]):=by rw[qp neD];exact hR3
  generalize upd H3 D (.dT [((st0 (qB C U)).key,V.bl true)])=H4 at s4 ts4 d4 R4 ⊢
  have hq4:=SAt.mono ts4 hq3
  generalize hst:st0 (qB C U)=st at sok hq4 d4
  walk_at "rd"
  refine q7i (fun m σ H'=>∃(row:List Sd) (dl:Dk) (pl:Nat) (v5:Option V),σ=[some (.ref c),some (.ref l),some (.ref R),some (.ref D),some (.int pl),v5]/\Same H H'/\q0b SAt H' R row/\DAtS H' D dl/\dl.map (·.1)=row/\Srch (NxR (qB C U)) st row pl/\pl<=row.length/\(∀x∈row.take pl,x.rm≠C.lst)/\m=2000 - pl) (2000 - 0)
   ⟨[st],[(st,V.bl true)],0,none,rfl,s4,⟨[q],R4,Rows.nil.snoc hq4⟩,d4,rfl,Srch.start,by simp,fun x hx=>(nomatch hx),rfl⟩ ?_
  rintro m σ H5 ⟨row,dl,pl,v5,rfl,s5,⟨qs,hqs,rqs⟩,hd5,hk,sr,hpl,nl,hm⟩
  have hql:qs.length=row.length:=rqs.1
  have hrl:row.length<=288:=few ok sm sok sr.nd sr.rch
  have h05:=s5 _ _ h0
  walk_at "rd"
  rw[List.length_map,hql]
  refine ifd (fun hlt=>?_) (fun hge=>?_)
  ·have hlt':pl<row.length:=by omega
   obtain⟨p,ep,hp5⟩:=rqs.get hlt'
   have ep':atI (qs.map V.ref) (pl:Int)=some (.ref p):=q0i ep
   generalize hx:row[pl]=x at hp5
   have hrx:row[pl]? =some x:=by rw[List.getElem?_eq_getElem hlt',hx]
   have hxr:x∈row:=List.mem_of_getElem? hrx
   have hp5:SAt H5 p x:=hp5
   have hp5':H5 p=some (.tup [.int x.rm,.int x.tk,.int x.op,.int x.b,.int x.wt]):=hp5
   have xok:x.ok (qB C U):=q8f ok sok (sr.rch x hxr)
   refine⟨fun σ' H'=>∃(row:List Sd) (dl:Dk) (v5:Option V),σ'=[some (.ref c),some (.ref l),some (.ref R),some (.ref D),some (.int ((pl:Int)+1)),v5]/\Same H H'/\q0b SAt H' R row/\DAtS H' D dl/\dl.map (·.1)=row/\Srch (NxR (qB C U)) st row (pl+1)/\pl+1<=row.length/\(∀x∈row.take (pl+1),x.rm≠C.lst),?_,?_⟩
   ·rintro σ' H' ⟨row,dl,v5,rfl,z1,z2,z3,z4,z5,z6,z7⟩
    exact⟨2000 - (pl+1),by omega,row,dl,pl+1,v5,rfl,z1,z2,z3,z4,z5,z6,z7,rfl⟩
   ·walk_at "rd"
    refine ifd (fun el=>?_) (fun el=>?_)
    ·walk_at "rd"
     exact k true H5 s5 ⟨fun _=>⟨x,by rw[hst];exact sr.rch x hxr,el⟩,fun _=>rfl⟩
    ·walk_at "rd"
     refine⟨c,l,p,C,U,x,rfl,hC.mono s5.ts,ok0,q7F (fun _ _=>qI.mono s5.ts) s5 hU,hUl,hp5,xok,el,fun lp ys H6 s6 hl0 m6 yl n1 n2=>?_⟩
     obtain⟨ps,hps,rps⟩:=m6
     have s06:=s5.trans s6
     have hd6:DAtS H6 D dl:=s6 _ _ hd5
     have neR:lp≠R:=fun z=>by subst z;rw[hl0] at hqs;cases hqs
     have neD':lp≠D:=fun z=>by rw[z,show H5 D=some _ from hd5] at hl0;cases hl0
     walk_at "rd"
     refine q2c (ps.map V.ref) (fun i σ' H'=>∃(row:List Sd) (dl:Dk) (v5:Option V),σ'=[some (.ref c),some (.ref l),some (.ref R),some (.ref D),some (.int (pl:Int)),v5]/\Same H H'/\H' lp=some (.lst (ps.map V.ref))/\Rows SAt H' ps ys/\q0b SAt H' R row/\DAtS H' D dl/\dl.map (·.1)=row/\(∀z∈row.take (pl+1),z.rm≠C.lst)/\Mid (NxR (qB C U)) st x row pl (ys.take i))
      ⟨row,dl,v5,rfl,s06,hps,rps,⟨qs,s6 _ _ hqs,rqs.mono fun _ _=>SAt.mono s6.ts⟩,hd6,hk,fun z hz=>?_,sr.mid hrx⟩ ?_ ?_ ?_
     ·rw [List.take_succ_eq_append_getElem hlt',hx] at hz
      rcases List.mem_append.mp hz with hz|hz
      ·exact nl z hz
      ·rw [List.mem_singleton.mp hz];exact el
     ·rintro i σ' H' ⟨_,_,_,rfl,_,e,_⟩
      exact SqL.of e
     ·rintro i z σ' H8 hz ⟨row,dl,v5,rfl,s8,l8,rps8,⟨qs,hqs,rqs⟩,hd8,hk,nl8,md⟩
      have hi:i<ys.length:=by have:=(List.getElem?_eq_some_iff.mp hz).1;rw[List.length_map,rps.1] at this;exact this
      obtain⟨p',ep',hp8⟩:=rps8.get hi
      rw[hz] at ep'
      cases ep'
      have hy:=n1 _ (List.getElem_mem hi)
      rw[List.take_succ_eq_append_getElem hi]
      generalize ys[i]=y at hp8 hy ⊢
      have hp8:SAt H8 p' y:=hp8
      have hrl:row.length<=288:=few ok sm sok md.nd md.rch
      have hll:List.length dl=row.length:=by rw[<-hk,List.length_map]
      have hpl2:pl<row.length:=(List.getElem?_eq_some_iff.mp md.at').1
      walk_at "rd"
      refine⟨D,_,rfl,qa0 (.inl hd8) hp8,?_⟩
      rw[q2D,hk]
      walk_at "rd"
      by_cases hin:y∈row
      ·rw [decide_eq_true hin]
       walk_at "rd"
       exact⟨row,dl,_,rfl,s8,l8,rps8,⟨qs,hqs,rqs⟩,hd8,hk,nl8,md.old hin⟩
      ·have hy:NxR (qB C U) x y:=hy.resolve_right fun e=>hin (by rw[e];exact List.mem_of_getElem? md.at')
       rw[decide_eq_false hin]
       have neRD:R≠D:=q3y hqs hd8 (by intro z;cases z)
       walk_at "rd"
       refine⟨D,_,rfl,q9Y hd8 hp8 (by omega) (by rw[hk];exact hin),?_⟩
       have ts10:=q8c (o:= .dT (dkv (dl++[(y,V.bl true)]))) hd8
       have s10:Same H (upd H8 D (.dT (dkv (dl++[(y,V.bl true)])))):=s8.put hD0
       have d10:DAtS (upd H8 D (.dT (dkv (dl++[(y,V.bl true)])))) D (dl++[(y,V.bl true)]):=qg
       have l10:upd H8 D (.dT (dkv (dl++[(y,V.bl true)]))) lp=some (.lst (ps.map V.ref)):=by rw[qp neD'];exact l8
       have R10:upd H8 D (.dT (dkv (dl++[(y,V.bl true)]))) R=some (.lst (qs.map V.ref)):=by rw[qp neRD];exact hqs
       generalize upd H8 D (.dT (dkv (dl++[(y,V.bl true)])))=H10 at ts10 s10 d10 l10 R10 ⊢
       walk_at "rd"
       refine q2y R10 (by rw[List.length_map,rqs.1];omega) ?_
       exact⟨row++[y],dl++[(y,V.bl true)],_,rfl,s10.put hR0,by rw[qp neR];exact l10,rps8.mono fun _ _ h=>SAt.mono (ts10.trans (q0N.lst R10)) h,q0f (fun _ _=>SAt.put R10) (rqs.mono fun _ _=>SAt.mono ts10) (SAt.mono ts10 hp8),DAtS.lput R10 d10,by rw[List.map_append,hk];rfl,by rw[List.take_append_of_le_length hpl2];exact nl8,md.new hin hy⟩
     ·rintro σ' H8 ⟨row,dl,v5,rfl,s8,l8,rps8,⟨qs,hqs,rqs⟩,hd8,hk,nl8,md⟩
      rw[List.length_map,rps.1,List.take_length] at md
      have hxr':x∈row:=List.mem_of_getElem? md.at'
      walk_at "rd"
      exact⟨row,dl,_,rfl,s8,⟨qs,hqs,rqs⟩,hd8,hk,(md.old hxr').next fun y hy=>(n2 y hy).elim (List.mem_append_left _) fun e=>by rw[e];simp,(List.getElem?_eq_some_iff.mp md.at').1,nl8⟩
  ·walk_at "rd"
   refine k false H5 s5 ⟨fun z=>(nomatch z),fun⟨x,hx,el⟩=>?_⟩
   rw[hst] at hx
   have hm:=(sr.end (by omega) x).mpr hx
   have ne:row.take pl=row:=List.take_of_length_le (by omega)
   rw[ne] at nl
   exact absurd el (nl x hm)
end
def q8F (K:W.Frag):Sp:=fun vs H Q _=>∃(a:Addr) (ns:List Int),vs=[.ref a]/\SqL K H a (ns.map V.int)/\ns.length<=63/\∀H',Q (.bl true) H'
theorem q1b (ks:List Int):(ks.map V.int).all q0Q=true:=by simp[q0Q]
theorem six_ix {j n:Nat}(h:j<n):seqIndex? (j:Int) n=some j:=by
 unfold seqIndex?
 simp[h]
 omega
theorem q8R (lf fd:List Int)(j:Nat)(h:j<lf.length):(fd++[lf[j]]++lf.eraseIdx j).Perm (fd++lf):=by
 rw[List.append_assoc]
 refine List.Perm.append_left _ ?_
 have e:lf=lf.take j++lf[j]::lf.drop (j+1):=by rw[List.getElem_cons_drop,List.take_append_drop]
 rw[List.eraseIdx_eq_take_drop_succ]
 have pm:(lf.take j++lf[j]::lf.drop (j+1)).Perm (lf[j]::(lf.take j++lf.drop (j+1))):=List.perm_middle
 show(lf[j]::(lf.take j++lf.drop (j+1))).Perm lf
 exact pm.symm.trans (.of_eq e.symm)
theorem q80 (lf:List Int)(j:Nat):(lf.map V.int).eraseIdx j=(lf.eraseIdx j).map V.int:=by
 rw[List.eraseIdx_eq_take_drop_succ,List.eraseIdx_eq_take_drop_succ,List.map_append,List.map_take,List.map_drop]
abbrev NL:List Str:=["_law_script","_law_one","_law_cell_here","_law_left","_law_places","_law_k","_law_kinds","_law_due","_law_number","_law_dealing","_law_things","_law_handed","_law_found"]
noncomputable abbrev dueN (C:Cl)(ns ks:List Int)(n:Nat):List Int:=((List.range n).filter (gdB C ns ks)).map fun i:Nat=>(i:Int)
theorem q83 (C:Cl)(ns ks:List Int)(n:Nat):((List.range n).filter (gdB C ns ks)).map (fun i:Nat=>V.int i)=(dueN C ns ks n).map V.int:=by rw[List.map_map];rfl
section
variable {P:Program}{w:World}{K:W.Frag}{mg:Str->Option Value}{base:Heap}{cs:Cs}
theorem law_c {f:Addr}{cdv:Value}{A:Around}{outer:List Env}{s:Shared}{H0:Hp}{E:XK}(T:Txt mg cs)(C_good:Cal P w K mg base 11 "good" ["cellar","kinds","places"] spGd)
  (hr:Room 12 (A.deeper (PyProof.Rows.envOfC "law" (qf q2O) s.heap.objs.size f cdv))):
  ∃t,PSs (cxOf CX0 P w K mg base NL "law" (qf q2O) f cdv A outer s H0 E).nox ((qU q2O).drop 8) t/\∀(nx bk ct:St->Hp->Prop) (rt:VK) (v0 v2 v3 v5 v8 v9 v10:Option V) (c p q u:Addr) (C:Cl) (ns ks:List Int) (H:Hp),ClAt H c C->Ask C ns ks->H p=some (.lst (ns.map V.int))->H q=some (.lst (ks.map V.int))->H u=some (.lst ((dueN C ns ks (many ks ns.length).toNat).map V.int))->(∀H',rt (.bl true) H')->
   t ⟨nx,rt,bk,ct⟩ [v0,some (.ref c),v2,v3,some (.ref p),v5,some (.ref q),some (.ref u),v8,v9,v10,none,none] H:=by
 have hu0:=Nat.lt_of_le_of_lt (Nat.le_add_right _ 64) hr.units
 refine⟨_,(qe (qA (i:=11) q0S.nd rfl (Or.inl rfl) (q0u (qc (q1a (q9U K) rfl T.n_list q5T (qc (pv 6) qd)) (qc (q1a (q9U K) rfl T.n_list q5T (qc (pv 4) qd)) qd))))
   (qe (qA (i:=12) q0S.nd rfl (Or.inl rfl) (qx C_good hr (by decide) rfl (qc (pv 1) (qc (qq (qY K) (pv 11) qi (fun _ _=>rfl)) (qc (qq (qY K) (pv 11) qi (fun _ _=>rfl)) qd)))))
   (qe (q04 (PW.pt (q5C (q2n (q0q (qr q2u rfl T.n_isinstance q0M (qc (pv 12) (qc (q46 (v:= .ty "list") rfl T.n_list q5T rfl) qd))))) (q5C (qC (qaA K hu0) (pv 12) (pv 7) (qy _)) (q4Z (qC (op_neD K 1 (hu3_of hr)) (pv 11) (q0u (qc (pv 6) (qc (pv 4) qd))) (qy _)))))) (qh (qz q3e)) qD)
   (qe (q0j PassesOwn.never rfl (q0A K (pv 12)) (qu (i:=8) q0S.nd rfl (Or.inl rfl)) (qh (q04 (q0q (qr q2u rfl T.n_isinstance q0M (qc (pv 8) (qc (q46 (v:= .ty "bool") rfl T.n_bool q8u rfl) qd)))) (qh (qz q3e)) qD)))
   (qe (qK (q2q PySem.F.plainAttrs_list PySem.F.slot_list_append PySem.F.type_list_append q02 (pv 12) (qc qi qd)))
   (qh (qz (qX (qaE K hu0) (qx C_good hr (by decide) rfl (qc (pv 1) (qc (qq (qY K) (pv 11) qi (fun _ _=>rfl)) (qc (qq (qY K) (pv 11) qi (fun _ _=>rfl)) qd)))) (pv 7) (qy _))))))))),?_⟩
 intro nx bk ct rt v0 v2 v3 v5 v8 v9 v10 c p q u C ns ks H hC as hp hq hu k
 have big:=qG
 have fw:=as.few
 walk_at "rd"
 refine r_lof (.inl (SqL.of hq)) fun h1 g1=>?_
 generalize hG1:upd _ h1 _=H1
 have s1:=qV hG1 g1
 have hk1:=qW hG1
 walk_at "rd"
 refine r_lof (.inl (SqL.of (s1 _ _ hp))) fun h2 g2=>?_
 generalize hG2:upd _ h2 _=H2
 have s2:=qV hG2 g2
 have hp2:=qW hG2
 walk_at "rd"
 intro hd gd
 generalize hG3:upd _ hd _=H3
 have s3:=qV hG3 gd
 have hd3:=qW hG3
 have s13:=s1.trans (s2.trans s3)
 walk_at "rd"
 refine⟨c,h1,h2,C,ns,ks,rfl,hC.mono s13.ts,(s2.trans s3) _ _ hk1,s3 _ _ hp2,as,fun r H4 s4 gr hr4=>?_⟩
 rw[q83] at hr4
 have s14:=s13.trans s4
 have hu4:=s14 _ _ hu
 walk_at "rd"
 refine⟨r,u,_,_,rfl,rfl,SqL.of hr4,SqL.of hu4,q1b _,q1b _,?_⟩
 rw[q5c (q1b _)]
 have hq4:=s14 _ _ hq
 have hp4:=s14 _ _ hp
 walk_at "rd"
 intro e5 g5
 generalize hG5:upd _ e5 _=H5
 have s5:=qV hG5 g5
 have h5:=qW hG5
 have s15:=s14.trans s5
 have k5:=((s2.trans s3).trans (s4.trans s5)) _ _ hk1
 have p5:=(s3.trans (s4.trans s5)) _ _ hp2
 have n1:h1≠q:=fun z=>by rw[z,hq] at g1;cases g1
 have n2:h2≠p:=fun z=>by rw[z,s1 _ _ hp] at g2;cases g2
 refine r_neDT (SqL.of ((s4.trans s5) _ _ hd3)) (SqL.of h5) rfl (fun j hj=>?_) ?_
 ·match j,hj with
  |0,_=>
   have:=Deq.lst (K:=K) (H:=H5) (n:=0) (e:=fun _=>true) n1 (SqL.of k5) (SqL.of (s5 _ _ hq4)) rfl fun j h _=>Deq.self (.inl (by rw[List.getD_eq_getElem?_getD];simp at h;simp[h,q0Q]))
   rw[q4k] at this
   exact this
  |1,_=>
   have:=Deq.lst (K:=K) (H:=H5) (n:=0) (e:=fun _=>true) n2 (SqL.of p5) (SqL.of (s5 _ _ hp4)) rfl fun j h _=>Deq.self (.inl (by rw[List.getD_eq_getElem?_getD];simp at h;simp[h,q0Q]))
   rw[q4k] at this
   exact this
 have hr5:=s5 _ _ hr4
 walk_at "rd"
 refine q2c ((dueN C ns ks (many ks ns.length).toNat).map V.int) (fun i σ H'=>∃v8,σ=[v0,some (.ref c),v2,v3,some (.ref p),v5,some (.ref q),some (.ref u),v8,v9,v10,some (.ref hd),some (.ref r)]/\H'=H5) ⟨v8,rfl,rfl⟩ ?_ ?_ ?_
 ·rintro i σ H' ⟨_,rfl,rfl⟩
  exact SqL.of hr5
 ·rintro i x σ H' hx ⟨v8,rfl,rfl⟩
  obtain⟨hi,rfl⟩:=q7C hx
  walk_at "rd"
  exact⟨_,rfl,rfl⟩
 ·rintro σ H' ⟨v8,rfl,rfl⟩
  have dl:(dueN C ns ks (many ks ns.length).toNat).length<=60:=by
   rw[List.length_map]
   have:=List.length_filter_le (gdB C ns ks) (List.range (many ks ns.length).toNat)
   rw[List.length_range] at this
   omega
  walk_at "rd"
  refine q2y hr5 (by rw[List.length_map];omega) ?_
  generalize hG6:upd _ r _=H6
  have s36:Same H3 H6:=hG6▸(s4.trans s5).put gr
  have s16:=s13.trans s36
  have hd6:=s36 _ _ hd3
  walk_at "rd"
  refine⟨c,h1,h2,C,ns,ks,rfl,hC.mono s16.ts,(s2.trans (s3.trans s36)) _ _ hk1,(s3.trans s36) _ _ hp2,as,fun r7 H7 s7 gr7 hr7=>?_⟩
  rw[q83] at hr7
  have hu7:=(s16.trans s7) _ _ hu
  walk_at "rd"
  refine⟨r7,u,_,_,rfl,rfl,SqL.of hr7,SqL.of hu7,q1b _,q1b _,?_⟩
  rw[q5c (q1b _)]
  exact k _
theorem law_b {f:Addr}{cdv:Value}{A:Around}{outer:List Env}{s:Shared}{H0:Hp}{E:XK}(T:Txt mg cs)(C_good:Cal P w K mg base 11 "good" ["cellar","kinds","places"] spGd)(C__law_count:Cal P w K mg base 2 "_law_count" ["_law_kinds","_law_size"] spLC)(C_dealing_of:Cal P w K mg base 4 "dealing_of" ["kinds","size","number"] qad)(C__law_leads:Cal P w K mg base 3 "_law_leads" ["_law_one","_law_things"] spLds)
  (hr:Room 12 (A.deeper (PyProof.Rows.envOfC "law" (qf q2O) s.heap.objs.size f cdv))):
  ∃t,PSs (cxOf CX0 P w K mg base NL "law" (qf q2O) f cdv A outer s H0 E).nox ((qU q2O).drop 5) t/\∀(nx bk ct:St->Hp->Prop) (rt:VK) (v0 v3 v5:Option V) (c p:Addr) (n:Int) (C:Cl) (ns:List Int) (H:Hp),ClAt H c C->0<=n->(∀ks:List Int,ks.length<=2->ks.length<=ns.length->(∀k∈ks,k=0\/k=1)->Ask C ns ks)->H p=some (.lst (ns.map V.int))->(∀H',rt (.bl true) H')->
   t ⟨nx,rt,bk,ct⟩ [v0,some (.ref c),some (.int n),v3,some (.ref p),v5,none,none,none,none,none,none,none] H:=by
 obtain⟨tc,hc,kc⟩:=law_c (P:=P) (w:=w) (K:=K) (base:=base) (outer:=outer) (H0:=H0) (E:=E) T C_good hr
 refine⟨_,(qe (q1A (i:=6) q0S.nd rfl rfl (q0v (N:=["_law_k","_law_cell_here"]) (own:=1) (caps:=[2]) ["_law_script","_law_one","_law_cell_here","_law_left","_law_places","_law_k","_law_kinds","_law_due","_law_number","_law_dealing","_law_things","_law_handed","_law_found"] (qf q2O) (by decide +kernel)) rfl (qL rfl T.n_range (qc (qr (min2 rfl) rfl T.n_min q8t (qc (ql q05 (ql q06 (pv 2) qi) qi) (qc (qr (lenK K) rfl T.n_len qN (qc (pv 4) qd)) qd))) qd)) (fun _ _ _ _=>(qu (i:=0) (show List.Nodup (["_law_k","_law_cell_here"]:List Str) by decide +kernel) rfl (Or.inl rfl))) (fun _ _ _ _=>q2p) (fun _ _ _ _=>(ql q05 (ql q06 (pv 1) (ql q0d (pv 0) qi)) qi)))
   (qe (qA (i:=7) q0S.nd rfl (Or.inl rfl) (q0u qd))
   (qe (q0j PassesOwn.never rfl (qL rfl T.n_range (qc (qx C__law_count hr (by decide) rfl (qc (pv 6) (qc (qr (lenK K) rfl T.n_len qN (qc (pv 4) qd)) qd))) qd)) (qu (i:=8) q0S.nd rfl (Or.inl rfl)) (qe (qA (i:=9) q0S.nd rfl (Or.inr rfl) (qx C_dealing_of hr (by decide) rfl (qc (pv 6) (qc (qr (lenK K) rfl T.n_len qN (qc (pv 4) qd)) (qc (pv 8) qd)))))
   (qe (q1A (i:=10) q0S.nd rfl rfl (q0v (N:=["_law_k","_law_dealing","_law_places"]) (own:=1) (caps:=[9,4]) ["_law_script","_law_one","_law_cell_here","_law_left","_law_places","_law_k","_law_kinds","_law_due","_law_number","_law_dealing","_law_things","_law_handed","_law_found"] (qf q2O) (by decide +kernel)) rfl (qL rfl T.n_range (qc (qr (lenK K) rfl T.n_len qN (qc (pv 4) qd)) qd)) (fun _ _ _ _=>(qu (i:=0) (show List.Nodup (["_law_k","_law_dealing","_law_places"]:List Str) by decide +kernel) rfl (Or.inl rfl))) (fun _ _ _ _=>(q2o (q3E (q5E (qq (qj K) (pv 1) (pv 0) (fun _ _=>rfl)))))) (fun _ _ _ _=>(qJ (qc (qq (qY K) (pv 2) (pv 0) (fun _ _=>rfl)) (qc (qq (qj K) (pv 1) (pv 0) (fun _ _=>rfl)) qd)))))
   (qh (q04 (q0q (qx C__law_leads hr (by decide) rfl (qc (pv 1) (qc (pv 10) qd)))) (qh (qK (q2q PySem.F.plainAttrs_list PySem.F.slot_list_append PySem.F.type_list_append q02 (pv 7) (qc (pv 8) qd)))) qD)))))
   hc))),?_⟩
 intro nx bk ct rt v0 v3 v5 c p n C ns H hC n0 as0 hp k
 have big:=qG
 have nl:=(as0 [] (by simp) (by simp) (fun k hk=>nomatch hk)).n
 have a0:=q0g (n / 16) (n:=3) (by decide)
 have a1:=q0k (n / 16) (n:=3) (by decide)
 walk_at "rd"
 rw[List.length_map]
 obtain⟨N,eN,N2,Nn⟩:∃N:Nat,(if (ns.length:Int)<n / 16 % 3 then(ns.length:Int) else n / 16 % 3).toNat=N/\N<=2/\N<=ns.length:=⟨_,rfl,by split<;>omega,by split<;>omega⟩
 rw[eN]
 intro q gq
 refine q0t (fun i σ H'=>∃v0,σ=[v0,some (.int n)]/\Same H H'/\∃ks:List Int,H' q=some (.lst (ks.map V.int))/\ks.length=i/\∀k∈ks,k=0\/k=1) ⟨none,rfl,Same.upd gq,[],qg,rfl,fun k hk=>(nomatch hk)⟩ ?_ ?_
 ·rintro i σ H' hi ⟨v0,rfl,s1,ks,h1,l1,z1⟩
  have b0:=q0g (n / (0+(i:Nat)+64)) (n:=2) (by decide)
  have b1:=q0k (n / (0+(i:Nat)+64)) (n:=2) (by decide)
  walk_at "rd"
  refine⟨_,h1,by rw[List.length_map];omega,_,rfl,s1.put gq,ks++[n / (0+(i:Nat)+64) % 2],?_,by simp[l1],fun k hk=>?_⟩
  ·rw [qg,List.map_append]
   rfl
  ·rcases List.mem_append.mp hk with hk|hk
   ·exact z1 k hk
   ·rw [List.mem_singleton.mp hk]
    omega
 ·rintro σ H1 ⟨v0',rfl,s1,ks,hq1,l1,z1⟩
  have as:=as0 ks (by omega) (by omega) z1
  have fw:=as.few
  have ml:=(q5I as.dg).1
  have hp1:=s1 _ _ hp
  walk_at "rd"
  intro u gu
  generalize hG2:upd _ u _=H2
  have s2:=qV hG2 gu
  have hu2:=qW hG2
  have s12:=s1.trans s2
  have hp2:=s2 _ _ hp1
  walk_at "rd"
  rw[List.length_map]
  refine⟨q,ks,ns.length,rfl,s2 _ _ hq1,as.dg,fun H3 s3=>?_⟩
  walk_at "rd"
  refine q16 (fun i σ H'=>∃v8 v9 v10,σ=[v0,some (.ref c),some (.int n),v3,some (.ref p),v5,some (.ref q),some (.ref u),v8,v9,v10,none,none]/\Same H1 H'/\H' u=some (.lst ((dueN C ns ks i).map V.int))) ⟨none,none,none,rfl,s2.trans s3,s3 _ _ hu2⟩ ?_ ?_
  ·rintro i σ H4 hi ⟨v8,v9,v10,rfl,s4,hu4⟩
   have hi1:(i:Int)<many ks ns.length:=by omega
   have s04:=s1.trans s4
   have hp4:=s04 _ _ hp
   obtain⟨dk,ok',sm'⟩:=as.dealt (m:=(i:Int)) (by omega) hi1
   walk_at "rd"
   rw[List.length_map]
   refine⟨q,ks,ns.length,0+(i:Nat),rfl,s4 _ _ hq1,as.dg,by omega,by omega,fun d H5 s5 h5=>?_⟩
   rw[Int.zero_add,<-q7s] at h5
   have eo:=dk.2.2
   have ecN:qB C (thg (ns.zip (osN ks ns.length i)))=cN C ns ks i:=rfl
   generalize osN ks ns.length i=os at h5 eo ecN dk
   have hp5:=s5 _ _ hp4
   have nlm:((ns.map V.int).length:Int)<=3:=by rw[List.length_map];omega
   walk_at "rd"
   intro l gl
   refine q0t (fun j σ H'=>∃v0,σ=[v0,some (.ref d),some (.ref p)]/\Same H5 H'/\q0b qI H' l (thg ((ns.zip os).take j))) ⟨none,rfl,Same.upd gl,⟨[],qg,Rows.nil⟩⟩ ?_ ?_
   ·rintro j σ H6 hj ⟨v0,rfl,s6,ps,hps,rps⟩
    have hj1:j<ns.length:=by simpa using hj
    have hj2:j<os.length:=by omega
    have ea:atI (os.map vO) (0+(j:Nat))=some (vO os[j]):=by rw[Int.zero_add];exact q0i (by simp[hj2])
    have eb:atI (ns.map V.int) (0+(j:Nat))=some (.int ns[j]):=by rw[Int.zero_add];exact q0i (by simp[hj1])
    have et:=q5X hj1 hj2
    have h6:=s6 _ _ h5
    have p6:=s6 _ _ hp5
    have pl:ps.length<=3:=by
     have z1:=q9A ((ns.zip os).take j)
     have z2:=rps.1
     rw[List.length_take,List.length_zip] at z1
     omega
    walk_at "rd"
    cases ho:os[j] with
    |none=>
     rw[ho] at et
     walk_at "rd"
     refine⟨_,rfl,s6,ps,hps,?_⟩
     rw[et,List.append_nil]
     exact rps
    |some kd=>
     rw[ho] at et ea
     rw[show(!decide (vO (some kd)=V.non))=true by simp[vO]]
     have ea:atI (os.map vO) (0+(j:Nat))=some (.int kd):=ea
     walk_at "rd"
     intro r gr
     generalize hGr:upd _ r _=Hr
     have sr:=qV hGr gr
     have tr:=qW hGr
     have h2r:=sr _ _ hps
     refine⟨_,h2r,by rw[List.length_map];omega,_,rfl,(s6.trans sr).put gl,?_⟩
     rw[et]
     exact q0f (fun _ _ z=>qI.mono (q0N.lst h2r) z) (rps.mono fun _ _=>qI.mono sr.ts) tr
   ·rintro σ H6 ⟨v0',rfl,s6,m6⟩
    rw[Int.toNat_natCast,List.length_map,show(ns.zip os).take ns.length=ns.zip os from List.take_of_length_le (by rw[List.length_zip];omega)] at m6
    have s46:=s5.trans s6
    walk_at "rd"
    refine⟨c,l,C,_,rfl,hC.mono (s04.trans s46).ts,as.ok,m6,by rw[ecN];exact ok',by rw[ecN];exact sm',fun b H7 s7 hb=>?_⟩
    rw[ecN] at hb
    have eb:=q9V hb
    have s47:=s46.trans s7
    have hu7:=s47 _ _ hu4
    have ed:dueN C ns ks (i+1)=dueN C ns ks i++(if b=true then [(i:Int)] else []):=by
     unfold dueN
     rw[List.range_succ,List.filter_append,List.map_append]
     cases b<;>simp[eb]
    rw[ed]
    have dl:(dueN C ns ks i).length<=60:=by
     rw[List.length_map]
     have:=List.length_filter_le (gdB C ns ks) (List.range i)
     rw[List.length_range] at this
     omega
    cases b with
    |true=>
     walk_at "rd"
     refine q2y hu7 (by rw[List.length_map];omega) ?_
     refine⟨_,_,_,rfl,(s4.trans s47).put gu,?_⟩
     rw[qg,List.map_append,Int.zero_add]
     rfl
    |false=>
     walk_at "rd"
     exact⟨_,_,_,rfl,s4.trans s47,by rw[hu7];simp⟩
  ·rintro σ H4 ⟨v8,v9,v10,rfl,s4,hu4⟩
   have s04:=s1.trans s4
   exact kc _ _ _ _ _ _ _ _ _ _ _ c p q u C ns ks H4 (hC.mono s04.ts) as (s04 _ _ hp) (s4 _ _ hq1) hu4 k
end
section
variable {P:Program}{w:World}{K:W.Frag}{mg:Str->Option Value}{base:Heap}{cs:Cs}
theorem ok_law {f:Addr}{fd:FuncData}(F:Fun K "law" "law" q2O f fd)(T:Txt mg cs)(TC:Tcl K cs)(L__wall:Laid K mg "_wall" q7g ["k"])(L_within:Laid K mg "within" q2X ["number","least","most"])(L_has_bit:Laid K mg "has_bit" q2h ["bits","place"])(L_changed:Laid K mg "changed" q1L ["parts","place","part"])(L_gate_of:Laid K mg "gate_of" q2i ["gate"])(L_start:Laid K mg "start" q3Y ["cellar"])(L_held:Laid K mg "held" q64 ["cellar","stand"])(L_door_kinds:Laid K mg "door_kinds" q0C ["cellar"])(L_can_enter:Laid K mg "can_enter" q1h ["way","room"])(L_leads:Laid K mg "leads" q38 ["cellar","stand"])(L_fit_deeds:Laid K mg "fit_deeds" q0P ["cellar","stand"])(L_all_goes:Laid K mg "all_goes" q18 ["cellar"])(L_all_deeds:Laid K mg "all_deeds" q0c ["cellar"])(L_walk_from:Laid K mg "walk_from" q1e ["cellar","begin"])(L_ends_of:Laid K mg "ends_of" q1K ["cellar","walk"])(L_count:Laid K mg "count" q3Z ["kinds","size"])(L_dealing_of:Laid K mg "dealing_of" q0U ["kinds","size","number"])(L_dealt:Laid K mg "dealt" q39 ["cellar","places","dealing"])(L_good:Laid K mg "good" q4X ["cellar","kinds","places"])(L_is_good:Laid K mg "is_good" q2g ["cellar"])(L_check_kinds:Laid K mg "check_kinds" q0I ["kinds"])(L_check_places:Laid K mg "check_places" q0y ["cellar","places"])(L_check_dealing:Laid K mg "check_dealing" q0p ["dealing"])(L_kinds_of:Laid K mg "kinds_of" q17 ["dealing"])(L_shares_of:Laid K mg "shares_of" q1f ["kinds","size"])(L_share_of:Laid K mg "share_of" q1O ["kind"])(L_orders:Laid K mg "orders" q2Y ["shares"])(L_orders_behind:Laid K mg "orders_behind" q0o ["shares","own"])(L_factorial:Laid K mg "factorial" q1g ["number"])(L__law_cell:Laid K mg "_law_cell" q1i ["_law_script","_law_k"])(L__law_product:Laid K mg "_law_product" q0z ["_law_number"])(L__law_count:Laid K mg "_law_count" q0D ["_law_kinds","_law_size"])(L__law_cellar:Laid K mg "_law_cellar" qO ["_law_script"])(L__law_has:Laid K mg "_law_has" q0O ["_law_one","_law_things","_law_place","_law_kind"])(L__law_ways_on:Laid K mg "_law_ways_on" q03 ["_law_one","_law_things","_law_place"])(L__law_leads:Laid K mg "_law_leads" q0V ["_law_one","_law_things"])(LM_Plain_lets:LaidM K cs.Plain "lets" "Plain.lets" q0W ["self","held","opened","bars","water"])(LM_Plain_told:LaidM K cs.Plain "told" "Gate.told" qR ["self"])(LI_Plain:LaidI K mg "Plain" cs.Plain "Plain.__init__" q0X ["self"])(LM_Door_lets:LaidM K cs.Door "lets" "Door.lets" q1x ["self","held","opened","bars","water"])(LM_Door_told:LaidM K cs.Door "told" "Gate.told" qR ["self"])(LI_Door:LaidI K mg "Door" cs.Door "Door.__init__" q1y ["self","kind"])(LM_Need_lets:LaidM K cs.Need "lets" "Need.lets" q1u ["self","held","opened","bars","water"])(LM_Need_told:LaidM K cs.Need "told" "Gate.told" qR ["self"])(LI_Need:LaidI K mg "Need" cs.Need "Need.__init__" q1v ["self","kind"])(LM_Bar_lets:LaidM K cs.Bar "lets" "Bar.lets" q1P ["self","held","opened","bars","water"])(LM_Bar_told:LaidM K cs.Bar "told" "Gate.told" qR ["self"])(LI_Bar:LaidI K mg "Bar" cs.Bar "Bar.__init__" q1Q ["self","bar"])(LM_Wade_lets:LaidM K cs.Wade "lets" "Wade.lets" q1j ["self","held","opened","bars","water"])(LM_Wade_told:LaidM K cs.Wade "told" "Gate.told" qR ["self"])(LI_Wade:LaidI K mg "Wade" cs.Wade "Wade.__init__" q1k ["self","height","kind"])(LM_Float_lets:LaidM K cs.Float "lets" "Float.lets" q0Y ["self","held","opened","bars","water"])(LM_Float_told:LaidM K cs.Float "told" "Gate.told" qR ["self"])(LI_Float:LaidI K mg "Float" cs.Float "Float.__init__" q0Z ["self","height"])(LM_Go_can:LaidM K cs.Go "can" "Deed.can" q00 ["self","cellar","stand"])(LM_Go_done:LaidM K cs.Go "done" "Go.done" q2l ["self","cellar","stand"])(LM_Go_fits:LaidM K cs.Go "fits" "Go.fits" q2k ["self","cellar","stand"])(LM_Go_own_part:LaidM K cs.Go "own_part" "Deed.own_part" qE ["self","cellar"])(LM_Go_told:LaidM K cs.Go "told" "Deed.told" qS ["self"])(LI_Go:LaidI K mg "Go" cs.Go "Go.__init__" q2j ["self","number"])(LM_Pull_can:LaidM K cs.Pull "can" "Deed.can" q00 ["self","cellar","stand"])(LM_Pull_done:LaidM K cs.Pull "done" "Pull.done" q1t ["self","cellar","stand"])(LM_Pull_fits:LaidM K cs.Pull "fits" "Pull.fits" q1s ["self","cellar","stand"])(LM_Pull_own_part:LaidM K cs.Pull "own_part" "Deed.own_part" qE ["self","cellar"])(LM_Pull_told:LaidM K cs.Pull "told" "Deed.told" qS ["self"])(LI_Pull:LaidI K mg "Pull" cs.Pull "Pull.__init__" q1r ["self","number"])(LM_Take_can:LaidM K cs.Take "can" "Deed.can" q00 ["self","cellar","stand"])(LM_Take_done:LaidM K cs.Take "done" "Take.done" q1q ["self","cellar","stand"])(LM_Take_fits:LaidM K cs.Take "fits" "Take.fits" q1p ["self","cellar","stand"])(LM_Take_own_part:LaidM K cs.Take "own_part" "Deed.own_part" qE ["self","cellar"])(LM_Take_told:LaidM K cs.Take "told" "Deed.told" qS ["self"])(LI_Take:LaidI K mg "Take" cs.Take "Take.__init__" q1o ["self","number"])(LM_Turn_can:LaidM K cs.Turn "can" "Deed.can" q00 ["self","cellar","stand"])(LM_Turn_done:LaidM K cs.Turn "done" "Turn.done" q1n ["self","cellar","stand"])(LM_Turn_fits:LaidM K cs.Turn "fits" "Turn.fits" q1m ["self","cellar","stand"])(LM_Turn_own_part:LaidM K cs.Turn "own_part" "Deed.own_part" qE ["self","cellar"])(LM_Turn_told:LaidM K cs.Turn "told" "Deed.told" qS ["self"])(LI_Turn:LaidI K mg "Turn" cs.Turn "Turn.__init__" q1l ["self","number"])(LM_Unlock_can:LaidM K cs.Unlock "can" "Deed.can" q00 ["self","cellar","stand"])(LM_Unlock_done:LaidM K cs.Unlock "done" "Unlock.done" q0L ["self","cellar","stand"])(LM_Unlock_fits:LaidM K cs.Unlock "fits" "Unlock.fits" q0K ["self","cellar","stand"])(LM_Unlock_own_part:LaidM K cs.Unlock "own_part" "Deed.own_part" qE ["self","cellar"])(LM_Unlock_told:LaidM K cs.Unlock "told" "Deed.told" qS ["self"])(LI_Unlock:LaidI K mg "Unlock" cs.Unlock "Unlock.__init__" q0J ["self","number"])(LC_Deed_init:LaidC K mg "Deed" "__init__" "Deed.__init__" q1z ["self","word","number","part"])(LC_Gate_init:LaidC K mg "Gate" "__init__" "Gate.__init__" q1w ["self","word","numbers"]):FnOk P w K mg base CX0 13 f fd ["_law_script"] (q8F K):=by
 have C_has_bit:Cal P w K mg base 1 "has_bit" ["bits","place"] q5t:=q6J T L_has_bit
 have C_within:Cal P w K mg base 1 "within" ["number","least","most"] q1d:=q7v T L_within
 have C_can_enter:Cal P w K mg base 1 "can_enter" ["way","room"] q3S:=q96 T L_can_enter
 have C_changed:Cal P w K mg base 1 "changed" ["parts","place","part"] q5r:=q6L T L_changed
 have C_door_kinds:Cal P w K mg base 1 "door_kinds" ["cellar"] spDk:=ok_dk T L_door_kinds
 have C_held:Cal P w K mg base 2 "held" ["cellar","stand"] q61:=qaI T L_held C_has_bit C_door_kinds
 have C_Gate_init:CCal P w K mg base 1 "Gate" "__init__" ["self","word","numbers"] (q1H K):=q95 T LC_Gate_init
 have C_Plain:Makes P w K mg base 2 "Plain" cs.Plain ["self"] (spMk cs "plain"):=q9e T TC LI_Plain C_Gate_init
 have C_Door:Makes P w K mg base 2 "Door" cs.Door ["self","kind"] (spMk cs "door"):=qaW T TC LI_Door C_Gate_init
 have C_Need:Makes P w K mg base 2 "Need" cs.Need ["self","kind"] (spMk cs "need"):=qaV T TC LI_Need C_Gate_init
 have C_Bar:Makes P w K mg base 2 "Bar" cs.Bar ["self","bar"] (spMk cs "bar"):=mk_bar T TC LI_Bar C_Gate_init
 have C_Wade:Makes P w K mg base 2 "Wade" cs.Wade ["self","height","kind"] (spMk cs "wade"):=qaR T TC LI_Wade C_Gate_init
 have C_Float:Makes P w K mg base 2 "Float" cs.Float ["self","height"] (spMk cs "float"):=q9f T TC LI_Float C_Gate_init
 have C_gate_of:Cal P w K mg base 4 "gate_of" ["gate"] (qac cs):=q6K T L_gate_of C_Plain C_Door C_Need C_Bar C_Wade C_Float
 have vl:∀g:Gt,VMeth P w K mg base 2 (q8k cs g) "lets" ["self","held","opened","bars","water"] (q2G cs g.word):=fun g=>by
  cases g
  ·exact q3M T TC LM_Plain_lets
  ·exact q4q T TC LM_Door_lets
  ·exact q4p T TC LM_Need_lets
  ·exact q5l T TC LM_Bar_lets C_has_bit
  ·exact q4o T TC LM_Wade_lets
  ·exact q3N T TC LM_Float_lets
 have C_Deed_init:CCal P w K mg base 1 "Deed" "__init__" ["self","word","number","part"] (q27 K):=q97 T LC_Deed_init
 have C_Go:Makes P w K mg base 2 "Go" cs.Go ["self","number"] (q1G cs .go):=mk_go T TC LI_Go C_Deed_init
 have C_Pull:Makes P w K mg base 2 "Pull" cs.Pull ["self","number"] (q1G cs .pull):=qaU T TC LI_Pull C_Deed_init
 have C_Take:Makes P w K mg base 2 "Take" cs.Take ["self","number"] (q1G cs .take):=qaT T TC LI_Take C_Deed_init
 have C_Turn:Makes P w K mg base 2 "Turn" cs.Turn ["self","number"] (q1G cs .turn):=qaS T TC LI_Turn C_Deed_init
 have C_Unlock:Makes P w K mg base 2 "Unlock" cs.Unlock ["self","number"] (q1G cs .unlock):=q7B T TC LI_Unlock C_Deed_init
 have vo:∀d,VMeth P w K mg base 1 (dcls cs d) "own_part" ["self","cellar"] (q3v cs d):=fun d=>by
  have D:=q25 TC d
  cases d
  ·exact q4n LM_Go_own_part D
  ·exact q4n LM_Pull_own_part D
  ·exact q4n LM_Take_own_part D
  ·exact q4n LM_Turn_own_part D
  ·exact q4n LM_Unlock_own_part D
 have vf:∀d,VMeth P w K mg base 5 (dcls cs d) "fits" ["self","cellar","stand"] (q36 cs d):=fun d=>by
  have D:=q25 TC d
  have v:=vo d
  cases d
  ·exact q6t T D LM_Go_fits v C_can_enter C_has_bit C_gate_of vl C_held
  ·exact q4t T D LM_Pull_fits v
  ·exact q4s T D LM_Take_fits v C_has_bit
  ·exact q4r T D LM_Turn_fits v
  ·exact q3t T D LM_Unlock_fits v C_can_enter C_has_bit C_held
 have vc:∀d,VMeth P w K mg base 6 (dcls cs d) "can" ["self","cellar","stand"] (qae cs d):=fun d=>by
  have D:=q25 TC d
  have v:=vf d
  cases d
  ·exact q4x T LM_Go_can D C_within v
  ·exact q4x T LM_Pull_can D C_within v
  ·exact q4x T LM_Take_can D C_within v
  ·exact q4x T LM_Turn_can D C_within v
  ·exact q4x T LM_Unlock_can D C_within v
 have vd:∀d,VMeth P w K mg base 2 (dcls cs d) "done" ["self","cellar","stand"] (q37 cs d):=fun d=>by
  have D:=q25 TC d
  have v:=vo d
  cases d
  ·exact q6u T D LM_Go_done v C_changed
  ·exact q4w T D LM_Pull_done v C_changed
  ·exact q4v T D LM_Take_done C_changed
  ·exact q4u T D LM_Turn_done v C_changed
  ·exact q3u T D LM_Unlock_done C_changed
 have vt:∀d,VMeth P w K mg base 1 (dcls cs d) "told" ["self"] (q5p cs d):=fun d=>by
  have D:=q25 TC d
  cases d
  ·exact q2e LM_Go_told D
  ·exact q2e LM_Pull_told D
  ·exact q2e LM_Take_told D
  ·exact q2e LM_Turn_told D
  ·exact q2e LM_Unlock_told D
 have C_start:Cal P w K mg base 1 "start" ["cellar"] q5n:=q91 T L_start
 have C_all_goes:Cal P w K mg base 4 "all_goes" ["cellar"] (q79 cs):=qaK T L_all_goes C_Go
 have C_all_deeds:Cal P w K mg base 5 "all_deeds" ["cellar"] (q7b cs):=qaN T L_all_deeds C_all_goes C_Pull C_Take C_Turn C_Unlock
 have C_fit_deeds:Cal P w K mg base 7 "fit_deeds" ["cellar","stand"] (q7a cs):=qaL T L_fit_deeds C_all_deeds vc
 have C_leads:=q93 T L_leads C_fit_deeds vt vd
 have C_walk_from:=qaF T L_walk_from C_leads
 have C_ends_of:=qaM (P:=P) (w:=w) (base:=base) T L_ends_of
 have C_is_good:=ok_isg T L_is_good C_start C_walk_from C_ends_of
 have C_share_of:=q92 (P:=P) (w:=w) (base:=base) T L_share_of
 have C_factorial:=ok_fac (P:=P) (w:=w) (base:=base) T L_factorial
 have C_orders:=q7x T L_orders C_factorial
 have C_shares_of:=q7w T L_shares_of C_share_of
 have C_check_kinds:=q94 T L_check_kinds C_within
 have C_count:=q98 T L_count C_check_kinds C_within C_orders C_shares_of
 have C_orders_behind:=ok_ob T L_orders_behind C_orders
 have C_kinds_of:=q6I (P:=P) (w:=w) (base:=base) T L_kinds_of
 have C_check_dealing:=ok_cd T L_check_dealing C_check_kinds C_kinds_of
 have C_dealing_of:=ok_dof T L_dealing_of C_count C_within C_shares_of C_orders_behind
 have C_check_places:=ok_cp T L_check_places C_within
 have C_ch4:=ok_ch4 (P:=P) (w:=w) (base:=base) T L_changed
 have C_dealt:=ok_dl T L_dealt C_check_places C_check_dealing C_ch4
 have C_good:=qaJ T L_good C_check_places C_count C_dealing_of C_dealt C_is_good
 have C__law_cell:=q99 (P:=P) (w:=w) (base:=base) T L__law_cell
 have C__law_product:=qaG (P:=P) (w:=w) (base:=base) T L__law_product
 have C__law_count:=ok_lc T L__law_count C__law_product
 have C__law_cellar:=qaH T L__law_cellar C__law_cell
 have C__law_has:=ok_has (P:=P) (w:=w) (base:=base) T L__law_has
 have C__law_ways_on:=ok_on T L__law_ways_on C__law_has
 have C__law_leads:=ok_lds T L__law_leads C__law_ways_on
 refine F.ok (k:=12) q0S (fun vs H Q E h=>?_) (fun cdv A outer s H vs Q E hr h=>?_)
 ·obtain ⟨a,ns,rfl,_⟩:=h
  rfl
 ·obtain ⟨a,ns,rfl,hS,hl,k⟩:=h
  have big:=qG
  obtain⟨tb,hb,kb⟩:=law_b (P:=P) (w:=w) (base:=base) (outer:=outer) (H0:=H) (E:=E) T C_good C__law_count C_dealing_of C__law_leads hr
  refine⟨_,(qe (qA (i:=1) q0S.nd rfl (Or.inl rfl) (qx C__law_cellar hr (by decide) rfl (qc (pv 0) qd)))
   (qe (qA (i:=2) q0S.nd rfl (Or.inr rfl) (qx C__law_cell hr (by decide) rfl (qc (pv 0) (qc qi qd))))
   (qe (q1A (i:=3) q0S.nd rfl rfl (q0v (N:=["_law_room"]) (own:=1) (caps:=[]) ["_law_script","_law_one","_law_cell_here","_law_left","_law_places","_law_k","_law_kinds","_law_due","_law_number","_law_dealing","_law_things","_law_handed","_law_found"] (qf q2O) (by decide +kernel)) rfl (qL rfl T.n_range (qc (qq (qj K) (pv 1) qi (fun _ _=>rfl)) qd)) (fun _ _ _ _=>(qu (i:=0) (show List.Nodup (["_law_room"]:List Str) by decide +kernel) rfl (Or.inl rfl))) (fun _ _ _ _=>q2p) (fun _ _ _ _=>(pv 0)))
   (qe (qA (i:=4) q0S.nd rfl (Or.inr rfl) (q0u qd))
   (qe (q0j PassesOwn.never rfl (qL rfl T.n_range (qc (ql q05 (pv 2) (ql q0d qi (qr (min2 rfl) rfl T.n_min q8t (qc qi (qc (qq (qj K) (pv 1) qi (fun _ _=>rfl)) qd))))) qd)) (qu (i:=5) q0S.nd rfl (Or.inl rfl)) (qh (qK (q2q PySem.F.plainAttrs_list PySem.F.slot_list_append PySem.F.type_list_append q02 (pv 4) (qc (q2q PySem.F.plainAttrs_list PySem.F.slot_list_pop PySem.F.type_list_pop q9d (pv 3) (qc (ql q05 (ql q06 (pv 2) (ql q0d (pv 5) qi)) (qr (lenK K) rfl T.n_len qN (qc (pv 3) qd))) qd)) qd)))))
   hb))))),?_⟩
  rw[show L2.start NL [V.ref a]=[some (V.ref a),none,none,none,none,none,none,none,none,none,none,none,none] from rfl]
  walk_at "rd"
  refine⟨a,ns,rfl,hS,hl,fun c C H1 s1 hC ok hR hw hlv hwh=>?_⟩
  walk_at "rd"
  refine⟨a,ns,2,rfl,s1.seq hS,hl,by decide,by decide,fun n n0 n1=>?_⟩
  obtain⟨wv,tv,lv,vv,hc,_⟩:=hC.ex
  have r1:=ok.r1
  have r2:=ok.r2
  walk_at "rd"
  intro D hD
  refine q0t (fun i σ H'=>∃v0,σ=[v0]/\Same H1 H'/\H' D=some (.lst (((List.range i).map fun j=>((j:Nat):Int)).map V.int))) ⟨none,rfl,Same.upd hD,by rw[qg];rfl⟩ ?_ ?_
  ·rintro i σ H' hi ⟨v0,rfl,s2,h2⟩
   walk_at "rd"
   refine⟨_,h2,by simp;omega,_,rfl,s2.put hD,?_⟩
   rw[qg,List.range_succ,List.map_append,List.map_append,Int.zero_add]
   rfl
  ·rintro σ H2 ⟨v0,rfl,s2,h2⟩
   walk_at "rd"
   intro F gF
   generalize hGF:upd _ F _=H3
   have s3:=qV hGF gF
   have hF:=qW hGF
   have hD3:=s3 _ _ h2
   have nFD:F≠D:=fun z=>by rw[z,h2] at gF;cases gF
   have zF:H1 F=none:=s2.free gF
   have hc3:=(s2.trans s3) _ _ hc
   obtain⟨M,eM,M3,Mr⟩:∃M:Int,(if C.rooms<3 then C.rooms else 3)=M/\(0<=M/\M<=3)/\M<=C.rooms:=⟨_,rfl,by split<;>omega,by split<;>omega⟩
   have a0:=q0g n (n:=1+M) (by omega)
   have a1:=q0k n (n:=1+M) (by omega)
   walk_at "rd"
   rw[eM]
   refine r_rg (by omega) ?_
   refine q16 (fun i σ H'=>∃(v5:Option V) (lf fd:List Int),σ=[some (.ref a),some (.ref c),some (.int n),some (.ref D),some (.ref F),v5,none,none,none,none,none,none,none]/\Same H1 H'/\H' D=some (.lst (lf.map V.int))/\H' F=some (.lst (fd.map V.int))/\fd.length=i/\lf.length+i=C.rooms.toNat/\(fd++lf).Nodup/\(∀x∈fd++lf,0<=x/\x<=C.rooms - 1)) ⟨none,(List.range C.rooms.toNat).map fun j=>((j:Nat):Int),[],rfl,s2.trans s3,hD3,hF,rfl,by simp,?_,?_⟩ ?_ ?_
   ·rw [List.nil_append]
    exact List.pairwise_map.mpr (List.nodup_range.imp fun h z=>h (by omega))
   ·intro x hx
    rw[List.nil_append] at hx
    obtain⟨j,hj,rfl⟩:=List.mem_map.mp hx
    have:=List.mem_range.mp hj
    omega
   ·rintro i σ H' hi ⟨v5,lf,fd,rfl,s4,h4,h5,l1,l2,nd,rg⟩
    have hi':(i:Int)<n % (1+M):=by omega
    have hlm:(lf.map V.int).length=lf.length:=List.length_map _
    have ll:0<lf.length:=by omega
    obtain⟨j,hj,ej⟩:=qaQ (n / (0+(i:Nat)+4)) lf.length ll
    walk_at "rd"
    rw[hlm,ej]
    refine qak h4 ⟨by omega,by omega⟩ (by rw[hlm];exact six_ix hj) (show(lf.map V.int)[j]? =some (.int lf[j]) by simp[hj]) ?_
    walk_at "rd"
    refine q2y (show upd H' D _ F=some (.lst (fd.map V.int)) by rw[qp nFD];exact h5) (by rw[List.length_map];omega) ?_
    have pp:=q8R lf fd j hj
    refine⟨_,lf.eraseIdx j,fd++[lf[j]],rfl,(s4.put hD).put zF,?_,?_,by simp[l1],?_,pp.nodup_iff.mpr nd,fun x hx=>rg x (pp.mem_iff.mp hx)⟩
    ·rw [qp (Ne.symm nFD),qg,q80]
    ·rw [qg,List.map_append];rfl
    ·rw [List.length_eraseIdx_of_lt hj];omega
   ·rintro σ H' ⟨v5,lf,fd,rfl,s4,h4,h5,l1,l2,nd,rg⟩
    refine kb _ _ _ _ _ _ _ c F n C fd H' (hC.mono s4.ts) n0 (fun ks k2 kn kz=>⟨ok,hR.2,hw,hlv,hwh,⟨(List.nodup_append.mp nd).1,fun x hx=>rg x (List.mem_append_left _ hx)⟩,by omega,⟨k2,kn⟩,kz⟩) h5 k
end
section
variable {K:W.Frag}{h:Heap}{mg:Str->Option Value}{x m q:Str}{C:Addr}{st:Stmt}{ps:List Str}{ds:List Value}
inductive GA (K:W.Frag)(x:Str)(st:Stmt):Prop
 |mk {f:Addr} {od an:Option Addr} {sl:Array (Option Value)} {oc kV dc pm cd ct:Value}:W.nsIn K mainGlobals x=some (some (.ref f))->K.lookup f=some ⟨oc,od,.func (W.fnOf x x (q0s st) (qU st) (qf st) .none kV dc pm an cd ct),sl⟩->W.codeIn K cd x=true->W.keepIn K (.ref f)=true->GA K x st
theorem GA.laid (X:K.In h)(G:h.Ns mainGlobals mg)(g:GA K x st)(hb:∀(kV doc pm:Value) (an:Option Addr) (cdv ct:Value) (us:List Value),us.length=ps.length->bindArgs (W.fnOf x x (q0s st) (qU st) (qf st) .none kV doc pm an cdv ct) ⟨us,[]⟩=pure (ps.zip us)):Laid K mg x st ps:=let ⟨a,l,c,k⟩:=g;qaZ X G a l c k hb
inductive MA (K:W.Frag)(C:Addr)(m q:Str)(st:Stmt):Prop
 |mk {f:Addr} {od an:Option Addr} {sl:Array (Option Value)} {oc kV dc pm cd ct:Value}:W.findIn K (.ref C) m=some (some (.ref f))->W.isFn K (.ref f)=true->K.lookup f=some ⟨oc,od,.func (W.fnOf m q (q0s st) (qU st) (qf st) .none kV dc pm an cd ct),sl⟩->W.codeIn K cd q=true->W.keepIn K (.ref f)=true->MA K C m q st
theorem MA.laid (g:MA K C m q st)(hb:∀(kV doc pm:Value) (an:Option Addr) (cdv ct:Value) (us:List Value),us.length=ps.length->bindArgs (W.fnOf m q (q0s st) (qU st) (qf st) .none kV doc pm an cdv ct) ⟨us,[]⟩=pure (ps.zip us)):LaidM K C m q st ps:=let ⟨a,i,l,c,k⟩:=g;⟨_,_,q2s l c k,⟨a,i,k⟩,(q2s l c k).binds hb⟩
inductive IA (K:W.Frag)(C:Addr)(q:Str)(st:Stmt):Prop
 |mk {f:Addr} {od an:Option Addr} {sl:Array (Option Value)} {oc kV dc pm cd ct:Value}:W.makesIn K C=true->W.keepIn K (.ref C)=true->W.findIn K (.ref C) "__init__"=some (some (.ref f))->W.isFn K (.ref f)=true->K.lookup f=some ⟨oc,od,.func (W.fnOf "__init__" q (q0s st) (qU st) (qf st) .none kV dc pm an cd ct),sl⟩->W.codeIn K cd q=true->W.keepIn K (.ref f)=true->IA K C q st
theorem IA.laid (g:IA K C q st)(hx:mg x=some (.ref C))(hb:∀(kV doc pm:Value) (an:Option Addr) (cdv ct:Value) (us:List Value),us.length=ps.length->bindArgs (W.fnOf "__init__" q (q0s st) (qU st) (qf st) .none kV doc pm an cdv ct) ⟨us,[]⟩=pure (ps.zip us)):LaidI K mg x C q st ps:=let ⟨z,y,a,i,l,c,k⟩:=g;⟨⟨_,_,q2s l c k,⟨z,a,i,y⟩,(q2s l c k).binds hb⟩,hx⟩
inductive CA (K:W.Frag)(C:Addr)(m q:Str)(st:Stmt):Prop
 |mk {f:Addr} {od an:Option Addr} {sl:Array (Option Value)} {oc kV dc pm cd ct:Value}:W.readsIn K C (.type "type")=true->W.findCls K (.ref C) (.type "type") m=some (.val (.ref f))->W.specialIn K (.ref C) "__getattribute__"=some (some (.builtin "type.__getattribute__"))->K.lookup f=some ⟨oc,od,.func (W.fnOf m q (q0s st) (qU st) (qf st) .none kV dc pm an cd ct),sl⟩->W.codeIn K cd q=true->W.keepIn K (.ref f)=true->CA K C m q st
theorem CA.laid (g:CA K C m q st)(hx:mg x=some (.ref C))(hb:∀(kV doc pm:Value) (an:Option Addr) (cdv ct:Value) (us:List Value),us.length=ps.length->bindArgs (W.fnOf m q (q0s st) (qU st) (qf st) .none kV doc pm an cdv ct) ⟨us,[]⟩=pure (ps.zip us)):LaidC K mg x m q st ps:=let ⟨r,y,z,l,c,k⟩:=g;⟨C,_,_,hx,q2s l c k,⟨r,y,z,k⟩,(q2s l c k).binds hb⟩
end
local macro_rules| `(tactic| walk_at "b1")=> `(tactic| exact fun _ _ _ _ _ _=>blS fun _=>bl0 rfl)
local macro_rules| `(tactic| walk_at "b2")=> `(tactic| exact fun _ _ _ _ _ _=>blS fun _=>blS fun _=>bl0 rfl)
local macro_rules| `(tactic| walk_at "b3")=> `(tactic| exact fun _ _ _ _ _ _=>blS fun _=>blS fun _=>blS fun _=>bl0 rfl)
local macro_rules| `(tactic| walk_at "b4")=> `(tactic| exact fun _ _ _ _ _ _=>blS fun _=>blS fun _=>blS fun _=>blS fun _=>bl0 rfl)
local macro_rules| `(tactic| walk_at "b5")=> `(tactic| exact fun _ _ _ _ _ _=>blS fun _=>blS fun _=>blS fun _=>blS fun _=>blS fun _=>bl0 rfl)
theorem all_mk {l:W.OpenLaw}{w:World}{K:W.Frag}{h:Heap}{mg:Str->Option Value}{fa C_Gate C_Plain C_Door C_Need C_Bar C_Wade C_Float C_Deed C_Go C_Pull C_Take C_Turn C_Unlock:Addr}(X:K.In h)(G:h.Ns mainGlobals mg)(hfa:mg "law"=some (.ref fa))
  (T0:TxtR (fun x v=>W.nsIn K mainGlobals x=some (some v)) (fun x=>W.nsIn K mainGlobals x=some none) (Cs.mk C_Gate C_Plain C_Door C_Need C_Bar C_Wade C_Float C_Deed C_Go C_Pull C_Take C_Turn C_Unlock))
  (TC:Tcl K (Cs.mk C_Gate C_Plain C_Door C_Need C_Bar C_Wade C_Float C_Deed C_Go C_Pull C_Take C_Turn C_Unlock))
  (h1:GA K "_wall" q7g)
  (h2:GA K "within" q2X)
  (h3:GA K "has_bit" q2h)
  (h4:GA K "changed" q1L)
  (h5:GA K "gate_of" q2i)
  (h6:GA K "start" q3Y)
  (h7:GA K "held" q64)
  (h8:GA K "door_kinds" q0C)
  (h9:GA K "can_enter" q1h)
  (h10:GA K "leads" q38)
  (h11:GA K "fit_deeds" q0P)
  (h12:GA K "all_goes" q18)
  (h13:GA K "all_deeds" q0c)
  (h14:GA K "walk_from" q1e)
  (h15:GA K "ends_of" q1K)
  (h16:GA K "count" q3Z)
  (h17:GA K "dealing_of" q0U)
  (h18:GA K "dealt" q39)
  (h19:GA K "good" q4X)
  (h20:GA K "is_good" q2g)
  (h21:GA K "check_kinds" q0I)
  (h22:GA K "check_places" q0y)
  (h23:GA K "check_dealing" q0p)
  (h24:GA K "kinds_of" q17)
  (h25:GA K "shares_of" q1f)
  (h26:GA K "share_of" q1O)
  (h27:GA K "orders" q2Y)
  (h28:GA K "orders_behind" q0o)
  (h29:GA K "factorial" q1g)
  (h30:GA K "_law_cell" q1i)
  (h31:GA K "_law_product" q0z)
  (h32:GA K "_law_count" q0D)
  (h33:GA K "_law_cellar" qO)
  (h34:GA K "_law_has" q0O)
  (h35:GA K "_law_ways_on" q03)
  (h36:GA K "_law_leads" q0V)
  (h37:GA K "law" q2O)
  (h38:MA K C_Plain "lets" "Plain.lets" q0W)
  (h39:MA K C_Plain "told" "Gate.told" qR)
  (h40:IA K C_Plain "Plain.__init__" q0X)
  (h41:MA K C_Door "lets" "Door.lets" q1x)
  (h42:MA K C_Door "told" "Gate.told" qR)
  (h43:IA K C_Door "Door.__init__" q1y)
  (h44:MA K C_Need "lets" "Need.lets" q1u)
  (h45:MA K C_Need "told" "Gate.told" qR)
  (h46:IA K C_Need "Need.__init__" q1v)
  (h47:MA K C_Bar "lets" "Bar.lets" q1P)
  (h48:MA K C_Bar "told" "Gate.told" qR)
  (h49:IA K C_Bar "Bar.__init__" q1Q)
  (h50:MA K C_Wade "lets" "Wade.lets" q1j)
  (h51:MA K C_Wade "told" "Gate.told" qR)
  (h52:IA K C_Wade "Wade.__init__" q1k)
  (h53:MA K C_Float "lets" "Float.lets" q0Y)
  (h54:MA K C_Float "told" "Gate.told" qR)
  (h55:IA K C_Float "Float.__init__" q0Z)
  (h56:MA K C_Go "can" "Deed.can" q00)
  (h57:MA K C_Go "done" "Go.done" q2l)
  (h58:MA K C_Go "fits" "Go.fits" q2k)
  (h59:MA K C_Go "own_part" "Deed.own_part" qE)
  (h60:MA K C_Go "told" "Deed.told" qS)
  (h61:IA K C_Go "Go.__init__" q2j)
  (h62:MA K C_Pull "can" "Deed.can" q00)
  (h63:MA K C_Pull "done" "Pull.done" q1t)
  (h64:MA K C_Pull "fits" "Pull.fits" q1s)
  (h65:MA K C_Pull "own_part" "Deed.own_part" qE)
  (h66:MA K C_Pull "told" "Deed.told" qS)
  (h67:IA K C_Pull "Pull.__init__" q1r)
  (h68:MA K C_Take "can" "Deed.can" q00)
  (h69:MA K C_Take "done" "Take.done" q1q)
  (h70:MA K C_Take "fits" "Take.fits" q1p)
  (h71:MA K C_Take "own_part" "Deed.own_part" qE)
  (h72:MA K C_Take "told" "Deed.told" qS)
  (h73:IA K C_Take "Take.__init__" q1o)
  (h74:MA K C_Turn "can" "Deed.can" q00)
  (h75:MA K C_Turn "done" "Turn.done" q1n)
  (h76:MA K C_Turn "fits" "Turn.fits" q1m)
  (h77:MA K C_Turn "own_part" "Deed.own_part" qE)
  (h78:MA K C_Turn "told" "Deed.told" qS)
  (h79:IA K C_Turn "Turn.__init__" q1l)
  (h80:MA K C_Unlock "can" "Deed.can" q00)
  (h81:MA K C_Unlock "done" "Unlock.done" q0L)
  (h82:MA K C_Unlock "fits" "Unlock.fits" q0K)
  (h83:MA K C_Unlock "own_part" "Deed.own_part" qE)
  (h84:MA K C_Unlock "told" "Deed.told" qS)
  (h85:IA K C_Unlock "Unlock.__init__" q0J)
  (h86:CA K C_Deed "__init__" "Deed.__init__" q1z)
  (h87:CA K C_Gate "__init__" "Gate.__init__" q1w):
  ∃fd:FuncData,(∀(s:Shared) (v:Value),BindsTo s fd ⟨[v],[]⟩ [("_law_script",v)])/\∀base:Heap,K.In base->base.Ns mainGlobals mg->FnOk l.prog w K mg base CX0 13 fa fd ["_law_script"] (q8F K):=by
 obtain⟨al,ll,cl,kl⟩:=h37
 have e:=hfa.symm.trans (W.mg_of X G al)
 cases e
 have T:Txt mg (Cs.mk C_Gate C_Plain C_Door C_Need C_Bar C_Wade C_Float C_Deed C_Go C_Pull C_Take C_Turn C_Unlock):=T0.up (fun _ _ z=>W.mg_of X G z) fun _ z=>W.mg_none_of X G z
 exact⟨_,fun s v=> .of_eq rfl,fun base _ _=>ok_law (q2s ll cl kl) T TC (h1.laid X G (by walk_at "b1")) (h2.laid X G (by walk_at "b3")) (h3.laid X G (by walk_at "b2")) (h4.laid X G (by walk_at "b3")) (h5.laid X G (by walk_at "b1")) (h6.laid X G (by walk_at "b1")) (h7.laid X G (by walk_at "b2")) (h8.laid X G (by walk_at "b1")) (h9.laid X G (by walk_at "b2")) (h10.laid X G (by walk_at "b2")) (h11.laid X G (by walk_at "b2")) (h12.laid X G (by walk_at "b1")) (h13.laid X G (by walk_at "b1")) (h14.laid X G (by walk_at "b2")) (h15.laid X G (by walk_at "b2")) (h16.laid X G (by walk_at "b2")) (h17.laid X G (by walk_at "b3")) (h18.laid X G (by walk_at "b3")) (h19.laid X G (by walk_at "b3")) (h20.laid X G (by walk_at "b1")) (h21.laid X G (by walk_at "b1")) (h22.laid X G (by walk_at "b2")) (h23.laid X G (by walk_at "b1")) (h24.laid X G (by walk_at "b1")) (h25.laid X G (by walk_at "b2")) (h26.laid X G (by walk_at "b1")) (h27.laid X G (by walk_at "b1")) (h28.laid X G (by walk_at "b2")) (h29.laid X G (by walk_at "b1")) (h30.laid X G (by walk_at "b2")) (h31.laid X G (by walk_at "b1")) (h32.laid X G (by walk_at "b2")) (h33.laid X G (by walk_at "b1")) (h34.laid X G (by walk_at "b4")) (h35.laid X G (by walk_at "b3")) (h36.laid X G (by walk_at "b2")) (h38.laid (by walk_at "b5")) (h39.laid (by walk_at "b1")) (h40.laid T.c_Plain (by walk_at "b1")) (h41.laid (by walk_at "b5")) (h42.laid (by walk_at "b1")) (h43.laid T.c_Door (by walk_at "b2")) (h44.laid (by walk_at "b5")) (h45.laid (by walk_at "b1")) (h46.laid T.c_Need (by walk_at "b2")) (h47.laid (by walk_at "b5")) (h48.laid (by walk_at "b1")) (h49.laid T.c_Bar (by walk_at "b2")) (h50.laid (by walk_at "b5")) (h51.laid (by walk_at "b1")) (h52.laid T.c_Wade (by walk_at "b3")) (h53.laid (by walk_at "b5")) (h54.laid (by walk_at "b1")) (h55.laid T.c_Float (by walk_at "b2")) (h56.laid (by walk_at "b3")) (h57.laid (by walk_at "b3")) (h58.laid (by walk_at "b3")) (h59.laid (by walk_at "b2")) (h60.laid (by walk_at "b1")) (h61.laid T.c_Go (by walk_at "b2")) (h62.laid (by walk_at "b3")) (h63.laid (by walk_at "b3")) (h64.laid (by walk_at "b3")) (h65.laid (by walk_at "b2")) (h66.laid (by walk_at "b1")) (h67.laid T.c_Pull (by walk_at "b2")) (h68.laid (by walk_at "b3")) (h69.laid (by walk_at "b3")) (h70.laid (by walk_at "b3")) (h71.laid (by walk_at "b2")) (h72.laid (by walk_at "b1")) (h73.laid T.c_Take (by walk_at "b2")) (h74.laid (by walk_at "b3")) (h75.laid (by walk_at "b3")) (h76.laid (by walk_at "b3")) (h77.laid (by walk_at "b2")) (h78.laid (by walk_at "b1")) (h79.laid T.c_Turn (by walk_at "b2")) (h80.laid (by walk_at "b3")) (h81.laid (by walk_at "b3")) (h82.laid (by walk_at "b3")) (h83.laid (by walk_at "b2")) (h84.laid (by walk_at "b1")) (h85.laid T.c_Unlock (by walk_at "b2")) (h86.laid T.c_Deed (by walk_at "b4")) (h87.laid T.c_Gate (by walk_at "b3"))⟩
theorem walk {l:W.OpenLaw}{q:Program}{loose:List Str}{XP:(Str->Option Value)->Heap->Prop}{YP:World->Heap->Prop}{d:DefRec}{K:Params->W.Frag}(hn:l.most=some 63)(hdf:d.params.defaults=[])
  (hY:∀(w:World) (h:Heap),YP w h->(K w.params).In h)
  (F:∀(w:World) (mg:Str->Option Value) (fa:Addr) (h:Heap),(K w.params).In h->h.Ns mainGlobals mg->mg d.name=some (.ref fa)->
   ∃fd:FuncData,(∀(s:Shared) (u:Value),BindsTo s fd ⟨[u],[]⟩ [("_law_script",u)])/\∀base:Heap,(K w.params).In base->base.Ns mainGlobals mg->FnOk l.prog w (K w.params) mg base CX0 13 fa fd ["_law_script"] (q8F (K w.params))):
  W.WalkO q loose XP YP l.row.toRowW d [] (fun f vs=>PySem.call f vs):=
 L2.qa5 (n:=63) (k:=13) (x:="_law_script") (CX:=fun _=>CX0) (sp:=fun w=>q8F (K w.params)) hn (by decide) hdf ⟨rfl,by decide,by decide,rfl⟩ hY F (fun _ _ a ns hl _ hS=>⟨a,ns,rfl,hS,hl,fun _=>rfl⟩) fun _ _ _ _ _ z=>z
end Mine
open PySem PySem.W PyProof.Rows
set_option maxRecDepth 100000 in
set_option maxHeartbeats 0 in
theorem PySem.Challenge.cw_delve_k56_whole_good_dealings_holds : PySem.Challenge.rw_delve_k56_whole_good_dealings.Holds := by
 w_on;o_law;k_head;(case hw=>w_witness2)
 k_fill
 refine Mine.walk (l:=PySem.Challenge.rw_delve_k56_whole_good_dealings) rfl rfl (fun w h Y=>PySem.W.kIn_of Y) ?F
 case F=>
  intro w mg fa h KX G hmg
  refine' Mine.all_mk KX G hmg ?T ?C ?_ ?_ ?_ ?_ ?_ ?_ ?_ ?_ ?_ ?_ ?_ ?_ ?_ ?_ ?_ ?_ ?_ ?_ ?_ ?_ ?_ ?_ ?_ ?_ ?_ ?_ ?_ ?_ ?_ ?_ ?_ ?_ ?_ ?_ ?_ ?_ ?_ ?_ ?_ ?_ ?_ ?_ ?_ ?_ ?_ ?_ ?_ ?_ ?_ ?_ ?_ ?_ ?_ ?_ ?_ ?_ ?_ ?_ ?_ ?_ ?_ ?_ ?_ ?_ ?_ ?_ ?_ ?_ ?_ ?_ ?_ ?_ ?_ ?_ ?_ ?_ ?_ ?_ ?_ ?_ ?_ ?_ ?_ ?_ ?_ ?_ ?_
  case T=>constructor<;>(try dsimp only)<;>first|k_is|exact⟨_,by k_is⟩
  case C=>constructor<;>(try dsimp only)<;>first|exact⟨by k_is,by k_is,by k_is,by k_is⟩|(unfold L2.qF;k_is)
  all_goals try dsimp only
  all_goals first|exact Mine.GA.mk (by k_is) (by k_is) (by k_is) (by k_is)|exact Mine.MA.mk (by k_is) (by k_is) (by k_is) (by k_is) (by k_is)|exact Mine.IA.mk (by k_is) (by k_is) (by k_is) (by k_is) (by k_is) (by k_is) (by k_is)|exact Mine.CA.mk (by k_is) (by k_is) (by k_is) (by k_is) (by k_is) (by k_is)|exact Mine.DA.mk (by k_is) (by k_is) (by k_is) (by k_is) (by k_is)|exact⟨_,Mine.DA.mk (by k_is) (by k_is) (by k_is) (by k_is) (by k_is)⟩|exact⟨_,_,Mine.DA.mk (by k_is) (by k_is) (by k_is) (by k_is) (by k_is)⟩
