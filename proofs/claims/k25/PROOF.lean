import PyProof.Rows.All
import Wide.All
import OpenK.AllK
import Wide.FinOn
import Lean
import PyProof.EqAt
import PyProof.EqKinds
import PyProof.TupleCall
import PyProof.NeKinds
import KE.KDictSum
import PySem.SetOps
import PyProof.Rows.SetFrom
import PyProof.TupleKey
import PyProof.IsRules
import PyProof.WalksS
import PyProof.Walks
import PyProof.CollectWalk
import PyProof.Rows.SortShell
import PyProof.DictIter
import KE.KItemsList
import PySem.Challenge.RW_delve_k25_folds
namespace PySem.W.Fast
def tw11615542474612931877:=0
def tw1453439538730281268:=0
def tw6786715224064947543:=0
def tw2591305939099851211:=0
def tw5388595532767609756:=0
def tw15481787596741109396:=0
def tw11345438756289925663:=0
def tw10658886577159411982:=0
def tw5089524806378847169:=0
def tw2803533188193344978:=0
def tw16859531709256765036:=0
def tw12512937720771218536:=0
def tw15906082436551716288:=0
def tw12041683726377803835:=0
def tw11884029877896502687:=0
def tw7995155346789014888:=0
def tw9582980177706513785:=0
def tw9971090422576766079:=0
def tw11030943940954334999:=0
def tw17360433021949982479:=0
def tw7566106747066372869:=0
def tw10715997738698589440:=0
def tw4119786490514276203:=0
def tw14139177615294187903:=0
def tw8443123474815893906:=0
def tw4137449090080277718:=0
def tw11971304939609167690:=0
def tw16655833614920828087:=0
def tw17870714898001801875:=0
def tw3861728845763618136:=0
def tw12988824019204460000:=0
def tw5929313024294919301:=0
def tw1054143440514900349:=0
def tw1032759631178900523:=0
def tw5705189614190718828:=0
def tw17711388572544250717:=0
def tw10431413366829191313:=0
def tw16001376082095086614:=0
def tw6968531721379110918:=0
def tw13299163084503707203:=0
def tw13613751702790890883:=0
def tw12452617584620123244:=0
def tw13632012696359007055:=0
def tw11062449366244401677:=0
def tw12691481714975890825:=0
def tw13902897497884527833:=0
def tw13420550415295615754:=0
def tw18135465336362157014:=0
def tw10146658847324954277:=0
def tw159035624879282473:=0
def tw789304006178360304:=0
def tw3202856257034017882:=0
def tw2133714521280005939:=0
def tw6253197045753987414:=0
def tw15230918484653937597:=0
def tw11274146383111822554:=0
def tw12770685440664857003:=0
def tw5533479795040214029:=0
def tw15284929028237042948:=0
def tw8412273306697775988:=0
def tw18171419645970313586:=0
def tw516077334493217950:=0
def tw16878503247853727172:=0
def tw15658265973043309151:=0
def tw13555604700124349956:=0
def tw3119847243614405810:=0
def tw3096235573419061688:=0
def tw18415741411631555523:=0
def tw16696189411936213639:=0
def tw3552679765540224234:=0
def tw6045755741744405247:=0
def tw16416549690982393446:=0
def tw2470746303674979198:=0
def tw13656821571610868118:=0
def tw1252004227707240837:=0
def tw11704273965651522900:=0
def tw11106417385946671072:=0
def tw6740526682115408046:=0
def tw3073886487594507135:=0
def tw9013144321130985319:=0
def tw2546446873375459166:=0
def tw15246977334808731134:=0
def tw16900079811567254439:=0
def tw12231072580540995014:=0
def tw8795313795375653638:=0
def tw134124842108414670:=0
def tw10737355543586584908:=0
def tw18251470120241295553:=0
def tw13002095960393330625:=0
def tw16368233997446152580:=0
def tw844981298659649656:=0
def tw1215232020811372101:=0
def tw9140590933173168509:=0
def tw9797769527392350079:=0
def tw15752105152138600126:=0
def tw17050912435693735680:=0
def tw6920938298545270141:=0
def tw9485347760467410778:=0
def tw8899299299389655820:=0
def tw8918399662381729482:=0
def tw9333324440215753836:=0
def tw17401683788774159092:=0
def tw9635904121379891798:=0
def tw5083672487245404444:=0
def tw10121811717983643931:=0
def tw13210169513924143548:=0
def tw15424250756145205086:=0
def tw14139392519078174749:=0
def tw17053147061201810434:=0
def tw6235656679711983581:=0
def tw17352711996839882409:=0
def tw14299928849671417815:=0
def tw16067711560860837358:=0
def tw11759857224889396139:=0
def tw10398171533589831589:=0
def tw1977786546785636045:=0
def tw12812209963807425294:=0
def tw8304759865013738880:=0
def tw8409270440470726592:=0
def tw3666893847121209222:=0
def tw2322547172956687431:=0
def tw6466204184410437104:=0
def tw7970491404898755952:=0
def tw12951008584181277385:=0
def tw4941075483067020050:=0
def tw11384093809335221142:=0
def tw7361922129424084321:=0
def tw3715362753672583920:=0
def tw15445917688272447451:=0
def tw5906802010322394120:=0
def tw9885578903745134551:=0
def tw16183166634461607185:=0
def tw3474525515483709341:=0
def tw16348233620267303414:=0
def tw9942232152749223930:=0
def tw6665252516697042889:=0
def tw8974412687468730511:=0
def tw3729926124270148486:=0
def tw3516257700427786360:=0
def tw13946667998100330248:=0
def tw11981889721580147571:=0
def tw15380872259591178328:=0
def tw9722622946763390083:=0
def tw14762179103233924531:=0
def tw2782393714305379519:=0
def tw13535109101329291321:=0
def tw9409871404166541609:=0
def tw826496136875890330:=0
def tw13578984891950432710:=0
def tw14764986614131809249:=0
def tw5309652046804101627:=0
def tw3245368568511997792:=0
def tw15174643938499283691:=0
def tw3326620506434904734:=0
def tw13679023222775500204:=0
def tw5404166761878405163:=0
def tw10383653319822504461:=0
def tw1729745362765474545:=0
def tw16213204167483318070:=0
def tw16805361310299200302:=0
def tw17137587717804448987:=0
def tw4002904540972443313:=0
def tw6096276117257727794:=0
def tw603852449675791696:=0
def tw16298357680382378:=0
def tw13595105091621486419:=0
def tw14399458589683191599:=0
def tw954157678786260958:=0
def tw51936663976395766:=0
def tw8774870176290276292:=0
def tw18043247582630826071:=0
def tw116466188261740784:=0
def tw7383603040319145679:=0
def tw17064760148706606461:=0
def tw11558906728643355768:=0
def tw15883773616454797258:=0
def tw10804247071053843446:=0
def tw13247448177903755561:=0
def tw3685805614522415011:=0
def tw1000817354820016884:=0
def tw15697627772110600802:=0
def tw3159952369875841768:=0
def tw12286077288557988489:=0
def tw8207542698790220269:=0
def tw6113819643887063627:=0
def tw14992802873034930328:=0
def tw14600372110767706398:=0
def tw9954762540298453428:=0
def tw12119689793697503597:=0
def tw4182353887716919608:=0
def tw17763806075756665785:=0
def tw2546558376445158959:=0
def tw4314799523725208561:=0
def tw5720083787763156726:=0
def tw14345801812036712430:=0
def tw6410389335648584766:=0
def tw14800084434665450082:=0
def tw13470873004468934637:=0
def tw2194716780647852872:=0
def tw9663963228866113303:=0
def tw15260776100691449001:=0
def tw16566715639960768600:=0
def tw15976328190697362045:=0
def tw10360634455645563238:=0
def tw5790193840223735593:=0
def tw6902695227090427576:=0
def tw8917630166659933928:=0
def tw12533935324345689112:=0
def tw9830611058761972768:=0
def tw18435910078188454367:=0
def tw11323420797624755928:=0
def tw1361875932254755771:=0
def tw15129253090128042369:=0
def tw1894135855625682922:=0
def tw605485991284183757:=0
def tw13311494029677655743:=0
def tw11850597885386596315:=0
def tw15029658489115538772:=0
def tw11933821635643727303:=0
def tw2509593904419872881:=0
def tw6320121075967500892:=0
def tw10414937044063150166:=0
def tw9425563663088477534:=0
def tw10610219722599718508:=0
def tw16362103456007022589:=0
def tw5665657410541787157:=0
def tw272805815891287823:=0
def tw7594830522561960513:=0
def tw3912361484578269455:=0
def tw4883229418277280305:=0
def tw6571627145792696160:=0
def tw2388716349355927850:=0
def tw15721732514859895515:=0
def tw8398333016493412184:=0
def tw6065531230615145379:=0
def tw17713742696469632161:=0
def tw9224216012806514223:=0
def tw5891431563909753358:=0
def tw18287898666192633922:=0
def tw1590195467670927329:=0
def tw17833809536886086809:=0
def tw11700714254200197580:=0
def tw712388208528922384:=0
def tw12256871703857430407:=0
def tw18348944529786506805:=0
def tw1852297343967691023:=0
def tw12127144980863965217:=0
def tw18362668694393058649:=0
def tw17003162028668596903:=0
def tw3932888597872000096:=0
def tw4973351899291747307:=0
def tw2265930629653071068:=0
def tw4074639081896417801:=0
def tw9606348606719376472:=0
def tw4356632892649264244:=0
def tw5786022549607322445:=0
def tw17481541523317740682:=0
def tw3955946915221000048:=0
def tw27505334732386520:=0
def tw15507135750701758749:=0
def tw818387642432135429:=0
def tw4792981985432285858:=0
def tw6451988059644637408:=0
def tw16071806802465328602:=0
def tw1956245195050478966:=0
def tw12729787172529258118:=0
def tw4986317254531350320:=0
def tw6734077392377319168:=0
def tw11170957569242200671:=0
def tw13522619138761233886:=0
def tw16242961760294979636:=0
def tw6930816692868298093:=0
def tw6670788330898547385:=0
def tw12551675888895004336:=0
def tw447070298486941404:=0
def tw8996336110569947754:=0
def tw359637696274539591:=0
def tw9223656931013945853:=0
def tw7130501645690964495:=0
def tw10529026496207574747:=0
def tw5249516467734326260:=0
def tw6928648656451407196:=0
def tw7742800028719388358:=0
def tw14560625183038548879:=0
def tw8331018392411612347:=0
def tw6290526232992044851:=0
def tw13186919257201164925:=0
def tw14104934776628713326:=0
def tw11735176502369224373:=0
def tw2563402876233636089:=0
def tw645409203184982173:=0
def tw17388506599503225104:=0
def tw15726006420625864455:=0
def tw7957304067655003758:=0
def tw15141181124516954445:=0
def tw337045932612569217:=0
def tw4481900164129118762:=0
def tw7665246737607460578:=0
def tw17496188825705912920:=0
def tw14797014483315966890:=0
def tw2835934923153878929:=0
def tw6615523812633347565:=0
def tw15669866553550452044:=0
def tw611801916881862881:=0
def tw17930990995179398665:=0
def tw7140337746127180901:=0
def tw12564206459534406879:=0
def tw12694228052284688688:=0
def tw3251644832510903718:=0
def tw10223416308793479671:=0
def tw15519259925662092066:=0
def tw6648202128008281169:=0
def tw5248067785203067038:=0
def tw4454411131753486854:=0
def tw11378480668546023496:=0
def tw12574714021880681807:=0
def tw6490408452791367693:=0
def tw5230270210430067016:=0
def tw11487009160071326093:=0
def tw11904671782653036934:=0
def tw18182887745022555352:=0
def tw15018522767561013890:=0
def tw3150861714152262567:=0
def tw17111293317645559012:=0
def tw1289396043472074907:=0
def tw1369807507052766831:=0
def tw112669503333162875:=0
def tw14376233122254697515:=0
def tw16521778104906909280:=0
def tw4282299078361957972:=0
def tw318362506192965855:=0
def tw12672336946141229922:=0
def tw9933643681804465042:=0
def tw11603679317509850936:=0
def tw15321934966271286062:=0
def tw3320332901457690010:=0
def tw13139376445728529859:=0
def tw11710909846458270388:=0
def tw12276708835360861769:=0
def tw12281044688118516304:=0
def tw484711114090588441:=0
def tw15267947114140169381:=0
def tw11178819917873524447:=0
def tw3293190956358575095:=0
def tw13524125282600385863:=0
def tw12358460146836270685:=0
def tw13118033375710303966:=0
def tw8666249125581425546:=0
def tw924677422301142342:=0
def tw10089999230711281617:=0
def tw6988050810999033657:=0
def tw2156094278153292760:=0
def tw8872946693795487361:=0
def tw12125722539920371555:=0
def tw15809765953610826828:=0
def tw1969453327123040333:=0
def tw9014261727101074341:=0
def tw599577192398856352:=0
def tw4679809796872945940:=0
def tw13988708998289557204:=0
def tw8001665221860300632:=0
def tw10363486376771671468:=0
def tw12494594270491533359:=0
def tw3024036805689221408:=0
def tw3263032677723541442:=0
def tw18335691678441816272:=0
def tw5693948210553533441:=0
def tw581526287806324875:=0
def tw6146438737216734666:=0
def tw15417194092745891445:=0
def tw12159293167805878850:=0
def tw10442541895273237361:=0
def tw7545069997506445004:=0
def tw16573840336567245561:=0
def tw1201469166714632396:=0
def tw13299153662457426963:=0
def tw16138749301135597404:=0
def tw17136223429488648172:=0
def tw10384625340335267121:=0
def tw14083215358159154560:=0
def tw16939102284769049632:=0
def tw2320640277427156588:=0
def tw6867210149892806061:=0
def tw14917359491857992390:=0
def tw15817250560732369971:=0
def tw18092044497167377886:=0
def tw795310097004450232:=0
def tw18438323875637017891:=0
def tw538018992159587192:=0
def tw13260224772325454633:=0
def tw18348434718853774305:=0
def tw11870122253398228219:=0
def tw4769081391846054114:=0
def tw3727530568498490871:=0
def tw9836401658276096295:=0
def tw16239868437263382387:=0
def tw5956446963703014343:=0
def tw4816382618450074993:=0
def tw9164407040181209252:=0
def tw728628656684527944:=0
def tw14776655575737025821:=0
def tw2427284463044616909:=0
def tw12976697411438424288:=0
def tw2490497638858158995:=0
def tw5232576152266946541:=0
def tw9047523235647732902:=0
def tw12542209514521357136:=0
def tw17309752746680144516:=0
def tw6075333944964370100:=0
def tw17311704810705285841:=0
def tw17493604137599405109:=0
def tw8341628382805404689:=0
def tw1186342129998289419:=0
def tw17244912716380443730:=0
def tw4275915652483499391:=0
def tw10099901195529689031:=0
def tw2052574823140084853:=0
def tw11953418830212721795:=0
def tw4041522473318142074:=0
def tw3040028338436433764:=0
def tw1613398231781242741:=0
def tw8336527044511576317:=0
def tw14238655619004059123:=0
def tw8874000448853834281:=0
def tw3156251693600618383:=0
def tw2159733406198002973:=0
def tw10784830140852018536:=0
def tw17662679720268781950:=0
def tw16671163528464679150:=0
def tw11526146860201681334:=0
def tw6300145188905984228:=0
def tw3530653777768767001:=0
def tw15273461138886173711:=0
def tw1763537031112416342:=0
def tw16971639982197428272:=0
def tw16179018601640961715:=0
def tw18055479791036286773:=0
def tw9559726276055206770:=0
def tw1090009108574999265:=0
def tw4673366970877812934:=0
def tw13458867630207731907:=0
def tw17427505445620315444:=0
def tw7998270640812050448:=0
def tw1567140948167874862:=0
def tw2829550360915897849:=0
def tw1420016284030503918:=0
def tw11413008025869856367:=0
def tw13933890699797167736:=0
def tw11692064367075540927:=0
def tw17033997895254000405:=0
def tw923187142480976445:=0
def tw12378919887812048710:=0
def tw9184841069387538982:=0
def tw441071511804752452:=0
def tw4907221016925680945:=0
def tw15287976746899112191:=0
def tw17176779718535710765:=0
def tw112063886556669951:=0
def tw2106333277174010793:=0
def tw8973236504127421575:=0
def tw12105858573475972991:=0
def tw1460607591394433470:=0
def tw7014909270664394817:=0
def tw7832350806311259919:=0
def tw17604521894583310481:=0
def tw10818152047009403071:=0
def tw6614767105163035339:=0
def tw18362680223882145335:=0
def tw14260763155833040716:=0
def tw5099991468736901837:=0
def tw17160493487351239863:=0
def tw818069585725705337:=0
def tw8035107202677490638:=0
def tw17290265214040055577:=0
def tw16438485911721190956:=0
def tw4129212759942562512:=0
def tw14883359078851202968:=0
def tw16754162066200724399:=0
def tw7049085436854391507:=0
def tw10022867132176615644:=0
def tw11396123531994676574:=0
def tw5155101898982657341:=0
def tw15204501853244933827:=0
def tw18306385995032184886:=0
def tw14977751099611428824:=0
def tw9083655238703377122:=0
def tw15613748055215857474:=0
def tw2004160617235555004:=0
def tw7524064861050281494:=0
def tw8707356891118611292:=0
def tw8636617464022712115:=0
def tw4996475664846502881:=0
def tw18116738120612167448:=0
def tw9047011081563882028:=0
def tw14035226595020633949:=0
def tw9498904893350131990:=0
def tw1069184363312878188:=0
def tw14875006780901945459:=0
def tw9859633829010556709:=0
def tw13603892363168699585:=0
def tw14876748476523493498:=0
def tw6067210703847236368:=0
def tw18056919355680332029:=0
def tw9921804273369745517:=0
def tw1914365583437442570:=0
def tw980950664480488079:=0
def tw441723869670995377:=0
def tw15728166447631485737:=0
def tw14949646803200992152:=0
def tw10719642253071800403:=0
def tw15418708959087531373:=0
def tw1967932134345261398:=0
def tw4607952099033284261:=0
def tw4991672510876513192:=0
def tw6919243572145339014:=0
def tw16001512696589087304:=0
def tw6806877571722018466:=0
def tw11895065875298827934:=0
def tw3903122404438729018:=0
def tw7481142854596575419:=0
def tw2502182705234324315:=0
def tw14847729973832503938:=0
def tw17359156107271792083:=0
def tw14812065561605185383:=0
def tw8851091681854596646:=0
def tw17612149575871505697:=0
def tw15342395408443122762:=0
def tw5656511708871744560:=0
def tw3090302373945550422:=0
def tw16267577749906508760:=0
def tw13611091083004889221:=0
def tw14135582730608407747:=0
def tw17801188106788732372:=0
def tw9984289787256863080:=0
def tw11761417693510124247:=0
def tw891142987144784341:=0
def tw8147931008083651815:=0
def tw12649025245744655833:=0
def tw2700236072756637676:=0
def tw16185107707901715034:=0
def tw5914988079958874694:=0
def tw17917698908270537876:=0
def tw15114135588659094038:=0
def tw467685834343338087:=0
def tw15474208281267515174:=0
def tw5906431919978657725:=0
def tw7512092384185089642:=0
def tw12356695837832182069:=0
def tw16477093675176422090:=0
def tw7416030709998448417:=0
def tw17814072346437910411:=0
def tw12412438155690104255:=0
def tw14072522197168333040:=0
def tw14156332538396343031:=0
def tw5370261740361575057:=0
def tw15824205777099083405:=0
def tw8260684213439190233:=0
def tw5358840861334065707:=0
def tw1973626720747815180:=0
def tw11978356630856880248:=0
def tw7476819187012682723:=0
def tw14241718952678291200:=0
def tw12873594106605460584:=0
def tw8544567557606788578:=0
def tw12881557458309335273:=0
def tw7205410440595802443:=0
def tw17983371251876278459:=0
def tw18309542827750364865:=0
def tw10487739557024617771:=0
def tw6479210539646364034:=0
def tw10449742278326746054:=0
def tw8661291105279376100:=0
def tw4938519062646668012:=0
def tw9899659427632664648:=0
def tw173580052643019576:=0
def tw5528226511380025305:=0
def tw5555731041474819557:=0
def tw12164452127813551513:=0
def tw9051932967894418479:=0
def tw9450972594503877082:=0
def tw3902354593357976583:=0
def tw6852877651854521025:=0
def tw12926220352695191840:=0
def tw5036811181193022544:=0
def tw1693935671620321507:=0
def tw18179388773460780116:=0
def tw17662086409467250654:=0
def tw12443982491635163188:=0
def tw11141157873667344225:=0
def tw16807104144736682354:=0
def tw1675259122788078117:=0
def tw17865670992049157468:=0
def tw12597062060894748120:=0
def tw15836676923867572731:=0
def tw12265388988152673755:=0
def tw6956745752200932980:=0
def tw16283419596437534304:=0
def tw13353488007039367947:=0
def tw12246323999903010063:=0
def tw13708733642650058044:=0
def tw8839205240648538837:=0
def tw18150002698497350734:=0
def tw12190547025278116052:=0
def tw15912264880242994593:=0
def tw3153524510523635341:=0
def tw361281617207647297:=0
def tw1131560075338069244:=0
def tw14433471489045672325:=0
def tw8936376636380338538:=0
def tw1210984685158497179:=0
def tw2650057045389829199:=0
def tw10615488114667582138:=0
def tw15214365104566906579:=0
def tw1383267352937333656:=0
def tw7341732351703790347:=0
def tw4092930921032989045:=0
def tw16024740684173954998:=0
def tw229946328299180024:=0
def tw3204391699776829026:=0
def tw9283013198353430701:=0
def tw12306722459018556846:=0
def tw15637103486356195505:=0
def tw15494129331383343833:=0
def tw13355847420991509235:=0
def tw6034298253880892427:=0
def tw13344430801929607457:=0
def tw1704232124169471431:=0
def tw14550288845032231705:=0
def tw4309784471547415693:=0
def tw14978452375481650640:=0
def tw8192499530339092073:=0
def tw16428326904049754975:=0
def tw9291599265086479981:=0
def tw11646070947851100467:=0
def tw12450181313225379216:=0
def tw253631794629713642:=0
def tw1098615719690043677:=0
def tw8212364478346494424:=0
def tw12160236555613712675:=0
def tw10507820991485841035:=0
def tw7300090435526968964:=0
def tw13826479521057196408:=0
def tw3207010718476977668:=0
def tw4301536001712427721:=0
def tw14586704478951328763:=0
def tw17065588185440833589:=0
def tw3443798400640728328:=0
def tw7840256896411862070:=0
def tw2814497910145072593:=0
def tw4031166881754946489:=0
def tw1392869675296286764:=0
def tw17863849855859276956:=0
def tw11122345767589856644:=0
def tw6789065683198941638:=0
def tw14151633598762906838:=0
def tw6720270793179310165:=0
def tw14823000179072031021:=0
def tw4617603708431892499:=0
def tw3132346210029044396:=0
def tw2132086285919000563:=0
def tw10609882822844318984:=0
def tw4558149236733843447:=0
def tw8467165968462225631:=0
def tw10517391882375984794:=0
def tw17477505007379107607:=0
def tw2650882905380562996:=0
def tw4921276755125906545:=0
end PySem.W.Fast
set_option compiler.extract_closed false
set_option Elab.async false
set_option linter.all false
set_option maxRecDepth 100000
namespace L2
open PySem PySem.Spec PyProof.Rows
abbrev Key:=Sum Int Str
def q7F:Key->Value->Bool
 | .inl k,v=>Value.isInt k v
 | .inr x,v=>Value.isStrOf x v
def keyH (w:World):Key->Int
 | .inl k=>hashInt k
 | .inr x=>hashStr w x
theorem qX:∀{k:Key} {v:Value},q7F k v=true->(∃i t,k=Sum.inl i/\v=Value.int i t)\/(∃x t,k=Sum.inr x/\v=Value.str x t)
 | .inl i,v,h=>by
  obtain⟨t,e⟩:=Value.isInt_shape (k:=i) (v:=v) h
  exact .inl ⟨i,t,rfl,e⟩
 | .inr x,v,h=>by
  obtain⟨t,e⟩:=Value.isStrOf_shape (x:=x) (v:=v) h
  exact .inr ⟨x,t,rfl,e⟩
theorem q8U (i:Int)(t:Tok):q7F (.inl i) (.int i t)=true:=by simp[q7F,Value.isInt]
theorem q8T (x:Str)(t:Tok):q7F (.inr x) (.str x t)=true:=by simp[q7F,Value.isStrOf]
theorem key_ll (a b:Int):decide ((Sum.inl a:Key)=Sum.inl b)=(a==b):=by
 by_cases e:a=b
 ·subst e;simp
 ·have h:¬(Sum.inl a:Key)=Sum.inl b:=fun q=>e (Sum.inl.inj q)
  rw[decide_eq_false h]
  exact(beq_eq_false_iff_ne.mpr e).symm
theorem key_rr (a b:Str):decide ((Sum.inr a:Key)=Sum.inr b)=decide (a=b):=by
 by_cases e:a=b
 ·subst e;simp
 ·have h:¬(Sum.inr a:Key)=Sum.inr b:=fun q=>e (Sum.inr.inj q)
  rw[decide_eq_false h,decide_eq_false e]
theorem key_lr (a:Int)(b:Str):decide ((Sum.inl a:Key)=Sum.inr b)=false:=decide_eq_false (fun q=>nomatch q)
theorem key_rl (a:Str)(b:Int):decide ((Sum.inr a:Key)=Sum.inl b)=false:=decide_eq_false (fun q=>nomatch q)
def q0r (prog:Program)(w:World):PySem.KeyKind prog w Key where
 is:=q7F
 hash:=keyH w
 inj:=fun v a b ha hb=>by
  rcases qX ha with⟨i,t,rfl,rfl⟩|⟨x,t,rfl,rfl⟩
  ·rcases qX hb with⟨j,u,rfl,e⟩|⟨y,u,rfl,e⟩
   ·injection e with e1 _;rw[e1]
   ·exact nomatch e
  ·rcases qX hb with⟨j,u,rfl,e⟩|⟨y,u,rfl,e⟩
   ·exact nomatch e
   ·injection e with e1 _;rw[e1]
 byValue:=fun k v h=>by
  rcases qX h with⟨i,t,rfl,rfl⟩|⟨x,t,rfl,rfl⟩<;>rfl
 pyHash:=fun hv h=>by
  rcases qX hv with⟨i,t,rfl,rfl⟩|⟨x,t,rfl,rfl⟩
  ·exact wpAny_pyHash_int h
  ·exact wpAny_pyHash_str h
 eqBool:=fun hu hv h=>by
  rcases qX hu with⟨i,t,rfl,rfl⟩|⟨x,t,rfl,rfl⟩
  ·rcases qX hv with⟨j,u,rfl,rfl⟩|⟨y,u,rfl,rfl⟩
   ·rw [key_ll] at h;exact wpAny_eqBool_int h
   ·rw [key_lr] at h;exact SeqAt.EqAt.int_str i t y u _ _ _ _ h
  ·rcases qX hv with⟨j,u,rfl,rfl⟩|⟨y,u,rfl,rfl⟩
   ·rw [key_rl] at h;exact SeqAt.EqAt.str_int x t j u _ _ _ _ h
   ·rw [key_rr] at h;exact wpAny_eqBool_str h
 «strs» :=fun k x t v h=>by
  rcases qX h with⟨i,u,rfl,e⟩|⟨y,u,rfl,e⟩
  ·exact nomatch e
  ·injection e with e1 _
   subst e1
   cases v<;>rfl
theorem q6h (prog:Program)(w:World)(i:Int)(t:Tok):(q0r prog w).is (.inl i) (.int i t)=true:=q8U i t
theorem q6g (prog:Program)(w:World)(x:Str)(t:Tok):(q0r prog w).is (.inr x) (.str x t)=true:=q8T x t
end L2
namespace L2
open PySem PySem.Spec PyProof.Rows
inductive V where
 |non|bl (b:Bool)|int (i:Int)|str (x:Str)|byt (b:Array UInt8)|flt (b:UInt64)|ref (a:Addr)|ty (n:String)
 deriving DecidableEq
def RelV:V->Value->Prop
 | .non,u=>u=Value.none
 | .bl b,u=>u=Value.bool b
 | .int i,u=>∃t,u=Value.int i t
 | .str x,u=>∃t,u=Value.str x t
 | .byt b,u=>∃t,u=Value.bytes b t
 | .flt b,u=>∃t,u=Value.float b t
 | .ref a,u=>u=Value.ref a
 | .ty n,u=>u=Value.type n
abbrev Vals:List V->List Value->Prop:=Paired RelV
theorem Vals.length {xs:List V}{us:List Value}(r:Vals xs us):xs.length=us.length:=Paired.length r
theorem Vals.get:∀{xs:List V} {us:List Value} {i:Nat} {x:V},Vals xs us->xs[i]? =some x->∃u,us[i]? =some u/\RelV x u
 |_,_,_,_,.nil,e=>by simp at e
 |_,_,0,_,.cons r _,e=>by simp at e;subst e;exact⟨_,rfl,r⟩
 |_,_,i+1,x,.cons _ t,e=>by
  obtain⟨u,h1,h2⟩:=Vals.get (i:=i) (x:=x) t (by simpa using e)
  exact⟨u,by simpa using h1,h2⟩
theorem Vals.set {x:V}{u:Value}(r:RelV x u):∀{xs:List V} {us:List Value} (i:Nat),Vals xs us->Vals (xs.set i x) (us.set i u)
 |_,_,_,.nil=> .nil
 |_,_,0,.cons _ t=> .cons r t
 |_,_,i+1,.cons q t=> .cons q (Vals.set r i t)
theorem Vals.append:∀{xs ys:List V} {us ws:List Value},Vals xs us->Vals ys ws->Vals (xs++ys) (us++ws)
 |_,_,_,_,.nil,s=>s
 |_,_,_,_,.cons r t,s=> .cons r (Vals.append t s)
theorem Vals.take:∀{xs:List V} {us:List Value} (n:Nat),Vals xs us->Vals (xs.take n) (us.take n)
 |_,_,0,_=> .nil
 |_,_,_+1,.nil=> .nil
 |_,_,n+1,.cons r t=> .cons r (Vals.take n t)
theorem Vals.drop:∀{xs:List V} {us:List Value} (n:Nat),Vals xs us->Vals (xs.drop n) (us.drop n)
 |_,_,0,r=>r
 |_,_,_+1,.nil=> .nil
 |_,_,n+1,.cons _ t=>Vals.drop n t
def RelO:Option V->Option Value->Prop
 |some v,some u=>RelV v u
 |none,none=>True
 |_,_=>False
def KV {κ:Type}:List (κ×V)->List (κ×Value)->Prop:=Paired fun(p:κ×V) (q:κ×Value)=>p.1=q.1/\RelV p.2 q.2
def kV:Key->V
 | .inl i=> .int i
 | .inr x=> .str x
inductive HO where
 /-- a list -/
 |lst (xs:List V)
 /-- a tuple (never changes) -/
 |tup (xs:List V)
 /-- a dict whose keys are ints and texts;one whose keys are tuples of ints and texts (the empty one is both) -/
 |dK (kvs:List (Key×V))|dT (kvs:List (List Key×V))
 /-- a set of ints: its members,its size -/
 |set (S:Int->Bool) (n:Nat)
 /-- an instance of the class at C,its dict at dx,its attributes -/
 |ins (C dx:Addr) (fs:List (Str×V))
 /-- the dict of the instance at x -/
 |own (x:Addr)
 /-- the dict of an exception -/
 |xd (fs:List (Str×V))
 /-- a bound method,f of x -/
 |met (f x:Addr)
 /-- a range object lo,lo+1,.. below hi -/
 |rng (lo hi:Int)
 /-- a thing that is known to the object (the script;a dict while a loop walks it):read,never written while it is so -/
 |frz (o:Obj) (u:HO)
 /-- a code object's table -/
 |tbl (ps:Array Value)
 /-- any other thing,by what is true of its one object (a def of one's own: SetO a S n:=HO.ext fun h=> ..) -/
 |ext (φ:Heap->Prop)
abbrev Hp:=Addr->Option HO
def upd (H:Hp)(a:Addr)(o:HO):Hp:=fun b=>if b=a then some o else H b
theorem qb {H:Hp}{a:Addr}{o:HO}:upd H a o a=some o:=by unfold upd;rw[if_pos rfl]
theorem qi {H:Hp}{a b:Addr}{o:HO}(h:b≠a):upd H a o b=H b:=by unfold upd;rw[if_neg h]
theorem q1G {H:Hp}{a:Addr}{o u:HO}:upd (upd H a o) a u=upd H a u:=by
 funext b;unfold upd;split<;>rfl
theorem q2U {H:Hp}{a b:Addr}{o u:HO}(h:H a=some o)(h':H b=some u)(d:o≠u):a≠b:=by
 intro e;subst e;rw[h] at h';exact d (Option.some.inj h')
theorem qj {H:Hp}{a b:Addr}{o:HO}(h:H a=some o)(h':H b=none):a≠b:=by
 intro e;subst e;rw[h] at h';cases h'
section
variable (P:Program)(w:World)
def q0a (H:Hp)(h:Heap)(a:Addr):HO->Prop
 | .lst xs=>xs.length<=sizeLine/\∃(its:List Value) (n:Nat),Vals xs its/\h.get? a=some {cls:= .type "list",data:= .seq its.toArray n}
 | .tup xs=>xs.length<=sizeLine/\∃its:List Value,Vals xs its/\IsTup h a its.toArray
 | .dK kvs=>kvs.length<=sizeLine/\(a==sysModules)=false/\∃vs,KV kvs vs/\h.DictOf (q0r P w) a vs
 | .dT kvs=>kvs.length<=sizeLine/\(a==sysModules)=false/\∃xs:List (List Key×Addr×Value),
   Paired (fun(p:List Key×V) (q:List Key×Addr×Value)=>p.1=q.1/\H q.2.1=some (.tup (p.1.map kV))/\RelV p.2 q.2.2) kvs xs/\
   ∃o es ep,h.get? a=some o/\o.ExactDict/\o.data= .dict es ep/\es.toList=xs.map (entryOfKey (tupleKind (q0r P w)))/\(xs.map (·.1)).Nodup
 | .set S n=>h.SetOf (intKind P w) a S n
 | .ins C dx fs=>H dx=some (.own a)/\fs.length<=1000/\dx≠a/\h.get? a=some (PySem.W.instObj C dx)/\
   ∃mA,h.Ns1 dx mA/\(∀f,RelO (fs.lookup f) (mA f))/\PySem.Within mA (fs.map (·.1))
 | .own _=>∃o,h.get? a=some o
 | .xd fs=>∃mA,h.Ns1 a mA/\∀f,RelO (fs.lookup f) (mA f)
 | .rng lo hi=>∃t u v,h.get? a=some {cls:= .type "range",data:= .fields #[.int lo t,.int hi u,.int 1 v]}
 | .frz o u=>h.get? a=some o/\q0a H h a u
 | .tbl ps=>h.get? a=some {cls:= .none,data:= .fields ps}
 | .met f x=>h.get? a=some (PySem.W.methodObj (.ref f) (.ref x))
 | .ext φ=>φ h/\(∃o,h.get? a=some o)/\∀h1 h2:Heap,φ h1->(∀o,h1.get? a=some o->h2.get? a=some o)->φ h2
def HOk (H:Hp)(h:Heap):Prop:=∀a o,H a=some o->q0a P w H h a o
end
section
variable {P:Program}{w:World}{H H':Hp}{h h':Heap}{a:Addr}{o:HO}
theorem q0a.lt (x:q0a P w H h a o):a<h.objs.size:=by
 cases o with
 |lst xs=>obtain⟨_,_,_,_,e⟩:=x;exact Heap.lt_size e
 |tup xs=>obtain⟨_,_,_,p⟩:=x;exact p.lt
 |dK kvs=>obtain⟨_,_,_,_,o,_,_,e,_⟩:=x;exact Heap.lt_size e
 |dT kvs=>obtain⟨_,_,_,_,o,_,_,e,_⟩:=x;exact Heap.lt_size e
 |set S n=>obtain⟨o,_,_,_,e,_⟩:=x;exact Heap.lt_size e
 |ins C dx fs=>obtain⟨_,_,_,e,_⟩:=x;exact Heap.lt_size e
 |own y=>obtain⟨_,e⟩:=x;exact Heap.lt_size e
 |xd fs=>obtain⟨_,⟨_,_,_,e,_⟩,_⟩:=x;exact Heap.lt_size e
 |rng lo hi=>obtain⟨_,_,_,e⟩:=x;exact Heap.lt_size e
 |frz ob u=>obtain⟨e,_⟩:=x;exact Heap.lt_size e
 |tbl ps=>exact Heap.lt_size (show h.get? a=some _ from x)
 |met f y=>exact Heap.lt_size (show h.get? a=some _ from x)
 |ext φ=>obtain⟨_,⟨_,e⟩,_⟩:=x;exact Heap.lt_size e
theorem Paired.mapP {α β:Type}{F G:α->β->Prop}:∀{l₁:List α} {l₂:List β},Paired F l₁ l₂->(∀a b,F a b->G a b)->Paired G l₁ l₂
 |_,_,.nil,_=> .nil
 |_,_,.cons r t,f=> .cons (f _ _ r) (Paired.mapP t f)
theorem q0a.stay (x:q0a P w H h a o)(k:∀b u,(b=a\/H b=some (.own a))->h.get? b=some u->h'.get? b=some u)
  (ho:∀b,H b=some (.own a)->H' b=some (.own a))(ht:∀b xs,H b=some (.tup xs)->H' b=some (.tup xs)):q0a P w H' h' a o:=by
 induction o with
 |lst xs=>obtain⟨z,its,n,r,e⟩:=x;exact⟨z,its,n,r,k _ _ (.inl rfl) e⟩
 |tup xs=>obtain⟨z,its,r,ob,e,c⟩:=x;exact⟨z,its,r,ob,k _ _ (.inl rfl) e,c⟩
 |dK kvs=>obtain⟨z,y,vs,r,ob,es,ep,e,c⟩:=x;exact⟨z,y,vs,r,ob,es,ep,k _ _ (.inl rfl) e,c⟩
 |dT kvs=>
  obtain⟨z,y,xs,r,ob,es,ep,e,c⟩:=x
  exact⟨z,y,xs,Paired.mapP r fun p q z=>⟨z.1,ht _ _ z.2.1,z.2.2⟩,ob,es,ep,k _ _ (.inl rfl) e,c⟩
 |set S n=>obtain⟨ob,es,ep,t,e,c⟩:=x;exact⟨ob,es,ep,t,k _ _ (.inl rfl) e,c⟩
 |ins C dx fs=>
  obtain⟨d,z,ne,e,mA,⟨od,es,ep,e2,c⟩,r⟩:=x
  exact⟨ho _ d,z,ne,k _ _ (.inl rfl) e,mA,⟨od,es,ep,k _ _ (.inr d) e2,c⟩,r⟩
 |own y=>obtain⟨ob,e⟩:=x;exact⟨ob,k _ _ (.inl rfl) e⟩
 |xd fs=>obtain⟨mA,⟨od,es,ep,e,c⟩,r⟩:=x;exact⟨mA,⟨od,es,ep,k _ _ (.inl rfl) e,c⟩,r⟩
 |rng lo hi=>obtain⟨t,u,v,e⟩:=x;exact⟨t,u,v,k _ _ (.inl rfl) e⟩
 |frz ob u ih=>obtain⟨e,q⟩:=x;exact⟨k _ _ (.inl rfl) e,ih q⟩
 |tbl ps=>
  have e:h.get? a=some {cls:= .none,data:= .fields ps}:=x
  show h'.get? a=some {cls:= .none,data:= .fields ps}
  exact k a _ (.inl rfl) e
 |met f y=>
  have e:h.get? a=some (PySem.W.methodObj (.ref f) (.ref y)):=x
  show h'.get? a=some (PySem.W.methodObj (.ref f) (.ref y))
  exact k a _ (.inl rfl) e
 |ext φ=>obtain⟨p,⟨o,e⟩,st⟩:=x;exact⟨st _ _ p fun o q=>k _ _ (.inl rfl) q,⟨o,k _ _ (.inl rfl) e⟩,st⟩
theorem HOk.lt (x:HOk P w H h)(e:H a=some o):a<h.objs.size:=(x a o e).lt
theorem HOk.fresh (x:HOk P w H h)(e:h.objs.size<=a):H a=none:=by
 cases q:H a with
 |none=>rfl
 |some u=>exact absurd (Nat.lt_of_lt_of_le (x.lt q) e) (Nat.lt_irrefl _)
theorem HOk.kept (x:HOk P w H h)(k:∀b u,h.get? b=some u->h'.get? b=some u):HOk P w H h':=fun a o e=>
 (x a o e).stay (fun b u _ q=>k b u q) (fun _ q=>q) fun _ _ q=>q
theorem HOk.laid (x:HOk P w H h)(k:∀b u,h.get? b=some u->h'.get? b=some u)(hp:h.objs.size<=a)(new:q0a P w (upd H a o) h' a o):HOk P w (upd H a o) h':=fun b u e=>by
 have hn:=x.fresh hp
 by_cases hb:b=a
 ·subst hb;rw[qb] at e;cases e;exact new
 ·rw [qi hb] at e
  exact(x b u e).stay (fun c v _ q=>k c v q) (fun c q=>by rw[qi (qj q hn)];exact q) fun c xs q=>by rw[qi (qj q hn)];exact q
end
def Rd (H:Hp)(a:Addr)(u:HO):Prop:=H a=some u\/∃o,H a=some (.frz o u)
theorem Rd.ok {P:Program}{w:World}{H:Hp}{h:Heap}{a:Addr}{u:HO}(r:Rd H a u)(x:HOk P w H h):q0a P w H h a u:=by
 rcases r with r|⟨o,r⟩
 ·exact x a u r
 ·obtain ⟨_,q⟩:=x a _ r
  exact q
def Mut:Option HO->Prop
 |some (.lst _)=>True
 |some (.dK _)=>True
 |some (.dT _)=>True
 |some (.set _ _)=>True
 |some (.ins _ _ _)=>True
 |some (.ext _)=>True
 |_=>False
section
variable {P:Program}{w:World}{H:Hp}{h h':Heap}{x e:Addr}{o':HO}
theorem HOk.write (ok:HOk P w H h)(mu:Mut (H x))(he:e=x\/H e=some (.own x))(k:∀b u,b≠e->h.get? b=some u->h'.get? b=some u)(heo:∃u,h'.get? e=some u)
  (new:q0a P w (upd H x o') h' x o'):HOk P w (upd H x o') h':=fun b u q=>by
 have nown:∀c y,H c=some (.own y)->c≠x:=fun c y r z=>by subst z;rw[r] at mu;exact mu
 have ntup:∀c xs,H c=some (.tup xs)->c≠x:=fun c xs r z=>by subst z;rw[r] at mu;exact mu
 by_cases hb:b=x
 ·subst hb;rw[qb] at q;cases q;exact new
 ·rw [qi hb] at q
  by_cases hbe:b=e
  ·have q':H b=some (.own x):=by
    rcases he with z|z
    ·exact absurd (hbe.trans z) hb
    ·rw [hbe];exact z
   rw[q] at q';cases q'
   obtain⟨v,hv⟩:=heo
   exact⟨v,by rw[hbe];exact hv⟩
  ·refine (ok b u q).stay (fun c v hc r=>k c v ?_ r) (fun c r=>by rw[qi (nown c b r)];exact r) fun c xs r=>by rw[qi (ntup c xs r)];exact r
   rcases hc with rfl|hc
   ·exact hbe
   ·rintro rfl
    rcases he with z|z
    ·exact nown c b hc z
    ·rw [hc] at z;cases z;exact hb rfl
end
structure Un (fs ex:List Addr)(H H':Hp)(h h':Heap):Prop where
 keep:∀b o,h.get? b=some o->H b=none->b∉fs->b∉ex->h'.get? b=some o
 slot:∀b o,h.get? b=some o->H b=none->b∈fs->b∉ex->∃sl,h'.get? b=some {o with slots:=sl}
 free:∀b o,h.get? b=some o->H b=none->b∉ex->H' b=none
 there:∀b o,h.get? b=some o->b∉ex->∃o',h'.get? b=some o'
 tups:∀b xs,H b=some (.tup xs)->H' b=some (.tup xs)
 frzs:∀b o u,H b=some (.frz o u)->H' b=some (.frz o u)
 tbls:∀b ps,H b=some (.tbl ps)->∃more,H' b=some (.tbl (ps++more))
section
variable {fs fs' ex ex':List Addr}{H H1 H2:Hp}{h h1 h2 h':Heap}{a x e:Addr}{o:HO}
theorem Un.any (u:Un fs ex H H1 h h1){b:Addr}{ob:Obj}(q:h.get? b=some ob)(n:H b=none)(hx:b∉ex):∃sl,h1.get? b=some {ob with slots:=sl}:=by
 by_cases hb:b∈fs
 ·exact u.slot b ob q n hb hx
 ·exact ⟨ob.slots,u.keep b ob q n hb hx⟩
theorem Un.kept (k:∀b u,h.get? b=some u->h'.get? b=some u):Un fs ex H H h h':=
 ⟨fun b ob q _ _ _=>k b ob q,fun b ob q _ _ _=>⟨ob.slots,k b ob q⟩,fun _ _ _ n _=>n,fun b ob q _=>⟨ob,k b ob q⟩,fun _ _ q=>q,fun _ _ _ q=>q,fun _ ps q=>⟨#[],by rw[q];simp⟩⟩
theorem Un.refl:Un fs ex H H h h:=Un.kept fun _ _ q=>q
theorem Un.laid (k:∀b u,h.get? b=some u->h'.get? b=some u)(hp:h.objs.size<=a)(hn:H a=none):Un fs ex H (upd H a o) h h' where
 keep:=fun b u q _ _ _=>k b u q
 slot:=fun b u q _ _ _=>⟨u.slots,k b u q⟩
 free:=fun b u q n _=>by rw[qi (Nat.ne_of_lt (Nat.lt_of_lt_of_le (Heap.lt_size q) hp))];exact n
 there:=fun b u q _=>⟨u,k b u q⟩
 tups:=fun b xs q=>by rw[qi (qj q hn)];exact q
 frzs:=fun b u xs q=>by rw[qi (qj q hn)];exact q
 tbls:=fun b ps q=>⟨#[],by rw[qi (qj q hn),q];simp⟩
theorem Un.write (mu:Mut (H x))(he:e=x\/H e=some (.own x))(k:∀b u,b≠e->h.get? b=some u->h'.get? b=some u)(heo:∃u,h'.get? e=some u):Un fs ex H (upd H x o) h h':=by
 have hx:∀b,H b=none->b≠x:=fun b n z=>by subst z;rw[n] at mu;exact mu
 have hb:∀b,H b=none->b≠e:=fun b n z=>by
  subst z
  rcases he with r|r
  ·exact hx b n r
  ·rw [n] at r;cases r
 have hm:∀b u,H b=some u->¬Mut (some u)->b≠x:=fun b u q nm z=>by subst z;rw[q] at mu;exact nm mu
 refine⟨fun b u q n _ _=>k b u (hb b n) q,fun b u q n _ _=>⟨u.slots,k b u (hb b n) q⟩,fun b u q n _=>by rw[qi (hx b n)];exact n,fun b u q _=>?_,
  fun b xs q=>by rw[qi (hm b _ q fun z=>z)];exact q,fun b u xs q=>by rw[qi (hm b _ q fun z=>z)];exact q,fun b ps q=>⟨#[],by rw[qi (hm b _ q fun z=>z),q];simp⟩⟩
 by_cases hbe:b=e
 ·subst hbe;exact heo
 ·exact ⟨u,k b u hbe q⟩
end
def trk (h:Heap)(H:Hp):List Addr:=(List.range h.objs.size).filter fun a=>(H a).isSome
def hidT (h:Heap)(H:Hp):Heap:=PySem.W.hideAll h (trk h H)
theorem q94 (h:Heap)(H:Hp):(hidT h H).objs.size=h.objs.size:=PySem.W.hideAll_size _ _
theorem qaR {h:Heap}{H:Hp}{b:Addr}{o:Obj}(e:h.get? b=some o)(n:H b=none):(hidT h H).get? b=some o:=
 PySem.W.hideAll_get _ e fun hm=>by
  have q:(H b).isSome=true:=(List.mem_filter.mp hm).2
  rw[n] at q;simp at q
theorem qcE {h:Heap}{H:Hp}{b:Addr}{o:Obj}(e:(hidT h H).get? b=some o):h.get? b=some o/\H b=none:=by
 have e':h.get? b=some o:=PySem.W.of_hideAll (trk h H) e
 refine⟨e',?_⟩
 cases q:H b with
 |none=>rfl
 |some x=>
  have hm:b∈trk h H:=List.mem_filter.mpr ⟨List.mem_range.mpr (Heap.lt_size e'),by simp[q]⟩
  have z:(hidT h H).get? b=none:=PySem.W.hideAll_none (trk h H) hm
  rw[z] at e;cases e
def qdm (g h:Heap)(L:Addr):List (Addr×Obj):=(List.range h.objs.size).filterMap fun a=>if a=L\/(g.get? a).isSome=true then none else(h.get? a).map fun o=>(a,o)
def rest (g h:Heap)(L d:Addr):List (Addr×Obj):=(qdm g h L).filter fun p=>decide (p.1≠d)
end L2
namespace L2
open PySem PySem.Spec PyProof.Rows
structure Mod (K:PySem.W.Frag)(mg:Str->Option Value)(base:Heap):Prop where
 kin:K.In base
 glob:base.Ns mainGlobals mg
 blt:∃mb,base.Ns builtinsNs mb/\∀x:Str,x≠"__name__"->mb x=bootBuiltins x
 nolimit:base.NoLimit
structure Cx where
 prog:Program
 w:World
 K:PySem.W.Frag
 mg:Str->Option Value
 base:Heap
 A:Around
 N:List Str
 s₀:Shared
 H₀:Hp
 env:Env
 outer:List Env
 stack:List Env
 ex:List Addr
 fn:Str->Bool
 calm:Bool
 pn:List (Addr×Obj)
 xe:Value->Shared->Prop
def frs (l:List Env):List Addr:=l.filterMap (·.frame)
abbrev Cx.fs (X:Cx):List Addr:=frs X.outer
def Vis (sc:Scope)(x:Str):Prop:=sc.names.lookup x=some .local\/sc.names.lookup x=some .cell\/sc.names.lookup x=some .free
def Loc (sc:Scope)(x:Str):Prop:=sc.names.lookup x=some .local\/sc.names.lookup x=some .cell
def Look (env:Env)(h:Heap)(m:Str->Option Value)(x:Str)(u:Value):Prop:=
 (env.kindOf x=some .local/\m x=some u)\/((env.kindOf x=some .cell\/env.kindOf x=some .free)/\∃c,env.cells.lookup x=some c/\h.IsCell c (some u))
structure Cx.Ok (X:Cx):Prop where
 mod:Mod X.K X.mg X.base
 kind:X.env.scope.kind= .function
 glob:X.env.globals=mainGlobals
 blt:X.env.builtins=builtinsNs
 above:X.s₀.heap.objs.size<=X.env.locals
 inj:∀x y c,X.env.cells.lookup x=some c->X.env.cells.lookup y=some c->x=y
 has:∀x,(X.env.kindOf x=some .cell\/X.env.kindOf x=some .free)->∃c,X.env.cells.lookup x=some c
 cab:∀x c,X.fn x=true->X.env.cells.lookup x=some c->X.s₀.heap.objs.size<=c
 hd:X.calm=true->X.A.handled=none
 frames:X.A.frames=some X.stack
 stk:X.stack=X.outer\/(X.stack=X.env::X.outer/\X.env.frame=some X.env.locals)
 exf:∀b∈X.ex,b≠X.env.locals/\∀x c,X.env.cells.lookup x=some c->c≠b
 bs:∀b o,X.base.get? b=some o->X.s₀.heap.get? b=some o/\X.H₀ b=none
 bsz:X.base.objs.size<=X.s₀.heap.objs.size
 noex:∀b o,X.base.get? b=some o->b∉X.ex
 exfs:∀b∈X.ex,b∉X.fs
 funs:X.s₀.heap.FunFrames X.base X.outer
 frf:∀b∈X.fs,X.H₀ b=none
structure Inv (X:Cx)(pins:List (Addr×Obj))(σ:List (Option V))(H:Hp)(s:Shared):Prop where
 ok:X.Ok
 os:s.os=X.s₀.os
 bare:AllBare s.gens
 base:Un X.fs X.ex X.H₀ H X.s₀.heap s.heap
 loc:∃m,s.heap.Ns X.env.locals m/\∀(i:Nat) (x:Str) (v:V),X.N[i]? =some x->σ[i]? =some (some v)->Vis X.env.scope x->∃u,RelV v u/\Look X.env s.heap m x u
 cell:∀x c,X.env.cells.lookup x=some c->∃v,s.heap.IsCell c v
 free:H X.env.locals=none
 freeC:∀x c,X.env.cells.lookup x=some c->H c=none
 pin:∀p∈X.pn++pins,s.heap.get? p.1=some p.2/\H p.1=none/\p.1≠X.env.locals/\p.1∉X.fs/\∀v,p.2.data≠ .cell v
 hok:HOk X.prog X.w H s.heap
 len:σ.length=X.N.length
section
variable {X:Cx}{pins:List (Addr×Obj)}{σ:List (Option V)}{H H':Hp}{s:Shared}{h':Heap}
theorem Cx.Ok.nofr (ok:X.Ok){b:Addr}{o:Obj}(e:X.base.get? b=some o):b∉X.fs:=fun hb=>by
 have:=(ok.funs.mem hb).1
 rw[e] at this;cases this
theorem Inv.bs (I:Inv X pins σ H s):∀b o,X.base.get? b=some o->s.heap.get? b=some o/\H b=none:=fun b o e=>
 ⟨I.base.keep b o (I.ok.bs b o e).1 (I.ok.bs b o e).2 (I.ok.nofr e) (I.ok.noex b o e),I.base.free b o (I.ok.bs b o e).1 (I.ok.bs b o e).2 (I.ok.noex b o e)⟩
theorem Inv.bk (I:Inv X pins σ H s):∀b o,X.base.get? b=some o->s.heap.get? b=some o:=fun b o e=>(I.bs b o e).1
theorem Inv.mod (I:Inv X pins σ H s):Mod X.K X.mg X.base:=I.ok.mod
theorem Inv.kIn (I:Inv X pins σ H s):X.K.In s.heap:=I.ok.mod.kin.keeps I.bk
theorem Inv.lt (I:Inv X pins σ H s):X.env.locals<s.heap.objs.size:=let ⟨_,hn,_⟩:=I.loc;hn.lt
theorem Inv.sz (I:Inv X pins σ H s):X.s₀.heap.objs.size<=s.heap.objs.size:=Nat.le_trans I.ok.above (Nat.le_of_lt I.lt)
theorem Inv.nofs (I:Inv X pins σ H s){a:Addr}(h:s.heap.objs.size<=a):a∉X.fs:=fun hb=>by
 obtain⟨_,o,ho,_⟩:=I.ok.funs.mem hb
 exact absurd (Nat.lt_of_lt_of_le (Heap.lt_size ho) (Nat.le_trans I.sz h)) (Nat.lt_irrefl _)
theorem Inv.cne (I:Inv X pins σ H s):∀x c,X.env.cells.lookup x=some c->c≠X.env.locals:=fun x c e z=>by
 obtain⟨v,o,ho,hd⟩:=I.cell x c e
 obtain⟨m,⟨o',es,ep,ho',hd',_⟩,_⟩:=I.loc
 rw[z,ho'] at ho;cases ho;rw[hd'] at hd;cases hd
theorem Inv.funs (I:Inv X pins σ H s):s.heap.FunFrames X.base X.outer:=by
 have all:∀(l:List Env),(∀b∈frs l,b∈X.fs)->X.s₀.heap.FunFrames X.base l->s.heap.FunFrames X.base l:=by
  intro l
  induction l with
  |nil=>intro _ _;trivial
  |cons env r ih=>
   intro hs hl
   obtain⟨hk,⟨L,o,hf,hn,ho,hd⟩,hr⟩:=hl
   have hL:L∈X.fs:=hs L (by unfold frs;rw[List.filterMap_cons,hf];exact List.mem_cons_self)
   obtain⟨sl,e⟩:=I.base.slot L o ho (I.ok.frf L hL) hL fun z=>I.ok.exfs L z hL
   exact⟨hk,⟨L,_,hf,hn,e,hd⟩,ih (fun b hb=>hs b (by unfold frs;rw[List.filterMap_cons,hf];exact List.mem_cons_of_mem _ hb)) hr⟩
 exact all X.outer (fun _ hb=>hb) I.ok.funs
theorem Inv.stack (I:Inv X pins σ H s):s.heap.FunFrames X.base X.stack:=by
 rcases I.ok.stk with e|⟨e,hf⟩
 ·rw [e];exact I.funs
 ·rw [e]
  obtain⟨m,hn,_⟩:=I.loc
  refine .cons (by rw[I.ok.kind];decide) hf hn ?_ I.funs
  exact Heap.get?_none_of_le (Nat.le_trans I.ok.bsz I.ok.above)
theorem Inv.stkSub (I:Inv X pins σ H s):∀b∈frs X.stack,b∈X.env.locals::X.fs:=fun b hb=>by
 rcases I.ok.stk with e|⟨e,hf⟩
 ·rw [e] at hb;exact List.mem_cons_of_mem _ hb
 ·rw [e] at hb
  unfold frs at hb
  rw[List.filterMap_cons,hf] at hb
  exact hb
theorem Inv.stkFree (I:Inv X pins σ H s):∀b∈frs X.stack,H b=none:=fun b hb=>by
 rcases List.mem_cons.mp (I.stkSub b hb) with e|hb
 ·rw [e];exact I.free
 ·obtain ⟨_,o,ho,_⟩:=I.ok.funs.mem hb
  exact I.base.free b o ho (I.ok.frf b hb) fun z=>I.ok.exfs b z hb
theorem Inv.step {g':Array GenState}{t':Nat}{d':Drawn}{ch:List Addr}(I:Inv X pins σ H s)
  (hch:∀b∈ch,(b∈X.ex\/X.s₀.heap.objs.size<=b)/\b≠X.env.locals/\(∀x c,X.env.cells.lookup x=some c->c≠b)/\∀p∈X.pn++pins,p.1≠b)
  (keep:∀b o,b≠X.env.locals->b∉X.fs->b∉ch->s.heap.get? b=some o->H b=none->h'.get? b=some o)
  (slot:∀b o,b≠X.env.locals->b∈X.fs->b∉ch->s.heap.get? b=some o->H b=none->∃sl,h'.get? b=some {o with slots:=sl})(free:∀b o,b∉ch->s.heap.get? b=some o->H b=none->H' b=none)
  (there:∀b o,b∉ch->s.heap.get? b=some o->∃o',h'.get? b=some o')
  (tups:∀b xs,H b=some (.tup xs)->H' b=some (.tup xs))(frzs:∀b o u,H b=some (.frz o u)->H' b=some (.frz o u))(tbls:∀b ps,H b=some (.tbl ps)->∃more,H' b=some (.tbl (ps++more)))
  (ns:∀m,s.heap.Ns X.env.locals m->h'.Ns X.env.locals m)(hok:HOk X.prog X.w H' h')(hg:AllBare g'):
  Inv X pins σ H' {s with heap:=h',gens:=g',drawn:=d',toks:=t'}:=by
 have neL:∀b o,X.s₀.heap.get? b=some o->b≠X.env.locals:=fun b o e=>Nat.ne_of_lt (Nat.lt_of_lt_of_le (Heap.lt_size e) I.ok.above)
 have neC:∀b o,X.s₀.heap.get? b=some o->b∉X.ex->b∉ch:=fun b o e hx hb=>by
  rcases(hch b hb).1 with z|z
  ·exact hx z
  ·exact absurd (Nat.lt_of_lt_of_le (Heap.lt_size e) z) (Nat.lt_irrefl _)
 have cellK:∀x c,X.env.cells.lookup x=some c->∀v,s.heap.IsCell c v->h'.IsCell c v:=fun x c e v ⟨o,ho,hd⟩=>by
  have nch:c∉ch:=fun z=>(hch c z).2.2.1 x c e rfl
  by_cases hc:c∈X.fs
  ·obtain ⟨sl,q⟩:=slot c o (I.cne x c e) hc nch ho (I.freeC x c e)
   exact⟨_,q,hd⟩
  ·exact ⟨o,keep c o (I.cne x c e) hc nch ho (I.freeC x c e),hd⟩
 refine⟨I.ok,I.os,hg,⟨fun b o e n hb hx=>?_,fun b o e n hb hx=>?_,fun b o e n hx=>?_,fun b o e hx=>?_,fun b xs e=>tups b xs (I.base.tups b xs e),fun b o xs e=>frzs b o xs (I.base.frzs b o xs e),fun b ps e=>?_⟩,?_,fun x c e=>?_,?_,fun x c e=>?_,fun p hp=>?_,hok,I.len⟩
 ·exact keep b o (neL b o e) hb (neC b o e hx) (I.base.keep b o e n hb hx) (I.base.free b o e n hx)
 ·obtain ⟨sl,e1⟩:=I.base.slot b o e n hb hx
  obtain⟨sl',e2⟩:=slot b _ (neL b o e) hb (neC b o e hx) e1 (I.base.free b o e n hx)
  exact⟨sl',e2⟩
 ·obtain ⟨o',e1⟩:=I.base.there b o e hx
  exact free b o' (neC b o e hx) e1 (I.base.free b o e n hx)
 ·obtain ⟨o',e1⟩:=I.base.there b o e hx
  exact there b o' (neC b o e hx) e1
 ·obtain ⟨m1,e1⟩:=I.base.tbls b ps e
  obtain⟨m2,e2⟩:=tbls b _ e1
  exact⟨m1++m2,by rw[e2,Array.append_assoc]⟩
 ·obtain ⟨m,hn,hl⟩:=I.loc
  refine⟨m,ns m hn,fun i x v e1 e2 e3=>?_⟩
  obtain⟨u,r,l⟩:=hl i x v e1 e2 e3
  refine⟨u,r,?_⟩
  rcases l with l|⟨k,c,e,z⟩
  ·exact .inl l
  ·exact .inr ⟨k,c,e,cellK x c e _ z⟩
 ·obtain ⟨v,z⟩:=I.cell x c e
  exact⟨v,cellK x c e v z⟩
 ·obtain ⟨m,⟨o,_,_,ho,_⟩,_⟩:=I.loc
  exact free _ o (fun z=>(hch _ z).2.1 rfl) ho I.free
 ·obtain ⟨v,o,ho,hd⟩:=I.cell x c e
  exact free c o (fun z=>(hch c z).2.2.1 x c e rfl) ho (I.freeC x c e)
 ·obtain ⟨e,n,ne,nf,d⟩:=I.pin p hp
  have nch:p.1∉ch:=fun z=>(hch p.1 z).2.2.2 p hp rfl
  exact⟨keep p.1 p.2 ne nf nch e n,free p.1 p.2 nch e n,ne,nf,d⟩
theorem Inv.un {t':Nat}(I:Inv X pins σ H s)(u:Un X.fs [] H H' s.heap h')(hok:HOk X.prog X.w H' h'):Inv X pins σ H' {s with heap:=h',toks:=t'}:=by
 obtain⟨m,⟨o,es,ep,ho,r⟩,_⟩:=id I.loc
 obtain⟨sl,hL⟩:=u.any ho I.free (by simp)
 exact I.step (g':=s.gens) (d':=s.drawn) (ch:=[]) (fun _ z=>nomatch z) (fun b o _ hb _ e n=>u.keep b o e n hb (by simp)) (fun b o _ hb _ e n=>u.slot b o e n hb (by simp)) (fun b o _ e n=>u.free b o e n (by simp)) (fun b o _ e=>u.there b o e (by simp)) u.tups u.frzs u.tbls (fun m' hm=>by
  obtain⟨o',es',ep',ho',r'⟩:=hm
  rw[ho] at ho';cases ho'
  exact⟨_,es',ep',hL,r'⟩) hok I.bare
theorem Inv.call {g':Array GenState}{t':Nat}{d':Drawn}{ch:List Addr}(I:Inv X pins σ H s)(u:Un (frs X.stack) ch H H' s.heap h')(hok:HOk X.prog X.w H' h')(hg:AllBare g')
  (hch:∀b∈ch,(b∈X.ex\/X.s₀.heap.objs.size<=b)/\b≠X.env.locals/\(∀x c,X.env.cells.lookup x=some c->c≠b)/\∀p∈X.pn++pins,p.1≠b):
  Inv X pins σ H' {s with heap:=h',gens:=g',drawn:=d',toks:=t'}:=by
 obtain⟨m,⟨o,es,ep,ho,r⟩,_⟩:=id I.loc
 obtain⟨sl,hL⟩:=u.any ho I.free fun z=>(hch _ z).2.1 rfl
 exact I.step (ch:=ch) hch (fun b o hL hb hc e n=>u.keep b o e n (fun z=>(List.mem_cons.mp (I.stkSub b z)).elim hL hb) hc) (fun b o _ _ hc e n=>u.any e n hc) (fun b o hc e n=>u.free b o e n hc) (fun b o hc e=>u.there b o e hc) u.tups u.frzs u.tbls (fun m' hm=>by
  obtain⟨o',es',ep',ho',r'⟩:=hm
  rw[ho] at ho';cases ho'
  exact⟨_,es',ep',hL,r'⟩) hok hg
theorem Inv.turned {t':Nat}{it:Addr}(I:Inv X pins σ H s)(k:∀b o,b≠it->s.heap.get? b=some o->h'.get? b=some o)(hn:H it=none)(hL:it≠X.env.locals)
  (h1:it∈X.ex\/X.s₀.heap.objs.size<=it)(h2:∀x c,X.env.cells.lookup x=some c->c≠it)(h3:∀p∈X.pn++pins,p.1≠it):Inv X pins σ H {s with heap:=h',toks:=t'}:=by
 have nit:∀b u,H b=some u->b≠it:=fun b u e z=>by rw[z,hn] at e;cases e
 refine I.step (g':=s.gens) (d':=s.drawn) (ch:=[it]) (fun b hb=>?_) (fun b o _ _ hc e _=>k b o (fun z=>hc (by simp[z])) e) (fun b o _ _ hc e _=>⟨o.slots,k b o (fun z=>hc (by simp[z])) e⟩) (fun _ _ _ _ n=>n)
  (fun b o hc e=>⟨o,k b o (fun z=>hc (by simp[z])) e⟩) (fun _ _ e=>e) (fun _ _ _ e=>e) (fun b ps e=>⟨#[],by rw[e];simp⟩) (fun m hm=>?_) (fun b u e=>?_) I.bare
 ·have e:b=it:=by simpa using hb
  subst e
  exact⟨h1,hL,h2,h3⟩
 ·obtain ⟨o,es,ep,ho,r⟩:=hm
  exact⟨o,es,ep,k _ o (Ne.symm hL) ho,r⟩
 ·refine (I.hok b u e).stay (fun c v hc q=>k c v ?_ q) (fun _ q=>q) fun _ _ q=>q
  rcases hc with z|z
  ·rw [z];exact nit b u e
  ·exact nit c _ z
theorem Inv.tok (I:Inv X pins σ H s)(t:Nat):Inv X pins σ H {s with toks:=t}:=I.un (h':=s.heap) (t':=t) Un.refl I.hok
theorem Inv.kept {t':Nat}(I:Inv X pins σ H s)(k:∀b u,s.heap.get? b=some u->h'.get? b=some u):Inv X pins σ H {s with heap:=h',toks:=t'}:=I.un (Un.kept k) (I.hok.kept k)
theorem Inv.laid {a:Addr}{o:HO}{t':Nat}(I:Inv X pins σ H s)(k:∀b u,s.heap.get? b=some u->h'.get? b=some u)(hp:s.heap.objs.size<=a)(new:q0a X.prog X.w (upd H a o) h' a o):
  Inv X pins σ (upd H a o) {s with heap:=h',toks:=t'}:=I.un (Un.laid k hp (I.hok.fresh hp)) (I.hok.laid k hp new)
theorem Inv.write {x e:Addr}{o:HO}{t':Nat}(I:Inv X pins σ H s)(mu:Mut (H x))(he:e=x\/H e=some (.own x))(k:∀b u,b≠e->s.heap.get? b=some u->h'.get? b=some u)(heo:∃u,h'.get? e=some u)
  (new:q0a X.prog X.w (upd H x o) h' x o):Inv X pins σ (upd H x o) {s with heap:=h',toks:=t'}:=I.un (Un.write mu he k heo) (I.hok.write mu he k heo new)
theorem Inv.pins_of {pins':List (Addr×Obj)}(I:Inv X pins σ H s)(h:∀p∈pins',s.heap.get? p.1=some p.2/\H p.1=none/\p.1≠X.env.locals/\p.1∉X.fs/\∀v,p.2.data≠ .cell v):Inv X pins' σ H s:=
 ⟨I.ok,I.os,I.bare,I.base,I.loc,I.cell,I.free,I.freeC,fun p hp=>(List.mem_append.mp hp).elim (fun z=>I.pin p (List.mem_append_left _ z)) (h p),I.hok,I.len⟩
theorem q6S {N:List Str}(hN:N.Nodup){i j:Nat}{x:Str}(a:N[i]? =some x)(b:N[j]? =some x):i=j:=by
 obtain⟨h1,e1⟩:=List.getElem?_eq_some_iff.mp a
 obtain⟨h2,e2⟩:=List.getElem?_eq_some_iff.mp b
 exact(List.getElem_inj hN).mp (e1.trans e2.symm)
theorem q5c {M:Model}{A:Around}{E:Value->Shared->Prop}{i:Nat}{x:Str}{v:V}{u:Value}{Q:Unit->Shared->Prop}(I:Inv X pins σ H s)(hN:X.N.Nodup)(hi:X.N[i]? =some x)(hx:Loc X.env.scope x)(r:RelV v u)
  (h:∀s',Inv X pins (σ.set i (some v)) H s'->(∃a,Heap.SameBut a s.heap s'.heap/\(a=X.env.locals\/X.env.cells.lookup x=some a))->Q () s')(hf:X.fn x=true\/X.env.scope.names.lookup x=some .local:=by first|exact .inl rfl|exact .inr rfl|assumption):wpAny M A (storeName X.env x u) Q E s:=by
 obtain⟨m,hn,hl⟩:=id I.loc
 have hcls:(X.env.scope.kind== .class||(X.env.scope.kind== .module&&X.env.locals != X.env.globals))=false:=by rw[I.ok.kind];rfl
 have hiσ:i<σ.length:=by rw[I.len];exact(List.getElem?_eq_some_iff.mp hi).1
 have cne:=I.cne
 have tracked:∀{a:Addr} {h':Heap},(∃o,s.heap.get? a=some o/\H a=none)->Heap.SameBut a s.heap h'->HOk X.prog X.w H h':=fun {a h'} ha hs b ob e=>by
  obtain⟨_,_,hfree⟩:=ha
  refine(I.hok b ob e).stay (fun c w' hc q=>(hs.2 c ?_).trans q) (fun _ q=>q) fun _ _ q=>q
  rintro rfl
  rcases hc with rfl|hc
  ·rw [hfree] at e;cases e
  ·rw [hfree] at hc;cases hc
 rcases hx with hk|hk
 ·refine wpAny_storeName_local hk hn (fun h' hn' hs=>?_) hcls
  obtain⟨oL,_,_,hoL,_⟩:=id hn
  refine h _ ⟨I.ok,I.os,I.bare,⟨fun b o e n hb hx=>?_,fun b o e n hb hx=>?_,I.base.free,fun b o e hx=>?_,I.base.tups,I.base.frzs,I.base.tbls⟩,⟨_,hn',fun j y v' e1 e2 e3=>?_⟩,fun y c e=>?_,I.free,I.freeC,fun p hp=>?_,tracked ⟨oL,hoL,I.free⟩ hs,by simpa using I.len⟩ ⟨_,hs,.inl rfl⟩
  ·exact (hs.2 b (Nat.ne_of_lt (Nat.lt_of_lt_of_le (Heap.lt_size e) I.ok.above))).trans (I.base.keep b o e n hb hx)
  ·obtain ⟨sl,e1⟩:=I.base.slot b o e n hb hx
   exact⟨sl,(hs.2 b (Nat.ne_of_lt (Nat.lt_of_lt_of_le (Heap.lt_size e) I.ok.above))).trans e1⟩
  ·obtain ⟨o',e1⟩:=I.base.there b o e hx
   exact⟨o',(hs.2 b (Nat.ne_of_lt (Nat.lt_of_lt_of_le (Heap.lt_size e) I.ok.above))).trans e1⟩
  ·by_cases hj:j=i
   ·subst hj
    rw[hi] at e1;cases e1
    rw[List.getElem?_set_self hiσ] at e2
    cases e2
    exact⟨u,r,.inl ⟨hk,by simp⟩⟩
   ·rw [List.getElem?_set_ne (Ne.symm hj)] at e2
    obtain⟨u',r',q⟩:=hl j y v' e1 e2 e3
    refine⟨u',r',?_⟩
    rcases q with⟨k,e⟩|⟨k,c,e,z⟩
    ·refine .inl ⟨k,?_⟩
     have:y≠x:=fun e=>hj (q6S hN e1 (e▸hi))
     simp[this,e]
    ·exact .inr ⟨k,c,e,z.sameBut hs (cne y c e)⟩
  ·obtain ⟨w',z⟩:=I.cell y c e
   exact⟨w',z.sameBut hs (cne y c e)⟩
  ·obtain ⟨e,n,ne,nf,d⟩:=I.pin p hp
   exact⟨(hs.2 p.1 ne).trans e,n,ne,nf,d⟩
 ·have hfn:X.fn x=true:=by
   rcases hf with z|z
   ·exact z
   ·rw [z] at hk;cases hk
  obtain⟨c,hc⟩:=I.ok.has x (.inl hk)
  obtain⟨w',z⟩:=I.cell x c hc
  refine wpAny_storeName_cell I.ok.kind hk hc z (fun h' hc' hs=>?_)
  obtain⟨oc,hoc,hocd⟩:=id z
  refine h {s with heap:=h'} ⟨I.ok,I.os,I.bare,⟨fun b o e n hb hx=>?_,fun b o e n hb hx=>?_,I.base.free,fun b o e hx=>?_,I.base.tups,I.base.frzs,I.base.tbls⟩,⟨m,hn.sameBut hs (Ne.symm (cne x c hc)),fun j y v' e1 e2 e3=>?_⟩,fun y c' e=>?_,I.free,I.freeC,fun p hp=>?_,tracked ⟨oc,hoc,I.freeC x c hc⟩ hs,by simpa using I.len⟩ ⟨c,hs,.inr hc⟩
  ·exact (hs.2 b (Nat.ne_of_lt (Nat.lt_of_lt_of_le (Heap.lt_size e) (I.ok.cab x c hfn hc)))).trans (I.base.keep b o e n hb hx)
  ·obtain ⟨sl,e1⟩:=I.base.slot b o e n hb hx
   exact⟨sl,(hs.2 b (Nat.ne_of_lt (Nat.lt_of_lt_of_le (Heap.lt_size e) (I.ok.cab x c hfn hc)))).trans e1⟩
  ·obtain ⟨o',e1⟩:=I.base.there b o e hx
   exact⟨o',(hs.2 b (Nat.ne_of_lt (Nat.lt_of_lt_of_le (Heap.lt_size e) (I.ok.cab x c hfn hc)))).trans e1⟩
  ·by_cases hj:j=i
   ·subst hj
    rw[hi] at e1;cases e1
    rw[List.getElem?_set_self hiσ] at e2
    cases e2
    exact⟨u,r,.inr ⟨.inl hk,c,hc,hc'⟩⟩
   ·rw [List.getElem?_set_ne (Ne.symm hj)] at e2
    obtain⟨u',r',q⟩:=hl j y v' e1 e2 e3
    refine⟨u',r',?_⟩
    rcases q with q|⟨k,c',e,z'⟩
    ·exact .inl q
    ·refine .inr ⟨k,c',e,z'.sameBut hs ?_⟩
     rintro rfl
     exact hj (q6S hN e1 (I.ok.inj _ _ _ e hc▸hi))
  ·by_cases hcc:c'=c
   ·subst hcc;exact⟨_,hc'⟩
   ·obtain ⟨w2,z2⟩:=I.cell y c' e
    exact⟨w2,z2.sameBut hs hcc⟩
  ·obtain ⟨e,n,ne,nf,d⟩:=I.pin p hp
   refine⟨(hs.2 p.1 ?_).trans e,n,ne,nf,d⟩
   intro q
   rw[q,hoc] at e
   have q':oc=p.2:=Option.some.inj e
   exact d w' (by rw[<-q'];exact hocd)
theorem q4j {M:Model}{A:Around}{E:Value->Shared->Prop}{i:Nat}{x:Str}{v:V}{u:Value}{Q:Unit->Shared->Prop}(I:Inv X pins σ H s)(hN:X.N.Nodup)(hi:X.N[i]? =some x)(hx:Loc X.env.scope x)(r:RelV v u)
  (h:∀s',Inv X pins (σ.set i (some v)) H s'->Q () s')(hf:X.fn x=true\/X.env.scope.names.lookup x=some .local:=by first|exact .inl rfl|exact .inr rfl|assumption):wpAny M A (storeName X.env x u) Q E s:=
 q5c I hN hi hx r (fun s' I' _=>h s' I') hf
theorem Inv.call' {s':Shared}{ch:List Addr}(I:Inv X pins σ H s)(ho:s'.os=s.os)(u:Un (frs X.stack) ch H H' s.heap s'.heap)(hok:HOk X.prog X.w H' s'.heap)(hg:AllBare s'.gens)
  (hch:∀b∈ch,(b∈X.ex\/X.s₀.heap.objs.size<=b)/\b≠X.env.locals/\(∀x c,X.env.cells.lookup x=some c->c≠b)/\∀p∈X.pn++pins,p.1≠b):Inv X pins σ H' s':=by
 obtain⟨h',g',d',t',o'⟩:=s'
 have e:o'=s.os:=ho
 subst e
 exact I.call (g':=g') (t':=t') (d':=d') u hok hg hch
end
abbrev XK:=Value->Option Addr->Hp->Prop
abbrev St:=List (Option V)
abbrev VK:=V->Hp->Prop
abbrev TE:=St->Hp->VK->Prop
abbrev TT:=St->Hp->(Bool->Hp->Prop)->Prop
abbrev TA:=St->Hp->(List V->Hp->Prop)->Prop
structure Ends where
 nx:St->Hp->Prop
 rt:VK
 bk:St->Hp->Prop:=fun _ _=>False
 ct:St->Hp->Prop:=fun _ _=>False
abbrev TS:=Ends->St->Hp->Prop
def EP (X:Cx)(pins:List (Addr×Obj))(σ:St)(Q:VK)(u:Value)(s':Shared):Prop:=∃v H',Inv X pins σ H' s'/\RelV v u/\Q v H'
def TP (X:Cx)(pins:List (Addr×Obj))(σ:St)(Q:Bool->Hp->Prop)(b:Bool)(s':Shared):Prop:=∃H',Inv X pins σ H' s'/\Q b H'
def AP (X:Cx)(pins:List (Addr×Obj))(σ:St)(Q:List V->Hp->Prop)(us:List Value)(s':Shared):Prop:=∃vs H',Inv X pins σ H' s'/\Vals vs us/\Q vs H'
def SP (X:Cx)(pins:List (Addr×Obj))(D:Ends)(f:Flow)(s':Shared):Prop:=
 match f with
 | .next=>∃σ' H',Inv X pins σ' H' s'/\D.nx σ' H'
 | .brk=>∃σ' H',Inv X pins σ' H' s'/\D.bk σ' H'
 | .cont=>∃σ' H',Inv X pins σ' H' s'/\D.ct σ' H'
 | .ret u=>∃v σ' H',Inv X pins σ' H' s'/\RelV v u/\D.rt v H'
def PE (X:Cx)(e:Expr)(t:TE):Prop:=
 ∀(pins:List (Addr×Obj)) (s:Shared) (σ:St) (H:Hp) (Q:VK),Inv X pins σ H s->t σ H Q->wpAny (model X.prog X.w) X.A (eval e X.env) (EP X pins σ Q) X.xe s
def PT (X:Cx)(e:Expr)(t:TT):Prop:=
 ∀(pins:List (Addr×Obj)) (s:Shared) (σ:St) (H:Hp) (Q:Bool->Hp->Prop),Inv X pins σ H s->t σ H Q->wpAny (model X.prog X.w) X.A (isTrue e X.env (eval e X.env)) (TP X pins σ Q) X.xe s
def PW (X:Cx)(e:Expr)(t:TT):Prop:=
 ∀(whole:Sem Value) (pins:List (Addr×Obj)) (s:Shared) (σ:St) (H:Hp) (Q:Bool->Hp->Prop),Inv X pins σ H s->t σ H Q->wpAny (model X.prog X.w) X.A (isTrue e X.env whole) (TP X pins σ Q) X.xe s
theorem PW.pt {X:Cx}{e:Expr}{t:TT}(h:PW X e t):PT X e t:=h _
def PA (X:Cx)(es:List Expr)(t:TA):Prop:=
 ∀(pos:Pos) (pins:List (Addr×Obj)) (s:Shared) (σ:St) (H:Hp) (Q:List V->Hp->Prop),Inv X pins σ H s->t σ H Q->wpAny (model X.prog X.w) X.A (spliced (backTo pos (starEach es X.env))) (AP X pins σ Q) X.xe s
def PS (X:Cx)(st:Stmt)(t:TS):Prop:=
 ∀(pins:List (Addr×Obj)) (s:Shared) (σ:St) (H:Hp) (D:Ends),Inv X pins σ H s->t D σ H->wpAny (model X.prog X.w) X.A (exec st X.env) (SP X pins D) X.xe s
def PSs (X:Cx)(st:List Stmt)(t:TS):Prop:=
 ∀(pins:List (Addr×Obj)) (s:Shared) (σ:St) (H:Hp) (D:Ends),Inv X pins σ H s->t D σ H->wpAny (model X.prog X.w) X.A (execs st X.env) (SP X pins D) X.xe s
theorem thn {α:Type}{t:Sem α}{Q Q':α->Shared->Prop}{M:Model}{A:Around}{E:Value->Shared->Prop}{s:Shared}(h:wpAny M A t Q E s)(hQ:∀a s,Q a s->Q' a s):wpAny M A t Q' E s:=wpAny_mono h hQ fun _ _ x=>x
end L2
namespace L2
open PySem PySem.Spec PyProof.Rows
section
variable {X:Cx}
theorem bin {a b:Expr}{ta tb:TE}(ha:PE X a ta)(hb:PE X b tb){pins:List (Addr×Obj)}{s:Shared}{σ:St}{H:Hp}{R:V->V->Hp->Prop}(I:Inv X pins σ H s)(h:ta σ H fun x H1=>tb σ H1 fun y H2=>R x y H2)
  {α:Type}{Q:α->Shared->Prop}{f:Value->Value->Sem α}
  (hf:∀v u s2 x y H2,Inv X pins σ H2 s2->RelV x v->RelV y u->R x y H2->wpAny (model X.prog X.w) X.A (f v u) Q X.xe s2):
  wpAny (model X.prog X.w) X.A (eval a X.env) (fun v s₁=>wpAny (model X.prog X.w) X.A (eval b X.env) (fun u s₂=>wpAny (model X.prog X.w) X.A (f v u) Q X.xe s₂) X.xe s₁) X.xe s:=by
 refine thn (ha pins s σ H _ I h) fun v s1 ⟨x,H1,I1,r1,q1⟩=>?_
 refine thn (hb pins s1 σ H1 _ I1 q1) fun u s2 ⟨y,H2,I2,r2,q2⟩=>?_
 exact hf v u s2 x y H2 I2 r1 r2 q2
def tVar (i:Nat):TE:=fun σ H Q=>∃v,σ[i]? =some (some v)/\Q v H
def tC (v:V):TE:=fun _ H Q=>Q v H
theorem pe_var {i:Nat}{x:Str}{pos:Pos}(hN:X.N[i]? =some x)(hv:Vis X.env.scope x)(hd:(x==("__debug__":Str))=false:=by decide)(hcd:(x==("__classdict__":Str))=false:=by decide):PE X (.Name x pos) (tVar i):=by
 intro pins s σ H Q I h
 obtain⟨v,e,h⟩:=h
 obtain⟨m,hn,hl⟩:=I.loc
 obtain⟨u,r,l⟩:=hl i x v hN e hv
 have fin:EP X pins σ Q u s:=⟨v,H,I,r,h⟩
 rcases l with⟨hk,hm⟩|⟨hk,c,hc,hcell⟩
 ·exact wpAny_Name (wpAny_loadName_local I.ok.kind hk hn hm fin) hd
 ·rcases hk with hk|hk
  ·exact wpAny_Name (wpAny_loadName_cell I.ok.kind hk hc hcell fin) hd
  ·exact wpAny_Name (wpAny_loadName_free I.ok.kind hk hc hcell fin hcd) hd
theorem qg {i j pos}:PE X (.Constant (.int i) j pos) (tC (.int i)):=fun _ _ _ H _ I h=>wpAny_Constant_int ⟨.int i,H,I.tok _,⟨_,rfl⟩,h⟩
theorem q3c {b j pos}:PE X (.Constant (.bool b) j pos) (tC (.bl b)):=fun _ _ _ H _ I h=>Constant_bool ⟨.bl b,H,I,rfl,h⟩
theorem q6P {j pos}:PE X (.Constant .none j pos) (tC .non):=fun _ _ _ H _ I h=>Constant_none ⟨.non,H,I,rfl,h⟩
theorem qD {x j pos}:PE X (.Constant (.str x) j pos) (tC (.str x)):=fun _ _ _ H _ I h=>Calls.Constant_str ⟨.str x,H,I.tok _,⟨_,rfl⟩,h⟩
def Gl (X:Cx)(x:Str):Prop:=X.env.kindOf x=some .globalImplicit
theorem q3M {E:Value->Shared->Prop}{pins:List (Addr×Obj)}{s:Shared}{σ:St}{H:Hp}{x:Str}{u:Value}{pos:Pos}{Q:Value->Shared->Prop}(I:Inv X pins σ H s)(hg:Gl X x)(hm:X.mg x=some u)(h:Q u s)
  (hd:(x==("__debug__":Str))=false:=by decide):wpAny (model X.prog X.w) X.A (eval (.Name x pos) X.env) Q E s:=
 Calls.Name_function_global I.ok.kind hg (Calls.loadGlobal_global (by rw[I.ok.glob];exact I.mod.glob.keeps I.bk) hm h) hd
theorem q2G {E:Value->Shared->Prop}{pins:List (Addr×Obj)}{s:Shared}{σ:St}{H:Hp}{x:Str}{u:Value}{pos:Pos}{Q:Value->Shared->Prop}(I:Inv X pins σ H s)(hg:Gl X x)(hm:X.mg x=none)(hv:bootBuiltins x=some u)(h:Q u s)
  (hn:x≠"__name__":=by decide)(hd:(x==("__debug__":Str))=false:=by decide):wpAny (model X.prog X.w) X.A (eval (.Name x pos) X.env) Q E s:=by
 obtain⟨mb,h1,h2⟩:=I.mod.blt
 exact Calls.Name_function_global I.ok.kind hg (Calls.loadGlobal_builtin (by rw[I.ok.glob];exact I.mod.glob.keeps I.bk) hm (by rw[I.ok.blt];exact h1.keeps I.bk) ((h2 x hn).trans hv) h) hd
theorem qh {x:Str}{v:V}{u:Value}{pos:Pos}(hg:Gl X x)(hm:X.mg x=some u)(r:RelV v u)(hd:(x==("__debug__":Str))=false:=by decide):PE X (.Name x pos) (tC v):=
 fun _ _ _ H _ I h=>q3M I hg hm ⟨v,H,I,r,h⟩ hd
theorem q3F {x:Str}{v:V}{u:Value}{pos:Pos}(hg:Gl X x)(hm:X.mg x=none)(hv:bootBuiltins x=some u)(r:RelV v u)(hn:x≠"__name__":=by decide)(hd:(x==("__debug__":Str))=false:=by decide):PE X (.Name x pos) (tC v):=
 fun _ _ _ H _ I h=>q2G I hg hm hv ⟨v,H,I,r,h⟩ hn hd
variable {a b:Expr}{ta tb:TE}{pos:Pos}
def PC (X:Cx)(op:CmpOp)(a b:Expr)(t:TE):Prop:=
 ∀(pins:List (Addr×Obj)) (s:Shared) (σ:St) (H:Hp) (Q:VK),Inv X pins σ H s->t σ H Q->
  wpAny (model X.prog X.w) X.A (eval a X.env) (fun v s₁=>wpAny (model X.prog X.w) X.A (eval b X.env) (fun u s₂=>wpAny (model X.prog X.w) X.A (compareOp op v u) (EP X pins σ Q) X.xe s₂) X.xe s₁) X.xe s
theorem q6U (b:Expr){op:CmpOp}(h:op≠ .In)(h2:op≠ .NotIn):behindInMarks op b=false:=by
 have e1:(op==CmpOp.In)=false:=by cases op<;>first|rfl|exact absurd rfl h
 have e2:(op==CmpOp.NotIn)=false:=by cases op<;>first|rfl|exact absurd rfl h2
 cases b<;>simp[behindInMarks,e1,e2]
def tIsN (ta:TE):TE:=fun σ H Q=>ta σ H fun x H1=>Q (.bl (decide (x= .non))) H1
theorem RelV.none_iff {x:V}{v:Value}(r:RelV x v):(v==Value.none)=decide (x= .non):=by
 cases x with
 |non=>cases r;rfl
 |bl _=>cases r;rfl
 |int _=>obtain⟨t,rfl⟩:=r;rfl
 |str _=>obtain⟨t,rfl⟩:=r;rfl
 |byt _=>obtain⟨t,rfl⟩:=r;rfl
 |flt _=>obtain⟨t,rfl⟩:=r;rfl
 |ref _=>cases r;rfl
 |ty _=>cases r;rfl
theorem q2E {j pos'}(ha:PE X a ta):PC X .Is a (.Constant .none j pos') (tIsN ta):=by
 intro pins s σ H Q I h
 refine thn (ha pins s σ H _ I h) fun v s1 ⟨x,H1,I1,r1,q1⟩=>?_
 exact Constant_none (is_none_gen ⟨.bl _,H1,I1,by rw[r1.none_iff];rfl,q1⟩)
def tB (t:TE):TT:=fun σ H Q=>t σ H fun x H1=>∃c,x= .bl c/\Q c H1
theorem qbp {op:CmpOp}{t:TE}(h:PC X op a b t)(h1:behindInMarks op b=false:=by first|exact q6U _ (by decide) (by decide)|rfl):PE X (.Compare a [op] [b] pos) t:=fun pins s σ H Q I hw=>wpAny_Compare1 (h pins s σ H Q I hw) h1
theorem q1M {op:CmpOp}{t:TE}(h:PC X op a b t)(h1:behindInMarks op b=false:=by first|exact q6U _ (by decide) (by decide)|rfl):PT X (.Compare a [op] [b] pos) (tB t):=by
 intro pins s σ H Q I hw
 refine wpAny_isTrue_Compare1 (thn (h pins s σ H _ I hw) fun v s1 h1=>thn h1 fun u s2 h2=>thn h2 fun c s3 ⟨x,H1,I1,r1,q1⟩=>?_) h1
 obtain⟨d,rfl,q⟩:=q1
 cases r1
 exact wpAny_truthy_bool ⟨H1,I1,q⟩
theorem q0A {e:Expr}{t:TE}(h:PE X e t)(he:∀whole,isTrue e X.env whole=(do let v<-whole;standAt e.pos;holding [v] (truthy v)):=by intro _;rfl):PT X e (tB t):=by
 intro pins s σ H Q I hw
 refine isTrue_plain (thn (h pins s σ H _ I hw) fun v s1 ⟨x,H1,I1,r1,q1⟩=>?_) (he _)
 obtain⟨d,rfl,q⟩:=q1
 cases r1
 exact wpAny_truthy_bool ⟨H1,I1,q⟩
variable {tA tB':TT}{rest:List Expr}
def tOr (t u:TT):TT:=fun σ H Q=>t σ H fun c H1=>if c=true then Q true H1 else u σ H1 Q
def tNot (t:TT):TT:=fun σ H Q=>t σ H fun c H1=>Q (!c) H1
theorem q1F (ha:PT X a tA):PW X (.BoolOp .Or [a] pos) tA:=by
 intro wh pins s σ H Q I h
 refine isTrue_or (thn (ha pins s σ H Q I h) fun c s1 e=>?_)
 cases c with
 |false=>exact isTrue_or_nil e
 |true=>exact e
theorem q2i (ha:PT X a tA)(hb:PW X (.BoolOp .Or (b::rest) pos) tB'):PW X (.BoolOp .Or (a::b::rest) pos) (tOr tA tB'):=by
 intro wh pins s σ H Q I h
 refine isTrue_or (thn (ha pins s σ H _ I h) fun c s1 ⟨H1,I1,q1⟩=>?_)
 cases c with
 |true=>exact⟨H1,I1,q1⟩
 |false=>exact hb wh pins s1 σ H1 Q I1 q1
theorem q2b (ha:PT X a tA):PT X (.UnaryOp .Not a pos) (tNot tA):=by
 intro pins s σ H Q I h
 exact isTrue_not (ha pins s σ H (fun c H1=>Q (!c) H1) I h)
def tAndV (ta tb:TE):TE:=fun σ H Q=>ta σ H fun x H1=>∃c,x= .bl c/\if c=true then tb σ H1 Q else Q (.bl false) H1
def tOrV (ta tb:TE):TE:=fun σ H Q=>ta σ H fun x H1=>∃c,x= .bl c/\if c=true then Q (.bl true) H1 else tb σ H1 Q
def tNotV (ta:TE):TE:=fun σ H Q=>ta σ H fun x H1=>∃c,x= .bl c/\Q (.bl (!c)) H1
theorem q3D {op}{t:TE}(h:PE X a t):PE X (.BoolOp op [a] pos) t:=fun pins s σ H Q I hw=>BoolOp_one (h pins s σ H Q I hw)
theorem q5D (ha:PE X a ta)(hb:PE X (.BoolOp .And (b::rest) pos) tb):PE X (.BoolOp .And (a::b::rest) pos) (tAndV ta tb):=by
 intro pins s σ H Q I h
 refine BoolOp_and (thn (ha pins s σ H _ I h) fun v s1 ⟨x,H1,I1,r1,q1⟩=>?_)
 obtain⟨c,rfl,q1⟩:=q1
 cases r1
 refine wpAny_truthy_bool ?_
 cases c with
 |true=>exact hb pins s1 σ H1 Q I1 q1
 |false=>exact⟨.bl false,H1,I1,rfl,q1⟩
theorem pe_or (ha:PE X a ta)(hb:PE X (.BoolOp .Or (b::rest) pos) tb):PE X (.BoolOp .Or (a::b::rest) pos) (tOrV ta tb):=by
 intro pins s σ H Q I h
 refine BoolOp_or (thn (ha pins s σ H _ I h) fun v s1 ⟨x,H1,I1,r1,q1⟩=>?_)
 obtain⟨c,rfl,q1⟩:=q1
 cases r1
 refine wpAny_truthy_bool ?_
 cases c with
 |false=>exact hb pins s1 σ H1 Q I1 q1
 |true=>exact⟨.bl true,H1,I1,rfl,q1⟩
theorem pe_not (ha:PE X a ta):PE X (.UnaryOp .Not a pos) (tNotV ta):=by
 intro pins s σ H Q I h
 refine UnaryOp_ (thn (ha pins s σ H _ I h) fun v s1 ⟨x,H1,I1,r1,q1⟩=>?_)
 obtain⟨c,rfl,q1⟩:=q1
 cases r1
 exact not_of (wpAny_truthy_bool ⟨.bl (!c),H1,I1,rfl,q1⟩)
def tIf (t:TT)(ta tb:TE):TE:=fun σ H Q=>t σ H fun c H1=>if c=true then ta σ H1 Q else tb σ H1 Q
theorem q1X {c:Expr}(hc:PT X c tA)(ha:PE X a ta)(hb:PE X b tb):PE X (.IfExp c a b pos) (tIf tA ta tb):=by
 intro pins s σ H Q I h
 refine wpAny_IfExp (thn (hc pins s σ H _ I h) fun d s1 ⟨H1,I1,q1⟩=>?_)
 cases d with
 |true=>exact ha pins s1 σ H1 Q I1 q1
 |false=>exact hb pins s1 σ H1 Q I1 q1
end
end L2
namespace L2
open PySem PySem.Spec PyProof.Rows
def SqL (K:PySem.W.Frag)(H:Hp)(a:Addr)(xs:List V):Prop:=
 Rd H a (.lst xs)\/
  ∃(o:Obj) (its:Array Value) (n:Nat),K.lookup a=some o/\o.cls= .type "list"/\o.dict=none/\o.data= .seq its n/\its.size<=sizeLine/\Vals xs its.toList
def SqT (K:PySem.W.Frag)(H:Hp)(a:Addr)(xs:List V):Prop:=
 Rd H a (.tup xs)\/
  ∃(o:Obj) (its:Array Value) (n:Nat),K.lookup a=some o/\o.cls= .type "tuple"/\o.data= .seq its n/\its.size<=sizeLine/\Vals xs its.toList
def absV:Value->Option V
 | .none=>some .non
 | .bool b=>some (.bl b)
 | .int i _=>some (.int i)
 | .str x _=>some (.str x)
 | .bytes b _=>some (.byt b)
 | .float b _=>some (.flt b)
 | .ref a=>some (.ref a)
 | .type n=>some (.ty n)
 |_=>none
theorem RelV.abs {x:V}{u:Value}(r:RelV x u):absV u=some x:=by
 cases x with
 |non=>cases r;rfl
 |bl _=>cases r;rfl
 |int _=>obtain⟨t,rfl⟩:=r;rfl
 |str _=>obtain⟨t,rfl⟩:=r;rfl
 |byt _=>obtain⟨t,rfl⟩:=r;rfl
 |flt _=>obtain⟨t,rfl⟩:=r;rfl
 |ref _=>cases r;rfl
 |ty _=>cases r;rfl
theorem RelV.inj {x y:V}{u:Value}(r:RelV x u)(q:RelV y u):x=y:=Option.some.inj (r.abs.symm.trans q.abs)
theorem Vals.inj:∀{xs ys:List V} {us:List Value},Vals xs us->Vals ys us->xs=ys
 |_,_,_,.nil,.nil=>rfl
 |_,_,_,.cons r t,.cons r' t'=>by rw[r.inj r',Vals.inj t t']
section
variable {X:Cx}{pins:List (Addr×Obj)}{σ:St}{H:Hp}{s:Shared}{a:Addr}{xs ys:List V}
theorem SqL.of {K:PySem.W.Frag}(h:H a=some (.lst xs)):SqL K H a xs:= .inl (.inl h)
theorem SqT.of {K:PySem.W.Frag}(h:H a=some (.tup xs)):SqT K H a xs:= .inl (.inl h)
theorem Inv.list (I:Inv X pins σ H s)(h:SqL X.K H a xs):∃its:List Value,Vals xs its/\PlainL s.heap a its.toArray/\xs.length<=sizeLine:=by
 rcases h with h|⟨o,its,n,hk,hc,hd,hs,hz,r⟩
 ·obtain ⟨z,its,n,r,e⟩:=h.ok I.hok
  exact⟨its,r,⟨_,n,e,rfl,rfl,rfl⟩,z⟩
 ·refine ⟨its.toList,r,⟨o,n,I.kIn a o hk,hc,hd,by simpa using hs⟩,?_⟩
  have e:=r.length
  simp only[Array.length_toList] at e
  omega
theorem Inv.tuple (I:Inv X pins σ H s)(h:SqT X.K H a xs):∃its:List Value,Vals xs its/\IsTup s.heap a its.toArray/\xs.length<=sizeLine:=by
 rcases h with h|⟨o,its,n,hk,hc,hs,hz,r⟩
 ·obtain ⟨z,its,r,p⟩:=h.ok I.hok
  exact⟨its,r,p,z⟩
 ·refine ⟨its.toList,r,⟨o,I.kIn a o hk,hc,n,by simpa using hs⟩,?_⟩
  have e:=r.length
  simp only[Array.length_toList] at e
  omega
theorem Inv.list_inj (I:Inv X pins σ H s)(h:SqL X.K H a xs)(h':SqL X.K H a ys):xs=ys:=by
 obtain⟨its,r,⟨o,n,e,_,_,d⟩,_⟩:=I.list h
 obtain⟨its',r',⟨o',n',e',_,_,d'⟩,_⟩:=I.list h'
 rw[e] at e';cases e'
 rw[d] at d'
 injection d' with d1 _
 have:its=its':=by simpa using congrArg Array.toList d1
 subst this
 exact r.inj r'
theorem Inv.tuple_inj (I:Inv X pins σ H s)(h:SqT X.K H a xs)(h':SqT X.K H a ys):xs=ys:=by
 obtain⟨its,r,⟨o,e,_,n,d⟩,_⟩:=I.tuple h
 obtain⟨its',r',⟨o',e',_,n',d'⟩,_⟩:=I.tuple h'
 rw[e] at e';cases e'
 rw[d] at d'
 injection d' with d1 _
 have:its=its':=by simpa using congrArg Array.toList d1
 subst this
 exact r.inj r'
end
abbrev Cx.wish (X:Cx)(E:Value->Shared->Prop):Cx:={X with xe:=E}
abbrev Cx.nox (X:Cx):Cx:=X.wish fun _ _=>False
theorem Cx.Ok.wish {X:Cx}(ok:X.Ok)(E:Value->Shared->Prop):(X.wish E).Ok:=
 ⟨ok.mod,ok.kind,ok.glob,ok.blt,ok.above,ok.inj,ok.has,ok.cab,ok.hd,ok.frames,ok.stk,ok.exf,ok.bs,ok.bsz,ok.noex,ok.exfs,ok.funs,ok.frf⟩
theorem Cx.Ok.unwish {X:Cx}{E:Value->Shared->Prop}(ok:(X.wish E).Ok):X.Ok:=
 ⟨ok.mod,ok.kind,ok.glob,ok.blt,ok.above,ok.inj,ok.has,ok.cab,ok.hd,ok.frames,ok.stk,ok.exf,ok.bs,ok.bsz,ok.noex,ok.exfs,ok.funs,ok.frf⟩
section
variable {X:Cx}{pins:List (Addr×Obj)}{σ:St}{H:Hp}{s:Shared}{E:Value->Shared->Prop}
theorem Inv.wish (I:Inv X pins σ H s)(E:Value->Shared->Prop):Inv (X.wish E) pins σ H s:=⟨I.ok.wish E,I.os,I.bare,I.base,I.loc,I.cell,I.free,I.freeC,I.pin,I.hok,I.len⟩
theorem Inv.unwish (I:Inv (X.wish E) pins σ H s):Inv X pins σ H s:=⟨I.ok.unwish,I.os,I.bare,I.base,I.loc,I.cell,I.free,I.freeC,I.pin,I.hok,I.len⟩
theorem SP.unwish {D:Ends}{f:Flow}{s':Shared}(h:SP (X.wish E) pins D f s'):SP X pins D f s':=by
 cases f with
 |next=>obtain⟨σ',H',I,q⟩:=h;exact⟨σ',H',I.unwish,q⟩
 |brk=>obtain⟨σ',H',I,q⟩:=h;exact⟨σ',H',I.unwish,q⟩
 |cont=>obtain⟨σ',H',I,q⟩:=h;exact⟨σ',H',I.unwish,q⟩
 |ret u=>obtain⟨v,σ',H',I,r,q⟩:=h;exact⟨v,σ',H',I.unwish,r,q⟩
theorem PSs.nox {st:List Stmt}{t:TS}(h:PSs X.nox st t):PSs X st t:=fun pins s σ H D I hw=>
 wpAny_mono (h pins s σ H D (I.wish _) hw) (fun _ _ q=>q.unwish) fun _ _ z=>False.elim z
end
section
variable {X:Cx}{st:Stmt}{rest:List Stmt}{t u:TS}{e:Expr}{te:TE}{pos:Pos}
def tNext:TS:=fun D σ H=>D.nx σ H
def tSeq (t u:TS):TS:=fun D σ H=>t {D with nx:=u D} σ H
theorem qu:PSs X [] tNext:=fun _ _ σ H _ I h=>wpAny_execs_nil ⟨σ,H,I,h⟩
theorem qc (h1:PS X st t)(h2:PSs X rest u):PSs X (st::rest) (tSeq t u):=by
 intro pins s σ H D I h
 refine wpAny_execs_cons (thn (h1 pins s σ H {D with nx:=u D} I h) fun f s1 q=>?_)
 cases f with
 |next=>
  obtain⟨σ',H',I',q⟩:=q
  exact h2 pins s1 σ' H' D I' q
 |ret v=>exact q
 |brk=>exact q
 |cont=>exact q
theorem qf (h1:PS X st t):PSs X [st] t:=by
 intro pins s σ H D I h
 refine wpAny_execs_cons (thn (h1 pins s σ H D I h) fun f s1 q=>?_)
 cases f with
 |next=>exact wpAny_execs_nil q
 |ret v=>exact q
 |brk=>exact q
 |cont=>exact q
theorem Inv.quiet {pins:List (Addr×Obj)}{σ:St}{H:Hp}{s:Shared}(I:Inv X pins σ H s):interactive X.env=false:=by simp[interactive,I.ok.kind]
def tDrop (te:TE):TS:=fun D σ H=>te σ H fun _ H1=>D.nx σ H1
theorem qF (he:PE X e te)(hs:swapsWith e none pos.line X.env=pure false:=by rfl):PS X (.Expr e pos) (tDrop te):=by
 intro pins s σ H D I h
 exact wpAny_Expr_any (thn (he pins s σ H _ I h) fun v s1 ⟨x,H1,I1,r1,q1⟩=>⟨σ,H1,I1,q1⟩) I.quiet hs
def tRet (te:TE):TS:=fun D σ H=>te σ H D.rt
theorem ql (he:PE X e te):PS X (.Return (some e) pos) (tRet te):=by
 intro pins s σ H D I h
 exact wpAny_Return_some (thn (he pins s σ H _ I h) fun v s1 ⟨x,H1,I1,r1,q1⟩=>⟨x,σ,H1,I1,r1,q1⟩)
def tIfS (c:TT)(t u:TS):TS:=fun D σ H=>c σ H fun b H1=>if b=true then t D σ H1 else u D σ H1
theorem qV {c:Expr}{a b:List Stmt}{tc:TT}(hc:PT X c tc)(ha:PSs X a t)(hb:PSs X b u):PS X (.If c a b pos) (tIfS tc t u):=by
 intro pins s σ H D I h
 refine wpAny_If (thn (hc pins s σ H _ I h) fun d s1 ⟨H1,I1,q1⟩=>?_)
 cases d with
 |true=>exact ha pins s1 σ H1 D I1 q1
 |false=>exact hb pins s1 σ H1 D I1 q1
def tNever:TS:=fun _ _ _=>False
theorem q0Z:PS X st tNever:=fun _ _ _ _ _ _ h=>h.elim
end
abbrev TG:=V->St->Hp->(St->Hp->Prop)->Prop
abbrev TGs:=List V->St->Hp->(St->Hp->Prop)->Prop
def PG (X:Cx)(target:Expr)(t:TG):Prop:=
 ∀(pins:List (Addr×Obj)) (s:Shared) (σ:St) (H:Hp) (v:V) (u:Value) (Q:St->Hp->Prop),Inv X pins σ H s->RelV v u->t v σ H Q->
  wpAny (model X.prog X.w) X.A (assign target X.env u) (fun _ s'=>∃σ' H',Inv X pins σ' H' s'/\Q σ' H') X.xe s
def PGs (X:Cx)(ts:List Expr)(t:TGs):Prop:=
 ∀(pins:List (Addr×Obj)) (s:Shared) (σ:St) (H:Hp) (vs:List V) (us:List Value) (Q:St->Hp->Prop),Inv X pins σ H s->Vals vs us->t vs σ H Q->
  wpAny (model X.prog X.w) X.A (assignInOrder ((assignEach ts X.env).map (·.2)) us) (fun _ s'=>∃σ' H',Inv X pins σ' H' s'/\Q σ' H') X.xe s
abbrev TSet:=V->V->V->Hp->(Hp->Prop)->Prop
def PSet (X:Cx)(t:TSet):Prop:=
 ∀(pins:List (Addr×Obj)) (s:Shared) (σ:St) (H:Hp) (o i v:V) (ov iv u:Value) (Q:Hp->Prop),Inv X pins σ H s->RelV o ov->RelV i iv->RelV v u->t o i v H Q->
  wpAny (model X.prog X.w) X.A (setItem ov iv u) (fun _ s'=>∃H',Inv X pins σ H' s'/\Q H') X.xe s
abbrev TIp:=V->V->Hp->VK->Prop
def PIp (X:Cx)(op:Operator)(t:TIp):Prop:=
 ∀(pins:List (Addr×Obj)) (s:Shared) (σ:St) (H:Hp) (x y:V) (v u:Value) (Q:VK),Inv X pins σ H s->RelV x v->RelV y u->t x y H Q->
  wpAny (model X.prog X.w) X.A (inplaceOp op v u) (EP X pins σ Q) X.xe s
section
variable {X:Cx}{pos:Pos}
def qaU (i:Nat):TG:=fun v σ H Q=>Q (σ.set i (some v)) H
theorem qq {i:Nat}{x:Str}(hN:X.N.Nodup)(hi:X.N[i]? =some x)(hx:Loc X.env.scope x)(hf:X.fn x=true\/X.env.scope.names.lookup x=some .local:=by first|exact .inl rfl|exact .inr rfl|assumption):PG X (.Name x pos) (qaU i):=by
 intro pins s σ H v u Q I r h
 exact wpAny_assign_Name (q4j I hN hi hx r (fun s' I'=>⟨_,H,I',h⟩) hf)
def gNil:TGs:=fun vs σ H Q=>vs=[]/\Q σ H
def gCons (t:TG)(u:TGs):TGs:=fun vs σ H Q=>∃v r,vs=v::r/\t v σ H fun σ' H'=>u r σ' H' Q
theorem q1N:PGs X [] gNil:=by
 intro pins s σ H vs us Q I r h
 obtain⟨e,h⟩:=h
 subst e
 cases r
 exact assignInOrder_nil ⟨σ,H,I,h⟩
theorem qG {e:Expr}{es:List Expr}{t:TG}{u:TGs}(h1:PG X e t)(h2:PGs X es u)
  (hs:(assignEach (e::es) X.env).map (·.2)=assign e X.env::(assignEach es X.env).map (·.2):=by rfl):PGs X (e::es) (gCons t u):=by
 intro pins s σ H vs us Q I r h
 obtain⟨v,vr,e1,h⟩:=h
 subst e1
 cases r with
 |cons r rr=>
  rw[hs]
  refine assignInOrder_cons (thn (h1 pins s σ H _ _ _ I r h) fun _ s1 ⟨σ1,H1,I1,q1⟩=>?_)
  exact h2 pins s1 σ1 H1 _ _ Q I1 rr q1
def gTup (K:PySem.W.Frag)(n:Nat)(t:TGs):TG:=fun v σ H Q=>∃a xs,v= .ref a/\SqT K H a xs/\xs.length=n/\t xs σ H Q
theorem pg_tup {es:List Expr}{k:Nat}{t:TGs}{n:Nat}(hc:X.calm=true)(h:PGs X es t)
  (hn:(assignEach es X.env).length=n:=by rfl)(hst:(assignEach es X.env).findIdx? (·.1)=none:=by rfl):PG X (.Tuple es k pos) (gTup X.K n t):=by
 intro pins s σ H v u Q I r hw
 obtain⟨a,xs,e1,hq,hl,hw⟩:=hw
 subst e1
 cases r
 obtain⟨its,rv,ht,hz⟩:=I.tuple hq
 refine assign_Tuple_tuple (I.ok.hd hc) ht (by simp[hn,<-hl,rv.length]) hst fun h' hx=>?_
 have I1:Inv X pins σ H {s with heap:=h'}:=I.kept (t':=s.toks) fun b o e=>hx b o (Nat.ne_of_lt (Heap.lt_size e)) e
 exact h pins _ σ H xs _ Q I1 (by simpa using rv) hw
def tAsg (te:TE)(g:TG):TS:=fun D σ H=>te σ H fun x H1=>g x σ H1 D.nx
theorem qw {i:Nat}{x:Str}{e:Expr}{te:TE}{pos':Pos}(hN:X.N.Nodup)(hi:X.N[i]? =some x)(hx:Loc X.env.scope x)(he:PE X e te)(hs:swapsWith e (some (.Name x pos')) pos.line X.env=pure false:=by rfl)(hf:X.fn x=true\/X.env.scope.names.lookup x=some .local:=by first|exact .inl rfl|exact .inr rfl|assumption):
  PS X (.Assign [.Name x pos'] e pos) (tAsg te (qaU i)):=by
 intro pins s σ H D I h
 refine wpAny_Assign_Name (thn (he pins s σ H _ I h) fun v s1 ⟨y,H1,I1,r1,q1⟩=>?_) hs
 exact q4j I1 hN hi hx r1 (fun s2 I2=>⟨_,H1,I2,q1⟩) hf
def tAug (i:Nat)(te:TE)(ti:TIp):TS:=fun D σ H=>∃x,σ[i]? =some (some x)/\te σ H fun y H1=>ti x y H1 fun z H2=>D.nx (σ.set i (some z)) H2
theorem qbn {i:Nat}{x:Str}{e:Expr}{te:TE}{op:Operator}{ti:TIp}{pos':Pos}(hN:X.N.Nodup)(hi:X.N[i]? =some x)(hx:Loc X.env.scope x)(he:PE X e te)(ho:PIp X op ti)(hf:X.fn x=true\/X.env.scope.names.lookup x=some .local:=by first|exact .inl rfl|exact .inr rfl|assumption):
  PS X (.AugAssign (.Name x pos') op e pos) (tAug i te ti):=by
 intro pins s σ H D I h
 obtain⟨v,e1,h⟩:=h
 obtain⟨m,hn,hl⟩:=I.loc
 have vis:Vis X.env.scope x:=by rcases hx with k|k;exact .inl k;exact .inr (.inl k)
 obtain⟨u,r,l⟩:=hl i x v hi e1 vis
 refine wpAny_AugAssign_Name ?_
 have go:wpAny (model X.prog X.w) X.A (eval e X.env) (fun w s₂=>wpAny (model X.prog X.w) X.A (inplaceOp op u w) (fun r s₃=>wpAny (model X.prog X.w) X.A (storeName X.env x r) (fun _=>SP X pins D .next) X.xe s₃) X.xe s₂) X.xe s:=by
  refine thn (he pins s σ H _ I h) fun w s1 ⟨y,H1,I1,r1,q1⟩=>?_
  refine thn (ho pins s1 σ H1 v y u w _ I1 r r1 q1) fun z s2 ⟨zv,H2,I2,r2,q2⟩=>?_
  exact q4j I2 hN hi hx r2 (fun s3 I3=>⟨_,H2,I3,q2⟩) hf
 rcases l with⟨hk,hm⟩|⟨hk,c,hc,hcell⟩
 ·exact wpAny_loadName_local I.ok.kind hk hn hm go
 ·rcases hk with hk|hk
  ·exact wpAny_loadName_cell I.ok.kind hk hc hcell go
  ·rcases hx with k|k
   ·have:X.env.scope.names.lookup x=some .free:=hk
    rw[k] at this;cases this
   ·have:X.env.scope.names.lookup x=some .free:=hk
    rw[k] at this;cases this
def tAugS (to ti te:TE)(tget:V->V->Hp->VK->Prop)(tip:TIp)(tset:TSet):TS:=fun D σ H=>to σ H fun o H1=>ti σ H1 fun i H2=>tget o i H2 fun x H3=>te σ H3 fun y H4=>tip x y H4 fun z H5=>tset o i z H5 fun H6=>D.nx σ H6
def PGet (X:Cx)(t:V->V->Hp->VK->Prop):Prop:=
 ∀(pins:List (Addr×Obj)) (s:Shared) (σ:St) (H:Hp) (o i:V) (ov iv:Value) (Q:VK),Inv X pins σ H s->RelV o ov->RelV i iv->t o i H Q->
  wpAny (model X.prog X.w) X.A (getItem ov iv) (EP X pins σ Q) X.xe s
theorem q8r {o i e:Expr}{to ti te:TE}{tget:V->V->Hp->VK->Prop}{tip:TIp}{tset:TSet}{op:Operator}{tpos:Pos}(ho:PE X o to)(hi:PE X i ti)(hg:PGet X tget)(he:PE X e te)(hp:PIp X op tip)(hs:PSet X tset)
  (ha:∀ov iv new,augStore i ov iv new=(do holding [new,ov,iv] (setItem ov iv new);release [new,ov,iv] [];pure .next):=by intros;rfl):PS X (.AugAssign (.Subscript o i tpos) op e pos) (tAugS to ti te tget tip tset):=by
 intro pins s σ H D I h
 refine wpAny_AugAssign_SubscriptAny (thn (ho pins s σ H _ I h) fun ov s1 ⟨x1,H1,I1,r1,q1⟩=>?_) ha
 refine thn (hi pins s1 σ H1 _ I1 q1) fun iv s2 ⟨x2,H2,I2,r2,q2⟩=>?_
 refine thn (hg pins s2 σ H2 x1 x2 ov iv _ I2 r1 r2 q2) fun old s3 ⟨x3,H3,I3,r3,q3⟩=>?_
 refine thn (he pins s3 σ H3 _ I3 q3) fun v s4 ⟨x4,H4,I4,r4,q4⟩=>?_
 refine thn (hp pins s4 σ H4 x3 x4 old v _ I4 r3 r4 q4) fun new s5 ⟨x5,H5,I5,r5,q5⟩=>?_
 exact thn (hs pins s5 σ H5 x1 x2 x5 ov iv new _ I5 r1 r2 r5 q5) fun _ s6 ⟨H6,I6,q6⟩=>⟨σ,H6,I6,q6⟩
def ipI (f:Int->Int->Int):TIp:=fun x y H Q=>∃i j,x= .int i/\y= .int j/\Q (.int (f i j)) H
theorem q8Y:PIp X .Add (ipI fun i j=>i+j):=by
 intro pins s σ H x y v u Q I r1 r2 h
 obtain⟨i,j,e1,e2,q⟩:=h
 subst e1;subst e2
 obtain⟨t,rfl⟩:=r1
 obtain⟨t',rfl⟩:=r2
 exact iadd_int ⟨.int _,H,I.tok _,⟨_,rfl⟩,q⟩
theorem ip_sub:PIp X .Sub (ipI fun i j=>i - j):=by
 intro pins s σ H x y v u Q I r1 r2 h
 obtain⟨i,j,e1,e2,q⟩:=h
 subst e1;subst e2
 obtain⟨t,rfl⟩:=r1
 obtain⟨t',rfl⟩:=r2
 exact isub_int ⟨.int _,H,I.tok _,⟨_,rfl⟩,q⟩
end
section
variable {X:Cx}{pos:Pos}
def qbb (c:TT)(tb:TS):TS:=fun D σ H=>∃W:Nat->St->Hp->Prop,(∃m,W m σ H)/\∀m σ H,W m σ H->
 c σ H fun b H1=>if b=true then∃N:St->Hp->Prop,(∀σ' H',N σ' H'->∃m',m'<m/\W m' σ' H')/\tb {D with nx:=N,ct:=N,bk:=D.nx} σ H1 else D.nx σ H1
theorem q6M {c:Expr}{body:List Stmt}{tc:TT}{tb:TS}(hp:PassesOwn (model X.prog X.w) X.A X.env X.xe)(hc:PT X c tc)(hb:PSs X body tb):PS X (.While c body [] pos) (qbb tc tb):=by
 intro pins s σ H D I h
 obtain⟨W,⟨m0,w0⟩,turn⟩:=h
 refine wpAny_While (codeAny_whileLoop (fun n s'=>∃σ' H',Inv X pins σ' H' s'/\W n σ' H') ?_ m0 ⟨σ,H,I,w0⟩)
 rintro n s1 ⟨σ1,H1,I1,w1⟩
 refine wpAny_passesOwn hp (thn (hc pins s1 σ1 H1 _ I1 (turn n σ1 H1 w1)) fun b s2 ⟨H2,I2,q2⟩=>?_)
 cases b with
 |true=>
  obtain⟨N,hN,q2⟩:=q2
  rw[if_pos rfl]
  refine wpAny_passesOwn hp (thn (hb pins s2 σ1 H2 _ I2 q2) fun f s3 q3=>?_)
  cases f with
  |next=>
   obtain⟨σ3,H3,I3,n3⟩:=q3
   obtain⟨m',hm,w3⟩:=hN σ3 H3 n3
   exact⟨m',hm,σ3,H3,I3,w3⟩
  |cont=>
   obtain⟨σ3,H3,I3,n3⟩:=q3
   obtain⟨m',hm,w3⟩:=hN σ3 H3 n3
   exact⟨m',hm,σ3,H3,I3,w3⟩
  |brk=>exact q3
  |ret v=>exact q3
 |false=>
  rw[if_neg Bool.false_ne_true]
  exact wpAny_execs_nil ⟨σ1,H2,I2,q2⟩
end
structure It where
 go:Nat->Hp->Prop
 yld:Nat->Hp->V->Hp->Prop
 stop:Nat->Hp->Prop
def FpOk (X:Cx)(pins:List (Addr×Obj))(H:Hp)(b:Addr):Prop:=
 H b=none/\b≠X.env.locals/\b∉X.fs/\(b∈X.ex\/X.s₀.heap.objs.size<=b)/\(∀x c,X.env.cells.lookup x=some c->c≠b)/\∀p∈X.pn++pins,p.1≠b
theorem Inv.fpOk {X:Cx}{pins:List (Addr×Obj)}{σ:St}{H H':Hp}{s:Shared}{b:Addr}(I:Inv X pins σ H s)(hb:s.heap.objs.size<=b)(hn:H' b=none):FpOk X pins H' b:=by
 refine⟨hn,Nat.ne_of_gt (Nat.lt_of_lt_of_le I.lt hb),I.nofs hb,.inr (Nat.le_trans I.sz hb),fun x c e z=>?_,fun p hp z=>?_⟩
 ·obtain ⟨v,q⟩:=I.cell x c e
  exact absurd (Nat.lt_of_lt_of_le q.lt (by rw[z];exact hb)) (Nat.lt_irrefl _)
 ·exact absurd (Nat.lt_of_lt_of_le (Heap.lt_size (I.pin p hp).1) (by rw[z];exact hb)) (Nat.lt_irrefl _)
structure Turn (P:Program)(w:World)(K:PySem.W.Frag)(tg:Expr)(J:It)(fp:List Addr)(it:Addr)(tn:Nat->Heap->Prop):Prop where
 mem:it∈fp
 obj:∀i h,tn i h->∀b∈fp,∃o,h.get? b=some o/\∀v,o.data≠ .cell v
 keep:∀i h h',tn i h->(∀b∈fp,∀o,h.get? b=some o->h'.get? b=some o)->tn i h'
 item:∀(X:Cx),X.prog=P->X.w=w->X.K=K->X.calm=true->∀(i:Nat) (pins:List (Addr×Obj)) (s:Shared) (σ:St) (H:Hp) (E:Value->Shared->Prop),Inv X pins σ H s->(∀b∈fp,FpOk X pins H b)->tn i s.heap->J.go i H->
  wpAny (model P w) X.A (pyNext (.ref it)) (fun r s1=>∃u,r=some u/\
   wpAny (model P w) X.A (letOwnedTupleGo tg (.ref it) u) (fun _ s2=>∃x H',Inv X pins σ H' s2/\RelV x u/\J.yld i H x H'/\tn (i+1) s2.heap/\∀b∈fp,H' b=none) E s1) E s
 done:∀(X:Cx),X.prog=P->X.w=w->X.K=K->X.calm=true->∀(i:Nat) (pins:List (Addr×Obj)) (s:Shared) (σ:St) (H:Hp) (E:Value->Shared->Prop),Inv X pins σ H s->(∀b∈fp,FpOk X pins H b)->tn i s.heap->J.stop i H->
  wpAny (model P w) X.A (pyNext (.ref it)) (fun r s1=>r=none/\Inv X pins σ H s1) E s
 self:∀(A:Around) (i:Nat) (s:Shared) (Q:Value->Shared->Prop) (E:Value->Shared->Prop),tn i s.heap->Q (.ref it) s->wpAny (model P w) A (pyIter (.ref it)) Q E s
abbrev TI:=St->Hp->(It->Hp->Prop)->Prop
def PIE (X:Cx)(pins:List (Addr×Obj))(σ:St)(tg:Expr)(R:It->Hp->Prop)(itv:Value)(s2:Shared):Prop:=
 ∃(it:Addr) (fp:List Addr) (tn:Nat->Heap->Prop) (J:It) (H':Hp),itv= .ref it/\Inv X pins σ H' s2/\Turn X.prog X.w X.K tg J fp it tn/\tn 0 s2.heap/\(∀b∈fp,FpOk X pins H' b)/\R J H'
def PI (X:Cx)(tg iter:Expr)(wi:TI):Prop:=
 ∀(pins:List (Addr×Obj)) (s:Shared) (σ:St) (H:Hp) (R:It->Hp->Prop),Inv X pins σ H s->wi σ H R->
  wpAny (model X.prog X.w) X.A (eval iter X.env) (fun v s1=>wpAny (model X.prog X.w) X.A (pyIter v) (PIE X pins σ tg R) X.xe s1) X.xe s
theorem go_of {M:Model}{A:Around}{E:Value->Shared->Prop}{s:Shared}{tg:Expr}{it:Addr}{u:Value}{o:Obj}{n:String}{vs:Array Value}{Q:Unit->Shared->Prop}(ho:s.heap.get? it=some o)(hc:o.cls= .type n)(hd:o.data= .fields vs)
  (hn:["enumerate","zip","dict_itemiterator","dict_reverseitemiterator","odict_iterator","itertools.zip_longest","itertools.pairwise"].contains n=false)(hQ:Q () s):wpAny M A (letOwnedTupleGo tg (.ref it) u) Q E s:=by
 unfold letOwnedTupleGo
 cases tg<;>first
  |exact wpAny_pure hQ
  |(cases u<;>first
    |exact wpAny_pure hQ
    |(refine wpAny_bind (wpAny_load ho ?_)
      rw[hc,hd]
      show wpAny M A (if (["enumerate","zip","dict_itemiterator","dict_reverseitemiterator","odict_iterator","itertools.zip_longest","itertools.pairwise"].contains n&&vs[0]? ==some (rawInt _))=true then _ else _) Q E s
      rw[if_neg (by intro h;rw[hn,Bool.false_and] at h;cases h)]
      exact wpAny_pure hQ))
def Itl (K:PySem.W.Frag)(a:Addr):It:=
 ⟨fun i H=>∃xs x,SqL K H a xs/\xs[i]? =some x,fun i H x H'=>H'=H/\∀xs,SqL K H a xs->xs[i]? =some x,fun i H=>∃xs,SqL K H a xs/\xs.length<=i⟩
def Itt (K:PySem.W.Frag)(a:Addr):It:=
 ⟨fun i H=>∃xs x,SqT K H a xs/\xs[i]? =some x,fun i H x H'=>H'=H/\∀xs,SqT K H a xs->xs[i]? =some x,fun i H=>∃xs,SqT K H a xs/\xs.length<=i⟩
def Itr (lo:Int)(n:Nat):It:=⟨fun i _=>i<n,fun i H x H'=>H'=H/\x= .int (lo+i),fun i _=>n<=i⟩
theorem q7W {P:Program}{w:World}{K:PySem.W.Frag}{tg:Expr}(a it:Addr):Turn P w K tg (Itl K a) [it] it (fun i h=>h.IsListIter it a i) where
 mem:=by simp
 obj:=fun i h st b hb=>by
  have e:b=it:=by simpa using hb
  subst e
  obtain⟨o,e,c,d⟩:=st
  exact⟨o,e,fun v z=>by rw[d] at z;cases z⟩
 keep:=fun i h h' st k=>st.at fun o e=>k it (by simp) o e
 item:=by
  intro X hP hw hK hc i pins s σ H E I hf st hg
  subst hP hw hK
  obtain⟨xs,x,hq,hx⟩:=hg
  obtain⟨its,rv,p,hz⟩:=I.list hq
  obtain⟨u,hu,ru⟩:=rv.get hx
  obtain⟨f0,f1,f2,f3,f4,f5⟩:=hf it (by simp)
  refine wpAny_pyNext_list_item st p.isList (x:=u) (by simpa using hu) fun h' st' sb=>?_
  have I1:Inv X pins σ H {s with heap:=h'}:=I.turned (t':=s.toks) (fun b o hb e=>(sb.2 b hb).trans e) f0 f1 f3 f4 f5
  obtain⟨o,e,c,d⟩:=id st'
  exact⟨u,rfl,go_of (s:={s with heap:=h'}) e c d (by decide) ⟨x,H,I1,ru,⟨rfl,fun ys hy=>by rw[I.list_inj hy hq];exact hx⟩,st',fun b hb=>(hf b hb).1⟩⟩
 done:=by
  intro X hP hw hK hc i pins s σ H E I hf st hg
  subst hP hw hK
  obtain⟨xs,hq,hx⟩:=hg
  obtain⟨its,rv,p,hz⟩:=I.list hq
  obtain⟨f0,f1,f2,f3,f4,f5⟩:=hf it (by simp)
  have hl:=rv.length
  exact wpAny_pyNext_list_end (I.ok.hd hc) st p.isList (by simp;omega) fun h' eb=>⟨rfl,I.turned (t':=s.toks) (fun b o hb e=>eb b o hb e) f0 f1 f3 f4 f5⟩
 self:=fun _ _ _ _ _ st h=>wpAny_pyIter_listiter st h
theorem q7j {P:Program}{w:World}{K:PySem.W.Frag}{tg:Expr}(a it:Addr):Turn P w K tg (Itt K a) [it] it (fun i h=>h.IsTupleIter it a i) where
 mem:=by simp
 obj:=fun i h st b hb=>by
  have e:b=it:=by simpa using hb
  subst e
  obtain⟨o,e,c,d⟩:=st
  exact⟨o,e,fun v z=>by rw[d] at z;cases z⟩
 keep:=fun i h h' st k=>st.at fun o e=>k it (by simp) o e
 item:=by
  intro X hP hw hK hc i pins s σ H E I hf st hg
  subst hP hw hK
  obtain⟨xs,x,hq,hx⟩:=hg
  obtain⟨its,rv,p,hz⟩:=I.tuple hq
  obtain⟨u,hu,ru⟩:=rv.get hx
  obtain⟨f0,f1,f2,f3,f4,f5⟩:=hf it (by simp)
  refine wpAny_pyNext_tuple_item st (show s.heap.IsTuple a its.toArray from p) (x:=u) (by simpa using hu) fun h' st' sb=>?_
  have I1:Inv X pins σ H {s with heap:=h'}:=I.turned (t':=s.toks) (fun b o hb e=>(sb.2 b hb).trans e) f0 f1 f3 f4 f5
  obtain⟨o,e,c,d⟩:=id st'
  exact⟨u,rfl,go_of (s:={s with heap:=h'}) e c d (by decide) ⟨x,H,I1,ru,⟨rfl,fun ys hy=>by rw[I.tuple_inj hy hq];exact hx⟩,st',fun b hb=>(hf b hb).1⟩⟩
 done:=by
  intro X hP hw hK hc i pins s σ H E I hf st hg
  subst hP hw hK
  obtain⟨xs,hq,hx⟩:=hg
  obtain⟨its,rv,p,hz⟩:=I.tuple hq
  obtain⟨f0,f1,f2,f3,f4,f5⟩:=hf it (by simp)
  have hl:=rv.length
  exact wpAny_pyNext_tuple_end (I.ok.hd hc) st (show s.heap.IsTuple a its.toArray from p) (by simp;omega) fun h' eb=>⟨rfl,I.turned (t':=s.toks) (fun b o hb e=>eb b o hb e) f0 f1 f3 f4 f5⟩
 self:=fun _ _ _ _ _ st h=>wpAny_pyIter_tupleiter st h
theorem q7k {P:Program}{w:World}{K:PySem.W.Frag}{tg:Expr}(it:Addr)(lo:Int)(n:Nat):Turn P w K tg (Itr lo n) [it] it (fun i h=>IsRangeIter h it (lo+(i:Nat)*1) ((n:Int) - (i:Nat)) 1) where
 mem:=by simp
 obj:=fun i h st b hb=>by
  have e:b=it:=by simpa using hb
  subst e
  exact⟨_,st,fun v z=>by
   have z':Data.fields _=Data.cell v:=z
   cases z'⟩
 keep:=fun i h h' st k=>k it (by simp) _ st
 item:=by
  intro X hP hw hK hc i pins s σ H E I hf st hg
  subst hP hw hK
  obtain⟨f0,f1,f2,f3,f4,f5⟩:=hf it (by simp)
  have W:=Walks.range (prog:=X.prog) (w:=X.w) (I.ok.hd hc) it lo 1 n
  refine W.item i s _ _ hg st fun v h' tk hv st' kk=>?_
  obtain⟨t,rfl⟩:=hv
  have I1:Inv X pins σ H {s with heap:=h',toks:=tk}:=I.turned (fun b o hb e=>kk b o (by simpa using hb) e) f0 f1 f3 f4 f5
  refine⟨_,rfl,go_of (s:={s with heap:=h',toks:=tk}) (n:="range_iterator") st' rfl rfl (by decide) ⟨.int (lo+i),H,I1,⟨t,?_⟩,⟨rfl,rfl⟩,st',fun b hb=>(hf b hb).1⟩⟩
  rw[Int.mul_one]
 done:=by
  intro X hP hw hK hc i pins s σ H E I hf st hg
  subst hP hw hK
  obtain⟨f0,f1,f2,f3,f4,f5⟩:=hf it (by simp)
  exact wpAny_pyNext_range_end (I.ok.hd hc) st (by have:n<=i:=hg;omega) fun h' eb=>⟨rfl,I.turned (t':=s.toks) (fun b o hb e=>eb b o hb e) f0 f1 f3 f4 f5⟩
 self:=fun _ _ _ _ _ st h=>wpAny_pyIter_rangeiter st h
end L2
namespace L2
open PySem PySem.Spec PyProof.Rows
section
variable {X:Cx}{tg:Expr}
def qcW (K:PySem.W.Frag)(tl:TE):TI:=fun σ H R=>tl σ H fun x H1=>∃a,x= .ref a/\(∃xs,SqL K H1 a xs)/\R (Itl K a) H1
def iTup (K:PySem.W.Frag)(tl:TE):TI:=fun σ H R=>tl σ H fun x H1=>∃a,x= .ref a/\(∃xs,SqT K H1 a xs)/\R (Itt K a) H1
theorem qcl {l:Expr}{tl:TE}(hl:PE X l tl):PI X tg l (qcW X.K tl):=by
 intro pins s σ H R I h
 refine thn (hl pins s σ H _ I h) fun v s1 ⟨x,H1,I1,r1,q1⟩=>?_
 obtain⟨a,e,⟨xs,hq⟩,q⟩:=q1
 subst e
 cases r1
 obtain⟨its,rv,p,hz⟩:=I1.list hq
 refine wpAny_pyIter_list p.isList ?_
 refine⟨s1.heap.objs.size,[s1.heap.objs.size],_,_,H1,rfl,I1.kept (t':=s1.toks) fun b o e=>Heap.get?_push_of_some _ e,q7W a _,⟨_,Heap.get?_push_size _ rfl,rfl,rfl⟩,fun b hb=>?_,q⟩
 have e:b=s1.heap.objs.size:=by simpa using hb
 subst e
 exact I1.fpOk (Nat.le_refl _) (I1.hok.fresh (Nat.le_refl _))
theorem pi_tup {l:Expr}{tl:TE}(hl:PE X l tl):PI X tg l (iTup X.K tl):=by
 intro pins s σ H R I h
 refine thn (hl pins s σ H _ I h) fun v s1 ⟨x,H1,I1,r1,q1⟩=>?_
 obtain⟨a,e,⟨xs,hq⟩,q⟩:=q1
 subst e
 cases r1
 obtain⟨its,rv,p,hz⟩:=I1.tuple hq
 refine wpAny_pyIter_tuple (show s1.heap.IsTuple a its.toArray from p) ?_
 refine⟨s1.heap.objs.size,[s1.heap.objs.size],_,_,H1,rfl,I1.kept (t':=s1.toks) fun b o e=>Heap.get?_push_of_some _ e,q7j a _,⟨_,Heap.get?_push_size _ rfl,rfl,rfl⟩,fun b hb=>?_,q⟩
 have e:b=s1.heap.objs.size:=by simpa using hb
 subst e
 exact I1.fpOk (Nat.le_refl _) (I1.hok.fresh (Nat.le_refl _))
theorem qa8 {pins:List (Addr×Obj)}{σ:St}{H:Hp}{s:Shared}{R:It->Hp->Prop}{E:Value->Shared->Prop}{lo hi:Int}{t u v:Tok}{tk:Nat}(I:Inv X pins σ H s)(h1: -(2 ^ 62)<=lo)(h2:lo<2 ^ 62)(h3: -(2 ^ 62)<=hi)(h4:hi<2 ^ 62)
  (q:R (Itr lo (hi - lo).toNat) H):wpAny (model X.prog X.w) X.A (pyIter (.ref s.heap.objs.size)) (PIE X pins σ tg R) E {s with heap:=s.heap.push {cls:= .type "range",data:= .fields #[.int lo t,.int hi u,.int 1 v]},toks:=tk}:=by
 refine wpAny_pyIter_range (IsRange.new ..) (small_one h1 h2 h3 h4) ?_
 have I1:Inv X pins σ H {s with heap:=s.heap.push {cls:= .type "range",data:= .fields #[.int lo t,.int hi u,.int 1 v]},toks:=tk}:=I.kept fun b o e=>Heap.get?_push_of_some _ e
 refine⟨(s.heap.push {cls:= .type "range",data:= .fields #[.int lo t,.int hi u,.int 1 v]}).objs.size,[(s.heap.push {cls:= .type "range",data:= .fields #[.int lo t,.int hi u,.int 1 v]}).objs.size],_,_,H,rfl,
  I1.kept (t':=tk) fun b o e=>Heap.get?_push_of_some _ e,q7k _ lo (hi - lo).toNat,?_,fun b hb=>?_,q⟩
 ·have e1:lo+((0:Nat):Int)*1=lo:=by simp
  have e2:(((hi - lo).toNat:Nat):Int) - ((0:Nat):Int)=Builtin.Range.rangeSize lo hi 1:=by rw[rangeSize_one];split<;>omega
  show IsRangeIter _ _ (lo+((0:Nat):Int)*1) ((((hi - lo).toNat:Nat):Int) - ((0:Nat):Int)) 1
  rw[e1,e2]
  exact Heap.get?_push_size _ rfl
 ·have e:b=(s.heap.push {cls:= .type "range",data:= .fields #[.int lo t,.int hi u,.int 1 v]}).objs.size:=by simpa using hb
  subst e
  exact I1.fpOk (Nat.le_refl _) (I1.hok.fresh (Nat.le_refl _))
def iRng1 (ta:TA):TI:=fun σ H R=>ta σ H fun vs H1=>∃j:Int,vs=[.int j]/\ -(2 ^ 62)<=j/\j<2 ^ 62/\R (Itr 0 j.toNat) H1
theorem q04 {a:Expr}{ta:TA}{p pos:Pos}(hg:Gl X "range")(hm:X.mg "range"=none)(ha:PA X [a] ta)(hs:starEach [a] X.env=[(false,eval a X.env)]:=by rfl):PI X tg (.Call (.Name "range" p) [a] [] pos) (iRng1 ta):=by
 intro pins s σ H R I h
 refine Call_ (q2G I hg hm boot_range (PyProof.Rows.callWith_type1 (thn (ha pos pins s σ H _ I h) fun us s1 ⟨vs,H1,I1,r1,q1⟩=>?_) hs rfl))
 obtain⟨j,e,q1,q2,q⟩:=q1
 subst e
 cases r1 with
 |cons r rr=>
  cases rr
  obtain⟨t,rfl⟩:=r
  exact call_range_1 (qa8 I1 (by omega) (by omega) q1 q2 (by simpa using q))
def tFor (wi:TI)(g:TG)(tb:TS):TS:=fun D σ H=>wi σ H fun J H1=>∃W:Nat->Nat->St->Hp->Prop,(∃m,W 0 m σ H1)/\∀i m σ H,W i m σ H->
 (J.stop i H/\D.nx σ H)\/(J.go i H/\∃N:St->Hp->Prop,(∀σ' H',N σ' H'->∃m',m'<m/\W (i+1) m' σ' H')/\∀x H',J.yld i H x H'->g x σ H' fun σ2 H2=>tb {D with nx:=N,ct:=N,bk:=D.nx} σ2 H2)
def q5C (fp:List Addr)(h:Heap):List (Addr×Obj):=fp.filterMap fun b=>(h.get? b).map fun o=>(b,o)
theorem q1Z {fp:List Addr}{h:Heap}{b:Addr}{o:Obj}(hb:b∈fp)(e:h.get? b=some o):(b,o)∈q5C fp h:=List.mem_filterMap.mpr ⟨b,hb,by rw[e];rfl⟩
theorem q8G {fp:List Addr}{h:Heap}{p:Addr×Obj}(hp:p∈q5C fp h):p.1∈fp/\h.get? p.1=some p.2:=by
 obtain⟨b,hb,e⟩:=List.mem_filterMap.mp hp
 cases q:h.get? b with
 |none=>rw[q] at e;cases e
 |some o=>
  rw[q] at e
  have e':(b,o)=p:=Option.some.inj e
  subst e'
  exact⟨hb,q⟩
theorem Inv.pinned {pins:List (Addr×Obj)}{σ:St}{H:Hp}{s:Shared}{fp:List Addr}(I:Inv X pins σ H s)(hf:∀b∈fp,FpOk X pins H b)(ho:∀b∈fp,∃o,s.heap.get? b=some o/\∀v,o.data≠ .cell v):Inv X (pins++q5C fp s.heap) σ H s:=
 I.pins_of fun p hp=>(List.mem_append.mp hp).elim (fun z=>I.pin p (List.mem_append_right _ z)) fun z=>by
  obtain⟨hb,e⟩:=q8G z
  obtain⟨f0,f1,f2,_⟩:=hf p.1 hb
  obtain⟨o,e',d⟩:=ho p.1 hb
  rw[e] at e';cases e'
  exact⟨e,f0,f1,f2,d⟩
theorem Inv.unpinned {pins pl:List (Addr×Obj)}{σ:St}{H:Hp}{s:Shared}(I:Inv X (pins++pl) σ H s):Inv X pins σ H s:=I.pins_of fun p hp=>I.pin p (List.mem_append_right _ (List.mem_append_left _ hp))
theorem q0B {iter:Expr}{body:List Stmt}{wi:TI}{g:TG}{tb:TS}{pos:Pos}(hp:PassesOwn (model X.prog X.w) X.A X.env X.xe)(hc:X.calm=true)(hi:PI X tg iter wi)(hg:PG X tg g)(hb:PSs X body tb)
  (hs:∀x,foldedSetIterable iter X.env x=pure x:=by intro _;rfl):PS X (.For tg iter body [] pos) (tFor wi g tb):=by
 intro pins s σ H D I h
 refine wpAny_For (thn (hi pins s σ H _ I h) fun v s1 h1=>thn h1 fun itv s2 h2=>?_) hs
 obtain⟨it,fp,tn,J,H2,e,I2,T,st2,f2,W,⟨m0,w0⟩,turn⟩:=h2
 subst e
 -- what stays true of the iterator's objects through the loop
 have stat:∀{H':Hp},(∀b∈fp,H' b=none)->∀b∈fp,FpOk X pins H' b:=fun hn b hb=>⟨hn b hb,(f2 b hb).2⟩
 refine codeAny_forLoop_any (fun n s'=>∃i σ' H',Inv X pins σ' H' s'/\tn i s'.heap/\(∀b∈fp,H' b=none)/\W i n σ' H') ?_ m0 ⟨0,σ,H2,I2,st2,fun b hb=>(f2 b hb).1,w0⟩
 rintro n s3 ⟨i,σ3,H3,I3,st3,fr3,w3⟩
 rcases turn i n σ3 H3 w3 with⟨stop,qn⟩|⟨go,N,hN,step⟩
 ·refine wpAny_passesOwn hp (thn (T.done X rfl rfl rfl hc i pins s3 σ3 H3 X.xe I3 (stat fr3) st3 stop) fun r s4 ⟨hr,I4⟩=>?_)
  subst hr
  exact wpAny_execs_nil ⟨σ3,H3,I4,qn⟩
 ·refine wpAny_passesOwn hp (thn (T.item X rfl rfl rfl hc i pins s3 σ3 H3 X.xe I3 (stat fr3) st3 go) fun r s4 ⟨u,hr,h4⟩=>?_)
  subst hr
  refine wpAny_passesOwn hp (thn h4 fun _ s5 ⟨x,H5,I5,r5,y5,st5,fr5⟩=>?_)
  have I5':=I5.pinned (stat fr5) (T.obj _ _ st5)
  refine wpAny_passesOwn hp (thn (hg _ s5 σ3 H5 x u _ I5' r5 (step x H5 y5)) fun _ s6 ⟨σ6,H6,I6,q6⟩=>?_)
  refine wpAny_passesOwn hp (thn (hb _ s6 σ6 H6 _ I6 q6) fun f s7 q7=>?_)
  have again:∀{σ7:St} {H7:Hp},Inv X (pins++q5C fp s5.heap) σ7 H7 s7->N σ7 H7->∃m,m<n/\∃i σ' H',Inv X pins σ' H' s7/\tn i s7.heap/\(∀b∈fp,H' b=none)/\W i m σ' H':=fun {σ7 H7} I7 n7=>by
   obtain⟨m',hm,w7⟩:=hN σ7 H7 n7
   refine⟨m',hm,i+1,σ7,H7,I7.unpinned,T.keep _ _ _ st5 fun b hb o e=>(I7.pin (b,o) (List.mem_append_right _ (List.mem_append_right _ (q1Z hb e)))).1,fun b hb=>?_,w7⟩
   obtain⟨o,e,d⟩:=T.obj _ _ st5 b hb
   exact(I7.pin (b,o) (List.mem_append_right _ (List.mem_append_right _ (q1Z hb e)))).2.1
  cases f with
  |next=>obtain⟨σ7,H7,I7,n7⟩:=q7;exact again I7 n7
  |cont=>obtain⟨σ7,H7,I7,n7⟩:=q7;exact again I7 n7
  |brk=>obtain⟨σ7,H7,I7,q7⟩:=q7;exact⟨σ7,H7,I7.unpinned,q7⟩
  |ret v=>obtain⟨x7,σ7,H7,I7,r7,q7⟩:=q7;exact⟨x7,σ7,H7,I7.unpinned,r7,q7⟩
end
end L2
namespace L2
open PySem PySem.Spec PyProof.Rows
abbrev R2:=V->V->Hp->VK->Prop
def OpR (X:Cx)(f:Value->Value->Sem Value)(r:R2):Prop:=
 ∀(pins:List (Addr×Obj)) (s:Shared) (σ:St) (H:Hp) (x y:V) (v u:Value) (Q:VK),Inv X pins σ H s->RelV x v->RelV y u->r x y H Q->
  wpAny (model X.prog X.w) X.A (f v u) (EP X pins σ Q) X.xe s
def q24 (X:Cx)(f:Value)(r:List V->Hp->VK->Prop):Prop:=
 ∀(pins:List (Addr×Obj)) (s:Shared) (σ:St) (H:Hp) (xs:List V) (us:List Value) (Q:VK),Inv X pins σ H s->Vals xs us->r xs H Q->
  wpAny (model X.prog X.w) X.A (call f us) (EP X pins σ Q) X.xe s
def tOp (r:R2)(ta tb:TE):TE:=fun σ H Q=>ta σ H fun x H1=>tb σ H1 fun y H2=>r x y H2 Q
def rI (C:Int->Int->Prop)(g:Int->Int->V):R2:=fun x y H Q=>∃i j,x= .int i/\y= .int j/\C i j/\Q (g i j) H
def rI0 (g:Int->Int->V):R2:=fun x y H Q=>∃i j,x= .int i/\y= .int j/\Q (g i j) H
section
variable {X:Cx}{a b c:Expr}{ta tb tc:TE}{pos:Pos}
theorem binT (ha:PE X a ta)(hb:PE X b tb){pins:List (Addr×Obj)}{s:Shared}{σ:St}{H:Hp}{R:V->V->Hp->Prop}(I:Inv X pins σ H s)
  (h:ta σ H fun x H1=>tb σ H1 fun y H2=>R x y H2){Q:Value->Shared->Prop}{f:Value->Value->Sem Value}
  (hf:∀v u s2 x y H2,Inv X pins σ H2 s2->RelV x v->RelV y u->R x y H2->wpAny (model X.prog X.w) X.A (f v u) Q X.xe s2):
  wpAny (model X.prog X.w) X.A (eval a X.env) (fun v s₁=>wpAny (model X.prog X.w) X.A (eval b X.env) (fun u s₂=>wpAny (model X.prog X.w) X.A (f v u) Q X.xe s₂) X.xe s₁) X.xe s:=by
 refine thn (ha pins s σ H _ I h) fun v s1 ⟨x,H1,I1,r1,q1⟩=>?_
 refine thn (hb pins s1 σ H1 _ I1 q1) fun u s2 ⟨y,H2,I2,r2,q2⟩=>?_
 exact hf v u s2 x y H2 I2 r1 r2 q2
theorem qx {op:Operator}{r:R2}(ho:OpR X (binaryOp op) r)(ha:PE X a ta)(hb:PE X b tb):PE X (.BinOp a op b pos) (tOp r ta tb):=by
 intro pins s σ H Q I h
 exact wpAny_BinOp (binT ha hb I h fun v u s2 x y H2 I2 rx ry q=>ho pins s2 σ H2 x y v u Q I2 rx ry q)
theorem opI {f:Value->Value->Sem Value}{C:Int->Int->Prop}{g:Int->Int->Int}
  (rule:∀(i j:Int) (t u:Tok) (s:Shared) (Q:Value->Shared->Prop) (E:Value->Shared->Prop),C i j->Q (.int (g i j) s.toks) {s with toks:=s.toks+1}->wpAny (model X.prog X.w) X.A (f (.int i t) (.int j u)) Q E s):
  OpR X f (rI C fun i j=> .int (g i j)):=by
 intro pins s σ H x y v u Q I rx ry h
 obtain⟨i,j,rfl,rfl,hc,q⟩:=h
 obtain⟨t,rfl⟩:=rx
 obtain⟨t',rfl⟩:=ry
 exact rule i j t t' s _ _ hc ⟨.int (g i j),H,I.tok _,⟨_,rfl⟩,q⟩
theorem opI0 {f:Value->Value->Sem Value}{g:Int->Int->Int}
  (rule:∀(i j:Int) (t u:Tok) (s:Shared) (Q:Value->Shared->Prop) (E:Value->Shared->Prop),Q (.int (g i j) s.toks) {s with toks:=s.toks+1}->wpAny (model X.prog X.w) X.A (f (.int i t) (.int j u)) Q E s):
  OpR X f (rI0 fun i j=> .int (g i j)):=by
 intro pins s σ H x y v u Q I rx ry h
 obtain⟨i,j,rfl,rfl,q⟩:=h
 obtain⟨t,rfl⟩:=rx
 obtain⟨t',rfl⟩:=ry
 exact rule i j t t' s _ _ ⟨.int (g i j),H,I.tok _,⟨_,rfl⟩,q⟩
theorem opB0 {f:Value->Value->Sem Value}{g:Int->Int->Bool}
  (rule:∀(i j:Int) (t u:Tok) (s:Shared) (Q:Value->Shared->Prop) (E:Value->Shared->Prop),Q (.bool (g i j)) s->wpAny (model X.prog X.w) X.A (f (.int i t) (.int j u)) Q E s):
  OpR X f (rI0 fun i j=> .bl (g i j)):=by
 intro pins s σ H x y v u Q I rx ry h
 obtain⟨i,j,rfl,rfl,q⟩:=h
 obtain⟨t,rfl⟩:=rx
 obtain⟨t',rfl⟩:=ry
 exact rule i j t t' s _ _ ⟨.bl (g i j),H,I,rfl,q⟩
def CDiv (i j:Int):Prop:=0<j/\j<1073741824
def CPow (i j:Int):Prop:=0<=j/\j<=1000000/\i.natAbs<2 ^ 64
def CMul (i j:Int):Prop:=(-(2 ^ 64)<i/\i<2 ^ 64)\/(-(2 ^ 64)<j/\j<2 ^ 64)
theorem CMul.ok {i j:Int}(h:CMul i j):IntMulOk i j:=by
 rcases h with⟨h1,h2⟩|⟨h1,h2⟩
 ·exact .of_left (intBits_le_64 h1 h2)
 ·exact .of_right (intBits_le_64 h1 h2)
theorem two_pow_nn (k:Nat):(0:Int)<=2 ^ k:=by
 rw[two_pow_cast]
 exact Int.natCast_nonneg _
theorem q1P:OpR X (binaryOp .Add) (rI0 fun i j=> .int (i+j)):=opI0 fun _ _ _ _ _ _ _ q=>add_int q
theorem q3H:OpR X (binaryOp .Sub) (rI0 fun i j=> .int (i - j)):=opI0 fun _ _ _ _ _ _ _ q=>sub_int q
theorem op_mul:OpR X (binaryOp .Mult) (rI CMul fun i j=> .int (i*j)):=opI fun _ _ _ _ _ _ _ hc q=>mul_int q hc.ok
theorem q06:OpR X (binaryOp .FloorDiv) (rI CDiv fun i j=> .int (i / j)):=opI fun i j _ _ _ _ _ hc q=>by
 have h1:(0:Int)<j:=hc.1
 have h2:j<1073741824:=hc.2
 exact floordiv_int (by omega) (by rw[Int.fdiv_eq_ediv_of_nonneg i (by omega)];exact q) (.inl (PyProof.noPylong_small (by omega)))
theorem qU:OpR X (binaryOp .Mod) (rI (fun _ j=>0<j) fun i j=> .int (i % j)):=opI fun i j _ _ _ _ _ hc q=>by
 have h1:(0:Int)<j:=hc
 exact mod_int' (by omega) (by rw[Int.fmod_eq_emod_of_nonneg i (by omega)];exact q)
theorem qbq:OpR X (binaryOp .LShift) (rI CPow fun i j=> .int (i*2 ^ j.toNat)):=opI fun _ _ _ _ _ _ _ hc q=>lshift_int_small hc.1 hc.2.1 hc.2.2 q
theorem op_shr:OpR X (binaryOp .RShift) (rI (fun _ j=>0<=j) fun i j=> .int (i / 2 ^ j.toNat)):=opI fun i j _ _ _ _ _ hc q=>
 rshift_int hc (by rw[Int.fdiv_eq_ediv_of_nonneg i (two_pow_nn _)];exact q)
theorem op_and:OpR X (binaryOp .BitAnd) (rI0 fun i j=> .int (Builtin.bitAnd i j)):=opI0 fun _ _ _ _ _ _ _ q=>and_int q
theorem op_or:OpR X (binaryOp .BitOr) (rI0 fun i j=> .int (Builtin.bitOr i j)):=opI0 fun _ _ _ _ _ _ _ q=>or_int q
theorem op_xor:OpR X (binaryOp .BitXor) (rI0 fun i j=> .int (Builtin.bitXor i j)):=opI0 fun _ _ _ _ _ _ _ q=>xor_int q
end
def scal:V->V->Bool
 | .non,.non=>true| .non,.int _=>true| .int _,.non=>true| .non,.bl _=>true| .bl _,.non=>true| .non,.str _=>true| .str _,.non=>true
 | .int _,.int _=>true| .bl _,.bl _=>true| .str _,.str _=>true| .byt _,.byt _=>true
 | .int _,.str _=>true| .str _,.int _=>true| .bl _,.str _=>true| .str _,.bl _=>true
 |_,_=>false
def rEq:R2:=fun x y H Q=>scal x y=true/\Q (.bl (decide (x=y))) H
def rNe:R2:=fun x y H Q=>scal x y=true/\Q (.bl (!decide (x=y))) H
theorem q9u {i j:Int}:decide (V.int i=V.int j)=(i==j):=by
 rw[Bool.eq_iff_iff]
 simp
theorem qbA {i j:Bool}:decide (V.bl i=V.bl j)=(i==j):=by
 rw[Bool.eq_iff_iff]
 simp
theorem q9t {i j:Str}:decide (V.str i=V.str j)=(i==j):=by
 rw[Bool.eq_iff_iff]
 simp
theorem q9v {i j:Array UInt8}:decide (V.byt i=V.byt j)=(i.toList==j.toList):=by
 rw[Bool.eq_iff_iff]
 cases i
 cases j
 simp
section
variable {X:Cx}{a b c:Expr}{ta tb tc:TE}{pos:Pos}
theorem qN {pins:List (Addr×Obj)}{σ:St}{H:Hp}{s:Shared}{Q:VK}{k k':Bool}(I:Inv X pins σ H s)(q:Q (.bl k) H)(e:k=k'):EP X pins σ Q (.bool k') s:=by
 subst e
 exact⟨.bl k,H,I,rfl,q⟩
theorem q0l:OpR X (compareOp .Eq) rEq:=by
 intro pins s σ H x y v u Q I rx ry h
 obtain⟨hs,q⟩:=h
 cases x with
 |non=>
  cases rx
  cases y with
  |non=>cases ry;exact PySem.EqNone.eq_none_none (qN I q (by simp))
  |bl j=>cases ry;exact PySem.EqNone.eq_none_bool (qN I q (by simp))
  |int j=>obtain⟨t',rfl⟩:=ry;exact PySem.EqNone.eq_none_int (qN I q (by simp))
  |str j=>obtain⟨t',rfl⟩:=ry;exact PySem.EqNone.eq_none_str (qN I q (by simp))
  |_=>exact absurd (show false=true from hs) Bool.false_ne_true
 |bl i=>
  cases rx
  cases y with
  |non=>cases ry;exact PySem.EqNone.eq_bool_none (qN I q (by simp))
  |bl j=>cases ry;exact eq_bool (qN I q qbA)
  |str j=>obtain⟨t',rfl⟩:=ry;exact PySem.EqMixed.eq_bool_str (qN I q (by simp))
  |_=>exact absurd (show false=true from hs) Bool.false_ne_true
 |int i=>
  obtain⟨t,rfl⟩:=rx
  cases y with
  |non=>cases ry;exact PySem.EqNone.eq_int_none (qN I q (by simp))
  |int j=>obtain⟨t',rfl⟩:=ry;exact eq_int (qN I q q9u)
  |str j=>obtain⟨t',rfl⟩:=ry;exact PySem.EqMixed.eq_int_str (qN I q (by simp))
  |_=>exact absurd (show false=true from hs) Bool.false_ne_true
 |str i=>
  obtain⟨t,rfl⟩:=rx
  cases y with
  |non=>cases ry;exact PySem.EqNone.eq_str_none (qN I q (by simp))
  |bl j=>cases ry;exact PySem.EqMixed.eq_str_bool (qN I q (by simp))
  |int j=>obtain⟨t',rfl⟩:=ry;exact PySem.EqMixed.eq_str_int (qN I q (by simp))
  |str j=>obtain⟨t',rfl⟩:=ry;exact eq_str (qN I q q9t)
  |_=>exact absurd (show false=true from hs) Bool.false_ne_true
 |byt i=>
  obtain⟨t,rfl⟩:=rx
  cases y with
  |byt j=>obtain⟨t',rfl⟩:=ry;exact PySem.W.eq_bytes (qN I q q9v)
  |_=>exact absurd (show false=true from hs) Bool.false_ne_true
 |_=>cases y<;>exact absurd (show false=true from hs) Bool.false_ne_true
theorem qcq:OpR X (compareOp .NotEq) rNe:=by
 intro pins s σ H x y v u Q I rx ry h
 obtain⟨hs,q⟩:=h
 cases x with
 |non=>
  cases rx
  cases y with
  |non=>cases ry;exact PySem.EqNone.ne_none_none (qN I q (by simp))
  |bl j=>cases ry;exact PySem.EqNone.ne_none_bool (qN I q (by simp))
  |int j=>obtain⟨t',rfl⟩:=ry;exact PySem.EqNone.ne_none_int (qN I q (by simp))
  |str j=>obtain⟨t',rfl⟩:=ry;exact PySem.EqNone.ne_none_str (qN I q (by simp))
  |_=>exact absurd (show false=true from hs) Bool.false_ne_true
 |bl i=>
  cases rx
  cases y with
  |non=>cases ry;exact PySem.EqNone.ne_bool_none (qN I q (by simp))
  |bl j=>cases ry;exact ne_bool (qN I q (congrArg not qbA))
  |str j=>obtain⟨t',rfl⟩:=ry;exact PySem.EqMixed.ne_bool_str (qN I q (by simp))
  |_=>exact absurd (show false=true from hs) Bool.false_ne_true
 |int i=>
  obtain⟨t,rfl⟩:=rx
  cases y with
  |non=>cases ry;exact PySem.EqNone.ne_int_none (qN I q (by simp))
  |int j=>obtain⟨t',rfl⟩:=ry;exact ne_int (qN I q (congrArg not q9u))
  |str j=>obtain⟨t',rfl⟩:=ry;exact PySem.EqMixed.ne_int_str (qN I q (by simp))
  |_=>exact absurd (show false=true from hs) Bool.false_ne_true
 |str i=>
  obtain⟨t,rfl⟩:=rx
  cases y with
  |non=>cases ry;exact PySem.EqNone.ne_str_none (qN I q (by simp))
  |bl j=>cases ry;exact PySem.EqMixed.ne_str_bool (qN I q (by simp))
  |int j=>obtain⟨t',rfl⟩:=ry;exact PySem.EqMixed.ne_str_int (qN I q (by simp))
  |str j=>obtain⟨t',rfl⟩:=ry;exact ne_str (qN I q (congrArg not q9t))
  |_=>exact absurd (show false=true from hs) Bool.false_ne_true
 |byt i=>
  obtain⟨t,rfl⟩:=rx
  cases y with
  |byt j=>obtain⟨t',rfl⟩:=ry;exact PySem.W.ne_bytes (qN I q (congrArg not q9v))
  |_=>exact absurd (show false=true from hs) Bool.false_ne_true
 |_=>cases y<;>exact absurd (show false=true from hs) Bool.false_ne_true
theorem qcr:OpR X (compareOp .Lt) (rI0 fun i j=> .bl (decide (i<j))):=opB0 fun _ _ _ _ _ _ _ q=>lt_int q
theorem qap:OpR X (compareOp .LtE) (rI0 fun i j=> .bl (decide (i<=j))):=opB0 fun _ _ _ _ _ _ _ q=>le_int q
theorem q45:OpR X (compareOp .Gt) (rI0 fun i j=> .bl (decide (j<i))):=opB0 fun _ _ _ _ _ _ _ q=>gt_int q
theorem op_ge:OpR X (compareOp .GtE) (rI0 fun i j=> .bl (decide (j<=i))):=opB0 fun _ _ _ _ _ _ _ q=>ge_int q
theorem qt (b:Expr){op:CmpOp}(h:op≠ .In:=by decide)(h2:op≠ .NotIn:=by decide):behindInMarks op b=false:=by
 have e1:(op==CmpOp.In)=false:=by cases op<;>first|rfl|exact absurd rfl h
 have e2:(op==CmpOp.NotIn)=false:=by cases op<;>first|rfl|exact absurd rfl h2
 cases b<;>simp[behindInMarks,e1,e2]
theorem q05 {op:CmpOp}{r:R2}(ho:OpR X (compareOp op) r)(ha:PE X a ta)(hb:PE X b tb)(hm:behindInMarks op b=false):PE X (.Compare a [op] [b] pos) (tOp r ta tb):=by
 intro pins s σ H Q I h
 exact wpAny_Compare1 (binT ha hb I h fun v u s2 x y H2 I2 rx ry q=>ho pins s2 σ H2 x y v u Q I2 rx ry q) hm
def tTest (t:TE):TT:=fun σ H Q=>t σ H fun x H'=>∃k,x= .bl k/\Q k H'
theorem qv {op:CmpOp}{r:R2}(ho:OpR X (compareOp op) r)(ha:PE X a ta)(hb:PE X b tb)(hm:behindInMarks op b=false):PT X (.Compare a [op] [b] pos) (tTest (tOp r ta tb)):=by
 intro pins s σ H Q I h
 refine wpAny_isTrue_Compare1 (thn (ha pins s σ H _ I h) fun v s1 ⟨x,H1,I1,r1,q1⟩=>thn (hb pins s1 σ H1 _ I1 q1) fun u s2 ⟨y,H2,I2,r2,q2⟩=>
  thn (ho pins s2 σ H2 x y v u _ I2 r1 r2 q2) fun c s3 ⟨z,H3,I3,r3,k,e,q3⟩=>?_) hm
 subst e
 cases r3
 exact wpAny_truthy_bool ⟨H3,I3,q3⟩
def qbe (r r':R2)(ta tb tc:TE):TE:=fun σ H Q=>ta σ H fun x H1=>tb σ H1 fun y H2=>r x y H2 fun z H3=>∃k,z= .bl k/\
 (if k=true then tc σ H3 fun w' H4=>r' y w' H4 Q else Q (.bl false) H3)
theorem qam {op op':CmpOp}{r r':R2}(ho:OpR X (compareOp op) r)(ho':OpR X (compareOp op') r')(ha:PE X a ta)(hb:PE X b tb)(hc:PE X c tc)
  (hm:lastMarks [op,op'] [b,c]=false:=by with_unfolding_all rfl):PE X (.Compare a [op,op'] [b,c] pos) (qbe r r' ta tb tc):=by
 intro pins s σ H Q I h
 refine Compare_chain (thn (ha pins s σ H _ I h) fun v s1 ⟨x,H1,I1,r1,q1⟩=>chain_link (thn (hb pins s1 σ H1 _ I1 q1) fun u s2 ⟨y,H2,I2,r2,q2⟩=>
  thn (ho pins s2 σ H2 x y v u _ I2 r1 r2 q2) fun d s3 ⟨z,H3,I3,r3,k,e,q3⟩=>?_)) hm
 subst e
 cases r3
 refine wpAny_truthy_bool ?_
 cases k with
 |false=>exact ite_ff ⟨.bl false,H3,I3,rfl,q3⟩
 |true=>exact ite_tt (chain_last (thn (hc pins s3 σ H3 _ I3 q3) fun w' s4 ⟨z',H4,I4,r4,q4⟩=>ho' pins s4 σ H4 y z' u w' Q I4 r2 r4 q4))
theorem q5H:(sizeLine:Nat)<2 ^ 63:=by rw[sizeLine_eq];decide
theorem q40 {x:V}{us:List Value}(r:Vals [x] us):∃u,us=[u]/\RelV x u:=by
 cases r with
 |cons r1 r2=>cases r2;exact⟨_,rfl,r1⟩
theorem vals2 {x y:V}{us:List Value}(r:Vals [x,y] us):∃u w',us=[u,w']/\RelV x u/\RelV y w':=by
 cases r with
 |cons r1 r2=>
  cases r2 with
  |cons r3 r4=>cases r4;exact⟨_,_,rfl,r1,r3⟩
theorem q9I:q24 X (.type "int") (fun xs H Q=>(∃i,xs=[.int i]/\Q (.int i) H)\/∃k,xs=[.bl k]/\Q (.int (if k then 1 else 0)) H):=by
 intro pins s σ H xs us Q I r h
 rcases h with⟨i,rfl,q⟩|⟨k,rfl,q⟩
 ·obtain ⟨u,rfl,t,rfl⟩:=q40 r
  exact call_int_int ⟨.int i,H,I,⟨_,rfl⟩,q⟩
 ·obtain ⟨u,rfl,r1⟩:=q40 r
  cases r1
  exact call_int_bool ⟨.int (if k then 1 else 0),H,I.tok _,⟨_,rfl⟩,q⟩
end
end L2
namespace L2
open PySem PySem.Spec PyProof.Rows
structure ObjM (h:Heap)(x dx C:Addr)(mA:Str->Option Value):Prop where
 obj:h.get? x=some (PySem.W.instObj C dx)
 ns:h.Ns1 dx mA
 ne:dx≠x
theorem q8P {h:Heap}{dx:Addr}{mA:Str->Option Value}(n:h.Ns1 dx mA):∃od,h.get? dx=some od/\∀name,PySem.W.lookIn name od=some (mA name):=by
 obtain⟨o,es,ep,ho,hd,hk,_,hm⟩:=n
 refine⟨o,ho,fun name=>?_⟩
 have e:=hm name
 unfold nsFind findBy at e
 rw[<-Array.find?_toList] at e
 unfold PySem.W.lookIn
 rw[hd]
 dsimp only
 split
 ·rename_i y q
  rw[q] at e
  exact congrArg some e
 ·rename_i q
  rw[q] at e
  have a:es.toList.any (·.refKey)=false:=by
   rw[List.any_eq_false]
   intro y hy
   obtain⟨z,t,hkey⟩:=hk y (Array.mem_toList_iff.mp hy)
   simp[DictEntry.refKey,hkey]
  have a':¬es.toList.any (·.refKey)=true:=by rw[a];exact Bool.false_ne_true
  rw[if_neg a']
  exact congrArg some e
theorem ObjM.look {h:Heap}{x dx C:Addr}{mA:Str->Option Value}(I:ObjM h x dx C mA):∃od,PySem.W.InstAt h x (PySem.W.instObj C dx) C (some od)/\∀name,PySem.W.lookIn name od=some (mA name):=
 let ⟨od,ho,hl⟩:=q8P I.ns
 ⟨od,⟨I.obj,rfl,rfl,ho⟩,hl⟩
section
variable {prog:Program}{w:World}{A:Around}{E:Value->Shared->Prop}{s:Shared}{K:PySem.W.Frag}{x dx C f:Addr}{mA:Str->Option Value}{name:Str}{v:Value}
theorem qcY {expr:Bool}{Q:Value->Shared->Prop}(X:K.In s.heap)(I:ObjM s.heap x dx C mA)(hg:PySem.W.plainGet K C name=true)(hh:PySem.W.hasDictIn K C=true)
  (ha:PySem.W.findIn K (.ref C) name=some none)(hv:mA name=some v)(hv':PySem.W.handedIn v=true)(h:Q v {s with toks:=s.toks+1}):
  wpAny (model prog w) A (getAttr (.ref x) name expr) Q E s:=by
 obtain⟨od,J,hl⟩:=I.look
 exact PySem.W.get_value X J (PySem.W.plainGet_of hg).1 (PySem.W.findObj_own hh ha rfl (by rw[hl,hv])) hv' h
theorem qaS {pl:Sem Bool}{Q:Value×List Value->Shared->Prop}(X:K.In s.heap)(I:ObjM s.heap x dx C mA)(hg:PySem.W.plainGet K C name=true)
  (hf:PySem.W.findIn K (.ref C) name=some (some (.ref f)))(ht:PySem.W.isFn K (.ref f)=true)(hv:mA name=none)(h:Q (.ref f,[.ref x]) s):
  wpAny (model prog w) A (getMethod (.ref x) name pl) Q E s:=by
 obtain⟨od,J,hl⟩:=I.look
 exact PySem.W.method_fn X J (PySem.W.plainGet_of hg).1 (PySem.W.plainGet_of hg).2 hf (beq_iff_eq.mp ht) (by show(PySem.W.lookIn name od).map (·.isSome)=some false;rw[hl,hv];rfl) h
theorem set_map {ns:List Str}{Q:Unit->Shared->Prop}(X:K.In s.heap)(I:ObjM s.heap x dx C mA)
  (hs:PySem.W.findIn K (.ref C) "__setattr__"=some (some (.builtin "object.__setattr__")))(hp:PySem.W.plainOver K C=true)(ht:PySem.W.takerIn K C name=some none)(hh:PySem.W.hasDictIn K C=true)
  (hw:PySem.Within mA ns)(hsz:ns.length<=sizeLine)
  (h:∀h',ObjM h' x dx C (fun y=>if y=name then some v else mA y)->Heap.SameBut dx s.heap h'->Q () {s with heap:=h',toks:=s.toks+2}):
  wpAny (model prog w) A (setAttr (.ref x) name v) Q E s:=by
 obtain⟨od,J,hl⟩:=I.look
 refine PySem.W.set_plain X J hs (PySem.W.osa_open (s:={s with toks:=s.toks+1}) (r:=none) X J hp ht fun b=>?_)
 obtain⟨cd,hc,hd'⟩:=PySem.W.any_some hh
 have hx:s.heap.get? x=some ⟨.ref C,some dx,.plain,#[]⟩:=I.obj
 refine wpAny_bind (wpAny_pure (wpAny_bind (wpAny_bind (wpAny_loadPart hx (wpAny_bind (PySem.W.Looks.here (s:={s with toks:=s.toks+1}) (PySem.W.looks_clsIn X hc) ?_))))))
 rw[hd']
 refine wpAny_pure (a:=some dx) (wpAny_bind (wpAny_pure (wpAny_bind ?_)))
 refine wpAny_nsSet1 (s:={s with toks:=s.toks+1}) I.ns fun h' hn2 hs2=>?_
 obtain⟨oD,esD,epD,hoD,hdD,hcD⟩:=hn2.count (PySem.Within.cons name v hw)
 refine wpAny_bind (wpAny_lookBehind hoD (by rw[hdD];exact pastItsLine_dict (Nat.le_trans hcD (by rw[List.length_cons];omega))) ?_)
 exact wpAny_pure (h _ ⟨(hs2.2 _ (Ne.symm I.ne)).trans I.obj,hn2,I.ne⟩ hs2)
theorem qaL {R:Result->Shared->Prop}{vs:List Value}{kw:List (Str×Value)}(X:K.In s.heap)(hm:PySem.W.makesIn K C=true)
  (hi:PySem.W.findIn K (.ref C) "__init__"=some (some (.ref f)))(hf:PySem.W.typeIn K (.ref f)=some (.type "function"))
  (h:codeAny (model prog w) (A.under (.builtin "type.__call__" ⟨.ref C::vs,kw⟩)) (.call (.ref f) ⟨.ref (s.heap.objs.size+1)::vs,kw⟩) (PySem.W.InitBack (s.heap.objs.size+1) R)
   {s with heap:=(s.heap.push PySem.W.emptyDict).push (PySem.W.instObj C s.heap.objs.size)}):
  codeAny (model prog w) A (.call (.ref C) ⟨vs,kw⟩) R s:=by
 obtain⟨hh,g,d,t,os⟩:=s
 exact PySem.W.make_core (PySem.W.makes_of X hm) (PySem.W.looks_findIn X hi) (fun self=>PySem.W.bind_fn X self hf) (.inl rfl) h
end
def putF (f:Str)(v:V):List (Str×V)->List (Str×V)
 |[]=>[(f,v)]
 |(g,x)::r=>if g=f then(g,v)::r else(g,x)::putF f v r
theorem qE (f g:Str)(v:V):∀fs:List (Str×V),(putF f v fs).lookup g=if g=f then some v else fs.lookup g
 |[]=>by
  show List.lookup g [(f,v)]=_
  by_cases h:g=f
  ·have hb:(g==f)=true:=beq_iff_eq.mpr h
   simp only[List.lookup,hb,if_pos h]
  ·have hb:(g==f)=false:=beq_eq_false_iff_ne.mpr h
   simp only[List.lookup,hb,if_neg h]
 |(k,x)::r=>by
  have ih:=qE f g v r
  rw[show putF f v ((k,x)::r)=(if k=f then(k,v)::r else(k,x)::putF f v r) from rfl]
  by_cases hk:k=f
  ·rw [if_pos hk]
   by_cases h:g=k
   ·have hb:(g==k)=true:=beq_iff_eq.mpr h
    simp only[List.lookup,hb,if_pos (h.trans hk)]
   ·have hb:(g==k)=false:=beq_eq_false_iff_ne.mpr h
    simp only[List.lookup,hb,if_neg (fun e:g=f=>h (e.trans hk.symm))]
  ·rw [if_neg hk]
   by_cases h:g=k
   ·have hb:(g==k)=true:=beq_iff_eq.mpr h
    simp only[List.lookup,hb,if_neg (fun e:g=f=>hk (h.symm.trans e))]
   ·have hb:(g==k)=false:=beq_eq_false_iff_ne.mpr h
    simp only[List.lookup,hb]
    exact ih
theorem q3N (f:Str)(v:V):∀fs:List (Str×V),f∈(putF f v fs).map (·.1)/\∀g,g∈fs.map (·.1)->g∈(putF f v fs).map (·.1)
 |[]=>⟨by simp[putF],fun g h=>by simp at h⟩
 |(k,x)::r=>by
  obtain⟨i1,i2⟩:=q3N f v r
  rw[show putF f v ((k,x)::r)=(if k=f then(k,v)::r else(k,x)::putF f v r) from rfl]
  by_cases hk:k=f
  ·rw [if_pos hk]
   subst hk
   exact⟨by simp,fun g h=>by simpa using h⟩
  ·rw [if_neg hk]
   refine⟨?_,fun g h=>?_⟩
   ·rw [List.map_cons]
    exact List.mem_cons_of_mem _ i1
   ·rw [List.map_cons] at h ⊢
    rcases List.mem_cons.mp h with e|e
    ·exact List.mem_cons.mpr (.inl e)
    ·exact List.mem_cons_of_mem _ (i2 g e)
theorem q3L (f:Str)(v:V):∀fs:List (Str×V),(putF f v fs).length<=fs.length+1
 |[]=>by simp[putF]
 |(k,x)::r=>by
  have ih:=q3L f v r
  rw[show putF f v ((k,x)::r)=(if k=f then(k,v)::r else(k,x)::putF f v r) from rfl]
  by_cases hk:k=f
  ·rw [if_pos hk,List.length_cons,List.length_cons];omega
  ·rw [if_neg hk,List.length_cons,List.length_cons];omega
theorem RelO.some_of {v:V}{o:Option Value}(r:RelO (some v) o):∃u,o=some u/\RelV v u:=by
 cases o with
 |none=>exact(show False from r).elim
 |some u=>exact⟨u,rfl,r⟩
theorem RelO.none_of {o:Option Value}(r:RelO none o):o=none:=by
 cases o with
 |none=>rfl
 |some u=>exact(show False from r).elim
theorem q95 {v:V}{u:Value}(r:RelV v u):PySem.W.handedIn u=true:=by
 cases v with
 |non=>cases(show u=Value.none from r);rfl
 |bl b=>cases(show u=Value.bool b from r);rfl
 |int i=>obtain⟨t,e⟩:=(show∃t,u=Value.int i t from r);cases e;rfl
 |str x=>obtain⟨t,e⟩:=(show∃t,u=Value.str x t from r);cases e;rfl
 |byt b=>obtain⟨t,e⟩:=(show∃t,u=Value.bytes b t from r);cases e;rfl
 |flt b=>obtain⟨t,e⟩:=(show∃t,u=Value.float b t from r);cases e;rfl
 |ref a=>cases(show u=Value.ref a from r);rfl
 |ty n=>cases(show u=Value.type n from r);rfl
section
variable {P:Program}{w:World}{H H':Hp}{h h':Heap}{a C dx:Addr}{fs fs':List (Str×V)}
theorem q4E (hok:HOk P w H h)(e:H a=some (.ins C dx fs)):∃mA,ObjM h a dx C mA/\(∀f,RelO (fs.lookup f) (mA f))/\PySem.Within mA (fs.map (·.1))/\fs.length<=1000/\H dx=some (.own a):=by
 obtain⟨d,z,ne,ob,mA,n,r,q⟩:=(show q0a P w H h a (.ins C dx fs) from hok a _ e)
 exact⟨mA,⟨ob,n,ne⟩,r,q,z,d⟩
end
structure Cls (K:PySem.W.Frag)(C:Addr):Prop where
 pg:PySem.W.plainGet K C Str.empty=true
 hd:PySem.W.hasDictIn K C=true
 po:PySem.W.plainOver K C=true
 sa:PySem.W.findIn K (.ref C) "__setattr__"=some (some (.builtin "object.__setattr__"))
theorem Cls.get {K:PySem.W.Frag}{C:Addr}(c:Cls K C)(f:Str):PySem.W.plainGet K C f=true:=c.pg
def qz (K:PySem.W.Frag)(C:Addr)(f:Str):Prop:=PySem.W.findIn K (.ref C) f=some none
theorem qz.taker {K:PySem.W.Frag}{C:Addr}{f:Str}(n:qz K C f):PySem.W.takerIn K C f=some none:=by
 unfold PySem.W.takerIn
 rw[show PySem.W.findIn K (.ref C) f=some none from n]
 rfl
structure Meth (K:PySem.W.Frag)(C:Addr)(m:Str)(f:Addr):Prop where
 at_:PySem.W.findIn K (.ref C) m=some (some (.ref f))
 fn:PySem.W.isFn K (.ref f)=true
 kp:PySem.W.keepIn K (.ref f)=true
section
variable {X:Cx}{pins:List (Addr×Obj)}{σ:St}{H:Hp}{s:Shared}{a C dx:Addr}{fs:List (Str×V)}{f:Str}{v:V}{A:Around}{E:Value->Shared->Prop}
theorem q7H {b:Bool}{Q:Value->Shared->Prop}(I:Inv X pins σ H s)(e:H a=some (.ins C dx fs))(c:Cls X.K C)(n:qz X.K C f)(l:fs.lookup f=some v)
  (h:∀u s',Inv X pins σ H s'->RelV v u->Q u s'):wpAny (model X.prog X.w) A (getAttr (.ref a) f b) Q E s:=by
 obtain⟨mA,O,r,_,_,_⟩:=q4E I.hok e
 obtain⟨u,hu,ru⟩:=RelO.some_of (v:=v) (o:=mA f) (by rw[<-l];exact r f)
 exact qcY I.kIn O (c.get f) c.hd n hu (q95 ru) (h u _ (I.tok _) ru)
theorem q4e {m:Str}{g:Addr}{pl:Sem Bool}{Q:Value×List Value->Shared->Prop}(I:Inv X pins σ H s)(e:H a=some (.ins C dx fs))(c:Cls X.K C)(k:Meth X.K C m g)(l:fs.lookup m=none)
  (h:Q (.ref g,[.ref a]) s):wpAny (model X.prog X.w) A (getMethod (.ref a) m pl) Q E s:=by
 obtain⟨mA,O,r,_,_,_⟩:=q4E I.hok e
 have hn:mA m=none:=RelO.none_of (by rw[<-l];exact r m)
 exact qaS I.kIn O (c.get m) k.at_ k.fn hn h
theorem q7o {y:V}{u:Value}{Q:Unit->Shared->Prop}(I:Inv X pins σ H s)(e:H a=some (.ins C dx fs))(c:Cls X.K C)(n:qz X.K C f)(hl:fs.length<1000)(ry:RelV y u)
  (h:∀s',Inv X pins σ (upd H a (.ins C dx (putF f y fs))) s'->Q () s'):wpAny (model X.prog X.w) A (setAttr (.ref a) f u) Q E s:=by
 obtain⟨mA,O,r,wi,_,ho⟩:=q4E I.hok e
 have hz:(fs.map (·.1)).length<=sizeLine:=by rw[List.length_map,sizeLine_eq];omega
 refine set_map I.kIn O c.sa c.po n.taker c.hd wi hz fun h' O' sb=>h _ ?_
 have hd:∃o,h'.get? dx=some o:=let ⟨o,_,_,e',_⟩:=O'.ns;⟨o,e'⟩
 refine I.write (x:=a) (e:=dx) (by rw[e];exact True.intro) (.inr ho) (fun b q hb z=>(sb.2 b hb).trans z) hd ?_
 refine⟨by rw[qi O.ne];exact ho,?_,O.ne,O'.obj,_,O'.ns,fun g=>?_,fun g hg=>?_⟩
 ·have:=q3L f y fs;omega
 ·show RelO ((putF f y fs).lookup g) (if g=f then some u else mA g)
  rw[qE]
  by_cases q:g=f
  ·rw [if_pos q,if_pos q];exact ry
  ·rw [if_neg q,if_neg q];exact r g
 ·by_cases q:g=f
  ·rw [q];exact(q3N f y fs).1
  ·refine (q3N f y fs).2 g (wi g fun z=>hg ?_)
   show(if g=f then some u else mA g)=none
   rw[if_neg q];exact z
theorem Inv.made (I:Inv X pins σ H s):Inv X pins σ (upd (upd H s.heap.objs.size (.own (s.heap.objs.size+1))) (s.heap.objs.size+1) (.ins C s.heap.objs.size []))
  {s with heap:=(s.heap.push PySem.W.emptyDict).push (PySem.W.instObj C s.heap.objs.size)}:=by
 have e1:(s.heap.push PySem.W.emptyDict).get? s.heap.objs.size=some PySem.W.emptyDict:=Heap.get?_push_size s.heap rfl
 have e2:((s.heap.push PySem.W.emptyDict).push (PySem.W.instObj C s.heap.objs.size)).get? (s.heap.objs.size+1)=some (PySem.W.instObj C s.heap.objs.size):=by
  have:=Heap.get?_push_size (s.heap.push PySem.W.emptyDict) (o:=PySem.W.instObj C s.heap.objs.size) rfl
  rwa [Heap.size_push] at this
 have e3:(s.heap.push PySem.W.emptyDict).Ns s.heap.objs.size (fun _=>none):=⟨PySem.W.emptyDict,#[],_,e1,rfl,(fun e he=>absurd he (by simp)),fun _=>rfl⟩
 have I1:=I.laid (a:=s.heap.objs.size) (o:= .own (s.heap.objs.size+1)) (h':=s.heap.push PySem.W.emptyDict) (t':=s.toks) (fun b u q=>Heap.get?_push_of_some _ q) (Nat.le_refl _) ⟨_,e1⟩
 refine I1.laid (a:=s.heap.objs.size+1) (o:= .ins C s.heap.objs.size []) (t':=s.toks) (fun b u q=>Heap.get?_push_of_some _ q) (Nat.le_of_eq (Heap.size_push _ _)) ?_
 have ne:s.heap.objs.size≠s.heap.objs.size+1:=Nat.ne_of_lt (Nat.lt_succ_self _)
 refine⟨by rw[qi ne,qb],Nat.zero_le _,ne,e2,fun _=>none,(Heap.Ns1.of_empty e3).at fun o q=>Heap.get?_push_of_some _ q,fun _=>True.intro,fun y hy=>absurd rfl hy⟩
theorem qdk {prog:Program}{w:World}{env:Env}{e:Expr}{f:Str}{pos:Pos}{s:Shared}{Q:Value->Shared->Prop}(hb:attributeBase e f env (eval e env)=eval e env)
  (h:wpAny (model prog w) A (eval e env) (fun o s₁=>wpAny (model prog w) A (getAttr o f true) Q E s₁) E s):wpAny (model prog w) A (eval (.Attribute e f pos) env) Q E s:=
 Attribute_any_ h (by rw[arm_eval_Attribute,hb])
end
def tFld (K:PySem.W.Frag)(ta:TE)(f:Str):TE:=fun σ H Q=>ta σ H fun x H1=>∃a C dx fs v,x= .ref a/\H1 a=some (.ins C dx fs)/\Cls K C/\qz K C f/\fs.lookup f=some v/\Q v H1
def sFld (K:PySem.W.Frag)(ta tv:TE)(f:Str):TS:=fun D σ H=>tv σ H fun y H1=>ta σ H1 fun x H2=>∃a C dx fs,x= .ref a/\H2 a=some (.ins C dx fs)/\Cls K C/\qz K C f/\fs.length<1000/\
 D.nx σ (upd H2 a (.ins C dx (putF f y fs)))
section
variable {X:Cx}{o e value:Expr}{f:Str}{pos pos' tpos:Pos}{ta tv:TE}
theorem pe_fld (he:PE X e ta)(hb:attributeBase e f X.env (eval e X.env)=eval e X.env):PE X (.Attribute e f pos) (tFld X.K ta f):=by
 intro pins s σ H Q I h
 refine qdk hb (thn (he pins s σ H _ I h) fun u s1 ⟨x,H1,I1,rx,a,C,dx,fs,v,ex,ea,c,n,l,q⟩=>?_)
 subst ex
 obtain rfl:u=Value.ref a:=rx
 exact q7H I1 ea c n l fun u' s2 I2 ru=>⟨v,H1,I2,ru,q⟩
theorem ps_fld (ha:PE X o ta)(hv:PE X value tv)(hs:swapsWith value (some (.Attribute o f pos')) pos.line X.env=pure false):PS X (.Assign [.Attribute o f pos'] value pos) (sFld X.K ta tv f):=by
 intro pins s σ H D I h
 refine plainObj_wpAny_Assign_Attribute (thn (hv pins s σ H _ I h) fun u s1 ⟨y,H1,I1,ry,q⟩=>thn (ha pins s1 σ H1 _ I1 q) fun ov s2 ⟨x,H2,I2,rx,a,C,dx,fs,ex,ea,c,n,l,q2⟩=>?_) hs
 subst ex
 obtain rfl:ov=Value.ref a:=rx
 exact q7o I2 ea c n l ry fun s3 I3=>⟨σ,_,I3,q2⟩
end
section
variable {X:Cx}{pins:List (Addr×Obj)}{σ:St}{H:Hp}{s:Shared}{A:Around}{E:Value->Shared->Prop}{Q:Value->Shared->Prop}{c:Value}{b:Bool}
inductive TyOf (K:PySem.W.Frag)(H:Hp):V->Value->Prop where
 |non:TyOf K H .non (.type "NoneType")
 |bl (x:Bool):TyOf K H (.bl x) (.type "bool")
 |int (i:Int):TyOf K H (.int i) (.type "int")
 |str (x:Str):TyOf K H (.str x) (.type "str")
 |flt (x:UInt64):TyOf K H (.flt x) (.type "float")
 |lst {a:Addr} {xs:List V} (e:H a=some (.lst xs)):TyOf K H (.ref a) (.type "list")
 |frz {a:Addr} {o:Obj} {xs:List V} (e:H a=some (.frz o (.lst xs))):TyOf K H (.ref a) (.type "list")
 |tup {a:Addr} {xs:List V} (e:H a=some (.tup xs)):TyOf K H (.ref a) (.type "tuple")
 |dK {a:Addr} {kvs:List (Key×V)} (e:H a=some (.dK kvs)):TyOf K H (.ref a) (.type "dict")
 |dT {a:Addr} {kvs:List (List Key×V)} (e:H a=some (.dT kvs)):TyOf K H (.ref a) (.type "dict")
 | ins {a C dx:Addr} {fs:List (Str×V)} (e:H a=some (.ins C dx fs)) (cl:Cls K C) (ha:PySem.W.findIn K (.ref C) "__class__"=some (some (.builtin "object.__class__")))
   (hn:PySem.W.specialIn K (.builtin "object.__class__") "__get__"=some (some (.builtin "getset_descriptor.__get__"))) (htk:PySem.W.takesIn K (.builtin "object.__class__")=some true)
   (hm:PySem.W.mroIn K C (.type "object")=some true):TyOf K H (.ref a) (.ref C)
theorem q8X {x:V}{u t:Value}(I:Inv X pins σ H s)(rx:RelV x u)(ty:TyOf X.K H x t)(e:PySem.W.kitOne X.K t c=some b)(h:∀tk,Q (.bool b) {s with toks:=tk}):
  wpAny (model X.prog X.w) A (call (.builtin "isinstance") [u,c]) Q E s:=by
 cases ty with
 |non=>cases(show u=Value.none from rx);exact PySem.W.kia_one PySem.W.kitx_none I.kIn True.intro e (fun z=>nomatch z) h
 |bl y=>cases(show u=Value.bool y from rx);exact PySem.W.kia_one PySem.W.kitx_bool I.kIn True.intro e (fun z=>nomatch z) h
 |int i=>obtain⟨t,q⟩:=(show∃t,u=Value.int i t from rx);cases q;exact PySem.W.kia_one PySem.W.kitx_int I.kIn True.intro e (fun z=>nomatch z) h
 |str y=>obtain⟨t,q⟩:=(show∃t,u=Value.str y t from rx);cases q;exact PySem.W.kia_one PySem.W.kitx_str I.kIn True.intro e (fun z=>nomatch z) h
 |flt y=>obtain⟨t,q⟩:=(show∃t,u=Value.float y t from rx);cases q;exact PySem.W.kia_one PySem.W.kitx_float I.kIn True.intro e (fun z=>nomatch z) h
 | @lst a xs ea=>
  cases(show u=Value.ref a from rx)
  obtain⟨_,_,n,_,h1⟩:=(show q0a X.prog X.w H s.heap a (.lst xs) from I.hok a _ ea)
  exact PySem.W.kia_one PySem.W.kitx_list I.kIn ⟨_,h1,rfl⟩ e (fun z=>nomatch z) h
 | @frz a ob xs ea=>
  cases(show u=Value.ref a from rx)
  obtain⟨_,_,_,n,_,h1⟩:=(show q0a X.prog X.w H s.heap a (.frz ob (.lst xs)) from I.hok a _ ea)
  exact PySem.W.kia_one PySem.W.kitx_list I.kIn ⟨_,h1,rfl⟩ e (fun z=>nomatch z) h
 | @tup a xs ea=>
  cases(show u=Value.ref a from rx)
  obtain⟨_,_,_,p⟩:=(show q0a X.prog X.w H s.heap a (.tup xs) from I.hok a _ ea)
  obtain⟨o,h1,h2,_⟩:=p
  exact PySem.W.kia_one PySem.W.kitx_tuple I.kIn ⟨o,h1,h2⟩ e (fun z=>nomatch z) h
 | @dK a kvs ea=>
  cases(show u=Value.ref a from rx)
  obtain⟨_,_,vs,_,p⟩:=(show q0a X.prog X.w H s.heap a (.dK kvs) from I.hok a _ ea)
  obtain⟨o,es,ep,h1,h2,_⟩:=p
  exact PySem.W.kia_one PySem.W.kitx_dict I.kIn ⟨o,h1,h2.1⟩ e (fun z=>nomatch z) h
 | @dT a kvs ea=>
  cases(show u=Value.ref a from rx)
  obtain⟨_,_,xs,_,o,es,ep,h1,h2,_⟩:=(show q0a X.prog X.w H s.heap a (.dT kvs) from I.hok a _ ea)
  exact PySem.W.kia_one PySem.W.kitx_dict I.kIn ⟨o,h1,h2.1⟩ e (fun z=>nomatch z) h
 | @ins a C dx fs ea cl ha hn htk hm=>
  cases(show u=Value.ref a from rx)
  obtain⟨mA,O,_⟩:=q4E I.hok ea
  obtain⟨od,J,_⟩:=O.look
  exact PySem.W.kia_one (PySem.W.kitx_own (cl.get _) cl.hd ha hn htk hm) I.kIn J e (fun z=>nomatch z) h
end
end L2
namespace L2
open PySem PySem.Spec PyProof.Rows
structure Room (k:Nat)(A:Around):Prop where
 hd:A.handled=none
 dp:A.depth+3*k+5<recursionLimit
 un:A.units+16*k+200<cLine
 gd:A.guards=some []
theorem Room.mono {j k:Nat}{A:Around}(r:Room k A)(h:j<=k):Room j A:=⟨r.hd,by have:=r.dp;omega,by have:=r.un;omega,r.gd⟩
theorem Room.deeper {k:Nat}{A:Around}(r:Room (k+1) A)(env:Env):Room k (A.deeper env):=
 ⟨r.hd,by have:=r.dp;show A.depth+1+3*k+5<_;omega,by have:=r.un;show A.units+3+16*k+200<_;omega,r.gd⟩
theorem q7E {A:Around}{C:Addr}{us:List Value}{kw:List (Str×Value)}:(A.under (.builtin "type.__call__" ⟨.ref C::us,kw⟩)).depth=A.depth+1:=by
 first|rfl|simp[Around.under,Code.weight,Code.isCreation,Code.isGuard,Code.isCaller,Code.frames,Code.isFrame,guardIds]
theorem q7D {A:Around}{C:Addr}{us:List Value}{kw:List (Str×Value)}:(A.under (.builtin "type.__call__" ⟨.ref C::us,kw⟩)).units=A.units+1:=by
 first|rfl|simp[Around.under,Code.cUnits,Code.frames,Code.isFrame]
theorem Room.make {k:Nat}{A:Around}(r:Room (k+1) A)(C:Addr)(us:List Value)(kw:List (Str×Value)):Room k (A.under (.builtin "type.__call__" ⟨.ref C::us,kw⟩)):=
 ⟨r.hd,by have:=r.dp;rw[q7E];omega,by have:=r.un;rw[q7D];omega,by simp[Around.under,Code.guards,Code.isGuard,guardIds,pushGuards,r.gd]⟩
theorem Room.depth {k:Nat}{A:Around}(r:Room k A):A.depth<recursionLimit:=by have:=r.dp;omega
theorem Room.units {k:Nat}{A:Around}(r:Room k A):A.units+64<cLine:=by have:=r.un;omega
def tNil:TA:=fun _ H Q=>Q [] H
def tCons (ta:TE)(tr:TA):TA:=fun σ H Q=>ta σ H fun x H1=>tr σ H1 fun xs H2=>Q (x::xs) H2
section
variable {X:Cx}{e:Expr}{es:List Expr}{te:TE}{t:TA}{pos:Pos}
theorem qe:PA X [] tNil:=fun _ _ _ _ H Q I h=>Calls.spliced_nil ⟨[],H,I,.nil,h⟩
theorem qa (ha:PE X e te)(hr:PA X es t)(hs:starEach (e::es) X.env=(false,eval e X.env)::starEach es X.env:=by rfl):PA X (e::es) (tCons te t):=by
 intro pos pins s σ H Q I h
 rw[hs]
 show wpAny _ _ (spliced ((false,eval e X.env)::backTo pos (starEach es X.env))) _ _ s
 refine Calls.spliced_cons (thn (ha pins s σ H _ I h) fun u s1 ⟨x,H1,I1,r1,q1⟩=>?_)
 exact thn (hr pos pins s1 σ H1 _ I1 q1) fun us s2 ⟨xs,H2,I2,r2,q2⟩=>⟨x::xs,H2,I2,.cons r1 r2,q2⟩
def tTup (t:TA):TE:=fun σ H Q=>t σ H fun xs H1=>xs.length<=sizeLine/\∀p,H1 p=none->Q (.ref p) (upd H1 p (.tup xs))
def tLst (t:TA):TE:=fun σ H Q=>t σ H fun xs H1=>xs.length<=sizeLine/\∀p,H1 p=none->Q (.ref p) (upd H1 p (.lst xs))
theorem qR {x1}(h:PA X es t):PE X (.Tuple es x1 pos) (tTup t):=by
 intro pins s σ H Q I hq
 refine wpAny_Tuple_spliced (thn (h pos pins s σ H _ I hq) fun us s1 ⟨xs,H1,I1,r,z,q⟩=>⟨by rw[<-r.length];exact z,?_⟩)
 have hf:H1 s1.heap.objs.size=none:=I1.hok.fresh (Nat.le_refl _)
 refine⟨.ref s1.heap.objs.size,upd H1 s1.heap.objs.size (.tup xs),I1.laid (t':=s1.toks) (fun b u e=>Heap.get?_push_of_some _ e) (Nat.le_refl _) ?_,rfl,q _ hf⟩
 exact⟨z,us,r,⟨_,Heap.get?_push_size _ rfl,rfl,_,rfl⟩⟩
theorem q2D (h:PA X es t):PE X (.List es pos) (tLst t):=by
 intro pins s σ H Q I hq
 refine wpAny_List_spliced (thn (h pos pins s σ H _ I hq) fun us s1 ⟨xs,H1,I1,r,z,q⟩=>⟨by rw[<-r.length];exact z,?_⟩)
 have hf:H1 s1.heap.objs.size=none:=I1.hok.fresh (Nat.le_refl _)
 refine⟨.ref s1.heap.objs.size,upd H1 s1.heap.objs.size (.lst xs),I1.laid (t':=s1.toks) (fun b u e=>Heap.get?_push_of_some _ e) (Nat.le_refl _) ?_,rfl,q _ hf⟩
 exact⟨z,us,0,r,Heap.get?_push_size _ rfl⟩
end
abbrev Sp:=List V->Hp->VK->XK->Prop
abbrev CXT:=List Env->Hp->Shared->XK->Value->Shared->Prop
structure Env0 (P:Program)(w:World)(K:PySem.W.Frag)(mg:Str->Option Value)(base:Heap)(A:Around)(outer:List Env)(s:Shared)(H:Hp):Prop where
 frames:A.frames=some outer
 mod:Mod K mg base
 bs:∀b o,base.get? b=some o->s.heap.get? b=some o/\H b=none
 bsz:base.objs.size<=s.heap.objs.size
 funs:s.heap.FunFrames base outer
 frf:∀b∈frs outer,H b=none
 hok:HOk P w H s.heap
 bare:AllBare s.gens
def CE (outer:List Env)(P:Program)(w:World)(H:Hp)(s:Shared)(Q:VK)(u:Value)(s':Shared):Prop:=
 ∃v H',s'.os=s.os/\AllBare s'.gens/\Un (frs outer) [] H H' s.heap s'.heap/\HOk P w H' s'.heap/\RelV v u/\Q v H'
def CR (CX:CXT)(outer:List Env)(P:Program)(w:World)(H:Hp)(s:Shared)(Q:VK)(E:XK)(r:Result)(s':Shared):Prop:=
 match r with
 | .ok (.ret u)=>CE outer P w H s Q u s'
 | .ok _=>False
 | .error e=>CX outer H s E e s'
structure FnOk (P:Program)(w:World)(K:PySem.W.Frag)(mg:Str->Option Value)(base:Heap)(CX:CXT)(k:Nat)(f:Addr)(fd:FuncData)(ps:List Str)(sp:Sp):Prop where
 len:∀vs H Q E,sp vs H Q E->vs.length=ps.length
 run:∀(A:Around) (outer:List Env) (s:Shared) (H:Hp) (args:Args) (us:List Value) (vs:List V) (Q:VK) (E:XK),Room k A->Env0 P w K mg base A outer s H->BindsTo s fd args (ps.zip us)->Vals vs us->sp vs H Q E->
  codeAny (model P w) A (.call (.ref f) args) (CR CX outer P w H s Q E) s
theorem Env0.make {P:Program}{w:World}{K:PySem.W.Frag}{mg:Str->Option Value}{base:Heap}{A:Around}{outer:List Env}{s:Shared}{H:Hp}(e:Env0 P w K mg base A outer s H)(C:Addr)(us:List Value)(kw:List (Str×Value)):
  Env0 P w K mg base (A.under (.builtin "type.__call__" ⟨.ref C::us,kw⟩)) outer s H:=⟨by first|exact e.frames|(simpa[Around.under,Code.envs,Code.isFrame,pushEnvs] using e.frames),e.mod,e.bs,e.bsz,e.funs,e.frf,e.hok,e.bare⟩
section
variable {X:Cx}{pins:List (Addr×Obj)}{σ:St}{H:Hp}{s s':Shared}
theorem Inv.env0 (I:Inv X pins σ H s):Env0 X.prog X.w X.K X.mg X.base X.A X.stack s H:=
 ⟨I.ok.frames,I.ok.mod,I.bs,Nat.le_trans I.ok.bsz I.sz,I.stack,I.stkFree,I.hok,I.bare⟩
theorem Inv.after {Q:VK}{u:Value}(I:Inv X pins σ H s)(h:CE X.stack X.prog X.w H s Q u s'):EP X pins σ Q u s':=by
 obtain⟨v,H',os,bare,un,hok,r,q⟩:=h
 obtain⟨hh,g,d,t,os'⟩:=s'
 obtain rfl:os'=s.os:=os
 exact⟨v,H',I.call (h':=hh) (g':=g) (d':=d) (t':=t) (ch:=[]) un hok bare (fun b z=>absurd z (by simp)),r,q⟩
end
def q7n (sp:Sp)(dvs:List V)(E:XK)(t:TA):TE:=fun σ H Q=>t σ H fun vs H1=>sp (vs++dvs) H1 Q E
def q7Z (C:Addr)(sp:Sp)(dvs:List V)(E:XK)(t:TA):TE:=fun σ H Q=>t σ H fun vs H1=>∀x dx,H1 x=none->H1 dx=none->dx≠x->
 sp (.ref x::(vs++dvs)) (upd (upd H1 dx (.own x)) x (.ins C dx [])) (fun v H2=>v= .non/\Q (.ref x) H2) E
def q25 (K:PySem.W.Frag)(fd:FuncData)(ps:List Str)(ds:List Value):Prop:=
 ∀(s:Shared) (us:List Value),K.In s.heap->(us++ds).length=ps.length->BindsTo s fd ⟨us,[]⟩ (ps.zip (us++ds))
theorem q25.all {K:PySem.W.Frag}{fd:FuncData}{ps:List Str}(h:∀us:List Value,us.length=ps.length->bindArgs fd ⟨us,[]⟩=pure (ps.zip us)):q25 K fd ps []:=fun s us _ hl=>by
 rw[List.append_nil] at hl ⊢
 exact .of_eq (h us hl)
def q4g (CX:CXT)(X:Cx)(E:XK):Prop:=∀(pins:List (Addr×Obj)) (σ:St) (H:Hp) (s:Shared) (e:Value) (s':Shared),Inv X pins σ H s->CX X.stack H s E e s'->X.xe e s'
section
variable {X:Cx}{CX:CXT}{k:Nat}{f C:Addr}{fd:FuncData}{ps:List Str}{sp:Sp}{dvs:List V}{ds:List Value}{E:XK}{x m:Str}{p pos apos:Pos}{e o:Expr}{es:List Expr}{ta:TE}{t:TA}
theorem q6I {pins:List (Addr×Obj)}{σ:St}{H:Hp}{s:Shared}{Q:VK}{us:List Value}{vs:List V}(F:FnOk X.prog X.w X.K X.mg X.base CX k f fd ps sp)(hr:Room k X.A)(hb:q25 X.K fd ps ds)(hd:Vals dvs ds)(hx:q4g CX X E)
  (I:Inv X pins σ H s)(r:Vals vs us)(h:sp (vs++dvs) H Q E):wpAny (model X.prog X.w) X.A (call (.ref f) us) (EP X pins σ Q) X.xe s:=by
 have r2:Vals (vs++dvs) (us++ds):=r.append hd
 have hl:(us++ds).length=ps.length:=by rw[<-r2.length];exact F.len _ _ _ _ h
 refine wpAny_call (codeAny_mono (F.run X.A X.stack s H ⟨us,[]⟩ (us++ds) (vs++dvs) Q E hr I.env0 (hb s us I.kIn hl) r2 h) fun r s' hq=>?_)
 cases r with
 |error e=>exact hx pins σ H s e s' I hq
 |ok fl=>
  cases fl with
  |ret u=>exact I.after hq
  |next=>exact False.elim hq
  |brk=>exact False.elim hq
  |cont=>exact False.elim hq
theorem q8z (F:FnOk X.prog X.w X.K X.mg X.base CX k f fd ps sp)(hr:Room k X.A)(hg:Gl X x)(hm:X.mg x=some (.ref f))(hk:PySem.W.keepIn X.K (.ref f)=true)(hb:q25 X.K fd ps ds)(hd:Vals dvs ds)(hx:q4g CX X E)
  (ha:PA X (e::es) t)(hdb:(x==("__debug__":Str))=false:=by decide)(he:starEach (e::es) X.env=(false,eval e X.env)::starEach es X.env:=by rfl)(hpl:(backTo pos (starEach es X.env)).any (·.1)=false:=by rfl):
  PE X (.Call (.Name x p) (e::es) [] pos) (q7n sp dvs E t):=by
 intro pins s σ H Q I h
 refine wpAny_Call_Name_kw (q3M I hg hm ?_ hdb)
 refine PySem.W.callWith_K (h₀:=X.base) I.ok.mod.kin hk (thn (ha pos pins s σ H _ I h) fun us s1 ⟨vs,H1,I1,r,q⟩=>⟨I1.kIn,?_⟩) he hpl
 exact q6I F hr hb hd hx I1 r q
structure Mk (K:PySem.W.Frag)(C f:Addr):Prop where
 makes:PySem.W.makesIn K C=true
 init:PySem.W.findIn K (.ref C) "__init__"=some (some (.ref f))
 fn:PySem.W.isFn K (.ref f)=true
 kp:PySem.W.keepIn K (.ref C)=true
theorem q6H {pins:List (Addr×Obj)}{σ:St}{H:Hp}{s:Shared}{Q:VK}{us:List Value}{vs:List V}(M:Mk X.K C f)(F:FnOk X.prog X.w X.K X.mg X.base CX k f fd ps sp)(hr:Room (k+1) X.A)(hb:q25 X.K fd ps ds)(hd:Vals dvs ds)
  (hx:q4g CX X E)(I:Inv X pins σ H s)(r:Vals vs us)
  (h:∀x dx,H x=none->H dx=none->dx≠x->sp (.ref x::(vs++dvs)) (upd (upd H dx (.own x)) x (.ins C dx [])) (fun v H2=>v= .non/\Q (.ref x) H2) E):
  wpAny (model X.prog X.w) X.A (call (.ref C) us) (EP X pins σ Q) X.xe s:=by
 have hq:=h (s.heap.objs.size+1) s.heap.objs.size (I.hok.fresh (Nat.le_succ _)) (I.hok.fresh (Nat.le_refl _)) (Nat.ne_of_lt (Nat.lt_succ_self _))
 have I2:=Inv.made (C:=C) I
 have r2:Vals (V.ref (s.heap.objs.size+1)::(vs++dvs)) (Value.ref (s.heap.objs.size+1)::(us++ds)):= .cons rfl (r.append hd)
 have hl:(Value.ref (s.heap.objs.size+1)::us++ds).length=ps.length:=by
  have e:=r2.length
  rw[F.len _ _ _ _ hq] at e
  exact e.symm
 refine wpAny_call (qaL (f:=f) I.kIn M.makes M.init (beq_iff_eq.mp M.fn) (codeAny_mono (F.run _ X.stack _ _ ⟨Value.ref (s.heap.objs.size+1)::us,[]⟩ (Value.ref (s.heap.objs.size+1)::(us++ds)) _ _ E (hr.make C us [])
  (I2.env0.make C us []) (hb _ (Value.ref (s.heap.objs.size+1)::us) I2.kIn hl) r2 hq) fun r s' hq'=>?_))
 cases r with
 |error e=>exact hx pins σ _ _ e s' I2 hq'
 |ok fl=>
  cases fl with
  |ret u=>
   obtain⟨v,H',I3,rv,ev,q3⟩:=I2.after hq'
   subst ev
   exact⟨rv,⟨V.ref (s.heap.objs.size+1),H',I3,rfl,q3⟩⟩
  |next=>exact False.elim hq'
  |brk=>exact False.elim hq'
  |cont=>exact False.elim hq'
theorem qco (M:Mk X.K C f)(F:FnOk X.prog X.w X.K X.mg X.base CX k f fd ps sp)(hr:Room (k+1) X.A)(hg:Gl X x)(hm:X.mg x=some (.ref C))(hb:q25 X.K fd ps ds)(hd:Vals dvs ds)(hx:q4g CX X E)
  (ha:PA X (e::es) t)(hdb:(x==("__debug__":Str))=false:=by decide)(he:starEach (e::es) X.env=(false,eval e X.env)::starEach es X.env:=by rfl)(hpl:(backTo pos (starEach es X.env)).any (·.1)=false:=by rfl):
  PE X (.Call (.Name x p) (e::es) [] pos) (q7Z C sp dvs E t):=by
 intro pins s σ H Q I h
 refine wpAny_Call_Name_kw (q3M I hg hm ?_ hdb)
 refine PySem.W.callWith_K (h₀:=X.base) I.ok.mod.kin M.kp (thn (ha pos pins s σ H _ I h) fun us s1 ⟨vs,H1,I1,r,q⟩=>⟨I1.kIn,?_⟩) he hpl
 exact q6H M F hr hb hd hx I1 r q
theorem qak (M:Mk X.K C f)(F:FnOk X.prog X.w X.K X.mg X.base CX k f fd ps sp)(hr:Room (k+1) X.A)(hg:Gl X x)(hm:X.mg x=some (.ref C))(hb:q25 X.K fd ps ds)(hd:Vals dvs ds)(hx:q4g CX X E)
  (hdb:(x==("__debug__":Str))=false:=by decide):PE X (.Call (.Name x p) [] [] pos) (q7Z C sp dvs E tNil):=by
 intro pins s σ H Q I h
 refine wpAny_Call_Name_kw (q3M I hg hm ?_ hdb)
 exact PySem.W.callWith_K0 I.kIn M.kp (q6H (us:=[]) M F hr hb hd hx I .nil h)
end
structure FnScope (N P:List Str)(sc:Scope):Prop where
 kind:sc.kind= .function
 co:sc.isCoroutine=false
 gen:sc.isGenerator=false
 nd:N.Nodup
 pre:N.take P.length=P
 par:∀x∈P,sc.names.lookup x=some .local\/sc.names.lookup x=some .cell
 nofree:∀y∈sc.names,y.2≠ .free
theorem q5U {kindOf:Str->Option NameKind}{x:Str}:∀{binds:List (Str×Value)} {m:Str->Option Value},(∀v,(x,v)∉binds)->bindL kindOf binds m x=m x
 |[],_,_=>rfl
 |(n,v)::r,m,h=>by
  unfold bindL
  rw[q5U fun w hw=>h w (List.mem_cons_of_mem _ hw)]
  split
  ·have:x≠n:=by rintro rfl;exact h v List.mem_cons_self
   simp[this]
  ·rfl
theorem q5W {kindOf:Str->Option NameKind}{x:Str}:∀{binds:List (Str×Value)} {m:Str->Option Value},(∀v,(x,v)∉binds)->bindC kindOf binds m x=m x
 |[],_,_=>rfl
 |(n,v)::r,m,h=>by
  unfold bindC
  rw[q5W fun w hw=>h w (List.mem_cons_of_mem _ hw)]
  split
  ·rfl
  ·have:x≠n:=by rintro rfl;exact h v List.mem_cons_self
   simp[this]
theorem q5V {kindOf:Str->Option NameKind}{x:Str}{v:Value}:∀{P:List Str} {vs:List Value} {i:Nat} {m:Str->Option Value},P.Nodup->P[i]? =some x->vs[i]? =some v->kindOf x=some .local->
  bindL kindOf (P.zip vs) m x=some v
 |[],_,_,_,_,h,_,_=>by simp at h
 |_::_,[],_,_,_,_,h,_=>by simp at h
 |p::P,w::vs,0,m,nd,h1,h2,hk=>by
  simp at h1 h2;subst h1;subst h2
  show bindL kindOf ((p,w)::P.zip vs) m p=_
  unfold bindL
  rw[q5U fun v hv=>(List.nodup_cons.mp nd).1 (List.of_mem_zip hv).1,if_pos hk]
  simp
 |p::P,w::vs,i+1,m,nd,h1,h2,hk=>by
  show bindL kindOf ((p,w)::P.zip vs) m x=_
  unfold bindL
  exact q5V (i:=i) (List.nodup_cons.mp nd).2 (by simpa using h1) (by simpa using h2) hk
theorem q5X {kindOf:Str->Option NameKind}{x:Str}{v:Value}:∀{P:List Str} {vs:List Value} {i:Nat} {m:Str->Option Value},P.Nodup->P[i]? =some x->vs[i]? =some v->kindOf x≠some .local->
  bindC kindOf (P.zip vs) m x=some v
 |[],_,_,_,_,h,_,_=>by simp at h
 |_::_,[],_,_,_,_,h,_=>by simp at h
 |p::P,w::vs,0,m,nd,h1,h2,hk=>by
  simp at h1 h2;subst h1;subst h2
  show bindC kindOf ((p,w)::P.zip vs) m p=_
  unfold bindC
  rw[q5W fun v hv=>(List.nodup_cons.mp nd).1 (List.of_mem_zip hv).1,if_neg hk]
  simp
 |p::P,w::vs,i+1,m,nd,h1,h2,hk=>by
  show bindC kindOf ((p,w)::P.zip vs) m x=_
  unfold bindC
  exact q5X (i:=i) (List.nodup_cons.mp nd).2 (by simpa using h1) (by simpa using h2) hk
def start (N:List Str)(vs:List V):St:=vs.map some++List.replicate (N.length - vs.length) none
def cxOf (CX:CXT)(P:Program)(w:World)(K:PySem.W.Frag)(mg:Str->Option Value)(base:Heap)(N:List Str)(qual:Str)(scope:Scope)(f:Addr)(cd:Value)(A:Around)(outer:List Env)(s:Shared)(H:Hp)(E:XK):Cx where
 prog:=P
 w:=w
 K:=K
 mg:=mg
 base:=base
 A:=A.deeper (envOfC qual scope s.heap.objs.size f cd)
 N:=N
 s₀:=s
 H₀:=H
 env:=envOfC qual scope s.heap.objs.size f cd
 outer:=outer
 stack:=envOfC qual scope s.heap.objs.size f cd::outer
 ex:=[]
 calm:=true
 fn:=fun _=>true
 pn:=[]
 xe:=fun e s'=>wpAny (model P w) (A.deeper (envOfC qual scope s.heap.objs.size f cd)) (leaving (envOfC qual scope s.heap.objs.size f cd) e) (fun _ s''=>CX outer H s E e s'') (fun e' s''=>CX outer H s E e' s'') s'
theorem q7d {sc:Scope}{n:Nat}{x:Str}(h:sc.names.lookup x=some .cell):∃c,(cellsFrom n sc.names []).lookup x=some c:=by
 have q:=PySem.W.cellsFrom_some sc.names n [] (.inl h)
 exact Option.isSome_iff_exists.mp q
theorem q8Z {CX:CXT}{P:Program}{w:World}{K:PySem.W.Frag}{mg:Str->Option Value}{base:Heap}{N ps:List Str}{qual:Str}{scope:Scope}{f:Addr}{cd:Value}{A:Around}{outer:List Env}{s s1:Shared}{H:Hp}{E:XK}{us:List Value}{vs:List V}
  (S:FnScope N ps scope)(hd:A.handled=none)(e0:Env0 P w K mg base A outer s H)(hl:vs.length=ps.length)(r:Vals vs us)
  (x:InCallC s s.heap.objs.size (bindL (envOfC qual scope s.heap.objs.size f cd).kindOf (ps.zip us) fun _=>none) (cellsFrom (s.heap.objs.size+1) scope.names []) (bindC (envOfC qual scope s.heap.objs.size f cd).kindOf (ps.zip us) fun _=>none) s1):
  Inv (cxOf CX P w K mg base N qual scope f cd A outer s H E) [] (start N vs) H s1:=by
 have hpl:ps.length<=N.length:=by have:=congrArg List.length S.pre;rw[List.length_take] at this;omega
 obtain⟨h1,tk,rfl,hk⟩:=x.done
 have noA:∀b:Addr,b∉(cxOf CX P w K mg base N qual scope f cd A outer s H E).ex:=fun b z=>absurd (show b∈([]:List Addr) from z) (by simp)
 refine⟨⟨e0.mod,S.kind,rfl,rfl,Nat.le_refl _,fun y z c h1 h2=>?_,fun y hy=>?_,fun y c _ h=>?_,fun _=>hd,Around.frames_deeper e0.frames,.inr ⟨rfl,rfl⟩,fun b z=>absurd z (noA b),e0.bs,e0.bsz,fun b _ _=>noA b,fun b z=>absurd z (noA b),e0.funs,e0.frf⟩,
  rfl,e0.bare,Un.kept hk,⟨_,x.toInCall.ns,fun i y v h1 h2 h3=>?_⟩,fun y c h=>⟨_,x.cell y c h⟩,e0.hok.fresh (Nat.le_refl _),fun y c h=>?_,fun p hp=>absurd (show p∈([]:List (Addr×Obj)) from hp) (by simp),e0.hok.kept hk,?_⟩
 ·exact name_of_addr x.apart (PySem.mem_of_lookup h1) (PySem.mem_of_lookup h2)
 ·have hy:scope.names.lookup y=some .cell\/scope.names.lookup y=some .free:=hy
  rcases hy with hy|hy
  ·exact q7d hy
  ·exact absurd rfl (S.nofree _ (PySem.mem_of_lookup hy))
 ·exact Nat.le_of_lt (x.above y c (PySem.mem_of_lookup h))
 ·have hi:i<vs.length:=by
   unfold start at h2
   by_cases hi:i<vs.length
   ·exact hi
   ·rw [List.getElem?_append_right (by simpa using hi)] at h2
    rw[List.getElem?_replicate] at h2
    split at h2<;>cases h2
  have ha:vs[i]? =some v:=by
   unfold start at h2
   rw[List.getElem?_append_left (by simpa using hi),List.getElem?_map] at h2
   cases e:vs[i]? with
   |none=>rw[e] at h2;cases h2
   |some a=>rw[e] at h2;cases h2;rfl
  obtain⟨u,hu,rv⟩:=r.get ha
  have hp:ps[i]? =some y:=by
   rw[<-S.pre,List.getElem?_take_of_lt (by omega)];exact h1
  have ndP:ps.Nodup:=by rw[<-S.pre];exact S.nd.sublist (List.take_sublist _ _)
  refine⟨u,rv,?_⟩
  rcases S.par y (List.mem_of_getElem? hp) with k|k
  ·exact .inl ⟨k,q5V ndP hp hu k⟩
  ·obtain ⟨c,e⟩:=q7d (n:=s.heap.objs.size+1) k
   refine .inr ⟨.inl k,c,e,?_⟩
   have q:=x.cell y c e
   rw[q5X ndP hp hu (by show scope.names.lookup y≠_;rw[k];decide)] at q
   exact q
 ·exact e0.hok.fresh (Nat.le_of_lt (x.above y c (PySem.mem_of_lookup h)))
 ·unfold start
  show _=N.length
  rw[List.length_append,List.length_map,List.length_replicate]
  omega
theorem fn_of {CX:CXT}{P:Program}{w:World}{K:PySem.W.Frag}{mg:Str->Option Value}{base:Heap}{k:Nat}{f:Addr}{name qual:Str}{params:Arguments}{body:List Stmt}{scope:Scope}{dV kV doc pm cdv ct oc:Value}{an od:Option Addr}
  {osl:Array (Option Value)}{N ps:List Str}{sp:Sp}(lk:K.lookup f=some ⟨oc,od,.func (PySem.W.fnOf name qual params body scope dV kV doc pm an cdv ct),osl⟩)(hcd:PySem.W.codeIn K cdv qual=true)(S:FnScope N ps scope)
  (len:∀vs H Q E,sp vs H Q E->vs.length=ps.length)
  (hbody:∀(A:Around) (outer:List Env) (s:Shared) (H:Hp) (vs:List V) (Q:VK) (E:XK),Room k (A.deeper (envOfC qual scope s.heap.objs.size f cdv))->sp vs H Q E->
   ∃t,PSs (cxOf CX P w K mg base N qual scope f cdv A outer s H E) body t/\t {nx:=fun _ H'=>Q .non H',rt:=Q} (start N vs) H):
  FnOk P w K mg base CX (k+1) f (PySem.W.fnOf name qual params body scope dV kV doc pm an cdv ct) ps sp:=by
 refine⟨len,fun A outer s H args us vs Q E hr e0 hb r hsp=>?_⟩
 have hl:=len _ _ _ _ hsp
 have KX:K.In s.heap:=e0.mod.kin.keeps fun b o e=>(e0.bs b o e).1
 have lim:s.heap.NoLimit:=e0.mod.nolimit.keeps fun b o e=>(e0.bs b o e).1
 have hkind:∀y∈ps.zip us,scope.names.lookup y.1=some .local\/(scope.names.lookup y.1=some .cell/\((cellsFrom (s.heap.objs.size+1) scope.names []).lookup y.1).isSome=true):=fun⟨n,v⟩ hy=>by
  rcases S.par n (List.of_mem_zip hy).1 with q|q
  ·exact .inl q
  ·exact .inr ⟨q,PySem.W.cellsFrom_some _ _ _ (.inl q)⟩
 refine codeAny_call_function hr.depth (KX _ _ lk) rfl S.co S.gen rfl (PySem.W.codeRec_of KX hcd) (hb _ _ _ _ ?_)
 refine wpAny_newFunctionEnv_cells S.kind hkind fun env he s1 x=>?_
 subst he
 refine⟨lim.keeps x.toInCall.keep,codeAny_func ?_⟩
 obtain⟨t,ht,hq⟩:=hbody A outer s H vs Q E (hr.deeper _) hsp
 have I:Inv (cxOf CX P w K mg base N qual scope f cdv A outer s H E) [] (start N vs) H s1:=q8Z S hr.hd e0 hl r x
 refine wpAny_mono (ht [] s1 (start N vs) H _ I hq) (fun fl s' hs=>?_) fun e s' hs=>hs
 have fin:∀{σ':St} {H':Hp} {v:V} {u:Value},Inv (cxOf CX P w K mg base N qual scope f cdv A outer s H E) [] σ' H' s'->RelV v u->Q v H'->CE outer P w H s Q u s':=
  fun {σ' H' v u} J rv q=>⟨v,H',J.os,J.bare,J.base,J.hok,rv,q⟩
 cases fl with
 |ret u=>
  obtain⟨v,σ',H',J,rv,q⟩:=hs
  exact fin J rv q
 |next=>
  obtain⟨σ',H',J,q⟩:=hs
  exact fin (v:=V.non) (u:=Value.none) J rfl q
 |brk=>
  obtain⟨_,_,_,q⟩:=hs
  exact False.elim q
 |cont=>
  obtain⟨_,_,_,q⟩:=hs
  exact False.elim q
end L2
namespace L2
open PySem PySem.Spec PyProof.Rows
section
variable {X:Cx}{x:Str}{p pos:Pos}{e:Expr}{es:List Expr}{t:TA}{id T:String}{r:List V->Hp->VK->Prop}
def tCB (r:List V->Hp->VK->Prop)(t:TA):TE:=fun σ H Q=>t σ H fun vs H1=>r vs H1 Q
theorem qB (hc:q24 X (.builtin id) r)(hg:Gl X x)(hm:X.mg x=none)(hv:bootBuiltins x=some (.builtin id))(ha:PA X (e::es) t)(hn:x≠"__name__":=by decide)(hdb:(x==("__debug__":Str))=false:=by decide)
  (he:starEach (e::es) X.env=(false,eval e X.env)::starEach es X.env:=by rfl)(hpl:(backTo pos (starEach es X.env)).any (·.1)=false:=by rfl):PE X (.Call (.Name x p) (e::es) [] pos) (tCB r t):=by
 intro pins s σ H Q I h
 refine wpAny_Call_Name_kw (q2G I hg hm hv ?_ hn hdb)
 exact PyProof.Rows.callWith_builtin1 (thn (ha pos pins s σ H _ I h) fun us s1 ⟨vs,H1,I1,r1,q1⟩=>hc pins s1 σ H1 vs us Q I1 r1 q1) he hpl
theorem q0k (hc:q24 X (.type T) r)(hg:Gl X x)(hm:X.mg x=none)(hv:bootBuiltins x=some (.type T))(ha:PA X (e::es) t)(hn:x≠"__name__":=by decide)(hdb:(x==("__debug__":Str))=false:=by decide)
  (he:starEach (e::es) X.env=(false,eval e X.env)::starEach es X.env:=by rfl)(hpl:(backTo pos (starEach es X.env)).any (·.1)=false:=by rfl):PE X (.Call (.Name x p) (e::es) [] pos) (tCB r t):=by
 intro pins s σ H Q I h
 refine wpAny_Call_Name_kw (q2G I hg hm hv ?_ hn hdb)
 exact PyProof.Rows.callWith_type1 (thn (ha pos pins s σ H _ I h) fun us s1 ⟨vs,H1,I1,r1,q1⟩=>hc pins s1 σ H1 vs us Q I1 r1 q1) he hpl
end
end L2
namespace HT
open PySem PyProof.Rows
section
variable {prog:Program}{w:World}{A:Around}{E:Value->Shared->Prop}{s:Shared}
theorem qdg {t b:Addr}{vs ws:List Value}{Q:Value->Shared->Prop}(ht:IsTup s.heap t vs.toArray)(hb:IsTup s.heap b ws.toArray)(hv:vs≠[])
  (h1:ws=[]->Q (.ref t) s)(h2:ws≠[]->Q (.ref s.heap.objs.size) {s with heap:=s.heap.push {cls:= .type "tuple",data:= .seq (vs++ws).toArray}})
  (hsz:vs.length+ws.length<=sizeLine):wpAny (model prog w) A (binaryOp .Add (.ref t) (.ref b)) Q E s:=by
 obtain⟨⟨cls,dd,data,sl⟩,ho,hc,n,hd⟩:=id ht
 obtain⟨⟨cls2,dd2,data2,sl2⟩,ho2,hc2,n2,hd2⟩:=id hb
 simp only at hc hd hc2 hd2
 subst hc hd hc2 hd2
 have e:vs.toArray++ws.toArray=(vs++ws).toArray:=by simp
 by_cases hw:ws=[]
 ·exact concat_meets ⟨_,ho,rfl⟩ ⟨_,ho2,rfl⟩ noFill_tuple_add seq_tuple_add PySem.F.slot_tuple_add PySem.F.entry_tuple_add (PySem.F.args_tuple_add_2 _ _)
   (tuple_addW1 t b vs.toArray ws.toArray n n2 dd dd2 sl sl2 (by simpa using hv) (by simp[hw])) ⟨ho,ho2,h1 hw⟩
 ·refine concat_meets ⟨_,ho,rfl⟩ ⟨_,ho2,rfl⟩ noFill_tuple_add seq_tuple_add PySem.F.slot_tuple_add PySem.F.entry_tuple_add (PySem.F.args_tuple_add_2 _ _)
   (tuple_addW2 t b vs.toArray ws.toArray n n2 dd dd2 sl sl2 (by simpa using hv) (by simpa using hw) (by rw[List.size_toArray,List.size_toArray];exact hsz)) ⟨ho,ho2,?_⟩
  rw[e]
  exact h2 hw
def sIx (n d:Nat):Option Int->Nat
 |none=>d
 |some v=>if v<0 then(v+(n:Int)).toNat else min v.toNat n
theorem qa5 (n d:Nat):sIx n d none=d:=rfl
theorem qc4 (n d k:Nat):sIx n d (some (k:Int))=min k n:=by
 show(if (k:Int)<0 then((k:Int)+(n:Int)).toNat else min (k:Int).toNat n)=min k n
 rw[if_neg (by omega),Int.toNat_natCast]
theorem sIx_le (n d:Nat)(hd:d<=n)(o:Option Int):sIx n d o<=n:=by
 cases o with
 |none=>exact hd
 |some v=>
  show(if v<0 then(v+(n:Int)).toNat else min v.toNat n)<=n
  by_cases hv:v<0
  ·rw [if_pos hv];omega
  ·rw [if_neg hv];exact Nat.min_le_right _ _
theorem q9C (v:Int)(n d:Nat):(if v<0 then max (v+(n:Int)) 0 else min v (n:Int))=((sIx n d (some v):Nat):Int):=by
 show(if v<0 then max (v+(n:Int)) 0 else min v (n:Int))=(((if v<0 then(v+(n:Int)).toNat else min v.toNat n):Nat):Int)
 by_cases hv:v<0
 ·simp only[if_pos hv];omega
 ·simp only[if_neg hv];omega
theorem q7O (lo hi:Option Int)(n:Nat):Builtin.Slice.sliceAdjust lo hi 1 (n:Int)=(((sIx n 0 lo:Nat):Int),((sIx n n hi:Nat):Int)):=by
 have h1:¬((1:Int)<0):=by omega
 unfold Builtin.Slice.sliceAdjust
 simp only[h1,if_false]
 refine Prod.ext ?_ ?_
 ·cases lo with
  |none=>rfl
  |some v=>exact q9C v n 0
 ·cases hi with
  |none=>rfl
  |some v=>exact q9C v n n
theorem q7u (i j:Nat):Builtin.Slice.slicePlaces (i:Int) (j:Int) 1=j - i:=by
 unfold Builtin.Slice.slicePlaces
 have h1:(1:Int)>0:=by omega
 simp only[h1,if_true,Int.ediv_one]
 split<;>omega
theorem q4a {v:Value}{o:Option Int}{Q:Option Int->Shared->Prop}(p:IsPart v o)(h:Q o s):wpAny (model prog w) A (Builtin.Slice.slicePartIndex v) Q E s:=by
 cases p with
 |none=>exact slicePart_none h
 |int i t=>exact slicePart_int h
theorem q1E {sl:Addr}{vl vu:Value}{lo hi:Option Int}{n:Nat}{Q:Int×Int×Nat->Shared->Prop}(hs:s.heap.IsSliceOf sl vl vu .none)(pl:IsPart vl lo)(pu:IsPart vu hi)
  (h:Q (((sIx n 0 lo:Nat):Int),1,sIx n n hi - sIx n 0 lo) s):wpAny (model prog w) A (Builtin.Slice.sliceApplied (.ref sl) (pure (n:Int))) Q E s:=by
 obtain⟨os,hos,hcs,hds⟩:=id hs
 unfold Builtin.Slice.sliceApplied Builtin.Slice.sliceFields
 refine wpAny_bind (wpAny_bind (wpAny_field hos hds (x:=vl) rfl (wpAny_bind (wpAny_field hos hds (x:=vu) rfl (wpAny_bind (wpAny_field hos hds (x:= .none) rfl (wpAny_pure ?_)))))))
 refine wpAny_bind (slicePart_none ?_)
 show wpAny _ _ (if ((1:Int)==0)=true then _ else _) _ _ s
 rw[if_neg (by decide)]
 refine wpAny_bind (q4a pl (wpAny_bind (q4a pu (wpAny_bind (wpAny_pure ?_)))))
 show wpAny _ _ (match Builtin.Slice.sliceAdjust lo hi 1 (n:Int) with|(lo,hi)=>pure (lo,(1:Int),Builtin.Slice.slicePlaces lo hi 1)) _ _ s
 rw[q7O lo hi n]
 show wpAny _ _ (pure (((sIx n 0 lo:Nat):Int),(1:Int),Builtin.Slice.slicePlaces ((sIx n 0 lo:Nat):Int) ((sIx n n hi:Nat):Int) 1)) _ _ s
 rw[q7u]
 exact wpAny_pure h
theorem qag (xs:Array Value)(i k:Nat):((List.range k).filterMap fun(m:Nat)=>xs[((i:Int)+(m:Int)*1).toNat]?).toArray=((xs.toList.drop i).take k).toArray:=by
 have e:(fun(m:Nat)=>xs[((i:Int)+(m:Int)*1).toNat]?)=fun m=>xs[i+m]? :=by
  funext m
  have:((i:Int)+(m:Int)*1).toNat=i+m:=by omega
  rw[this]
 rw[e]
 have:=pick_run xs i k
 rw[List.filterMap_map] at this
 have e2:((fun x=>xs[x]?) ∘ fun x=>i+x)=fun m=>xs[i+m]? :=rfl
 rw[e2] at this
 rw[this]
theorem q2W {t sl:Addr}{items:Array Value}{vl vu:Value}{lo hi:Option Int}{Q:Value->Shared->Prop}(ht:IsTup s.heap t items)(hs:s.heap.IsSliceOf sl vl vu .none)(pl:IsPart vl lo)(pu:IsPart vu hi)
  (hw:¬(sIx items.size 0 lo=0/\sIx items.size items.size hi=items.size))
  (h:Q (.ref s.heap.objs.size) {s with heap:=s.heap.push {cls:= .type "tuple",data:= .seq ((items.toList.drop (sIx items.size 0 lo)).take (sIx items.size items.size hi - sIx items.size 0 lo)).toArray}})
  (hsz:items.size<=sizeLine):wpAny (model prog w) A (getItem (.ref t) (.ref sl)) Q E s:=by
 have htake:sizeOk (.seq ((items.toList.drop (sIx items.size 0 lo)).take (sIx items.size items.size hi - sIx items.size 0 lo)).toArray):=by
  show((items.toList.drop (sIx items.size 0 lo)).take (sIx items.size items.size hi - sIx items.size 0 lo)).toArray.size<=sizeLine
  rw[List.size_toArray,List.length_take,List.length_drop,Array.length_toList]
  omega
 have hj:sIx items.size items.size hi<=items.size:=sIx_le _ _ (Nat.le_refl _) hi
 obtain⟨os,hos,hcs,hds⟩:=id hs
 have hTs:s.TypeIs (.ref sl) "slice":=⟨os,hos,hcs⟩
 unfold getItem
 try with_reducible refine wpAny_holding ?_
 first|refine wpAny_bind (wpAny_pure ?_)|skip
 refine wpAny_bind (wpAny_sequenceKey ht.typeIs (by decide) ?_)
 refine wpAny_bind (wpAny_callSpecial?_slot (name:=Str.ofString "__getitem__") ht.typeIs PyProof.Rows.slot_tuple_getitem
  (wpAny_call_entry PyProof.Rows.slot_tuple_getitem ht.typeIs entry_tuple_getitem ?_ (args_tuple_getitem _ _)))
 show wpAny _ _ (Builtin.Tuple.tupleItemsOf (.ref t) >>= _) _ _ s
 refine wpAny_bind (tupleItemsOf_ ht ?_)
 refine wpAny_bind (wpAny_typeOf hTs ?_)
 rw[if_pos (by decide)]
 refine wpAny_bind (q1E hs pl pu ?_)
 have hno:¬((((sIx items.size 0 lo:Nat):Int)==0&&(1:Int)==1&&(sIx items.size items.size hi - sIx items.size 0 lo)==items.size)=true):=by
  intro q
  rw[Bool.and_eq_true,Bool.and_eq_true] at q
  have q1:((sIx items.size 0 lo:Nat):Int)=0:=eq_of_beq q.1.1
  have q2:sIx items.size items.size hi - sIx items.size 0 lo=items.size:=eq_of_beq q.2
  exact hw ⟨by omega,by omega⟩
 show wpAny _ _ (if (((sIx items.size 0 lo:Nat):Int)==0&&(1:Int)==1&&(sIx items.size items.size hi - sIx items.size 0 lo)==items.size)=true then _ else _) _ _ s
 rw[if_neg hno,qag]
 first
  |exact wpAny_bind (m:=Builtin.Tuple.tupleExact _) (wpAny_newObj_type (wpAny_pure ⟨_,rfl,wpAny_pure h⟩) htake)
  |exact wpAny_bind (m:=Builtin.Tuple.tupleExact _) (wpAny_newObj_type (wpAny_bind (wpAny_pure (wpAny_pure ⟨_,rfl,wpAny_pure h⟩))) htake)
  |exact wpAny_bind (wpAny_bind (m:=Builtin.Tuple.tupleExact _) (wpAny_newObj_type (wpAny_pure (wpAny_pure ⟨_,rfl,wpAny_pure h⟩)) htake))
  |exact wpAny_bind (wpAny_bind (m:=Builtin.Tuple.tupleExact _) (wpAny_newObj_type (wpAny_pure ⟨_,rfl,wpAny_pure h⟩) htake))
end
end HT
namespace L2
open PySem PySem.Spec PyProof.Rows
abbrev TO:=St->Hp->(Option Int->Hp->Prop)->Prop
def PO (X:Cx)(e:Option Expr)(t:TO):Prop:=
 ∀(pins:List (Addr×Obj)) (s:Shared) (σ:St) (H:Hp) (Q:Option Int->Hp->Prop),Inv X pins σ H s->t σ H Q->
  wpAny (model X.prog X.w) X.A (evalPart e X.env) (fun u s'=>∃o H',Inv X pins σ H' s'/\IsPart u o/\Q o H') X.xe s
def q7Y:TO:=fun _ H Q=>Q none H
def tPart (t:TE):TO:=fun σ H Q=>t σ H fun x H1=>∃i,x= .int i/\Q (some i) H1
theorem q7G {ns:List Int}:∀{us:List Value},Vals (ns.map V.int) us->IntsAre us ns:=by
 induction ns with
 |nil=>intro us r;rw[List.map_nil] at r;cases r;exact .nil
 |cons n ns ih=>
  intro us r
  rw[List.map_cons] at r
  cases r with
  |cons r1 r2=>
   obtain⟨t,e⟩:=r1
   subst e
   exact .cons n t (ih r2)
section
variable {X:Cx}{e:Expr}{te:TE}{lo hi:Option Expr}{tl th:TO}{pos p2:Pos}
theorem q1A:PO X none q7Y:=by
 intro pins s σ H Q I h
 rw[evalPart_none]
 exact wpAny_pure ⟨none,H,I,.none,h⟩
theorem q1z (h:PE X e te):PO X (some e) (tPart te):=by
 intro pins s σ H Q I hw
 rw[evalPart_some]
 refine thn (h pins s σ H _ I hw) fun u s1 ⟨x,H1,I1,r1,q1⟩=>?_
 obtain⟨i,rfl,q⟩:=q1
 obtain⟨t,rfl⟩:=r1
 exact⟨some i,H1,I1,.int i t,q⟩
def SlR (X:Cx)(r:V->Option Int->Option Int->Hp->VK->Prop):Prop:=
 ∀(pins:List (Addr×Obj)) (s:Shared) (σ:St) (H:Hp) (x:V) (v vl vu:Value) (lo hi:Option Int) (sl:Addr) (Q:VK),Inv X pins σ H s->RelV x v->s.heap.IsSliceOf sl vl vu .none->IsPart vl lo->IsPart vu hi->r x lo hi H Q->
  ∃T id,typeLookup (.type T) "__getitem__"=pure (some (.builtin id))/\s.TypeIs v T/\wpAny (model X.prog X.w) X.A (getItem v (.ref sl)) (EP X pins σ Q) X.xe s
def tSl (r:V->Option Int->Option Int->Hp->VK->Prop)(te:TE)(tl th:TO):TE:=fun σ H Q=>te σ H fun x H1=>tl σ H1 fun l H2=>th σ H2 fun u H3=>r x l u H3 Q
theorem q0I {r:V->Option Int->Option Int->Hp->VK->Prop}(hr:SlR X r)(he:PE X e te)(hl:PO X lo tl)(hu:PO X hi th):PE X (.Subscript e (.Slice lo hi none p2) pos) (tSl r te tl th):=by
 intro pins s σ H Q I h
 refine Subscript_ (thn (he pins s σ H _ I h) fun v s1 ⟨x,H1,I1,r1,q1⟩=>?_)
 refine wpAny_Slice (thn (hl pins s1 σ H1 _ I1 q1) fun vl s2 ⟨l,H2,I2,pl,q2⟩=>thn (hu pins s2 σ H2 _ I2 q2) fun vu s3 ⟨u,H3,I3,pu,q3⟩=>?_)
 rw[evalPart_none]
 refine wpAny_pure ?_
 have I4:Inv X pins σ H3 {s3 with heap:=s3.heap.push {cls:= .type "slice",data:= .fields #[vl,vu,.none]}}:=I3.kept (t':=s3.toks) fun b ob q=>Heap.get?_push_of_some _ q
 obtain⟨T,id,hT,ht,hg⟩:=hr pins {s3 with heap:=s3.heap.push {cls:= .type "slice",data:= .fields #[vl,vu,.none]}} σ H3 x v vl vu l u s3.heap.objs.size Q I4 r1 (Heap.IsSliceOf.new ..) pl pu q3
 show wpAny (model X.prog X.w) X.A (subscriptTail e (.Slice lo hi none p2) v (.ref s3.heap.objs.size)) (EP X pins σ Q) X.xe {s3 with heap:=s3.heap.push {cls:= .type "slice",data:= .fields #[vl,vu,.none]}}
 exact tail_any (ops:=[.ref s3.heap.objs.size,v]) ht hT hg (by with_unfolding_all rfl)
def cutV (xs:List V)(lo hi:Option Int):List V:=(xs.drop (HT.sIx xs.length 0 lo)).take (HT.sIx xs.length xs.length hi - HT.sIx xs.length 0 lo)
theorem q1C (xs:List V)(lo hi:Option Int):(cutV xs lo hi).length<=xs.length:=by
 unfold cutV
 rw[List.length_take,List.length_drop]
 omega
def rSlT (K:PySem.W.Frag):V->Option Int->Option Int->Hp->VK->Prop:=fun x lo hi H Q=>∃a xs,x= .ref a/\SqT K H a xs/\
 ¬(HT.sIx xs.length 0 lo=0/\HT.sIx xs.length xs.length hi=xs.length)/\∀p,H p=none->Q (.ref p) (upd H p (.tup (cutV xs lo hi)))
theorem sl_tup:SlR X (rSlT X.K):=by
 intro pins s σ H x v vl vu lo hi sl Q I rx hs pl pu h
 obtain⟨a,xs,rfl,hx,hw,q⟩:=h
 cases rx
 obtain⟨its,r,ht,hz⟩:=I.tuple hx
 have hlen:its.toArray.size=xs.length:=by rw[List.size_toArray];exact r.length.symm
 refine⟨"tuple",_,PyProof.Rows.slot_tuple_getitem.lookup,ht.typeIs,?_⟩
 refine HT.q2W ht hs pl pu (by rw[hlen];exact hw) ?_ (by rw[hlen];exact hz)
 rw[hlen]
 refine⟨.ref s.heap.objs.size,_,I.laid (t':=s.toks) (o:= .tup (cutV xs lo hi)) (fun b ob q=>Heap.get?_push_of_some _ q) (Nat.le_refl _) ?_,rfl,q _ (I.hok.fresh (Nat.le_refl _))⟩
 exact⟨Nat.le_trans (q1C xs lo hi) hz,_,(r.drop (HT.sIx xs.length 0 lo)).take (HT.sIx xs.length xs.length hi - HT.sIx xs.length 0 lo),IsTup.new _ _⟩
def rCatT (K:PySem.W.Frag):R2:=fun x y H Q=>∃a b xs ys,x= .ref a/\y= .ref b/\SqT K H a xs/\SqT K H b ys/\xs≠[]/\xs.length+ys.length<=sizeLine/\
 (ys=[]->Q (.ref a) H)/\(ys≠[]->∀p,H p=none->Q (.ref p) (upd H p (.tup (xs++ys))))
theorem Vals.nil_iff {xs:List V}{us:List Value}(r:Vals xs us):us=[]↔xs=[]:=by
 cases r with
 |nil=>simp
 |cons _ _=>simp
theorem qct:OpR X (binaryOp .Add) (rCatT X.K):=by
 intro pins s σ H x y v u Q I rx ry h
 obtain⟨a,b,xs,ys,rfl,rfl,ha,hb,hx,hz,q1,q2⟩:=h
 cases rx
 cases ry
 obtain⟨its,r1,p1,_⟩:=I.tuple ha
 obtain⟨its2,r2,p2,_⟩:=I.tuple hb
 refine HT.qdg p1 p2 (fun z=>hx (r1.nil_iff.mp z)) (fun z=>⟨.ref a,H,I,rfl,q1 (r2.nil_iff.mp z)⟩) (fun z=>?_) (by rw[<-r1.length,<-r2.length];exact hz)
 refine⟨.ref s.heap.objs.size,_,I.laid (t':=s.toks) (o:= .tup (xs++ys)) (fun b ob q=>Heap.get?_push_of_some _ q) (Nat.le_refl _) ?_,rfl,q2 (fun w=>z (r2.nil_iff.mpr w)) _ (I.hok.fresh (Nat.le_refl _))⟩
 exact⟨by rw[List.length_append];exact hz,_,r1.append r2,IsTup.new _ _⟩
end
end L2
namespace L2
open PySem PySem.Spec PyProof.Rows
def ixN (n:Nat)(i:Int):Option Nat:=if 0<=i then(if i<n then some i.toNat else none) else if -(n:Int)<=i then some (i+n).toNat else none
def atI {α:Type}(xs:List α)(i:Int):Option α:=(ixN xs.length i).bind fun j=>xs[j]?
theorem q8W {n:Nat}{i:Int}{j:Nat}(h:ixN n i=some j):seqIndex? i n=some j/\j<n/\ -(n:Int)<=i/\i<n:=by
 unfold ixN at h
 by_cases h0:0<=i
 ·rw [if_pos h0] at h
  by_cases h1:i<n
  ·rw [if_pos h1] at h
   have e:i.toNat=j:=Option.some.inj h
   exact⟨by rw[seqIndex_of h0 h1,e],by omega,by omega,h1⟩
  ·rw [if_neg h1] at h;cases h
 ·rw [if_neg h0] at h
  by_cases h1: -(n:Int)<=i
  ·rw [if_pos h1] at h
   have e:(i+n).toNat=j:=Option.some.inj h
   exact⟨by rw[seqIndex_neg (by omega) h1,e],by omega,h1,by omega⟩
  ·rw [if_neg h1] at h;cases h
theorem q6w {α:Type}{xs:List α}{i:Int}{v:α}(h:atI xs i=some v):∃j,seqIndex? i xs.length=some j/\xs[j]? =some v/\j<xs.length/\ -(xs.length:Int)<=i/\i<xs.length:=by
 unfold atI at h
 cases e:ixN xs.length i with
 |none=>rw[e] at h;cases h
 |some j=>
  rw[e] at h
  obtain⟨h1,h2,h3,h4⟩:=q8W e
  exact⟨j,h1,h,h2,h3,h4⟩
theorem q0R {α:Type}{xs:List α}{j:Nat}{v:α}(h:xs[j]? =some v):atI xs (j:Int)=some v:=by
 have hj:j<xs.length:=(List.getElem?_eq_some_iff.mp h).1
 have e:ixN xs.length (j:Int)=some j:=by
  unfold ixN
  rw[if_pos (by omega),if_pos (by omega)];simp
 unfold atI;rw[e];exact h
def qdo (b:Expr):Prop:=∀o i,subscripted b false o i=operate [o,i] (getItem o i)
def IxR (X:Cx)(r:R2):Prop:=
 ∀(value slice:Expr) (pins:List (Addr×Obj)) (s:Shared) (σ:St) (H:Hp) (x y:V) (v u:Value) (Q:VK),Inv X pins σ H s->RelV x v->RelV y u->r x y H Q->
  subscripted slice false v u=operate [v,u] (getItem v u)->wpAny (model X.prog X.w) X.A (subscriptTail value slice v u) (EP X pins σ Q) X.xe s
def MtR (X:Cx)(id:String)(r:V->List V->Hp->VK->Prop):Prop:=
 ∀(pins:List (Addr×Obj)) (s:Shared) (σ:St) (H:Hp) (x:V) (xs:List V) (v:Value) (us:List Value) (Q:VK),Inv X pins σ H s->RelV x v->Vals xs us->r x xs H Q->
  wpAny (model X.prog X.w) X.A (call (.builtin id) (v::us)) (EP X pins σ Q) X.xe s
section
variable {X:Cx}{a b:Expr}{ta tb:TE}{pos:Pos}
theorem qA {r:R2}(hr:IxR X r)(ha:PE X a ta)(hb:PE X b tb)(hs:qdo b):PE X (.Subscript a b pos) (tOp r ta tb):=by
 intro pins s σ H Q I h
 exact Subscript_ (binT ha hb I h fun v u s2 x y H2 I2 rx ry q=>hr a b pins s2 σ H2 x y v u Q I2 rx ry q (hs _ _))
def rIxL (K:PySem.W.Frag):R2:=fun x y H Q=>∃p xs i v,x= .ref p/\y= .int i/\SqL K H p xs/\atI xs i=some v/\Q v H
def rIxT (K:PySem.W.Frag):R2:=fun x y H Q=>∃p xs i v,x= .ref p/\y= .int i/\SqT K H p xs/\atI xs i=some v/\Q v H
theorem qcU:IxR X (rIxL X.K):=by
 intro value slice pins s σ H x y v u Q I rx ry h hs
 obtain⟨p,xs,i,z,rfl,rfl,hq,he,q⟩:=h
 cases rx
 obtain⟨t,rfl⟩:=ry
 obtain⟨its,r,pl,hz⟩:=I.list hq
 obtain⟨j,h1,h2,h3,h4,h5⟩:=q6w he
 obtain⟨w,ew,rw'⟩:=r.get h2
 have hl:=r.length
 have hn:=q5H
 have fin:EP X pins σ Q w s:=⟨z,H,I,rw',q⟩
 by_cases h0:0<=i
 ·have hj:i.toNat=j:=by
   rw[seqIndex_of h0 h5] at h1
   exact Option.some.inj h1
  exact item_listR pl.isList h0 (by omega) (by rw[hj];simpa using ew) fin hs
 ·have hj:(i+(its.toArray.size:Int)).toNat=j:=by
   rw[seqIndex_neg (by omega) h4] at h1
   rw[List.size_toArray,<-hl]
   exact Option.some.inj h1
  exact subscriptTail_builtinR (x:=w) pl.isList.typeIs slot_list_getitem.lookup
   (wpAny_getItem_list_neg (Q:=fun r s'=>r=w/\EP X pins σ Q r s') pl.isList (by omega) (by rw[List.size_toArray]<;>omega) (by omega) (by rw[hj];simpa using ew) ⟨rfl,fin⟩) hs
theorem ix_tup:IxR X (rIxT X.K):=by
 intro value slice pins s σ H x y v u Q I rx ry h hs
 obtain⟨p,xs,i,z,rfl,rfl,hq,he,q⟩:=h
 cases rx
 obtain⟨t,rfl⟩:=ry
 obtain⟨its,r,pl,hz⟩:=I.tuple hq
 obtain⟨j,h1,h2,h3,h4,h5⟩:=q6w he
 obtain⟨w,ew,rw'⟩:=r.get h2
 have hl:=r.length
 have hn:=q5H
 have fin:EP X pins σ Q w s:=⟨z,H,I,rw',q⟩
 exact subscriptTail_builtinR (x:=w) pl.typeIs slot_tuple_getitem.lookup
  (getItem_tuple (j:=j) (Q:=fun r s'=>r=w/\EP X pins σ Q r s') pl (by omega) (by omega) (by rw[List.size_toArray,<-hl];exact h1) (by simpa using ew) ⟨rfl,fin⟩) hs
theorem q7C (its:List Value)(n j:Nat)(u:Value):Obj.mapSeq (·.setIfInBounds j u) {cls:= .type "list",data:= .seq its.toArray n}={cls:= .type "list",data:= .seq (its.set j u).toArray n}:=by
 simp[Obj.mapSeq]
theorem Inv.lst {pins:List (Addr×Obj)}{σ:St}{H:Hp}{s:Shared}{p:Addr}{xs:List V}(I:Inv X pins σ H s)(h:H p=some (.lst xs)):
  ∃(its:List Value) (n:Nat),Vals xs its/\s.heap.get? p=some {cls:= .type "list",data:= .seq its.toArray n}/\xs.length<=sizeLine:=by
 obtain⟨z,its,n,r,e⟩:=I.hok p _ h
 exact⟨its,n,r,e,z⟩
theorem Inv.lstUpd {pins:List (Addr×Obj)}{σ:St}{H:Hp}{s:Shared}{p:Addr}{xs ys:List V}{its its':List Value}{n n':Nat}{f:Obj->Obj}(I:Inv X pins σ H s)(h:H p=some (.lst xs))
  (ho:s.heap.get? p=some {cls:= .type "list",data:= .seq its.toArray n})(hf:f {cls:= .type "list",data:= .seq its.toArray n}={cls:= .type "list",data:= .seq its'.toArray n'})(r:Vals ys its')(hz:ys.length<=sizeLine)(t:Nat):
  Inv X pins σ (upd H p (.lst ys)) {s with heap:=s.heap.update p f,toks:=t}:=by
 have e:(s.heap.update p f).get? p=some {cls:= .type "list",data:= .seq its'.toArray n'}:=by
  rw[Heap.get?_update_self f ho (by rw[hf]<;>rfl),hf]
 refine I.write (x:=p) (e:=p) (by rw[h];trivial) (.inl rfl) (fun b u hb q=>(Heap.get?_update_other _ _ (Ne.symm hb)).trans q) ⟨_,e⟩ ?_
 exact⟨hz,its',n',r,e⟩
def rSetL:V->V->V->Hp->(Hp->Prop)->Prop:=fun o i v H Q=>∃p xs k j,o= .ref p/\i= .int k/\H p=some (.lst xs)/\ixN xs.length k=some j/\Q (upd H p (.lst (xs.set j v)))
theorem q6D:PSet X rSetL:=by
 intro pins s σ H o i v ov iv u Q I ro ri rv h
 obtain⟨p,xs,k,j,rfl,rfl,hp,hj,q⟩:=h
 cases ro
 obtain⟨t,rfl⟩:=ri
 obtain⟨its,n,r,ho,hz⟩:=I.lst hp
 obtain⟨h1,h2,h3,h4⟩:=q8W hj
 have hl:=r.length
 have hn:=q5H
 have I':Inv X pins σ (upd H p (.lst (xs.set j v))) {s with heap:=s.heap.update p (Obj.mapSeq (·.setIfInBounds j u))}:=
  I.lstUpd hp ho (q7C its n j u) (r.set rv j) (by rw[List.length_set];exact hz) s.toks
 by_cases h0:0<=k
 ·have hk:k.toNat=j:=by
   rw[seqIndex_of h0 h4] at h1
   exact Option.some.inj h1
  exact PySem.W.ki_setAt ho h0 (by omega) (by rw[List.size_toArray,<-hl];exact h4) (by rw[hk];exact⟨_,I',q⟩)
 ·have hk:(k+(its.toArray.size:Int)).toNat=j:=by
   rw[seqIndex_neg (by omega) h3] at h1
   rw[List.size_toArray,<-hl]
   exact Option.some.inj h1
  exact PySem.W.ki_setBack ho (by omega) (by rw[List.size_toArray,<-hl];exact h3) (by omega) (by rw[hk];exact⟨_,I',q⟩)
theorem q5g (lo hi:Option Int)(n:Nat):(sliceBounds lo hi none n).1=((HT.sIx n 0 lo:Nat):Int)/\(sliceBounds lo hi none n).2.1=((HT.sIx n n hi:Nat):Int)/\(sliceBounds lo hi none n).2.2=1:=by
 refine⟨?_,?_,rfl⟩
 ·cases lo with
  |none=>simp[sliceBounds,HT.sIx]
  |some i=>
   simp only[sliceBounds,HT.sIx,Option.getD_none,show(1:Int)>0 by decide,if_true]
   by_cases h:i<0
   ·simp only[h,if_true]<;>omega
   ·simp only[h,if_false]<;>omega
 ·cases hi with
  |none=>simp[sliceBounds,HT.sIx]
  |some i=>
   simp only[sliceBounds,HT.sIx,Option.getD_none,show(1:Int)>0 by decide,if_true]
   by_cases h:i<0
   ·simp only[h,if_true]<;>omega
   ·simp only[h,if_false]<;>omega
theorem q4n (its:List Value)(lo hi:Option Int):slicePick its.toArray lo hi none=((its.drop (HT.sIx its.length 0 lo)).take (HT.sIx its.length its.length hi - HT.sIx its.length 0 lo)).toArray:=by
 obtain⟨h1,h2,h3⟩:=q5g lo hi its.toArray.size
 unfold slicePick
 rw[h1,h2,h3]
 simp only[sliceRange_one,pick_run,List.size_toArray]<;>rfl
def rSlL (K:PySem.W.Frag):V->Option Int->Option Int->Hp->VK->Prop:=fun x lo hi H Q=>∃a xs,x= .ref a/\SqL K H a xs/\∀p,H p=none->Q (.ref p) (upd H p (.lst (cutV xs lo hi)))
theorem qbZ:SlR X (rSlL X.K):=by
 intro pins s σ H x v vl vu lo hi sl Q I rx hs pl pu h
 obtain⟨a,xs,rfl,hx,q⟩:=h
 cases rx
 obtain⟨its,r,ht,hz⟩:=I.list hx
 have hlen:=r.length
 refine⟨"list",_,slot_list_getitem.lookup,ht.isList.typeIs,?_⟩
 refine wpAny_getItem_list_slice ht.isList hs pl pu .none (by simp) ?_ (by rw[List.size_toArray]<;>omega)
 rw[q4n,<-hlen]
 refine⟨.ref s.heap.objs.size,_,I.laid (t':=s.toks) (o:= .lst (cutV xs lo hi)) (fun b ob q=>Heap.get?_push_of_some _ q) (Nat.le_refl _) ?_,rfl,q _ (I.hok.fresh (Nat.le_refl _))⟩
 exact⟨Nat.le_trans (q1C xs lo hi) hz,_,0,(r.drop (HT.sIx xs.length 0 lo)).take (HT.sIx xs.length xs.length hi - HT.sIx xs.length 0 lo),Heap.get?_push_size _ rfl⟩
def q2l:V->Bool
 | .non=>true
 | .bl _=>true
 | .int _=>true
 | .str _=>true
 |_=>false
def eqV:V->V->Bool
 | .non,.non=>true
 | .bl a,.bl b=>a==b
 | .bl a,.int b=>(if a then 1 else 0)==b
 | .int a,.bl b=>a==(if b then 1 else 0)
 | .int a,.int b=>a==b
 | .str a,.str b=>a==b
 |_,_=>false
theorem q9h {A:Around}{s:Shared}{y x:V}{u v:Value}(ry:RelV y u)(rx:RelV x v)(fy:q2l y=true)(fx:q2l x=true):SeqAt.EqAt A s u v (eqV y x):=by
 cases y with
 |non=>
  cases ry
  cases x with
  |non=>cases rx;exact SeqAt.EqAt.same _
  |bl b=>cases rx;exact SeqAt.EqAt.none_bool b
  |int b=>obtain⟨t,rfl⟩:=rx;exact SeqAt.EqAt.none_int b t
  |str b=>obtain⟨t,rfl⟩:=rx;exact SeqAt.EqAt.none_str b t
  |_=>exact absurd (show false=true from fx) Bool.false_ne_true
 |bl a=>
  cases ry
  cases x with
  |non=>cases rx;exact SeqAt.EqAt.bool_none a
  |bl b=>cases rx;exact SeqAt.EqAt.bool_bool a b
  |int b=>obtain⟨t,rfl⟩:=rx;exact SeqAt.EqAt.bool_int a b t
  |str b=>obtain⟨t,rfl⟩:=rx;exact SeqAt.EqAt.bool_str a b t
  |_=>exact absurd (show false=true from fx) Bool.false_ne_true
 |int a=>
  obtain⟨t',rfl⟩:=ry
  cases x with
  |non=>cases rx;exact SeqAt.EqAt.int_none a t'
  |bl b=>cases rx;exact SeqAt.EqAt.int_bool a t' b
  |int b=>obtain⟨t,rfl⟩:=rx;exact SeqAt.EqAt.int_int a t' b t
  |str b=>obtain⟨t,rfl⟩:=rx;exact SeqAt.EqAt.int_str a t' b t
  |_=>exact absurd (show false=true from fx) Bool.false_ne_true
 |str a=>
  obtain⟨t',rfl⟩:=ry
  cases x with
  |non=>cases rx;exact SeqAt.EqAt.str_none a t'
  |bl b=>cases rx;exact SeqAt.EqAt.str_bool a t' b
  |int b=>obtain⟨t,rfl⟩:=rx;exact SeqAt.EqAt.str_int a t' b t
  |str b=>obtain⟨t,rfl⟩:=rx;exact SeqAt.EqAt.str_str a t' b t
  |_=>exact absurd (show false=true from fx) Bool.false_ne_true
 |_=>exact absurd (show false=true from fy) Bool.false_ne_true
theorem q5T:q24 X (.builtin "len") (fun xs H Q=>∃p ys,xs=[.ref p]/\(SqL X.K H p ys\/SqT X.K H p ys)/\Q (.int ys.length) H):=by
 intro pins s σ H xs us Q I r h
 obtain⟨p,ys,rfl,hq,q⟩:=h
 obtain⟨u,rfl,rx⟩:=q40 r
 cases rx
 have hn:=q5H
 rcases hq with hq|hq
 ·obtain ⟨its,r',pl,hz⟩:=I.list hq
  have hlen:=r'.length
  exact Calls.call_len_list pl.isList (by simp only[List.size_toArray]<;>omega) ⟨.int ys.length,H,I.tok _,⟨s.toks+1,by rw[List.size_toArray,hlen]⟩,q⟩
 ·obtain ⟨its,r',pl,hz⟩:=I.tuple hq
  have hlen:=r'.length
  exact len_tuple pl (by simp only[List.size_toArray]<;>omega) ⟨.int ys.length,H,I.tok _,⟨s.toks+1,by rw[List.size_toArray,hlen]⟩,q⟩
theorem q5S:q24 X (.type "list") (fun xs H Q=>∃p ys,xs=[.ref p]/\(SqL X.K H p ys\/SqT X.K H p ys)/\∀l,H l=none->Q (.ref l) (upd H l (.lst ys))):=by
 intro pins s σ H xs us Q I r h
 obtain⟨p,ys,rfl,hq,q⟩:=h
 obtain⟨u,rfl,rx⟩:=q40 r
 cases rx
 have fin:∀(its:List Value),Vals ys its->ys.length<=sizeLine->∀(h':Heap) (c':Nat),(∀b o',s.heap.get? b=some o'->h'.get? b=some o')->
   h'.get? s.heap.objs.size=some {cls:= .type "list",dict:=none,data:= .seq its.toArray c',slots:= #[]}->EP X pins σ Q (.ref s.heap.objs.size) {s with heap:=h'}:=fun its r' hz h' c' kp e=>
  ⟨.ref s.heap.objs.size,_,I.laid (t':=s.toks) kp (Nat.le_refl _) (show q0a X.prog X.w _ h' _ (.lst ys) from⟨hz,its,c',r',e⟩),rfl,q _ (I.hok.fresh (Nat.le_refl _))⟩
 rcases hq with hq|hq
 ·obtain ⟨its,r',pl,hz⟩:=I.list hq
  have hlen:=r'.length
  obtain⟨o,ho,hc,n,hd⟩:=pl.isList
  exact call_list_seq p (.inl rfl) ho hc hd (fun h' c' kp e=>fin its r' hz h' c' kp e) (by simp only[List.size_toArray]<;>omega)
 ·obtain ⟨its,r',pl,hz⟩:=I.tuple hq
  have hlen:=r'.length
  obtain⟨o,ho,hc,n,hd⟩:=pl
  exact call_list_seq p (.inr rfl) ho hc hd (fun h' c' kp e=>fin its r' hz h' c' kp e) (by simp only[List.size_toArray]<;>omega)
theorem q4O:q24 X (.type "tuple") (fun xs H Q=>∃p ys,xs=[.ref p]/\((SqL X.K H p ys/\∀l,H l=none->Q (.ref l) (upd H l (.tup ys)))\/(SqT X.K H p ys/\Q (.ref p) H))):=by
 intro pins s σ H xs us Q I r h
 obtain⟨p,ys,rfl,h⟩:=h
 obtain⟨u,rfl,rx⟩:=q40 r
 cases rx
 rcases h with⟨hq,q⟩|⟨hq,q⟩
 ·obtain ⟨its,r',pl,hz⟩:=I.list hq
  have hlen:=r'.length
  refine call_tuple_list pl.isList (fun h' kp=>?_) (by simp only[List.size_toArray]<;>omega)
  have I1:Inv X pins σ H {s with heap:=h'}:=I.kept (t':=s.toks) kp
  have I2:Inv X pins σ (upd H h'.objs.size (.tup ys)) {s with heap:=h'.push {cls:= .type "tuple",data:= .seq its.toArray}}:=
   I1.laid (t':=s.toks) (fun b o e=>Heap.get?_push_of_some _ e) (Nat.le_refl _) (show q0a X.prog X.w _ _ _ (.tup ys) from⟨hz,its,r',IsTup.new _ _⟩)
  exact⟨.ref h'.objs.size,_,I2,rfl,q _ (I1.hok.fresh (Nat.le_refl _))⟩
 ·obtain ⟨its,r',pl,hz⟩:=I.tuple hq
  exact call_tuple_same pl ⟨.ref p,H,I,rfl,q⟩
def tyV (K:PySem.W.Frag)(T:String)(x:V)(H:Hp):Prop:=match x with
 | .str _=>T="str"
 | .int _=>T="int"
 | .ref p=>(T="list"/\∃xs,SqL K H p xs)\/(T="tuple"/\∃o,K.lookup p=some o/\o.cls= .type "tuple"/\o.dict=none)\/
   (T="dict"/\((∃kvs,H p=some (.dK kvs))\/∃kvs,H p=some (.dT kvs)))\/(T="set"/\∃S n,H p=some (.set S n))
 |_=>False
theorem qba {pins:List (Addr×Obj)}{σ:St}{H:Hp}{s:Shared}{T:String}{x:V}{v:Value}(I:Inv X pins σ H s)(r:RelV x v)(ty:tyV X.K T x H):
  s.TypeIs v T/\∀a,v= .ref a->∃ob,s.heap.get? a=some ob/\ob.dict=none:=by
 cases x with
 |str z=>
  obtain⟨t,rfl⟩:=r
  cases(show T="str" from ty)
  exact⟨typeIs_str s z t,fun _ e=>nomatch e⟩
 |int i=>
  obtain⟨t,rfl⟩:=r
  cases(show T="int" from ty)
  exact⟨typeIs_int s i t,fun _ e=>nomatch e⟩
 |ref p=>
  cases r
  rcases ty with⟨rfl,xs,hq⟩|⟨rfl,o,hk,hc,hd⟩|⟨rfl,hk⟩|⟨rfl,S,n,hk⟩
  ·obtain ⟨its,_,pl,_⟩:=I.list hq
   refine⟨pl.isList.typeIs,fun a e=>?_⟩
   cases e
   obtain⟨o,n,e,c,hd,_⟩:=pl
   exact⟨o,e,hd⟩
  ·refine ⟨⟨o,I.kIn p o hk,hc⟩,fun a e=>?_⟩
   cases e
   exact⟨o,I.kIn _ o hk,hd⟩
  ·have z:∃o,s.heap.get? p=some o/\o.ExactDict:=by
    rcases hk with⟨kvs,hk⟩|⟨kvs,hk⟩
    ·obtain ⟨_,_,_,_,o,_,_,e,ex,_⟩:=I.hok p _ hk
     exact⟨o,e,ex⟩
    ·obtain ⟨_,_,_,_,o,_,_,e,ex,_⟩:=I.hok p _ hk
     exact⟨o,e,ex⟩
   obtain⟨o,e,ex⟩:=z
   refine⟨⟨o,e,ex.1⟩,fun a e2=>?_⟩
   cases e2
   exact⟨o,e,ex.2.1⟩
  ·obtain ⟨o,_,_,_,e,ex,_⟩:=I.hok p _ hk
   refine⟨⟨o,e,ex.1⟩,fun a e2=>?_⟩
   cases e2
   exact⟨o,e,ex.2.1⟩
 |_=>exact False.elim ty
def tBM0 (K:PySem.W.Frag)(T:String)(r:V->List V->Hp->VK->Prop)(to:TE):TE:=fun σ H Q=>to σ H fun x H1=>tyV K T x H1/\r x [] H1 Q
def tBM (K:PySem.W.Frag)(T:String)(r:V->List V->Hp->VK->Prop)(to:TE)(t:TA):TE:=fun σ H Q=>to σ H fun x H1=>tyV K T x H1/\t σ H1 fun xs H2=>r x xs H2 Q
variable {o e:Expr}{es:List Expr}{to:TE}{t:TA}{name:Str}{apos cpos:Pos}{T id:String}{r:V->List V->Hp->VK->Prop}
theorem pe_bm0 (pa:PlainAttrs T)(slot:Slot T name id)(hty:typeOf (.builtin id)=pure (.type "method_descriptor"))(hm:MtR X id r)(ho:PE X o to)
  (hbase:attributeBase o name X.env (eval o X.env)=eval o X.env:=by rfl)(hline:(apos.endLine==cpos.line)=true:=by rfl):PE X (.Call (.Attribute o name apos) [] [] cpos) (tBM0 X.K T r to):=by
 intro pins s σ H Q I h
 refine wpAny_Call_method0_late hbase hline (thn (ho pins s σ H _ I h) fun v s1 ⟨x,H1,I1,r1,ty,q1⟩=>?_)
 obtain⟨h1,h2⟩:=qba I1 r1 ty
 exact⟨T,id,pa,slot,hty,h1,h2,Calls.callWith_builtin rfl (PySem.evalArgs_none (hm pins s1 σ H1 x [] v [] Q I1 r1 .nil q1))⟩
theorem q8A (pa:PlainAttrs T)(slot:Slot T name id)(hty:typeOf (.builtin id)=pure (.type "method_descriptor"))(hm:MtR X id r)(ho:PE X o to)(ha:PA X (e::es) t)
  (hbase:attributeBase o name X.env (eval o X.env)=eval o X.env:=by rfl)
  (hfew:((backTo cpos (starEach (e::es) X.env)).all (fun x=> !x.1)&&(backToKw cpos (keywordEach [] X.env)).all (fun x=>x.1.isSome)
   &&decide ((e::es).length+([]:List Keyword).length+(if ([]:List Keyword).isEmpty then 0 else 1)<30))=true:=by rfl)
  (hline:(apos.endLine==cpos.line)=true:=by rfl)(hs:starEach (e::es) X.env=(false,eval e X.env)::starEach es X.env:=by rfl)(hplain:(backTo cpos (starEach es X.env)).any (·.1)=false:=by rfl):
  PE X (.Call (.Attribute o name apos) (e::es) [] cpos) (tBM X.K T r to t):=by
 intro pins s σ H Q I h
 refine wpAny_Call_method_late hbase hfew hline rfl (thn (ho pins s σ H _ I h) fun v s1 ⟨x,H1,I1,r1,ty,q1⟩=>?_)
 obtain⟨h1,h2⟩:=qba I1 r1 ty
 refine⟨T,id,pa,slot,hty,h1,h2,?_⟩
 have hA:=ha cpos pins s1 σ H1 _ I1 q1
 rw[hs] at hA ⊢
 refine Calls.callWith_builtin (by show(false||(backTo cpos (starEach es X.env)).any (·.1))=false;rw[hplain]<;>rfl) (Calls.evalArgs_plain ?_)
 exact thn hA fun us s2 ⟨vs,H2,I2,r2,q2⟩=>hm pins s2 σ H2 x vs v us Q I2 r1 r2 q2
end
end L2
namespace L2
open PySem PySem.Spec PyProof.Rows
def MtM (X:Cx)(id:String)(r:V->List V->Hp->VK->Prop):Prop:=
 ∀(pins:List (Addr×Obj)) (s:Shared) (σ:St) (H:Hp) (x:V) (xs:List V) (v:Value) (us:List Value) (Q:VK),Inv X pins σ H s->RelV x v->Vals xs us->r x xs H Q->
  wpAny (model X.prog X.w) X.A (call (.builtin id) (v::us)) (EP X pins σ Q) X.xe s
theorem Vals.one:∀{x:V} {us:List Value},Vals [x] us->∃u,us=[u]/\RelV x u
 |_,_,.cons r .nil=>⟨_,rfl,r⟩
theorem Vals.zero:∀{us:List Value},Vals [] us->us=[]
 |_,.nil=>rfl
theorem Vals.rep {xs:List V}{us:List Value}(h:Vals xs us):∀k:Nat,Vals (List.replicate k xs).flatten (List.replicate k us).flatten
 |0=> .nil
 |k+1=>by
  rw[List.replicate_succ,List.replicate_succ,List.flatten_cons,List.flatten_cons]
  exact Vals.append h (Vals.rep h k)
theorem q5K (its:List Value):∀(k:Nat) (acc:List Value),
  List.foldl (fun x1 x2=>x1++x2) acc.toArray (List.replicate k its.toArray)=(acc++(List.replicate k its).flatten).toArray
 |0,acc=>by simp
 |k+1,acc=>by
  have e:acc.toArray++its.toArray=(acc++its).toArray:=by simp
  have e2:(acc++its)++(List.replicate k its).flatten=acc++(List.replicate (k+1) its).flatten:=by
   rw[List.replicate_succ,List.flatten_cons,List.append_assoc]
  rw[<-e2,<-q5K its k (acc++its),<-e,List.replicate_succ,List.foldl_cons]
section
variable {X:Cx}{pins:List (Addr×Obj)}{σ:St}{H:Hp}{s:Shared}{l b:Addr}{xs ys zs:List V}
theorem Inv.lset {its its':List Value}{n:Nat}{f:Array Value->Array Value}{t':Nat}(I:Inv X pins σ H s)(hH:H l=some (.lst xs))
  (e:s.heap.get? l=some {cls:= .type "list",data:= .seq its.toArray n})(hf:f its.toArray=its'.toArray)(hv:Vals ys its')(hz:ys.length<=sizeLine):
  Inv X pins σ (upd H l (.lst ys)) {s with heap:=s.heap.update l (Obj.mapSeq f),toks:=t'}:=by
 have q:=PySem.IsL.update e f
 rw[hf] at q
 refine I.write (x:=l) (e:=l) (by rw[hH];exact trivial) (.inl rfl) (fun b' u hb hu=>(Heap.get?_update_other s.heap (Obj.mapSeq f) (Ne.symm hb)).trans hu) ⟨_,q⟩ ?_
 exact⟨hz,its',_,hv,q⟩
theorem Inv.lnew {its:List Value}{t':Nat}(I:Inv X pins σ H s)(hv:Vals ys its)(hz:ys.length<=sizeLine):
  Inv X pins σ (upd H s.heap.objs.size (.lst ys)) {s with heap:=s.heap.push {cls:= .type "list",data:= .seq its.toArray},toks:=t'}:=
 I.laid (fun _ _ q=>Heap.get?_push_of_some _ q) (Nat.le_refl _) ⟨hz,its,0,hv,Heap.get?_push_size _ rfl⟩
theorem Inv.fresh (I:Inv X pins σ H s):H s.heap.objs.size=none:=I.hok.fresh (Nat.le_refl _)
theorem Inv.lstM (I:Inv X pins σ H s)(hH:H l=some (.lst xs)):xs.length<=sizeLine/\∃(its:List Value) (n:Nat),Vals xs its/\xs.length=its.length/\s.heap.get? l=some {cls:= .type "list",data:= .seq its.toArray n}:=by
 obtain⟨z,its,n,r,e⟩:=I.hok l _ hH
 exact⟨z,its,n,r,r.length,e⟩
theorem qaC {n:Nat}(h:n<=sizeLine):Builtin.List.listTooLong n=false:=by
 unfold Builtin.List.listTooLong
 exact decide_eq_false (by omega)
end
section
variable {X:Cx}
def q8n:V->List V->Hp->VK->Prop:=fun x vs H Q=>∃l xs y,x= .ref l/\vs=[y]/\H l=some (.lst xs)/\xs.length<sizeLine/\Q .non (upd H l (.lst (xs++[y])))
theorem q19:MtM X "list.append" q8n:=by
 intro pins s σ H x vs v us Q I rx rv h
 obtain⟨l,xs,y,rfl,rfl,hH,hz,q⟩:=h
 cases rx
 obtain⟨u,rfl,ru⟩:=rv.one
 obtain⟨z,its,n,r,hl,e⟩:=I.lstM hH
 refine call_meets F.slot_list_append ⟨_,e,rfl⟩ F.entry_list_append (F.args_list_append_2 _ _) (PySem.list_append l its.toArray n u (by rw[List.size_toArray];omega)) ⟨e,?_⟩
 refine⟨.non,_,I.lset (its':=its++[u]) hH e (by simp) (r.append (.cons ru .nil)) ?_,rfl,q⟩
 rw[List.length_append,List.length_singleton]
 omega
def rClear:V->List V->Hp->VK->Prop:=fun x vs H Q=>∃l xs,x= .ref l/\vs=[]/\H l=some (.lst xs)/\Q .non (upd H l (.lst []))
theorem qaE:MtM X "list.clear" rClear:=by
 intro pins s σ H x vs v us Q I rx rv h
 obtain⟨l,xs,rfl,rfl,hH,q⟩:=h
 cases rx
 have hus:=rv.zero
 subst hus
 obtain⟨z,its,n,r,hl,e⟩:=I.lstM hH
 refine call_meets F.slot_list_clear ⟨_,e,rfl⟩ F.entry_list_clear (F.args_list_clear_1 _) (AutoSeq1.list_clear_list_0 l its.toArray n (by rw[List.size_toArray];omega)) ⟨e,?_⟩
 exact⟨.non,_,I.lset (its':=[]) (ys:=[]) hH e rfl .nil (Nat.zero_le _),rfl,q⟩
def rCat:R2:=fun x y H Q=>∃l b xs zs,x= .ref l/\y= .ref b/\H l=some (.lst xs)/\H b=some (.lst zs)/\xs.length+zs.length<=sizeLine/\∀p,H p=none->Q (.ref p) (upd H p (.lst (xs++zs)))
theorem q5F:OpR X (binaryOp .Add) rCat:=by
 intro pins s σ H x y v u Q I rx ry h
 obtain⟨l,b,xs,zs,rfl,rfl,hH,hB,hz,q⟩:=h
 cases rx
 cases ry
 obtain⟨z,its,n,r,hl,e⟩:=I.lstM hH
 obtain⟨z2,its2,n2,r2,hl2,e2⟩:=I.lstM hB
 refine PySem.P.add_list e e2 ?_ (by rw[List.size_toArray,List.size_toArray];omega)
 have ea:its.toArray++its2.toArray=(its++its2).toArray:=by simp
 rw[ea]
 exact⟨.ref _,_,I.lnew (t':=s.toks) (r.append r2) (by rw[List.length_append];omega),rfl,q _ I.fresh⟩
def rRep:R2:=fun x y H Q=>∃l k xs,x= .ref l/\y= .int k/\H l=some (.lst xs)/\ -(2 ^ 63)<=k/\k<2 ^ 63/\xs.length*k.toNat<=sizeLine/\
 ∀p,H p=none->Q (.ref p) (upd H p (.lst (List.replicate k.toNat xs).flatten))
theorem qcO {α:Type}(xs:List α)(k:Nat):(List.replicate k xs).flatten.length=k*xs.length:=by
 induction k with
 |zero=>simp
 |succ k ih=>rw[List.replicate_succ,List.flatten_cons,List.length_append,ih,Nat.succ_mul,Nat.add_comm]
theorem op_rep:OpR X (binaryOp .Mult) rRep:=by
 intro pins s σ H x y v u Q I rx ry h
 obtain⟨l,k,xs,rfl,rfl,hH,h1,h2,hz,q⟩:=h
 cases rx
 obtain⟨t,rfl⟩:=ry
 obtain⟨z,its,n,r,hl,e⟩:=I.lstM hH
 have hlen:its.toArray.size*k.toNat<=sizeLine:=by rw[List.size_toArray,<-hl];exact hz
 have hcap:¬its.toArray.size*k.toNat>(2 ^ 63 - 1) / 8:=by
  have:(sizeLine:Nat)<=(2 ^ 63 - 1) / 8:=by decide
  omega
 have hfit:¬(!Builtin.List.listFitsIndex k)=true:=by
  rw[fitsIndex_both h1 h2]
  exact Bool.false_ne_true
 have hlong:¬Builtin.List.listTooLong (its.toArray.size*k.toNat)=true:=by
  rw[qaC hlen]
  exact Bool.false_ne_true
 have hnew:List.foldl (fun x1 x2=>x1++x2) #[] (List.replicate (if its.toArray.isEmpty=true then 0 else k.toNat) its.toArray)=(List.replicate k.toNat its).flatten.toArray:=by
  have f0:∀m:Nat,List.foldl (fun x1 x2=>x1++x2) #[] (List.replicate m its.toArray)=(List.replicate m its).flatten.toArray:=fun m=>by
   have:=q5K its m []
   rw[List.nil_append] at this
   exact this
  rw[f0]
  cases its with
  |nil=>simp
  |cons a r'=>rw[if_neg (by simp)]
 refine wpAny_binaryOp_repeat_ref (T:="list") (U:="int") (by decide) ⟨_,e,rfl⟩ (fun s'=>typeIs_int s' k t) noFill_list_mul F.fills_int_mul F.slot_int_rmul repeat_list F.slot_int_index.lookup
  (call_meets F.slot_int_rmul (typeIs_int s k t) F.entry_int_rmul (F.args_int_rmul_2 _ _) (int___rmul___int_list k t l its.toArray n)
   ⟨e,rfl,⟨_,e,rfl⟩,call_meets F.slot_list_mul ⟨_,e,rfl⟩ F.entry_list_mul (F.args_list_mul_2 _ _) (AutoListH.list___mul___list_int_3 l its.toArray n k t hfit hcap hlong) ⟨e,?_⟩⟩)
 rw[hnew]
 exact⟨.ref _,_,I.lnew (t':=s.toks) (r.rep k.toNat) (by rw[qcO,Nat.mul_comm];exact hz),rfl,q _ I.fresh⟩
end
end L2
namespace Att
open PySem PySem.W PySem.Calls PyProof.Rows
theorem q3O {P:Params}{h:Heap}:∀(ns:List Int) (vs:List Value),WellAll P h vs (ns.map WData.int)->IntsAre vs ns:=by
 intro ns
 induction ns with
 |nil=>
  intro vs w
  rw[List.map_nil] at w
  cases w
  exact .nil
 |cons n ns ih=>
  intro vs w
  rw[List.map_cons] at w
  cases w with
  |cons a b=>
   cases a
   exact .cons _ _ (ih _ b)
theorem q8e {l:OpenLaw}{n:Nat}(hn:l.most=some n){P:Params}{h:Heap}{args:List WData}{vals:List Value}
  (hpre:l.row.toRowW.claim.pre args=true)(hwl:WellAll P h vals args):
  ∃a vs ns,vals=[Value.ref a]/\args=[WData.list (ns.map WData.int)]/\h.get? a=some {cls:= .type "list",data:= .seq vs.toArray}/\IntsAre vs ns/\ns.length<=n:=by
 have hsh:WShape.hasAll [] args [.list .int]=true:=(pre_splitW hpre).1
 have hc:l.pre.holds [] {args:=args}=true:=(pre_splitW hpre).2
 obtain⟨d,r,rfl,h1,h2⟩:=hasAllW_cons hsh
 obtain rfl:=hasAllW_nil h2
 obtain⟨xs,rfl,h3⟩:=hasW_list h1
 obtain⟨ns,rfl⟩:=items_int h3
 have hlen:ns.length<=n:=by
  unfold OpenLaw.pre at hc
  have h4:(WTm.not (.lt (.lit (.int (n:Int))) (.len (.arg 0)))).holds [] {args:=[.list (ns.map .int)]}=true:=by
   have h4:=(holds_andW hc).1
   rw[hn] at h4
   exact h4
  have h5:=condW_of h4 (w_not (w_lt w_lit (w_len_list (w_arg rfl))))
  rw[List.length_map] at h5
  refine Nat.le_of_not_lt fun q=>?_
  have q':(n:Int)<((ns.length:Nat):Int):=by omega
  first
   |(rw[decide_eq_true q'] at h5;exact absurd h5 (by decide))
   |(simp at h5;omega)
 cases hwl with
 |cons w1 w2=>
  cases w2
  cases w1 with
  |list ho hall=>exact⟨_,_,ns,rfl,rfl,ho,q3O ns _ hall,hlen⟩
theorem q8t (l:OpenLaw)(args:List WData):l.row.toRowW.claim.post args (.bool true) args=true:=
 postW_of (r:=l.row.toRowW) (X:=(true==true))
  (show WShape.has [] (.bool true) .bool=true by first|rfl|decide|simp[WShape.has,WShape.arms,WShape.armsAll])
  (show(WTm.eq .res (.lit (.bool true))).value [] {args:=args,res:=some (.bool true),after:=args}=some (.bool (true==true)) from w_eq_bool (w_res rfl) w_lit) rfl
theorem q6v {l:OpenLaw}{n:Nat}{q:Program}{loose:List Str}{XP:(Str->Option Value)->Heap->Prop}{YP:World->Heap->Prop}{d:DefRec}
  (hn:l.most=some n)(hdf:d.params.defaults=[])
  (call:∀(w:World) (s₀ s₁:Shared) (mg mb:Str->Option Value) (fa:Addr) (o:Obj) (pm cd doc:Value) (a:Addr) (vs:List Value) (ns:List Int),
   Ground q loose [] XP w s₀ mg mb s₁.heap->YP w s₁.heap->
   s₁.heap.get? fa=some o->o.data= .func (docDef d.name d.params d.body d.scope pm cd doc)->s₁.heap.CodeRec cd d.name->mg d.name=some (.ref fa)->
   s₁.heap.get? a=some {cls:= .type "list",data:= .seq vs.toArray}->IntsAre vs ns->ns.length<=n->s₁.gens= #[]->
   codeAny (model l.prog w) callerA (.call (.ref fa) ⟨[.ref a],[]⟩) (fun r s'=>r= .ok (.ret (.bool true))/\OldK s₁.heap s'.heap/\s'.os=s₁.os/\AllBare s'.gens) s₁):
  WalkO q loose XP YP l.row.toRowW d [] (fun f vs=>PySem.call f vs):=by
 intro w s₀ s₁ mg mb G Y fa o pm cd doc dV kV ho hd hcd hD hmg hg args vals as hpre hlay hrd hwl hlo
 obtain rfl:dV= .none:=Dflts.none hD hdf
 obtain rfl:kV= .none:=Dflts.noKw hD
 obtain⟨a,vs,ns,rfl,rfl,hobj,hints,hlen⟩:=q8e hn hpre hwl
 refine enter_call (codeAny_mono (call w s₀ s₁ mg mb fa o pm cd doc a vs ns G Y ho (fd_plain hd) hcd hmg hobj hints hlen hg) fun r s' hq=>?_)
 obtain⟨rfl,h2,h3,h4⟩:=hq
 exact⟨.inl ⟨.bool true,.bool true,[],rfl,fun _=>rfl,.bool true,q8t l _,fun _=>⟨List.Pairwise.nil,fun _ hm=>(nomatch hm)⟩⟩,h2,h3,h4⟩
end Att
namespace L2
open PySem PySem.Spec PyProof.Rows
theorem q5a:∀{vs:List Value} {ns:List Int},IntsAre vs ns->Vals (ns.map V.int) vs
 |_,_,.nil=> .nil
 |_,_,.cons n t h=> .cons ⟨t,rfl⟩ (q5a h)
def Only (H:Hp):Prop:=∀b,H b=none\/∃o xs,H b=some (.frz o (.lst xs))
theorem qaN {P:Program}{w:World}{K:PySem.W.Frag}{mg mb:Str->Option Value}{CX:CXT}{k:Nat}{fa a:Addr}{fd:FuncData}{x:Str}{sp:Sp}{s₁:Shared}{vs:List Value}{ns:List Int}
  (KX:K.In s₁.heap)(hns:s₁.heap.Ns mainGlobals mg)(hb:s₁.heap.Ns builtinsNs mb)(hbb:∀x:Str,x≠"__name__"->mb x=bootBuiltins x)(hlim:s₁.heap.NoLimit)(hg:s₁.gens= #[])
  (ha:s₁.heap.get? a=some {cls:= .type "list",data:= .seq vs.toArray})(hi:IntsAre vs ns)(hl:ns.length<=sizeLine)(hr:Room k callerA)
  (F:∀base:Heap,K.In base->base.Ns mainGlobals mg->FnOk P w K mg base CX k fa fd [x] sp)(hbind:∀(s:Shared) (u:Value),BindsTo s fd ⟨[u],[]⟩ [(x,u)])
  (hsp:∀H:Hp,Only H->SqL K H a (ns.map V.int)->sp [.ref a] H (fun v _=>v= .bl true) fun _ _ _=>False)
  (hCX:∀H e s',CX [] H s₁ (fun _ _ _=>False) e s'->False):
  codeAny (model P w) callerA (.call (.ref fa) ⟨[.ref a],[]⟩) (fun r s'=>r= .ok (.ret (.bool true))/\OldK s₁.heap s'.heap/\s'.os=s₁.os/\AllBare s'.gens) s₁:=by
 have rv:=q5a hi
 have lenV:=hi.length
 -- from an abstract heap in which nothing but the script may be tracked
 have core:∀H:Hp,Only H->SqL K H a (ns.map V.int)->HOk P w H s₁.heap->(∀b,H b≠none->b=a)->(H a≠none->K.lookup a=none)->
   codeAny (model P w) callerA (.call (.ref fa) ⟨[.ref a],[]⟩) (fun r s'=>r= .ok (.ret (.bool true))/\OldK s₁.heap s'.heap/\s'.os=s₁.os/\AllBare s'.gens) s₁:=by
  intro H hO hS hok hA hK
  have base_of:∀{b:Addr} {o:Obj},s₁.heap.get? b=some o->H b=none->(hidT s₁.heap H).get? b=some o:=fun e n=>qaR e n
  have noA:∀{b:Addr} {o:Obj} {es:Array DictEntry} {ep:Nat},s₁.heap.get? b=some o->o.data= .dict es ep->H b=none:=fun {b o es ep} e d=>by
   cases q:H b with
   |none=>rfl
   |some u=>
    have e':b=a:=hA b (by rw[q];simp)
    subst e'
    rw[ha] at e;cases e
    have d':Data.seq vs.toArray _=Data.dict es ep:=d
    cases d'
  have nsK:∀{b:Addr} {m:Str->Option Value},s₁.heap.Ns b m->(hidT s₁.heap H).Ns b m:=fun {b m} ⟨o,es,ep,e,d,r⟩=>⟨o,es,ep,base_of e (noA e d),d,r⟩
  have hKb:K.In (hidT s₁.heap H):=fun b o e=>base_of (KX b o e) (by
   cases q:H b with
   |none=>rfl
   |some u=>
    have e':b=a:=hA b (by rw[q];simp)
    subst e'
    rw[hK (by rw[q];simp)] at e;cases e)
  have hM:Mod K mg (hidT s₁.heap H):=⟨hKb,nsK hns,⟨mb,nsK hb,hbb⟩,let ⟨mc,h1,h2⟩:=hlim;⟨mc,nsK h1,h2⟩⟩
  have e0:Env0 P w K mg (hidT s₁.heap H) callerA [] s₁ H:=⟨rfl,hM,fun b o e=>qcE e,Nat.le_of_eq (q94 _ _),trivial,fun b hb=>absurd (show b∈([]:List Addr) from hb) (by simp),hok,.of_eq hg⟩
  refine codeAny_mono ((F _ hKb (nsK hns)).run callerA [] s₁ H ⟨[.ref a],[]⟩ [.ref a] [.ref a] _ _ hr e0 (hbind s₁ (.ref a)) (.cons rfl .nil) (hsp H hO hS)) fun r s' h=>?_
  cases r with
  |error e=>exact(hCX H e s' h).elim
  |ok fl=>
   cases fl with
   |next=>exact False.elim h
   |brk=>exact False.elim h
   |cont=>exact False.elim h
   |ret u=>
    obtain⟨v,H',os,bare,un,hok',r',q⟩:=h
    have q':v= .bl true:=q
    subst q'
    obtain rfl:u=Value.bool true:=r'
    refine⟨rfl,OldK.of_keep fun b o e=>?_,os,bare⟩
    cases q:H b with
    |none=>exact un.keep b o e q (by intro z;exact absurd (show b∈([]:List Addr) from z) (by simp)) (by simp)
    |some u=>
     rcases hO b with z|⟨ob,xs,z⟩
     ·rw [q] at z;cases z
     ·have z2:=un.frzs b ob _ z
      obtain⟨e1,_⟩:=hok b _ z
      obtain⟨e2,_⟩:=hok' b _ z2
      rw[e] at e1;cases e1
      exact e2
 cases hk:K.lookup a with
 |some o=>
  -- the script is one of the module's own objects
  have e:=KX a o hk
  rw[ha] at e
  cases e
  refine core (fun _=>none) (fun _=> .inl rfl) (.inr ⟨_,vs.toArray,_,hk,rfl,rfl,rfl,by rw[List.size_toArray,lenV];exact hl,by simpa using rv⟩) (fun b u z=>by have z':(none:Option HO)=some u:=z;cases z') (fun b z=>absurd rfl z) fun z=>absurd rfl z
 |none=>
  refine core (fun b=>if b=a then some (.frz {cls:= .type "list",data:= .seq vs.toArray} (.lst (ns.map V.int))) else none) (fun b=>?_) (.inl (.inr ⟨{cls:= .type "list",data:= .seq vs.toArray},if_pos rfl⟩)) (fun b u z=>?_) (fun b z=>?_) fun _=>hk
  ·by_cases hb:b=a
   ·exact .inr ⟨_,_,if_pos hb⟩
   ·exact .inl (if_neg hb)
  ·by_cases hb:b=a
   ·have z':=(if_pos hb).symm.trans z
    cases z'
    subst hb
    exact⟨ha,by rw[List.length_map];exact hl,vs,_,rv,ha⟩
   ·have z':=(if_neg hb).symm.trans z
    cases z'
  ·by_cases hb:b=a
   ·exact hb
   ·exact absurd (if_neg hb) z
end L2
namespace L2
open PySem PySem.Spec PyProof.Rows
theorem qbJ {l:PySem.W.OpenLaw}{n k:Nat}{q:Program}{loose:List Str}{XP:(Str->Option Value)->Heap->Prop}{YP:World->Heap->Prop}{d:DefRec}{K:Params->PySem.W.Frag}{CX:World->CXT}{sp:World->Sp}{x:Str}
  (hn:l.most=some n)(hn2:n<=sizeLine)(hdf:d.params.defaults=[])(hr:Room k callerA)
  (hY:∀(w:World) (h:Heap),YP w h->(K w.params).In h)
  (F:∀(w:World) (mg:Str->Option Value) (fa:Addr) (h:Heap),(K w.params).In h->h.Ns mainGlobals mg->mg d.name=some (.ref fa)->
   ∃fd:FuncData,(∀(s:Shared) (u:Value),BindsTo s fd ⟨[u],[]⟩ [(x,u)])/\
    ∀base:Heap,(K w.params).In base->base.Ns mainGlobals mg->FnOk l.prog w (K w.params) mg base (CX w) k fa fd [x] (sp w))
  (hsp:∀(w:World) (H:Hp) (a:Addr) (ns:List Int),ns.length<=n->Only H->SqL (K w.params) H a (ns.map V.int)->sp w [.ref a] H (fun v _=>v= .bl true) fun _ _ _=>False)
  (hCX:∀(w:World) (H:Hp) (s:Shared) (e:Value) (s':Shared),CX w [] H s (fun _ _ _=>False) e s'->False):
  PySem.W.WalkO q loose XP YP l.row.toRowW d [] (fun f vs=>PySem.call f vs):=by
 refine Att.q6v hn hdf fun w s₀ s₁ mg mb fa o pm cd doc a vs ns G Y ho hd hcd hmg hobj hints hlen hg=>?_
 have KX:=hY w _ Y
 obtain⟨fd,hb,hF⟩:=F w mg fa _ KX G.T.g hmg
 exact qaN KX G.T.g G.T.b G.T.builtins G.T.nolimit hg hobj hints (Nat.le_trans hlen hn2) hr hF hb (fun H hO hS=>hsp w H a ns hlen hO hS) fun H e s'=>hCX w H s₁ e s'
end L2
namespace L2
open PySem PySem.Spec PyProof.Rows
def qC (s:Stmt)(j:Nat):Stmt:=match s with
 | .ClassDef _ _ _ body _ _ _ _ _ _ _=>body.getD j (.Pass ⟨0,0,0,0⟩)
 |_=> .Pass ⟨0,0,0,0⟩
def qZ (s:Stmt):Arguments:=match s with
 | .FunctionDef _ a _ _ _ _ _ _ _ _=>a
 |_=>{posonlyargs:=[],args:=[],vararg:=none,kwonlyargs:=[],kw_defaults:=[],kwarg:=none,defaults:=[]}
def qK (s:Stmt):List Stmt:=match s with
 | .FunctionDef _ _ b _ _ _ _ _ _ _=>b
 |_=>[]
def qd (s:Stmt):Scope:=match s with
 | .FunctionDef _ _ _ _ _ _ sc _ _ _=>sc
 |_=>{kind:= .function,names:=[],isGenerator:=false,isCoroutine:=false}
abbrev CX0:CXT:=fun _ _ _ _ _ _=>False
abbrev E0:XK:=fun _ _ _=>False
theorem q6e {X:Cx}:q4g CX0 X E0:=fun _ _ _ _ _ _ _ h=>h.elim
structure Fun (K:PySem.W.Frag)(x qual:Str)(st:Stmt)(f:Addr)(fd:FuncData):Prop where
 ex:∃(oc:Value) (od:Option Addr) (kV doc pm:Value) (an:Option Addr) (cdv ct:Value) (osl:Array (Option Value)),
  fd=PySem.W.fnOf x qual (qZ st) (qK st) (qd st) .none kV doc pm an cdv ct/\K.lookup f=some ⟨oc,od,.func fd,osl⟩/\PySem.W.codeIn K cdv qual=true
 kp:PySem.W.keepIn K (.ref f)=true
section
variable {P:Program}{w:World}{K:PySem.W.Frag}{mg:Str->Option Value}{base:Heap}
theorem Fun.ok {x qual:Str}{st:Stmt}{f:Addr}{fd:FuncData}{N ps:List Str}{k:Nat}{sp:Sp}(F:Fun K x qual st f fd)(S:FnScope N ps (qd st))(len:∀vs H Q E,sp vs H Q E->vs.length=ps.length)
  (hbody:∀(cdv:Value) (A:Around) (outer:List Env) (s:Shared) (H:Hp) (vs:List V) (Q:VK) (E:XK),Room k (A.deeper (envOfC qual (qd st) s.heap.objs.size f cdv))->sp vs H Q E->
   ∃t,PSs (cxOf CX0 P w K mg base N qual (qd st) f cdv A outer s H E).nox (qK st) t/\t {nx:=fun _ H'=>Q .non H',rt:=Q} (start N vs) H):FnOk P w K mg base CX0 (k+1) f fd ps sp:=by
 obtain⟨oc,od,kV,doc,pm,an,cdv,ct,osl,rfl,lk,hcd⟩:=F.ex
 refine fn_of lk hcd S len fun A outer s H vs Q E hr hsp=>?_
 obtain⟨t,h,q⟩:=hbody cdv A outer s H vs Q E hr hsp
 exact⟨t,h.nox,q⟩
theorem Fun.binds {x qual:Str}{st:Stmt}{f:Addr}{fd:FuncData}{ps:List Str}(F:Fun K x qual st f fd)
  (h:∀(kV doc pm:Value) (an:Option Addr) (cdv ct:Value) (us:List Value),us.length=ps.length->bindArgs (PySem.W.fnOf x qual (qZ st) (qK st) (qd st) .none kV doc pm an cdv ct) ⟨us,[]⟩=pure (ps.zip us)):q25 K fd ps []:=by
 obtain⟨oc,od,kV,doc,pm,an,cdv,ct,osl,rfl,lk,hcd⟩:=F.ex
 exact .all (h kV doc pm an cdv ct)
theorem q2H {x qual:Str}{st:Stmt}{f:Addr}{oc:Value}{od an:Option Addr}{osl:Array (Option Value)}{kV doc pm cdv ct:Value}(l:K.lookup f=some ⟨oc,od,.func (PySem.W.fnOf x qual (qZ st) (qK st) (qd st) .none kV doc pm an cdv ct),osl⟩)
  (c:PySem.W.codeIn K cdv qual=true)(k:PySem.W.keepIn K (.ref f)=true):Fun K x qual st f (PySem.W.fnOf x qual (qZ st) (qK st) (qd st) .none kV doc pm an cdv ct):=⟨⟨oc,od,kV,doc,pm,an,cdv,ct,osl,rfl,l,c⟩,k⟩
end
theorem hu_of {A:Around}{k:Nat}(hr:Room k A):A.units+1<cLine:=Nat.lt_of_le_of_lt (Nat.add_le_add_left (by decide:1<=64) _) hr.units
section
variable {X:Cx}
theorem pv (i:Nat){x:Str}{pos:Pos}(hN:X.N[i]? =some x:=by rfl)(hv:Vis X.env.scope x:=by first|exact Or.inl rfl|exact Or.inr (Or.inl rfl)|exact Or.inr (Or.inr rfl))(hd:(x==("__debug__":Str))=false:=by decide)
  (hcd:(x==("__classdict__":Str))=false:=by decide):PE X (.Name x pos) (tVar i):=pe_var hN hv hd hcd
end
theorem iteF {A B:Prop}(h:B):if false=true then A else B:=by
 rw[if_neg Bool.false_ne_true]
 exact h
theorem iteT {A B:Prop}(h:A):if true=true then A else B:=by
 rw[if_pos rfl]
 exact h
theorem ite2 {c A B:Prop}[Decidable c](h1:c->A)(h2:¬c->B):if c then A else B:=by
 by_cases h:c
 ·rw [if_pos h]
  exact h1 h
 ·rw [if_neg h]
  exact h2 h
def Same (H H':Hp):Prop:=∀b o,H b=some o->H' b=some o
theorem Same.refl (H:Hp):Same H H:=fun _ _ h=>h
theorem Same.trans {H H1 H2:Hp}(a:Same H H1)(b:Same H1 H2):Same H H2:=fun c o h=>b c o (a c o h)
theorem Same.free {H H':Hp}(e:Same H H'){l:Addr}(h:H' l=Option.none):H l=Option.none:=by
 cases q:H l with
 |none=>rfl
 |some o=>
  rw[e l o q] at h
  cases h
theorem Same.seq {K:PySem.W.Frag}{H H':Hp}{a:Addr}{xs:List V}(e:Same H H')(h:SqL K H a xs):SqL K H' a xs:=by
 rcases h with(h|⟨o,h⟩)|h
 ·exact .inl (.inl (e _ _ h))
 ·exact .inl (.inr ⟨o,e _ _ h⟩)
 ·exact .inr h
end L2
set_option maxHeartbeats 4000000
namespace L2
open PySem PySem.Spec PyProof.Rows
theorem fls {α:Type}{M:Model}{A:Around}{t:Sem α}{Q:α->Shared->Prop}{E:Value->Shared->Prop}{s:Shared}(h:wpAny M A t Q (fun _ _=>False) s):wpAny M A t Q E s:=
 wpAny_mono h (fun _ _ q=>q) fun _ _ z=>z.elim
section
variable {prog:Program}{w:World}{A:Around}{R:Result->Shared->Prop}{s:Shared}
theorem q5R {elt target iter:Expr}{ifs:List Expr}{scope:Scope}{pos:Pos}{it acc:Value}{env:Env}(J:Nat->Shared->Prop)
  (turn:∀n s,J n s->wpAny (model prog w) A (pyNext it) (fun r s₁=>match r with
   |none=>R (.ok .next) s₁
   | some v=>wpAny (model prog w) A (letOwnedTupleGo target it v) (fun _ s₂=>wpAny (model prog w) A (assign target env v) (fun _ s₃=>
     wpAny (model prog w) A (forIn ifs true fun c r=>if r=true then do let ok<-isTrue c env (eval c env);pure (ForInStep.yield ok) else pure (ForInStep.yield r)) (fun ok s₄=>
      if ok=true then wpAny (model prog w) A (eval elt env) (fun x s₅=>
       wpAny (model prog w) A (call (.builtin "list.append") [acc,x]) (fun _ s₆=>∃m,m<n/\J m s₆) (fun _ _=>False) s₅) (fun _ _=>False) s₄
      else∃m,m<n/\J m s₄) (fun _ _=>False) s₃) (fun _ _=>False) s₂) (fun _ _=>False) s₁) (fun _ _=>False) s)
  (n:Nat)(h:J n s):
  codeAny (model prog w) A (.compLoop (.ListComp elt [⟨target,iter,ifs,0⟩] scope pos) 0 it acc env) R s:=by
 refine codeAny_loop rfl J (fun n s hI=>?_) n h
 show wpAny _ A ((compTurn (.ListComp elt [⟨target,iter,ifs,0⟩] scope pos) 0 it acc env).onRaise (fun x=>do noteFrame x env;theTreesLotGoes x)) _ _ s
 refine wpAny_noted (fls ?_)
 rw[compTurn_list]
 refine wpAny_bind (wpAny_standAt (wpAny_bind (wpAny_mono (turn n s hI) (fun r s₁ h₁=>?_) fun _ _ h'=>h')))
 cases r with
 |none=>exact wpAny_pure h₁
 |some v=>
  refine wpAny_bind (wpAny_mono h₁ (fun _ s₂ h₂=>wpAny_bind (wpAny_mono h₂ (fun _ s₃ h₃=>wpAny_bind (wpAny_mono h₃ (fun ok s₄ h₄=>?_) fun _ _ h'=>h')) fun _ _ h'=>h')) fun _ _ h'=>h')
  cases ok with
  |false=>exact wpAny_pure ⟨rfl,h₄⟩
  |true=>exact wpAny_bind (wpAny_bind (wpAny_mono h₄ (fun x s₅ h₅=>wpAny_bind (wpAny_mono h₅ (fun _ s₆ h₆=>wpAny_pure (wpAny_pure ⟨rfl,h₆⟩)) fun _ _ h'=>h')) fun _ _ h'=>h'))
end
def clOf (scope:Scope)(env:Env):List (Str×Addr):=(scope.names.filter fun y=>y.2== .free).reverse.map fun y=>(y.1,(env.cells.lookup y.1).getD 0)
theorem q3U {scope:Scope}{env:Env}(h:∀y∈scope.names,y.2= .free->∃c,env.cells.lookup y.1=some c):closureFor scope env=pure (clOf scope env):=by
 unfold closureFor clOf
 have key:∀(l:List (Str×NameKind)) (cs:List (Str×Addr)),(∀y∈l,y.2= .free->∃c,env.cells.lookup y.1=some c)->
   (forIn l cs (fun x r=>match x with
    |(name,kind)=>if (kind==NameKind.free)=true then do let a<-cellOf env name;pure (ForInStep.yield ((name,a)::r)) else pure (ForInStep.yield r)):Sem (List (Str×Addr)))=
    pure ((l.filter fun y=>y.2== .free).reverse.map (fun y=>(y.1,(env.cells.lookup y.1).getD 0))++cs):=by
  intro l
  induction l with
  |nil=>intro cs _;rfl
  |cons y l ih=>
   intro cs hl
   obtain⟨n,k⟩:=y
   have ih':=fun cs=>ih cs fun y hy=>hl y (List.mem_cons_of_mem _ hy)
   rw[List.forIn_cons]
   by_cases hk:k= .free
   ·subst hk
    obtain⟨c,hc⟩:=hl (n,.free) List.mem_cons_self rfl
    have e:cellOf env n=pure c:=by unfold cellOf;rw[hc]
    simp only[beq_self_eq_true,if_true,e,pure_bind]
    rw[ih']
    rw[List.filter_cons_of_pos (by rfl),List.reverse_cons,List.map_append,List.append_assoc]
    simp[hc]
   ·have hb:(k==NameKind.free)=false:=by simpa using hk
    simp only[hb,Bool.false_eq_true,if_false,pure_bind]
    rw[ih',List.filter_cons_of_neg (by simp[hb])]
 have:=key scope.names [] h
 rw[List.append_nil] at this
 first
  |exact this
  |(rw[this];rfl)
  |(simp only[bind_pure];exact this)
theorem q2d {f:Str->Addr}{x:Str}{c:Addr}:∀{l:List (Str×NameKind)},(l.map fun y=>(y.1,f y.1)).lookup x=some c->c=f x/\∃k,(x,k)∈l
 |[],h=>by simp at h
 |(n,k)::l,h=>by
  rw[List.map_cons,List.lookup_cons] at h
  cases e:x==n with
  |true=>
   rw[e] at h
   have e':x=n:=by simpa using e
   subst e'
   exact⟨(Option.some.inj h).symm,k,List.mem_cons_self⟩
  |false=>
   rw[e] at h
   obtain⟨h1,k',h2⟩:=q2d h
   exact⟨h1,k',List.mem_cons_of_mem _ h2⟩
theorem q2e {f:Str->Addr}{x:Str}{k:NameKind}:∀{l:List (Str×NameKind)},(x,k)∈l->(l.map fun y=>(y.1,f y.1)).lookup x=some (f x)
 |[],h=>nomatch h
 |(n,k')::l,h=>by
  rw[List.map_cons,List.lookup_cons]
  cases e:x==n with
  |true=>
   have e':x=n:=by simpa using e
   subst e'
   rfl
  |false=>
   rcases List.mem_cons.mp h with q|q
   ·cases q
    simp at e
   ·exact q2e q
theorem q7b {scope:Scope}{env:Env}(h:∀y∈scope.names,y.2= .free->∃c,env.cells.lookup y.1=some c){x:Str}{c:Addr}(e:(clOf scope env).lookup x=some c):env.cells.lookup x=some c:=by
 obtain⟨h1,k,h2⟩:=q2d (f:=fun x=>(env.cells.lookup x).getD 0) e
 have h3:=List.mem_filter.mp (List.mem_reverse.mp h2)
 obtain⟨c',hc⟩:=h (x,k) h3.1 (by simpa using h3.2)
 have hc':env.cells.lookup x=some c':=hc
 rw[hc'] at h1 ⊢
 rw[h1]
 rfl
theorem q7c {scope:Scope}{env:Env}{x:Str}(h:(x,NameKind.free)∈scope.names):(clOf scope env).lookup x=some ((env.cells.lookup x).getD 0):=
 q2e (f:=fun x=>(env.cells.lookup x).getD 0) (k:= .free) (List.mem_reverse.mpr (List.mem_filter.mpr ⟨h,rfl⟩))
theorem q29 {scope:Scope}{env:Env}{x:Str}:(relabel scope env).names.lookup x=(scope.names.lookup x).map fun k=>if (k== .free&&env.scope.kind== .function&&env.kindOf x==some .cell)=true then .cell else k:=by
 unfold relabel
 show List.lookup x (scope.names.map _)=_
 induction scope.names with
 |nil=>rfl
 |cons y l ih=>
  obtain⟨n,k⟩:=y
  rw[List.map_cons]
  show List.lookup x ((if (k==NameKind.free&&env.scope.kind==ScopeKind.function&&env.kindOf n==some NameKind.cell)=true then(n,NameKind.cell) else(n,k))::_)=_
  cases e:x==n with
  |true=>
   have e':x=n:=by simpa using e
   subst e'
   by_cases hc:(k==NameKind.free&&env.scope.kind==ScopeKind.function&&env.kindOf x==some NameKind.cell)=true
   ·rw [if_pos hc,List.lookup_cons,List.lookup_cons,e]
    show some _=some (if _ then _ else _)
    rw[if_pos hc]
   ·rw [if_neg hc,List.lookup_cons,List.lookup_cons,e]
    show some _=some (if _ then _ else _)
    rw[if_neg hc]
  |false=>
   by_cases hc:(k==NameKind.free&&env.scope.kind==ScopeKind.function&&env.kindOf n==some NameKind.cell)=true
   ·rw [if_pos hc,List.lookup_cons,List.lookup_cons,e]
    exact ih
   ·rw [if_neg hc,List.lookup_cons,List.lookup_cons,e]
    exact ih
def q0h (X:Cx)(N:List Str)(scope:Scope)(C:Addr)(s:Shared)(H:Hp)(fp:List Addr):Cx where
 prog:=X.prog
 w:=X.w
 K:=X.K
 mg:=X.mg
 base:=X.base
 A:=X.A
 N:=N
 s₀:=s
 H₀:=H
 env:=compEnvC scope (clOf scope X.env) C X.env
 outer:=X.stack
 stack:=X.stack
 ex:=fp
 fn:=fun _=>false
 calm:=X.calm
 pn:=[]
 xe:=fun _ _=>False
def q39 (own:Nat)(caps:List Nat)(σ:St):St:=List.replicate own none++caps.map fun j=>(σ[j]?).getD none
structure CompOk (X:Cx)(N:List Str)(scope:Scope)(own:Nat)(caps:List Nat):Prop where
 kind:scope.kind= .function
 names:∀y∈scope.names,y.2= .local->scope.names.lookup y.1=some .local
 nocell:∀y∈scope.names,y.2≠ .cell
 free:∀y∈scope.names,y.2= .free->X.env.kindOf y.1=some .cell\/X.env.kindOf y.1=some .free
 len:N.length=own+caps.length
 cap:∀(i j:Nat) (x:Str),caps[i]? =some j->N[own+i]? =some x->X.N[j]? =some x/\scope.names.lookup x=some .free
theorem CompOk.cells {X:Cx}{N:List Str}{scope:Scope}{own:Nat}{caps:List Nat}(O:CompOk X N scope own caps)(ok:X.Ok):∀y∈scope.names,y.2= .free->∃c,X.env.cells.lookup y.1=some c:=
 fun y hy hf=>ok.has y.1 (O.free y hy hf)
section
variable {X:Cx}{pins:List (Addr×Obj)}{σ:St}{H:Hp}{s:Shared}{N:List Str}{scope:Scope}{own:Nat}{caps:List Nat}
theorem Inv.block {h₁:Heap}{tk:Nat}{fp:List Addr}(O:CompOk X N scope own caps)(I:Inv X pins σ H s)(hf:∀b∈fp,FpOk X pins H b)(hlt:∀b∈fp,b<s.heap.objs.size){m:Str->Option Value}(hns:h₁.Ns s.heap.objs.size m)
  (hk:∀b o,s.heap.get? b=some o->h₁.get? b=some o):Inv (q0h X N scope s.heap.objs.size s H fp) [] (q39 own caps σ) H {s with heap:=h₁,toks:=tk}:=by
 have hcl:=O.cells I.ok
 have sub:∀x c,(clOf scope X.env).lookup x=some c->X.env.cells.lookup x=some c:=fun x c e=>q7b hcl e
 have stk:∀b∈fp,b∉frs X.stack:=fun b hb z=>by
  obtain⟨_,f1,f2,_⟩:=hf b hb
  rcases List.mem_cons.mp (I.stkSub b z) with q|q
  ·exact f1 q
  ·exact f2 q
 have nocl:∀x,(relabel scope X.env).names.lookup x=some .cell\/(relabel scope X.env).names.lookup x=some .free->(x,NameKind.free)∈scope.names:=fun x hx=>by
  rw[q29] at hx
  cases e:scope.names.lookup x with
  |none=>rw[e] at hx;rcases hx with hx|hx<;>cases hx
  |some k=>
   have hm:=PySem.mem_of_lookup e
   have hc:=O.nocell _ hm
   cases k with
   |free=>exact hm
   |cell=>exact absurd rfl hc
   |_=>rw[e] at hx;rcases hx with hx|hx<;>simp at hx
 have ok:(q0h X N scope s.heap.objs.size s H fp).Ok:=
  {mod:=I.ok.mod
   kind:=O.kind
   glob:=I.ok.glob
   blt:=I.ok.blt
   above:=Nat.le_refl _
   inj:=fun x y c h1 h2=>I.ok.inj x y c (sub x c h1) (sub y c h2)
   has:=fun x hx=>⟨_,q7c (nocl x hx)⟩
   cab:=fun x c h _=>by cases h
   hd:=I.ok.hd
   frames:=I.ok.frames
   stk:= .inl rfl
   exf:=fun b hb=>⟨Nat.ne_of_lt (hlt b hb),fun x c e=>(hf b hb).2.2.2.2.1 x c (sub x c e)⟩
   bs:=I.bs
   bsz:=Nat.le_trans I.ok.bsz I.sz
   noex:=fun b o e hb=>by
    rcases(hf b hb).2.2.2.1 with z|z
    ·exact I.ok.noex b o e z
    ·exact absurd (Nat.lt_of_lt_of_le (Heap.lt_size e) (Nat.le_trans I.ok.bsz z)) (Nat.lt_irrefl _)
   exfs:=stk
   funs:=I.stack
   frf:=I.stkFree}
 have hC:H s.heap.objs.size=none:=I.hok.fresh (Nat.le_refl _)
 refine⟨ok,rfl,I.bare,Un.kept hk,⟨m,hns,fun i x v h1 h2 h3=>?_⟩,fun x c e=>?_,hC,fun x c e=>I.freeC x c (sub x c e),fun p hp=>absurd (show p∈([]:List (Addr×Obj)) from hp) (by simp),I.hok.kept hk,?_⟩
 ·-- a name of the def
  have hi:own<=i:=by
   by_cases q:own<=i
   ·exact q
   ·unfold q39 at h2
    rw[List.getElem?_append_left (by simp;omega),List.getElem?_replicate] at h2
    split at h2<;>cases h2
  obtain⟨k,rfl⟩:∃k,i=own+k:=⟨i - own,by omega⟩
  unfold q39 at h2
  rw[List.getElem?_append_right (by simp),List.length_replicate,Nat.add_sub_cancel_left,List.getElem?_map] at h2
  cases e:caps[k]? with
  |none=>rw[e] at h2;cases h2
  |some j=>
   rw[e] at h2
   have h2':(σ[j]?).getD none=some v:=Option.some.inj h2
   obtain⟨e1,e2⟩:=O.cap k j x e h1
   have e3:=PySem.mem_of_lookup e2
   have hkd:=O.free _ e3 rfl
   have h4:σ[j]? =some (some v):=by
    cases q:σ[j]? with
    |none=>rw[q] at h2';cases h2'
    |some o=>rw[q] at h2';rw[show o=some v from h2']
   have hvis:Vis X.env.scope x:= .inr hkd
   obtain⟨mo,_,hl⟩:=I.loc
   obtain⟨u,r,l⟩:=hl j x v e1 h4 hvis
   refine⟨u,r,.inr ⟨?_,?_⟩⟩
   ·show (relabel scope X.env).names.lookup x=some .cell\/(relabel scope X.env).names.lookup x=some .free
    rw[q29,e2]
    show some (if _ then NameKind.cell else NameKind.free)=_\/some (if _ then NameKind.cell else NameKind.free)=_
    split
    ·exact .inl rfl
    ·exact .inr rfl
   ·rcases l with⟨q,_⟩|⟨_,c,hc,z⟩
    ·have hkd':X.env.kindOf x=some .cell\/X.env.kindOf x=some .free:=hkd
     rw[q] at hkd'
     rcases hkd' with hkd'|hkd'<;>cases hkd'
    ·refine ⟨c,?_,z.keeps hk⟩
     show(clOf scope X.env).lookup x=some c
     rw[q7c e3,hc]
     rfl
 ·obtain ⟨v,z⟩:=I.cell x c (sub x c e)
  exact⟨v,z.keeps hk⟩
 ·show (q39 own caps σ).length=N.length
  unfold q39
  rw[List.length_append,List.length_replicate,List.length_map,O.len]
theorem Inv.blockEnd {fp:List Addr}{σ':St}{H':Hp}{s':Shared}(I:Inv X pins σ H s)(hf:∀b∈fp,FpOk X pins H b)(J:Inv (q0h X N scope s.heap.objs.size s H fp) [] σ' H' s'):Inv X pins σ H' s':=
 I.call' (ch:=fp) J.os J.base J.hok J.bare fun b hb=>⟨(hf b hb).2.2.2.1,(hf b hb).2.1,(hf b hb).2.2.2.2.1,(hf b hb).2.2.2.2.2⟩
theorem Inv.off {h':Heap}{C:Addr}(I:Inv X pins σ H s)(hC:H C=none)(hL:C≠X.env.locals)(h1:X.s₀.heap.objs.size<=C)(h2:∀x c,X.env.cells.lookup x=some c->c≠C)(h3:∀p∈X.pn++pins,p.1≠C)(sb:Heap.SameBut C s.heap h'):
  Inv X pins σ H {s with heap:=h'}:=
 I.turned (t':=s.toks) (it:=C) (fun b o hb e=>(sb.2 b hb).trans e) hC hL (.inr h1) h2 h3
end
def PIfs (X:Cx)(ifs:List Expr)(t:TT):Prop:=
 ∀(pins:List (Addr×Obj)) (s:Shared) (σ:St) (H:Hp) (Q:Bool->Hp->Prop),Inv X pins σ H s->t σ H Q->
  wpAny (model X.prog X.w) X.A (forIn ifs true fun c r=>if r=true then do let ok<-isTrue c X.env (eval c X.env);pure (ForInStep.yield ok) else pure (ForInStep.yield r)) (TP X pins σ Q) X.xe s
def tYes:TT:=fun _ H Q=>Q true H
theorem q0O {X:Cx}:PIfs X [] tYes:=fun _ _ _ H _ I h=>wpAny_tests_nil ⟨H,I,h⟩
theorem q8y {X:Cx}{c:Expr}{t:TT}(h:PT X c t):PIfs X [c] t:=fun pins s σ H Q I hw=>wpAny_tests_one (h pins s σ H Q I hw)
def q9X (wi:TI)(g:TG)(tc:TT)(te:TE)(own:Nat)(caps:List Nat):TE:=fun σ H Q=>wi σ H fun J H1=>∀D,H1 D=none->∃W:Nat->Nat->St->Hp->Prop,(∃m,W 0 m (q39 own caps σ) (upd H1 D (.lst [])))/\∀i m σ' H',W i m σ' H'->
 (J.stop i H'/\Q (.ref D) H')\/(J.go i H'/\∃N:St->Hp->Prop,(∀σ'' H'',N σ'' H''->∃m',m'<m/\W (i+1) m' σ'' H'')/\∀x H2,J.yld i H' x H2->g x σ' H2 fun σ3 H3=>tc σ3 H3 fun b H4=>
  if b=true then te σ3 H4 fun y H5=>∃ys,H5 D=some (.lst ys)/\ys.length<sizeLine/\N σ3 (upd H5 D (.lst (ys++[y]))) else N σ3 H4)
section
variable {X:Cx}{N:List Str}{scope:Scope}{own:Nat}{caps:List Nat}{tg iter elt:Expr}{ifs:List Expr}{wi:TI}{g:TG}{tc:TT}{te:TE}{pos:Pos}
theorem q79 {use:Option (Value->Sem Unit)}{QQ:Value->Shared->Prop}(O:CompOk X N scope own caps)(hc:X.calm=true)(hi:PI X tg iter wi)(hg:∀C s H fp,PG (q0h X N scope C s H fp) tg g)(ht:∀C s H fp,PIfs (q0h X N scope C s H fp) ifs tc)
  (he:∀C s H fp,PE (q0h X N scope C s H fp) elt te)(hs:∀x,foldedSetIterable iter X.env x=pure x)
  {pins:List (Addr×Obj)}{s:Shared}{σ:St}{H:Hp}{Q:VK}(I:Inv X pins σ H s)(h:q9X wi g tc te own caps σ H Q)
  (fin:∀D C H' s' m,Inv X pins σ H' s'->Q (.ref D) H'->s'.heap.Ns C m->H' C=none->C≠X.env.locals->X.s₀.heap.objs.size<=C->(∀x c,X.env.cells.lookup x=some c->c≠C)->(∀p∈X.pn++pins,p.1≠C)->
   compPost (model X.prog X.w) X.A X.xe use QQ (.ref D) C (.ok .next) s'):
  wpAny (model X.prog X.w) X.A (comprehension (.ListComp elt [⟨tg,iter,ifs,0⟩] scope pos) scope X.env (firstIterPos [⟨tg,iter,ifs,0⟩] pos) (newList []) false (eval iter X.env) use) QQ X.xe s:=by
 refine wpAny_comprehension_free (use:=use) rfl hs (q3U (O.cells I.ok)) O.kind O.names (thn (hi pins s σ H _ I h) fun v s1 h1=>thn h1 fun itv s2 h2=>?_)
 obtain⟨it,fp,tn,J,H2,e,I2,T,st2,f2,q⟩:=h2
 subst e
 refine wpAny_newObj_type (wpAny_newFunctionEnv O.nocell (by intro y hy;simp at hy) (fun h₁ hns hsb=>?_) O.kind)
 dsimp only at hns hsb ⊢
 have hD:H2 s2.heap.objs.size=none:=I2.hok.fresh (Nat.le_refl _)
 obtain⟨W,⟨m0,w0⟩,turn⟩:=q s2.heap.objs.size hD
 have I3:Inv X pins σ (upd H2 s2.heap.objs.size (.lst [])) {s2 with heap:=s2.heap.push {cls:= .type "list",dict:=none,data:= .seq ([]:List Value).toArray}}:=
  I2.lnew (its:=[]) (t':=s2.toks) .nil (Nat.zero_le _)
 generalize hs3:({s2 with heap:=s2.heap.push {cls:= .type "list",dict:=none,data:= .seq ([]:List Value).toArray}}:Shared)=s3 at I3
 have hsz3:s3.heap.objs.size=s2.heap.objs.size+1:=by rw[<-hs3];exact Heap.size_push ..
 have hns':h₁.Ns s3.heap.objs.size (fun x=>([]:List (Str×Value)).reverse.lookup x):=by rw[<-hs3];exact hns
 have hk:∀b o,s3.heap.get? b=some o->h₁.get? b=some o:=fun b o e=>by
  rw[<-hs3] at e
  exact hsb.extBut b o (Nat.ne_of_lt (Heap.lt_size e)) (Heap.get?_push_of_some _ e)
 have f3:∀b∈fp,FpOk X pins (upd H2 s2.heap.objs.size (.lst [])) b:=fun b hb=>by
  obtain⟨o,ho,_⟩:=T.obj _ _ st2 b hb
  exact⟨by rw[qi (Nat.ne_of_lt (Heap.lt_size ho))];exact(f2 b hb).1,(f2 b hb).2⟩
 have hlt:∀b∈fp,b<s3.heap.objs.size:=fun b hb=>by
  obtain⟨o,ho,_⟩:=T.obj _ _ st2 b hb
  rw[hsz3]
  exact Nat.lt_succ_of_lt (Heap.lt_size ho)
 have st3:tn 0 h₁:=T.keep _ _ _ st2 fun b hb o e=>hk b o (by rw[<-hs3];exact Heap.get?_push_of_some _ e)
 have C3:∀tk,Inv (q0h X N scope s3.heap.objs.size s3 (upd H2 s2.heap.objs.size (.lst [])) fp) [] (q39 own caps σ) (upd H2 s2.heap.objs.size (.lst [])) {s3 with heap:=h₁,toks:=tk}:=fun tk=>I3.block O f3 hlt hns' hk
 have nf3:∀b∈fp,(upd H2 s2.heap.objs.size (.lst [])) b=none:=fun b hb=>(f3 b hb).1
 have hCL:s3.heap.objs.size≠X.env.locals:=Nat.ne_of_gt I3.lt
 have hC1:X.s₀.heap.objs.size<=s3.heap.objs.size:=I3.sz
 have hC2:∀x c,X.env.cells.lookup x=some c->c≠s3.heap.objs.size:=fun x c e=>by
  obtain⟨v,z⟩:=I3.cell x c e
  exact Nat.ne_of_lt z.lt
 have hC3:∀p∈X.pn++pins,p.1≠s3.heap.objs.size:=fun p hp=>Nat.ne_of_lt (Heap.lt_size (I3.pin p hp).1)
 have hst:∀{H':Hp},(∀b∈fp,H' b=none)->∀b∈fp,FpOk (q0h X N scope s3.heap.objs.size s3 (upd H2 s2.heap.objs.size (.lst [])) fp) [] H' b:=fun hn b hb=>by
  refine⟨hn b hb,Nat.ne_of_lt (hlt b hb),fun z=>?_,.inl hb,fun x c e=>(f3 b hb).2.2.2.2.1 x c (q7b (O.cells I.ok) e),fun p hp=>absurd (show p∈([]:List (Addr×Obj)) from hp) (by simp)⟩
  exact(C3 0).ok.exfs b hb z
 have loop:∀s4:Shared,(∃tk,s4={s3 with heap:=h₁,toks:=tk})->
   codeAny (model X.prog X.w) X.A (.compLoop (.ListComp elt [⟨tg,iter,ifs,0⟩] scope pos) 0 (.ref it) (.ref s2.heap.objs.size) (compEnvC scope (clOf scope X.env) s3.heap.objs.size X.env))
    (compPost (model X.prog X.w) X.A X.xe use QQ (.ref s2.heap.objs.size) s3.heap.objs.size) s4:=by
  rintro s4 ⟨tk,rfl⟩
  refine q5R (fun n s'=>∃i σ' H',Inv (q0h X N scope s3.heap.objs.size s3 (upd H2 s2.heap.objs.size (.lst [])) fp) [] σ' H' s'/\tn i s'.heap/\(∀b∈fp,H' b=none)/\W i n σ' H') ?_ m0 ⟨0,_,_,C3 tk,st3,nf3,w0⟩
  rintro n s5 ⟨i,σ5,H5,I5,st5,fr5,w5⟩
  rcases turn i n σ5 H5 w5 with⟨stop,qn⟩|⟨go,NN,hN,step⟩
  ·refine thn (T.done (q0h X N scope s3.heap.objs.size s3 (upd H2 s2.heap.objs.size (.lst [])) fp) rfl rfl rfl hc i [] s5 σ5 H5 _ I5 (hst fr5) st5 stop) fun r s6 ⟨hr,I6⟩=>?_
   subst hr
   obtain⟨m6,hn6,_⟩:=id I6.loc
   exact fin _ _ H5 s6 m6 (I3.blockEnd f3 I6) qn hn6 I6.free hCL hC1 hC2 hC3
  ·refine thn (T.item (q0h X N scope s3.heap.objs.size s3 (upd H2 s2.heap.objs.size (.lst [])) fp) rfl rfl rfl hc i [] s5 σ5 H5 _ I5 (hst fr5) st5 go) fun r s6 ⟨u,hr,h6⟩=>?_
   subst hr
   refine thn h6 fun _ s7 ⟨x,H7,I7,r7,y7,st7,fr7⟩=>?_
   have I7':=I7.pinned (hst fr7) (T.obj _ _ st7)
   refine thn (hg _ _ _ _ _ s7 σ5 H7 x u _ I7' r7 (step x H7 y7)) fun _ s8 ⟨σ8,H8,I8,q8⟩=>?_
   refine thn (ht _ _ _ _ _ s8 σ8 H8 _ I8 q8) fun ok s9 ⟨H9,I9,q9⟩=>?_
   have again:∀{s10:Shared} {σ10:St} {H10:Hp},Inv (q0h X N scope s3.heap.objs.size s3 (upd H2 s2.heap.objs.size (.lst [])) fp) ([]++q5C fp s7.heap) σ10 H10 s10->NN σ10 H10->
     ∃m,m<n/\∃i σ' H',Inv (q0h X N scope s3.heap.objs.size s3 (upd H2 s2.heap.objs.size (.lst [])) fp) [] σ' H' s10/\tn i s10.heap/\(∀b∈fp,H' b=none)/\W i m σ' H':=fun {s10 σ10 H10} I10 n10=>by
    obtain⟨m',hm,w10⟩:=hN σ10 H10 n10
    refine⟨m',hm,i+1,σ10,H10,I10.unpinned,T.keep _ _ _ st7 fun b hb o e=>(I10.pin (b,o) (List.mem_append_right _ (List.mem_append_right _ (q1Z hb e)))).1,fun b hb=>?_,w10⟩
    obtain⟨o,e,d⟩:=T.obj _ _ st7 b hb
    exact(I10.pin (b,o) (List.mem_append_right _ (List.mem_append_right _ (q1Z hb e)))).2.1
   cases ok with
   |false=>
    rw[if_neg Bool.false_ne_true] at q9 ⊢
    exact again I9 q9
   |true=>
    rw[if_pos rfl] at q9 ⊢
    refine thn (he _ _ _ _ _ s9 σ8 H9 _ I9 q9) fun y s10 ⟨vy,H10,I10,r10,ys,hys,hyl,q10⟩=>?_
    refine thn (q19 (X:=q0h X N scope s3.heap.objs.size s3 (upd H2 s2.heap.objs.size (.lst [])) fp) _ s10 σ8 H10 (.ref s2.heap.objs.size) [vy] (.ref s2.heap.objs.size) [y] (fun _ H11=>NN σ8 H11) I10 rfl (.cons r10 .nil) ⟨_,ys,vy,rfl,rfl,hys,hyl,q10⟩) fun _ s11 ⟨_,H11,I11,_,q11⟩=>?_
    exact again I11 q11
 subst hs3
 exact codeAny_compStart_list (loop _ ⟨_,rfl⟩) (T.self _ _ _ _ _ st3 (loop _ ⟨_,rfl⟩))
theorem q0P (O:CompOk X N scope own caps)(hc:X.calm=true)(hi:PI X tg iter wi)(hg:∀C s H fp,PG (q0h X N scope C s H fp) tg g)(ht:∀C s H fp,PIfs (q0h X N scope C s H fp) ifs tc)
  (he:∀C s H fp,PE (q0h X N scope C s H fp) elt te)(hs:∀x,foldedSetIterable iter X.env x=pure x:=by intro _;rfl):PE X (.ListComp elt [⟨tg,iter,ifs,0⟩] scope pos) (q9X wi g tc te own caps):=by
 intro pins s σ H Q I h
 rw[eval_ListComp]
 refine q79 (use:=none) O hc hi hg ht he hs I h fun D C H' s' m I' q hn h0 h1 h2 h3 h4=>?_
 exact⟨m,hn,fun h' sb=>⟨.ref D,H',I'.off h0 h1 h2 h3 h4 sb,rfl,q⟩⟩
theorem q2k {i:Nat}{y:Str}{py spos:Pos}(hN:X.N.Nodup)(hi':X.N[i]? =some y)(hy:X.env.scope.names.lookup y=some .local)(O:CompOk X N scope own caps)(hc:X.calm=true)(hi:PI X tg iter wi)(hg:∀C s H fp,PG (q0h X N scope C s H fp) tg g)
  (ht:∀C s H fp,PIfs (q0h X N scope C s H fp) ifs tc)(he:∀C s H fp,PE (q0h X N scope C s H fp) elt te)
  (hsw:swapsWith (.ListComp elt [⟨tg,iter,ifs,0⟩] scope pos) (some (.Name y py)) spos.line X.env=pure true:=by rfl)(hs:∀x,foldedSetIterable iter X.env x=pure x:=by intro _;rfl):
  PS X (.Assign [.Name y py] (.ListComp elt [⟨tg,iter,ifs,0⟩] scope pos) spos) (tAsg (q9X wi g tc te own caps) (qaU i)):=by
 intro pins s σ H D I h
 rw[exec_Assign_Name_used _ _ _ _ hsw]
 refine wpAny_bind (wpAny_standAt (wpAny_bind ?_))
 show wpAny _ _ (do let _<-comprehension (.ListComp elt [⟨tg,iter,ifs,0⟩] scope pos) scope X.env _ (newList []) false (eval iter X.env) (some (assign (.Name y py) X.env))) _ _ s
 refine wpAny_bind (wpAny_mono (q79 (use:=some (assign (.Name y py) X.env)) (QQ:=fun _ s'=>SP X pins D .next s') O hc hi hg ht he hs I h fun L C H' s' m I' q hn h0 h1 h2 h3 h4=>?_) (fun _ s' hq=>wpAny_pure (wpAny_pure hq)) fun _ _ e=>e)
 refine wpAny_assign_Name (q5c I' hN hi' (.inl hy) (v:= .ref L) rfl (fun s2 I2 ⟨a,sb,ha⟩=>?_) (.inr hy))
 have hac:C≠a:=by
  rcases ha with ha|ha
  ·rw [ha];exact h1
  ·exact (h3 _ _ ha).symm
 exact⟨m,hn.sameBut sb hac,fun h' sb'=>⟨_,H',I2.off h0 h1 h2 h3 h4 sb',q⟩⟩
end
end L2
namespace PySem
open Sem (wp)
section
variable {prog:Program}{w:World}{A:Around}{E:Value->Shared->Prop}{s:Shared}
theorem q1Y {I T:Addr}{k:Nat}{vals:Array Value}{y:Value}{Q:Value->Shared->Prop}(st:s.heap.IsTupleIter I T k)(tp:s.heap.IsTuple T vals)(hy:vals[k]? =some y)
  (hQ:∀h',h'.IsTupleIter I T (k+1)->Heap.SameBut I s.heap h'->Q y {s with heap:=h'}):wpAny (model prog w) A (Builtin.SmallTypes.nextOf (.ref I)) Q E s:=by
 obtain⟨oI,eI,cI,dI⟩:=id st
 obtain⟨oT,eT,_,nT,dT⟩:=tp
 unfold Builtin.SmallTypes.nextOf
 refine wpAny_bind (wpAny_callSpecial?_slot (name:=Str.ofString "__next__") st.typeIs F.slot_tuple_iterator_next (wpAny_call_entry F.slot_tuple_iterator_next st.typeIs F.entry_tuple_iterator_next ?_ (F.args_tuple_iterator_next_1 _)))
 show wpAny _ _ (field (.ref I) 0 >>= _) _ _ s
 refine wpAny_bind (wpAny_field eI dI (x:= .ref T) rfl ?_)
 show wpAny _ _ (if (Value.ref T==Value.none)=true then _ else _) _ _ s
 rw[if_neg (show¬((Value.ref T==Value.none)=true) from Bool.false_ne_true)]
 show wpAny _ _ (field (.ref I) 1 >>= _) _ _ s
 refine wpAny_bind (wpAny_field eI dI (x:= .int k 0) rfl ?_)
 show wpAny _ _ (seqItems? (.ref T) >>= _) _ _ s
 refine wpAny_bind (wpAny_seqItems eT dT ?_)
 simp only[Int.toNat_natCast,hy]
 refine wpAny_bind (wpAny_setField eI dI (by simp) (wpAny_pure ⟨y,rfl,wpAny_pure (hQ _ ?_ (Heap.SameBut.update ..))⟩))
 exact⟨_,Heap.get?_update_self _ eI (Obj.isFreed_of_fields (Obj.data_mapFields dI _)),(Obj.cls_mapFields ..).trans cI,by rw[Obj.data_mapFields dI];simp[rawInt]⟩
theorem q0w {I T:Addr}{k:Nat}{vals:Array Value}{Q:Value->Shared->Prop}(hh:A.handled=none)(st:s.heap.IsTupleIter I T k)(tp:s.heap.IsTuple T vals)(hy:vals[k]? =none)
  (hE:∀h' e,Heap.ExtBut I s.heap h'->(∃o,h'.get? e=some o/\o.cls= .type "StopIteration")->E (.ref e) {s with heap:=h'}):wpAny (model prog w) A (Builtin.SmallTypes.nextOf (.ref I)) Q E s:=by
 obtain⟨oI,eI,cI,dI⟩:=id st
 obtain⟨oT,eT,_,nT,dT⟩:=tp
 unfold Builtin.SmallTypes.nextOf
 refine wpAny_bind (wpAny_callSpecial?_slot (name:=Str.ofString "__next__") st.typeIs F.slot_tuple_iterator_next (wpAny_call_entry F.slot_tuple_iterator_next st.typeIs F.entry_tuple_iterator_next ?_ (F.args_tuple_iterator_next_1 _)))
 show wpAny _ _ (field (.ref I) 0 >>= _) _ _ s
 refine wpAny_bind (wpAny_field eI dI (x:= .ref T) rfl ?_)
 show wpAny _ _ (if (Value.ref T==Value.none)=true then _ else _) _ _ s
 rw[if_neg (show¬((Value.ref T==Value.none)=true) from Bool.false_ne_true)]
 show wpAny _ _ (field (.ref I) 1 >>= _) _ _ s
 refine wpAny_bind (wpAny_field eI dI (x:= .int k 0) rfl ?_)
 show wpAny _ _ (seqItems? (.ref T) >>= _) _ _ s
 refine wpAny_bind (wpAny_seqItems eT dT ?_)
 simp only[Int.toNat_natCast,hy]
 refine wpAny_bind (wpAny_rule (wpAny_bind (wpAny_setField eI dI (by simp) ?_)))
 show wpAny _ _ (newExc (.type "StopIteration") [] >>= _) _ _ _
 refine wpAny_bind ?_
 simp only[newExc,newTuple]
 refine wpAny_bind (wpAny_newObj_type ?_ (by size_fits))
 refine wpAny_bind (m:=firstArgMember _ _) (wpAny_of_eq (a:=Value.none) (by first|rfl|(simp only[firstArgMember];rfl)) ?_)
 refine wpAny_newObj_type ?_ (by size_fits)
 simp only[raiseNew]
 refine wpAny_bind (wpAny_handled ?_)
 first|rw[show A.in1.handled=none from hh]|rw[hh]
 refine wpAny_bind (wpAny_pure (wpAny_throw ?_))
 exact hE _ _ (((Heap.SameBut.update ..).extBut.push _).push _) ⟨_,Heap.get?_push_size _ rfl,rfl⟩
end
theorem Heap.IsTuple.at2 {h h':Heap}{a:Addr}{vals:Array Value}(x:h.IsTuple a vals)(e:∀o,h.get? a=some o->h'.get? a=some o):h'.IsTuple a vals:=let ⟨o,q,r⟩:=x;⟨o,e o q,r⟩
theorem Heap.IsTupleIter.at2 {h h':Heap}{a t:Addr}{i:Nat}(x:h.IsTupleIter a t i)(e:∀o,h.get? a=some o->h'.get? a=some o):h'.IsTupleIter a t i:=let ⟨o,q,r⟩:=x;⟨o,e o q,r⟩
theorem Draws.tup {prog:Program}{w:World}{A:Around}(hh:A.handled=none)(I T:Addr)(hne:T≠I)(vals:Array Value):
  Draws prog w A I [I,T] vals.size (fun i v=>vals[i]? =some v) (fun i h=>h.IsTupleIter I T i/\h.IsTuple T vals) where
 live:=fun _ _ st=>let ⟨o,ho,_⟩:=st.1;⟨o,ho⟩
 frame:=fun _ _ _ st hk=>⟨st.1.at2 fun o e=>hk I (by simp) o e,st.2.at2 fun o e=>hk T (by simp) o e⟩
 item:=fun i s Q E hi st hQ=>q1Y st.1 st.2 (y:=vals[i]) (by simp[hi]) fun h' st' sb=>hQ _ h' s.toks (by simp[hi]) ⟨st',st.2.extBut sb.extBut hne⟩ sb
 done:=fun s Q E st hE=>q0w hh st.1 st.2 (by simp) hE
section
open AutoSeq1 (wpAny_loadPart')
theorem q3J (l:Addr)(items:Array Value)(n:Nat)(dct:Option Addr)(sl:Array (Option Value)):
  Meets (Builtin.«enumerate.__new__» ⟨[.type "enumerate",.ref l],[]⟩) (fun _ R s=>s.heap.get? l=some {cls:= .type "tuple",dict:=dct,data:= .seq items n,slots:=sl}/\
   R (.ok (.ret (.ref (s.heap.push {cls:= .type "tuple_iterator",data:= .fields #[.ref l,.int 0 0]}).objs.size)))
    {s with heap:=(s.heap.push {cls:= .type "tuple_iterator",data:= .fields #[.ref l,.int 0 0]}).push {cls:= .type "enumerate",data:= .fields #[.none,.bool false,.ref s.heap.objs.size,rawInt 0,.none,.none]}}):=
 .of_wp fun prog w A R s h=>by
  obtain⟨hp,g,d,tk,os⟩:=s;obtain⟨hl,h⟩:=h
  have hsub:=sub_enumerate
  have hL:Heap.IsTuple (Shared.heap ⟨hp,g,d,tk,os⟩) l items:=⟨_,hl,rfl,n,rfl⟩
  wp_walk using wpAny_loadPart' hl
  refine wpAny_stack_any fun st=>wpAny_pure ?_
  split
  ·rename_i c _ _ _ _ _
   cases(c==Value.type "enumerate")
   ·wp_walk using wpAny_loadPart' hl,wpAny_pyIter_tuple hL
    exact⟨_,rfl,h⟩
   ·wp_walk using wpAny_loadPart' hl,wpAny_pyIter_tuple hL
    exact⟨_,rfl,h⟩
  ·wp_walk using wpAny_loadPart' hl,wpAny_pyIter_tuple hL
   exact⟨_,rfl,h⟩
variable {prog:Program}{w:World}{A:Around}{E:Value->Shared->Prop}{s:Shared}
theorem q3V {l:Addr}{items:Array Value}{Q:Value->Shared->Prop}(hL:s.heap.IsTuple l items)
  (h:∀h',IsEnum h' (s.heap.objs.size+1) s.heap.objs.size 0 .none->h'.IsTupleIter s.heap.objs.size l 0->h'.objs.size=s.heap.objs.size+2->
   (∀b o,s.heap.get? b=some o->h'.get? b=some o)->Q (.ref (s.heap.objs.size+1)) {s with heap:=h'}):
  wpAny (model prog w) A (call (.type "enumerate") [.ref l]) Q E s:=by
 obtain⟨⟨c,dct,dt,sl⟩,hl,hc,n,hd⟩:=hL
 replace hc:c= .type "tuple":=hc
 replace hd:dt= .seq items n:=hd
 subst hc hd
 refine callType_new F.called_enumerate (by decide) (F.typeCall_enumerate_1 _) (F.newCall_enumerate_1 _) (fun obj=>F.args_object_init_2 obj _) F.entry_enumerate_new (q3J l items n dct sl) ⟨hl,?_⟩
 have hz:(s.heap.push {cls:= .type "tuple_iterator",data:= .fields #[.ref l,.int 0 0]}).objs.size=s.heap.objs.size+1:=Heap.size_push ..
 show _/\_
 rw[hz]
 have he:IsEnum ((s.heap.push {cls:= .type "tuple_iterator",data:= .fields #[.ref l,.int 0 0]}).push
   {cls:= .type "enumerate",data:= .fields #[.none,.bool false,.ref s.heap.objs.size,rawInt 0,.none,.none]}) (s.heap.objs.size+1) s.heap.objs.size 0 .none:=by
  have q:=Heap.get?_push_size (s.heap.push {cls:= .type "tuple_iterator",data:= .fields #[.ref l,.int 0 0]})
   (o:={cls:= .type "enumerate",data:= .fields #[.none,.bool false,.ref s.heap.objs.size,rawInt 0,.none,.none]}) rfl
  rw[hz] at q;exact q
 refine⟨⟨_,he,rfl⟩,h _ he ⟨_,Heap.get?_push_of_some _ (Heap.get?_push_size _ rfl),rfl,rfl⟩ (by rw[Heap.size_push,hz]) fun b o x=>Heap.get?_push_of_some _ (Heap.get?_push_of_some _ x)⟩
end
end PySem
namespace L2
open PySem PySem.Spec PyProof.Rows
section
variable {X:Cx}{pins:List (Addr×Obj)}{σ:St}{H:Hp}{s:Shared}
theorem Inv.turnedL {h':Heap}{t':Nat}{ch:List Addr}(I:Inv X pins σ H s)(hf:∀b∈ch,FpOk X pins H b)(k:∀b o,b∉ch->s.heap.get? b=some o->h'.get? b=some o):Inv X pins σ H {s with heap:=h',toks:=t'}:=by
 have nit:∀b u,H b=some u->b∉ch:=fun b u e z=>by rw[(hf b z).1] at e;cases e
 refine I.step (g':=s.gens) (d':=s.drawn) (ch:=ch) (fun b hb=>⟨(hf b hb).2.2.2.1,(hf b hb).2.1,(hf b hb).2.2.2.2.1,(hf b hb).2.2.2.2.2⟩) (fun b o _ _ hc e _=>k b o hc e) (fun b o _ _ hc e _=>⟨o.slots,k b o hc e⟩) (fun _ _ _ _ n=>n)
  (fun b o hc e=>⟨o,k b o hc e⟩) (fun _ _ e=>e) (fun _ _ _ e=>e) (fun b ps e=>⟨#[],by rw[e];simp⟩) (fun m hm=>?_) (fun b u e=>?_) I.bare
 ·obtain ⟨o,es,ep,ho,r⟩:=hm
  exact⟨o,es,ep,k _ o (fun z=>(hf _ z).2.1 rfl) ho,r⟩
 ·refine (I.hok b u e).stay (fun c v hc q=>k c v ?_ q) (fun _ q=>q) fun _ _ q=>q
  rcases hc with z|z
  ·rw [z];exact nit b u e
  ·exact nit c _ z
theorem Inv.track {a:Addr}{o:HO}(I:Inv X pins σ H s)(ha:X.s₀.heap.objs.size<=a)(hn:H a=none)(hL:a≠X.env.locals)(hc:∀x c,X.env.cells.lookup x=some c->c≠a)(hp:∀p∈X.pn++pins,p.1≠a)
  (new:q0a X.prog X.w (upd H a o) s.heap a o):Inv X pins σ (upd H a o) s:=by
 have ne:∀b ob,X.s₀.heap.get? b=some ob->b≠a:=fun b ob e=>Nat.ne_of_lt (Nat.lt_of_lt_of_le (Heap.lt_size e) ha)
 refine⟨I.ok,I.os,I.bare,⟨I.base.keep,I.base.slot,fun b ob e n hx=>by rw[qi (ne b ob e)];exact I.base.free b ob e n hx,I.base.there,fun b xs e=>?_,fun b ob u e=>?_,fun b ps e=>?_⟩,I.loc,I.cell,by rw[qi hL.symm];exact I.free,
  fun x c e=>by rw[qi (hc x c e)];exact I.freeC x c e,fun p hpp=>?_,fun b u e=>?_,I.len⟩
 ·have q:=I.base.tups b xs e
  rw[qi (qj q hn)];exact q
 ·have q:=I.base.frzs b ob u e
  rw[qi (qj q hn)];exact q
 ·obtain ⟨more,q⟩:=I.base.tbls b ps e
  exact⟨more,by rw[qi (qj q hn)];exact q⟩
 ·obtain ⟨e1,n1,r⟩:=I.pin p hpp
  exact⟨e1,by rw[qi (hp p hpp)];exact n1,r⟩
 ·by_cases hb:b=a
  ·subst hb;rw[qb] at e;cases e;exact new
  ·rw [qi hb] at e
   exact(I.hok b u e).stay (fun c v _ q=>q) (fun c q=>by rw[qi (qj q hn)];exact q) fun c xs q=>by rw[qi (qj q hn)];exact q
theorem Inv.yields {h':Heap}{t':Nat}{ch:List Addr}{T:Addr}{xs:List V}{vals:List Value}(I:Inv X pins σ H s)(hf:∀b∈ch,FpOk X pins H b)(k:∀b o,b∉ch->s.heap.get? b=some o->h'.get? b=some o)
  (hT:s.heap.objs.size<=T)(tp:h'.IsTuple T vals.toArray)(r:Vals xs vals)(hz:xs.length<=sizeLine):Inv X pins σ (upd H T (.tup xs)) {s with heap:=h',toks:=t'}:=by
 have f:FpOk X pins H T:=I.fpOk hT (I.hok.fresh hT)
 have I1:Inv X pins σ H {s with heap:=h',toks:=t'}:=I.turnedL hf k
 exact I1.track (Nat.le_trans I.sz hT) f.1 f.2.1 f.2.2.2.2.1 f.2.2.2.2.2 ⟨hz,vals,r,tp⟩
theorem q70 {ch:List Addr}{T:Addr}{o:HO}(hf:∀b∈ch,FpOk X pins H b)(hT:∀b∈ch,b≠T):∀b∈ch,FpOk X pins (upd H T o) b:=fun b hb=>⟨by rw[qi (hT b hb)];exact(hf b hb).1,(hf b hb).2⟩
end
def Ite (Sq:Hp->List V->Prop):It:=
 ⟨fun i H=>∃xs x,Sq H xs/\xs[i]? =some x,fun i H y H'=>∃T,H T=none/\y= .ref T/\∀xs x,Sq H xs->xs[i]? =some x->H'=upd H T (.tup [.int i,x]),fun i H=>∃xs,Sq H xs/\xs.length<=i⟩
theorem q7m {P:Program}{w:World}{K:PySem.W.Frag}{elts:List Expr}{k:Nat}{tp:Pos}(a e it:Addr)(hei:e≠it):Turn P w K (.Tuple elts k tp) (Ite fun H xs=>SqL K H a xs) [e,it] e (fun i h=>(∃old,IsEnum h e it i old)/\h.IsListIter it a i) where
 mem:=by simp
 obj:=fun i h st b hb=>by
  obtain⟨⟨old,q⟩,o,q2,c,d⟩:=st
  rcases List.mem_cons.mp hb with rfl|hb
  ·exact ⟨_,q,fun v z=>by cases z⟩
  ·rw [List.mem_singleton.mp hb]
   exact⟨o,q2,fun v z=>by rw[d] at z;cases z⟩
 keep:=fun i h h' st kk=>⟨⟨st.1.choose,kk e (by simp) _ st.1.choose_spec⟩,st.2.at fun o q=>kk it (by simp) o q⟩
 item:=by
  intro X hP hw hK hc i pins s σ H E I hf st hg
  subst hP hw hK
  obtain⟨xs,x,hq,hx⟩:=hg
  obtain⟨⟨old,he⟩,hit⟩:=st
  obtain⟨its,rv,p,hz⟩:=I.list hq
  obtain⟨u,hu,ru⟩:=rv.get hx
  have hlen:=rv.length
  have hi:i<its.toArray.size:=by rw[List.size_toArray];exact(List.getElem?_eq_some_iff.mp hu).1
  have hai:a≠it:=fun z=>by
   obtain⟨o,q,c,d⟩:=hit
   obtain⟨o',q',c',_⟩:=p.isList
   rw[z] at q';rw[q] at q';cases q';rw[c] at c';simp at c'
  have hae:e≠a:=fun z=>by
   obtain⟨o',q',c',_⟩:=p.isList
   rw[<-z,he] at q';cases q';simp at c'
  refine wpAny_pyNext_enum_itemD (Draws.list (A:=X.A.in1) (I.ok.hd hc) it a hai its.toArray) he ⟨hit,p.isList⟩ hi hei (by simp[hei,hae]) fun y h' tk hy ho st' hT hsz hk=>?_
  have hyu:y=u:=by
   have:its[i]? =some y:=by simpa using hy
   rw[hu] at this;exact(Option.some.inj this).symm
  subst hyu
  have ne:∀b∈[e,it],b≠s.heap.objs.size:=fun b hb=>by
   rcases List.mem_cons.mp hb with rfl|hb
   ·exact Nat.ne_of_lt (Heap.lt_size he)
   ·rw [List.mem_singleton.mp hb];obtain⟨o,q,_⟩:=hit;exact Nat.ne_of_lt (Heap.lt_size q)
  have kk:∀b o,b∉[e,it]->s.heap.get? b=some o->h'.get? b=some o:=fun b o hb q=>hk b o (fun z=>hb (by simp[z])) (fun z=>hb (by simp[z])) q
  have I1:Inv X pins σ (upd H s.heap.objs.size (.tup [.int i,x])) {s with heap:=h',toks:=tk+1}:=I.yields (vals:=[.int i tk,y]) hf kk (Nat.le_refl _) ⟨_,hT,rfl,_,rfl⟩ (.cons ⟨tk,rfl⟩ (.cons ru .nil)) (by show 2<=sizeLine;decide)
  have hf1:=q70 (o:= .tup [.int i,x]) hf ne
  refine⟨_,rfl,wpAny_letOwnedTupleGo_enum ho fun h'' he'' sb=>?_⟩
  have I2:Inv X pins σ (upd H s.heap.objs.size (.tup [.int i,x])) {s with heap:=h'',toks:=tk+1}:=I1.turnedL (t':=tk+1) hf1 fun b o hb q=>(sb.2 b fun z=>hb (by simp[z])).trans q
  refine⟨.ref s.heap.objs.size,_,I2,rfl,⟨_,I.hok.fresh (Nat.le_refl _),rfl,fun ys y' hy' hx'=>?_⟩,⟨⟨_,by simpa using he''⟩,st'.1.at fun o q=>(sb.2 it hei.symm).trans q⟩,fun b hb=>(hf1 b hb).1⟩
  have:=I.list_inj hy' hq
  subst this
  rw[hx] at hx'
  rw[Option.some.inj hx']
 done:=by
  intro X hP hw hK hc i pins s σ H E I hf st hg
  subst hP hw hK
  obtain⟨xs,hq,hx⟩:=hg
  obtain⟨⟨old,he⟩,hit⟩:=st
  obtain⟨its,rv,p,hz⟩:=I.list hq
  have hlen:=rv.length
  have hai:a≠it:=fun z=>by
   obtain⟨o,q,c,d⟩:=hit
   obtain⟨o',q',c',_⟩:=p.isList
   rw[z] at q';rw[q] at q';cases q';rw[c] at c';simp at c'
  have D:Draws X.prog X.w X.A.in1 it [it,a] i (fun _ _=>False) (fun k h=>k=i/\h.IsListIter it a i/\h.IsList a its.toArray):=
   {live:=fun _ _ st=>let ⟨o,ho,_⟩:=st.2.1;⟨o,ho⟩
    frame:=fun _ _ _ st hk=>⟨st.1,st.2.1.at fun o q=>hk it (by simp) o q,st.2.2.at fun o q=>hk a (by simp) o q⟩
    item:=fun k s Q E hk st _=>absurd st.1 (Nat.ne_of_lt hk)
    done:=fun s Q E st hE=>wpAny_nextOf_list_end (I.ok.hd hc) st.2.1 st.2.2 (by simp;omega) hE}
  refine wpAny_pyNext_enum_endD D he ⟨rfl,hit,p.isList⟩ fun h' eb=>⟨rfl,I.turnedL (t':=s.toks) (ch:=[e,it]) hf fun b o hb q=>eb b o (fun z=>hb (by simp[z])) q⟩
 self:=fun _ _ _ _ _ st h=>wpAny_pyIter_enum st.1.choose_spec h
theorem q7l {P:Program}{w:World}{K:PySem.W.Frag}{elts:List Expr}{k:Nat}{tp:Pos}(a e it:Addr)(hei:e≠it):Turn P w K (.Tuple elts k tp) (Ite fun H xs=>SqT K H a xs) [e,it] e (fun i h=>(∃old,IsEnum h e it i old)/\h.IsTupleIter it a i) where
 mem:=by simp
 obj:=fun i h st b hb=>by
  obtain⟨⟨old,q⟩,o,q2,c,d⟩:=st
  rcases List.mem_cons.mp hb with rfl|hb
  ·exact ⟨_,q,fun v z=>by cases z⟩
  ·rw [List.mem_singleton.mp hb]
   exact⟨o,q2,fun v z=>by rw[d] at z;cases z⟩
 keep:=fun i h h' st kk=>⟨⟨st.1.choose,kk e (by simp) _ st.1.choose_spec⟩,st.2.at2 fun o q=>kk it (by simp) o q⟩
 item:=by
  intro X hP hw hK hc i pins s σ H E I hf st hg
  subst hP hw hK
  obtain⟨xs,x,hq,hx⟩:=hg
  obtain⟨⟨old,he⟩,hit⟩:=st
  obtain⟨its,rv,p,hz⟩:=I.tuple hq
  have p:s.heap.IsTuple a its.toArray:=p
  obtain⟨u,hu,ru⟩:=rv.get hx
  have hlen:=rv.length
  have hi:i<its.toArray.size:=by rw[List.size_toArray];exact(List.getElem?_eq_some_iff.mp hu).1
  have hai:a≠it:=fun z=>by
   obtain⟨o,q,c,d⟩:=hit
   obtain⟨o',q',c',_⟩:=p
   rw[z] at q';rw[q] at q';cases q';rw[c] at c';simp at c'
  have hae:e≠a:=fun z=>by
   obtain⟨o',q',c',_⟩:=p
   rw[<-z,he] at q';cases q';simp at c'
  refine wpAny_pyNext_enum_itemD (Draws.tup (A:=X.A.in1) (I.ok.hd hc) it a hai its.toArray) he ⟨hit,p⟩ hi hei (by simp[hei,hae]) fun y h' tk hy ho st' hT hsz hk=>?_
  have hyu:y=u:=by
   have:its[i]? =some y:=by simpa using hy
   rw[hu] at this;exact(Option.some.inj this).symm
  subst hyu
  have ne:∀b∈[e,it],b≠s.heap.objs.size:=fun b hb=>by
   rcases List.mem_cons.mp hb with rfl|hb
   ·exact Nat.ne_of_lt (Heap.lt_size he)
   ·rw [List.mem_singleton.mp hb];obtain⟨o,q,_⟩:=hit;exact Nat.ne_of_lt (Heap.lt_size q)
  have kk:∀b o,b∉[e,it]->s.heap.get? b=some o->h'.get? b=some o:=fun b o hb q=>hk b o (fun z=>hb (by simp[z])) (fun z=>hb (by simp[z])) q
  have I1:Inv X pins σ (upd H s.heap.objs.size (.tup [.int i,x])) {s with heap:=h',toks:=tk+1}:=I.yields (vals:=[.int i tk,y]) hf kk (Nat.le_refl _) ⟨_,hT,rfl,_,rfl⟩ (.cons ⟨tk,rfl⟩ (.cons ru .nil)) (by show 2<=sizeLine;decide)
  have hf1:=q70 (o:= .tup [.int i,x]) hf ne
  refine⟨_,rfl,wpAny_letOwnedTupleGo_enum ho fun h'' he'' sb=>?_⟩
  have I2:Inv X pins σ (upd H s.heap.objs.size (.tup [.int i,x])) {s with heap:=h'',toks:=tk+1}:=I1.turnedL (t':=tk+1) hf1 fun b o hb q=>(sb.2 b fun z=>hb (by simp[z])).trans q
  refine⟨.ref s.heap.objs.size,_,I2,rfl,⟨_,I.hok.fresh (Nat.le_refl _),rfl,fun ys y' hy' hx'=>?_⟩,⟨⟨_,by simpa using he''⟩,st'.1.at2 fun o q=>(sb.2 it hei.symm).trans q⟩,fun b hb=>(hf1 b hb).1⟩
  have:=I.tuple_inj hy' hq
  subst this
  rw[hx] at hx'
  rw[Option.some.inj hx']
 done:=by
  intro X hP hw hK hc i pins s σ H E I hf st hg
  subst hP hw hK
  obtain⟨xs,hq,hx⟩:=hg
  obtain⟨⟨old,he⟩,hit⟩:=st
  obtain⟨its,rv,p,hz⟩:=I.tuple hq
  have p:s.heap.IsTuple a its.toArray:=p
  have hlen:=rv.length
  have D:Draws X.prog X.w X.A.in1 it [it,a] i (fun _ _=>False) (fun k h=>k=i/\h.IsTupleIter it a i/\h.IsTuple a its.toArray):=
   {live:=fun _ _ st=>let ⟨o,ho,_⟩:=st.2.1;⟨o,ho⟩
    frame:=fun _ _ _ st hk=>⟨st.1,st.2.1.at2 fun o q=>hk it (by simp) o q,st.2.2.at2 fun o q=>hk a (by simp) o q⟩
    item:=fun k s Q E hk st _=>absurd st.1 (Nat.ne_of_lt hk)
    done:=fun s Q E st hE=>q0w (I.ok.hd hc) st.2.1 st.2.2 (by simp;omega) hE}
  refine wpAny_pyNext_enum_endD D he ⟨rfl,hit,p⟩ fun h' eb=>⟨rfl,I.turnedL (t':=s.toks) (ch:=[e,it]) hf fun b o hb q=>eb b o (fun z=>hb (by simp[z])) q⟩
 self:=fun _ _ _ _ _ st h=>wpAny_pyIter_enum st.1.choose_spec h
theorem q2g:bootBuiltins "enumerate"=some (.type "enumerate"):=by decide +kernel
section
variable {X:Cx}{elts:List Expr}{k:Nat}{tp:Pos}
def q91 (K:PySem.W.Frag)(ta:TA):TI:=fun σ H R=>ta σ H fun vs H1=>∃a,vs=[.ref a]/\(∃xs,SqL K H1 a xs)/\R (Ite fun H xs=>SqL K H a xs) H1
def q90 (K:PySem.W.Frag)(ta:TA):TI:=fun σ H R=>ta σ H fun vs H1=>∃a,vs=[.ref a]/\(∃xs,SqT K H1 a xs)/\R (Ite fun H xs=>SqT K H a xs) H1
theorem qaj {a:Expr}{ta:TA}{p pos:Pos}(hg:Gl X "enumerate")(hm:X.mg "enumerate"=none)(ha:PA X [a] ta)(hs:starEach [a] X.env=[(false,eval a X.env)]:=by rfl):PI X (.Tuple elts k tp) (.Call (.Name "enumerate" p) [a] [] pos) (q91 X.K ta):=by
 intro pins s σ H R I h
 refine Call_ (q2G I hg hm q2g (PyProof.Rows.callWith_type1 (thn (ha pos pins s σ H _ I h) fun us s1 ⟨vs,H1,I1,r1,q1⟩=>?_) hs rfl))
 obtain⟨l,e,⟨xs,hq⟩,q⟩:=q1
 subst e
 obtain⟨u,rfl,rx⟩:=q40 r1
 cases rx
 obtain⟨its,rv,pl,hz⟩:=I1.list hq
 refine call_enumerate_list pl.isList fun h' he hit hsz hk=>wpAny_pyIter_enum he ?_
 refine⟨_,[s1.heap.objs.size+1,s1.heap.objs.size],_,_,H1,rfl,I1.kept (t':=s1.toks) hk,q7m l _ _ (Nat.succ_ne_self _),⟨⟨_,he⟩,hit⟩,fun b hb=>?_,q⟩
 rcases List.mem_cons.mp hb with rfl|hb
 ·exact I1.fpOk (Nat.le_succ _) (I1.hok.fresh (Nat.le_succ _))
 ·rw [List.mem_singleton.mp hb];exact I1.fpOk (Nat.le_refl _) (I1.hok.fresh (Nat.le_refl _))
theorem qai {a:Expr}{ta:TA}{p pos:Pos}(hg:Gl X "enumerate")(hm:X.mg "enumerate"=none)(ha:PA X [a] ta)(hs:starEach [a] X.env=[(false,eval a X.env)]:=by rfl):PI X (.Tuple elts k tp) (.Call (.Name "enumerate" p) [a] [] pos) (q90 X.K ta):=by
 intro pins s σ H R I h
 refine Call_ (q2G I hg hm q2g (PyProof.Rows.callWith_type1 (thn (ha pos pins s σ H _ I h) fun us s1 ⟨vs,H1,I1,r1,q1⟩=>?_) hs rfl))
 obtain⟨l,e,⟨xs,hq⟩,q⟩:=q1
 subst e
 obtain⟨u,rfl,rx⟩:=q40 r1
 cases rx
 obtain⟨its,rv,pl,hz⟩:=I1.tuple hq
 refine q3V (show s1.heap.IsTuple l its.toArray from pl) fun h' he hit hsz hk=>wpAny_pyIter_enum he ?_
 refine⟨_,[s1.heap.objs.size+1,s1.heap.objs.size],_,_,H1,rfl,I1.kept (t':=s1.toks) hk,q7l l _ _ (Nat.succ_ne_self _),⟨⟨_,he⟩,hit⟩,fun b hb=>?_,q⟩
 rcases List.mem_cons.mp hb with rfl|hb
 ·exact I1.fpOk (Nat.le_succ _) (I1.hok.fresh (Nat.le_succ _))
 ·rw [List.mem_singleton.mp hb];exact I1.fpOk (Nat.le_refl _) (I1.hok.fresh (Nat.le_refl _))
end
end L2
namespace PySem
open Sem (wp)
section
variable {prog:Program}{w:World}{A:Around}{E:Value->Shared->Prop}{s:Shared}
theorem q7P {z TI TO i1 i2 t1 t2:Addr}{k:Nat}{xs ys:Array Value}{x y a b:Value}{Q:Value->Shared->Prop}(D:ZipApart z TI TO i1 i2 t1 t2)(Z0:IsZip s.heap z TI TO .none)(PI0:IsPair s.heap TI (.ref i1) (.ref i2))(PO0:IsPair s.heap TO a b)
  (w1:s.heap.IsTupleIter i1 t1 k)(w2:s.heap.IsTupleIter i2 t2 k)(p1:s.heap.IsTuple t1 xs)(p2:s.heap.IsTuple t2 ys)(ex:xs[k]? =some x)(ey:ys[k]? =some y)
  (fin:∀h',IsZip h' z TI TO (rawInt s.heap.objs.size)->IsPair h' TO x y->h'.IsTupleIter i1 t1 (k+1)->h'.IsTupleIter i2 t2 (k+1)->IsPair h' s.heap.objs.size x y->
   (∀c o,c≠z->c≠TO->c≠i1->c≠i2->s.heap.get? c=some o->h'.get? c=some o)->Q (.ref s.heap.objs.size) {s with heap:=h'}):
  wpAny (model prog w) A (Builtin.«zip.__next__» ⟨[.ref z],[]⟩) (fun fn s'=>∃v,fn= .done (.ret v)/\Q v s') E s:=by
 show wpAny _ _ (field (.ref z) 2 >>= _) _ _ _
 refine wpAny_bind (wpAny_field Z0 rfl (x:= .bool false) rfl ?_)
 show wpAny _ _ (field (.ref z) 3 >>= _) _ _ _
 refine wpAny_bind (wpAny_field Z0 rfl (x:= .ref TI) rfl (wpAny_bind (wpAny_seqItems PI0 rfl ?_)))
 show wpAny _ _ (Builtin.SmallTypes.ownedTupleIsFree (.ref z) >>= _) _ _ _
 refine wpAny_bind ?_
 unfold Builtin.SmallTypes.ownedTupleIsFree
 refine wpAny_bind (wpAny_field Z0 rfl (x:= .none) rfl (wpAny_pure ?_))
 simp only[if_true]
 refine wpAny_bind (wpAny_rule (wpAny_bind (wpAny_field Z0 rfl (x:= .ref TO) rfl ?_)))
 refine wpAny_bind (wpAny_setField_rec Z0 (by simp) fun g1 Z1 b1=>?_)
 replace Z1:IsZip g1 z TI TO .ellipsis:=Z1
 refine wpAny_bind ?_
 simp only[List.zipIdx_cons,List.zipIdx_nil,List.forIn_cons,List.forIn_nil]
 refine wpAny_bind (wpAny_bind (wpAny_onRaise ?_))
 show wpAny _ _ (Builtin.SmallTypes.nextOf (.ref i1) >>= _) _ _ _
 refine wpAny_bind (q1Y (w1.extBut b1.extBut D.i1z) (p1.extBut b1.extBut D.l1z) ex fun g2 v1 b2=>wpAny_pure ?_)
 have PO2:IsPair g2 TO a b:=b2.extBut _ _ D.TOi1 (b1.extBut _ _ D.TOz PO0)
 refine wpAny_bind (wpAny_seqItems PO2 rfl (wpAny_bind (wpAny_updateSeq_pair PO2 fun g3 PO3 b3=>?_)))
 replace PO3:IsPair g3 TO x b:=PO3
 refine wpAny_bind (wpAny_letGo (wpAny_pure (wpAny_bind (wpAny_bind (wpAny_onRaise ?_)))))
 show wpAny _ _ (Builtin.SmallTypes.nextOf (.ref i2) >>= _) _ _ _
 have w2':g3.IsTupleIter i2 t2 k:=((w2.extBut b1.extBut D.i2z).extBut b2.extBut D.i12.symm).extBut b3.extBut D.TOi2.symm
 have p2':g3.IsTuple t2 ys:=((p2.extBut b1.extBut D.l2z).extBut b2.extBut D.l2i1).extBut b3.extBut D.l2TO
 refine wpAny_bind (q1Y w2' p2' ey fun g4 v2 b4=>wpAny_pure ?_)
 have PO4:IsPair g4 TO x b:=b4.extBut _ _ D.TOi2 PO3
 refine wpAny_bind (wpAny_seqItems PO4 rfl (wpAny_bind (wpAny_updateSeq_pair PO4 fun g5 PO5 b5=>?_)))
 replace PO5:IsPair g5 TO x y:=PO5
 refine wpAny_bind (wpAny_letGo (wpAny_pure (wpAny_pure ?_)))
 refine wpAny_bind (wpAny_seqItems PO5 rfl (wpAny_bind (wpAny_newTuple ?_)))
 have e5:g5.objs.size=s.heap.objs.size:=by rw[b5.1,b4.1,b3.1,b2.1,b1.1]
 have Z5:IsZip g5 z TI TO .ellipsis:=b5.extBut _ _ D.TOz.symm (b4.extBut _ _ D.i2z.symm (b3.extBut _ _ D.TOz.symm (b2.extBut _ _ D.i1z.symm Z1)))
 have k5:∀c o,c≠z->c≠TO->c≠i1->c≠i2->s.heap.get? c=some o->g5.get? c=some o:=fun c o c1 c2 c3 c4 q=>b5.extBut _ _ c2 (b4.extBut _ _ c4 (b3.extBut _ _ c2 (b2.extBut _ _ c3 (b1.extBut _ _ c1 q))))
 have u1:g5.IsTupleIter i1 t1 (k+1):=((v1.extBut b3.extBut D.TOi1.symm).extBut b4.extBut D.i12).extBut b5.extBut D.TOi1.symm
 have u2:g5.IsTupleIter i2 t2 (k+1):=v2.extBut b5.extBut D.TOi2.symm
 have lz:z<g5.objs.size:=Heap.lt_size Z5
 show wpAny _ _ (Builtin.SmallTypes.ownedTupleHandOut (.ref z) (.ref g5.objs.size) >>= _) _ _ _
 refine wpAny_bind ?_
 unfold Builtin.SmallTypes.ownedTupleHandOut
 have Z6:IsZip (g5.push {cls:= .type "tuple",data:= .seq #[x,y]}) z TI TO .ellipsis:=Heap.get?_push_of_some _ Z5
 refine wpAny_bind (wpAny_setField_rec Z6 (by simp) fun g7 Z7 b7=>?_)
 replace Z7:IsZip g7 z TI TO (rawInt g5.objs.size):=Z7
 refine wpAny_setField_rec Z7 (by simp) fun g8 Z8 b8=>?_
 replace Z8:IsZip g8 z TI TO (rawInt g5.objs.size):=Z8
 have up:∀c o,c≠z->g5.get? c=some o->g8.get? c=some o:=fun c o c1 q=>b8.extBut _ _ c1 (b7.extBut _ _ c1 (Heap.get?_push_of_some _ q))
 have T8:IsPair g8 g5.objs.size x y:=b8.extBut _ _ (Nat.ne_of_gt lz) (b7.extBut _ _ (Nat.ne_of_gt lz) (Heap.get?_push_size _ rfl))
 rw[e5] at Z8 T8
 refine wpAny_pure ⟨_,rfl,?_⟩
 show Q (.ref g5.objs.size) _
 rw[e5]
 exact fin g8 Z8 (up _ _ D.TOz PO5) (u1.at2 fun o q=>up _ o D.i1z q) (u2.at2 fun o q=>up _ o D.i2z q) T8 fun c o c1 c2 c3 c4 q=>up c o c1 (k5 c o c1 c2 c3 c4 q)
theorem q9T {z TI TO i1 i2 t1 t2:Addr}{k:Nat}{xs ys:Array Value}{a b:Value}{Q:Fin->Shared->Prop}(hh:A.handled=none)(D:ZipApart z TI TO i1 i2 t1 t2)(Z0:IsZip s.heap z TI TO .none)(PI0:IsPair s.heap TI (.ref i1) (.ref i2))(PO0:IsPair s.heap TO a b)
  (w1:s.heap.IsTupleIter i1 t1 k)(w2:s.heap.IsTupleIter i2 t2 k)(p1:s.heap.IsTuple t1 xs)(p2:s.heap.IsTuple t2 ys)(over:xs[k]? =none\/ys[k]? =none)
  (fin:∀h' e,(∀c o,c≠z->c≠TO->c≠i1->c≠i2->s.heap.get? c=some o->h'.get? c=some o)->(∃o,h'.get? e=some o/\o.cls= .type "StopIteration")->E (.ref e) {s with heap:=h'}):
  wpAny (model prog w) A (Builtin.«zip.__next__» ⟨[.ref z],[]⟩) Q E s:=by
 show wpAny _ _ (field (.ref z) 2 >>= _) _ _ _
 refine wpAny_bind (wpAny_field Z0 rfl (x:= .bool false) rfl ?_)
 show wpAny _ _ (field (.ref z) 3 >>= _) _ _ _
 refine wpAny_bind (wpAny_field Z0 rfl (x:= .ref TI) rfl (wpAny_bind (wpAny_seqItems PI0 rfl ?_)))
 show wpAny _ _ (Builtin.SmallTypes.ownedTupleIsFree (.ref z) >>= _) _ _ _
 refine wpAny_bind ?_
 unfold Builtin.SmallTypes.ownedTupleIsFree
 refine wpAny_bind (wpAny_field Z0 rfl (x:= .none) rfl (wpAny_pure ?_))
 simp only[if_true]
 refine wpAny_bind (wpAny_rule (wpAny_bind (wpAny_field Z0 rfl (x:= .ref TO) rfl ?_)))
 refine wpAny_bind (wpAny_setField_rec Z0 (by simp) fun g1 Z1 b1=>?_)
 replace Z1:IsZip g1 z TI TO .ellipsis:=Z1
 refine wpAny_bind ?_
 simp only[List.zipIdx_cons,List.zipIdx_nil,List.forIn_cons,List.forIn_nil]
 refine wpAny_bind (wpAny_bind (wpAny_onRaise ?_))
 show wpAny _ _ (Builtin.SmallTypes.nextOf (.ref i1) >>= _) _ _ _
 cases ex:xs[k]? with
 |none=>
  refine wpAny_bind (q0w hh (w1.extBut b1.extBut D.i1z) (p1.extBut b1.extBut D.l1z) ex fun g2 e b2 ee=>?_)
  obtain⟨oe,he,ce⟩:=ee
  have Z2:IsZip g2 z TI TO .ellipsis:=b2 _ _ D.i1z.symm Z1
  have nz:e≠z:=fun q=>by subst q;rw[Z2] at he;cases he;simp at ce
  exact wpAny_setField_rec Z2 (by simp) fun g3 _ b3=>fin g3 e (fun c o c1 _ c3 _ q=>b3.extBut _ _ c1 (b2 _ _ c3 (b1.extBut _ _ c1 q))) ⟨oe,b3.extBut _ _ nz he,ce⟩
 |some x=>
  have ey:ys[k]? =none:=by rcases over with q|q;rw[ex] at q;cases q;exact q
  refine wpAny_bind (q1Y (w1.extBut b1.extBut D.i1z) (p1.extBut b1.extBut D.l1z) ex fun g2 v1 b2=>wpAny_pure ?_)
  have PO2:IsPair g2 TO a b:=b2.extBut _ _ D.TOi1 (b1.extBut _ _ D.TOz PO0)
  refine wpAny_bind (wpAny_seqItems PO2 rfl (wpAny_bind (wpAny_updateSeq_pair PO2 fun g3 PO3 b3=>?_)))
  refine wpAny_bind (wpAny_letGo (wpAny_pure (wpAny_bind (wpAny_bind (wpAny_onRaise ?_)))))
  show wpAny _ _ (Builtin.SmallTypes.nextOf (.ref i2) >>= _) _ _ _
  have w2':g3.IsTupleIter i2 t2 k:=((w2.extBut b1.extBut D.i2z).extBut b2.extBut D.i12.symm).extBut b3.extBut D.TOi2.symm
  have p2':g3.IsTuple t2 ys:=((p2.extBut b1.extBut D.l2z).extBut b2.extBut D.l2i1).extBut b3.extBut D.l2TO
  refine wpAny_bind (q0w hh w2' p2' ey fun g4 e b4 ee=>?_)
  obtain⟨oe,he,ce⟩:=ee
  have Z4:IsZip g4 z TI TO .ellipsis:=b4 _ _ D.i2z.symm (b3.extBut _ _ D.TOz.symm (b2.extBut _ _ D.i1z.symm Z1))
  have nz:e≠z:=fun q=>by subst q;rw[Z4] at he;cases he;simp at ce
  exact wpAny_setField_rec Z4 (by simp) fun g5 _ b5=>fin g5 e (fun c o c1 c2 c3 c4 q=>b5.extBut _ _ c1 (b4 _ _ c4 (b3.extBut _ _ c2 (b2.extBut _ _ c3 (b1.extBut _ _ c1 q))))) ⟨oe,b5.extBut _ _ nz he,ce⟩
theorem q8H {z TI TO i1 i2 t1 t2:Addr}{k:Nat}{xs ys:Array Value}{x y a b:Value}{Q:Option Value->Shared->Prop}(D:ZipApart z TI TO i1 i2 t1 t2)(Z0:IsZip s.heap z TI TO .none)(PI0:IsPair s.heap TI (.ref i1) (.ref i2))(PO0:IsPair s.heap TO a b)
  (w1:s.heap.IsTupleIter i1 t1 k)(w2:s.heap.IsTupleIter i2 t2 k)(p1:s.heap.IsTuple t1 xs)(p2:s.heap.IsTuple t2 ys)(ex:xs[k]? =some x)(ey:ys[k]? =some y)
  (fin:∀h',IsZip h' z TI TO (rawInt s.heap.objs.size)->IsPair h' TO x y->h'.IsTupleIter i1 t1 (k+1)->h'.IsTupleIter i2 t2 (k+1)->IsPair h' s.heap.objs.size x y->
   (∀c o,c≠z->c≠TO->c≠i1->c≠i2->s.heap.get? c=some o->h'.get? c=some o)->Q (some (.ref s.heap.objs.size)) {s with heap:=h'}):
  wpAny (model prog w) A (pyNext (.ref z)) Q E s:=by
 have ty:s.TypeIs (.ref z) "zip":=⟨_,Z0,rfl⟩
 unfold pyNext
 exact wpAny_bind (wpAny_attempt (wpAny_callSpecial?_slot (name:=Str.ofString "__next__") ty F.slot_zip_next (wpAny_call_entry F.slot_zip_next ty F.entry_zip_next
  (q7P D Z0 PI0 PO0 w1 w2 p1 p2 ex ey fun h' a1 a2 a3 a4 a5 a6=>wpAny_pure (fin h' a1 a2 a3 a4 a5 a6)) (F.args_zip_next_1 _))))
theorem q4y {z TI TO i1 i2 t1 t2:Addr}{k:Nat}{xs ys:Array Value}{a b:Value}{Q:Option Value->Shared->Prop}(hh:A.handled=none)(D:ZipApart z TI TO i1 i2 t1 t2)(Z0:IsZip s.heap z TI TO .none)(PI0:IsPair s.heap TI (.ref i1) (.ref i2))(PO0:IsPair s.heap TO a b)
  (w1:s.heap.IsTupleIter i1 t1 k)(w2:s.heap.IsTupleIter i2 t2 k)(p1:s.heap.IsTuple t1 xs)(p2:s.heap.IsTuple t2 ys)(over:xs[k]? =none\/ys[k]? =none)
  (fin:∀h',(∀c o,c≠z->c≠TO->c≠i1->c≠i2->s.heap.get? c=some o->h'.get? c=some o)->Q none {s with heap:=h'}):wpAny (model prog w) A (pyNext (.ref z)) Q E s:=by
 have ty:s.TypeIs (.ref z) "zip":=⟨_,Z0,rfl⟩
 unfold pyNext
 refine wpAny_bind (wpAny_attempt (wpAny_callSpecial?_slot (name:=Str.ofString "__next__") ty F.slot_zip_next (wpAny_call_entry F.slot_zip_next ty F.entry_zip_next (q9T hh D Z0 PI0 PO0 w1 w2 p1 p2 over fun h' e hk he=>?_) (F.args_zip_next_1 _))))
 obtain⟨o,ho,hc⟩:=he
 exact wpAny_bind (wpAny_isInstance (T:="StopIteration") (b:=true) ⟨o,ho,hc⟩ isSubtype_stop (wpAny_pure (fin _ hk)))
end
abbrev zT1 (h:Heap)(t1:Addr):Heap:=h.push {cls:= .type "tuple_iterator",data:= .fields #[.ref t1,.int 0 0]}
abbrev zT2 (h:Heap)(t1 t2:Addr):Heap:=(zT1 h t1).push {cls:= .type "tuple_iterator",data:= .fields #[.ref t2,.int 0 0]}
abbrev zT3 (h:Heap)(t1 t2:Addr):Heap:=(zT2 h t1 t2).push {cls:= .type "tuple",data:= .seq #[.ref h.objs.size,.ref (zT1 h t1).objs.size]}
abbrev zT4 (h:Heap)(t1 t2:Addr):Heap:=(zT3 h t1 t2).push {cls:= .type "tuple",data:= .seq #[.none,.none]}
abbrev zT5 (h:Heap)(t1 t2:Addr):Heap:=(zT4 h t1 t2).push {cls:= .type "zip",data:= .fields #[.none,.bool false,.bool false,.ref (zT2 h t1 t2).objs.size,.ref (zT3 h t1 t2).objs.size]}
theorem q46 (t1 t2:Addr)(xs ys:Array Value):
  Meets (Builtin.«zip.__new__» ⟨[.type "zip",.ref t1,.ref t2],[]⟩) (fun _ R s=>s.heap.IsTuple t1 xs/\s.heap.IsTuple t2 ys/\R (.ok (.ret (.ref (zT4 s.heap t1 t2).objs.size))) {s with heap:=zT5 s.heap t1 t2}):=
 .of_wp fun prog w A R s h=>by
  obtain⟨hp,g,d,tk,os⟩:=s;obtain⟨q1,q2,h⟩:=h
  have hsub:=sub_zip
  have T1:Heap.IsTuple (Shared.heap ⟨hp,g,d,tk,os⟩) t1 xs:=q1
  have T2:Heap.IsTuple (Shared.heap ⟨hp.push {cls:= .type "tuple_iterator",data:= .fields #[.ref t1,.int 0 0]},g,d,tk,os⟩) t2 ys:=Heap.IsTuple.push q2 _
  wp_walk using wpAny_pyIter_tuple T1,wpAny_pyIter_tuple T2
  exact⟨_,rfl,h⟩
section
variable {prog:Program}{w:World}{A:Around}{E:Value->Shared->Prop}{s:Shared}
theorem q9G {t1 t2:Addr}{xs ys:Array Value}{Q:Value->Shared->Prop}(q1:s.heap.IsTuple t1 xs)(q2:s.heap.IsTuple t2 ys)
  (h:∀h',IsZip h' (s.heap.objs.size+4) (s.heap.objs.size+2) (s.heap.objs.size+3) .none->IsPair h' (s.heap.objs.size+2) (.ref s.heap.objs.size) (.ref (s.heap.objs.size+1))->
   IsPair h' (s.heap.objs.size+3) .none .none->h'.IsTupleIter s.heap.objs.size t1 0->h'.IsTupleIter (s.heap.objs.size+1) t2 0->
   (∀c o,s.heap.get? c=some o->h'.get? c=some o)->Q (.ref (s.heap.objs.size+4)) {s with heap:=h'}):
  wpAny (model prog w) A (call (.type "zip") [.ref t1,.ref t2]) Q E s:=by
 refine callType_new F.called_zip (by decide) (F.typeCall_zip_2 _ _) (F.newCall_zip_2 _ _) (fun obj=>F.args_object_init_3 obj _ _) F.entry_zip_new (q46 t1 t2 xs ys) ⟨q1,q2,?_⟩
 have z1:(zT1 s.heap t1).objs.size=s.heap.objs.size+1:=Heap.size_push ..
 have z2:(zT2 s.heap t1 t2).objs.size=s.heap.objs.size+2:=by rw[Heap.size_push,z1]
 have z3:(zT3 s.heap t1 t2).objs.size=s.heap.objs.size+3:=by rw[Heap.size_push,z2]
 have z4:(zT4 s.heap t1 t2).objs.size=s.heap.objs.size+4:=by rw[Heap.size_push,z3]
 have g5:(zT5 s.heap t1 t2).get? (zT4 s.heap t1 t2).objs.size=some _:=Heap.get?_push_size _ rfl
 have g4:(zT5 s.heap t1 t2).get? (zT3 s.heap t1 t2).objs.size=some _:=Heap.get?_push_of_some _ (Heap.get?_push_size _ rfl)
 have g3:(zT5 s.heap t1 t2).get? (zT2 s.heap t1 t2).objs.size=some _:=Heap.get?_push_of_some _ (Heap.get?_push_of_some _ (Heap.get?_push_size _ rfl))
 have g2:(zT5 s.heap t1 t2).get? (zT1 s.heap t1).objs.size=some _:=Heap.get?_push_of_some _ (Heap.get?_push_of_some _ (Heap.get?_push_of_some _ (Heap.get?_push_size _ rfl)))
 have g1:(zT5 s.heap t1 t2).get? s.heap.objs.size=some _:=Heap.get?_push_of_some _ (Heap.get?_push_of_some _ (Heap.get?_push_of_some _ (Heap.get?_push_of_some _ (Heap.get?_push_size _ rfl))))
 show _/\_
 rw[z2,z3,z4] at g5
 rw[z1,z2] at g3
 rw[z3] at g4
 rw[z1] at g2
 rw[z4]
 exact⟨⟨_,g5,rfl⟩,h _ g5 g3 g4 ⟨_,g1,rfl,rfl⟩ ⟨_,g2,rfl,rfl⟩ fun c o q=>Heap.get?_push_of_some _ (Heap.get?_push_of_some _ (Heap.get?_push_of_some _ (Heap.get?_push_of_some _ (Heap.get?_push_of_some _ q))))⟩
end
end PySem
namespace L2
open PySem PySem.Spec PyProof.Rows
def Itz (K:PySem.W.Frag)(a b:Addr):It:=
 ⟨fun i H=>∃xs ys x y,SqT K H a xs/\SqT K H b ys/\xs[i]? =some x/\ys[i]? =some y,fun i H v H'=>∃T,H T=none/\v= .ref T/\∀xs ys x y,SqT K H a xs->SqT K H b ys->xs[i]? =some x->ys[i]? =some y->H'=upd H T (.tup [x,y]),
  fun i H=>∃xs ys,SqT K H a xs/\SqT K H b ys/\(xs.length<=i\/ys.length<=i)⟩
theorem q7V {P:Program}{w:World}{K:PySem.W.Frag}{elts:List Expr}{k:Nat}{tp:Pos}(a b z TI TO i1 i2:Addr)(D:ZipApart z TI TO i1 i2 a b):
  Turn P w K (.Tuple elts k tp) (Itz K a b) [z,TI,TO,i1,i2] z (fun i h=>IsZip h z TI TO .none/\IsPair h TI (.ref i1) (.ref i2)/\(∃u v,IsPair h TO u v)/\h.IsTupleIter i1 a i/\h.IsTupleIter i2 b i) where
 mem:=by simp
 obj:=fun i h st c hc=>by
  obtain⟨q1,q2,⟨u,v,q3⟩,⟨o4,q4,_,d4⟩,⟨o5,q5,_,d5⟩⟩:=st
  simp only[List.mem_cons,List.not_mem_nil,or_false] at hc
  rcases hc with rfl|rfl|rfl|rfl|rfl
  ·exact ⟨_,q1,fun v z=>by cases z⟩
  ·exact ⟨_,q2,fun v z=>by cases z⟩
  ·exact ⟨_,q3,fun v z=>by cases z⟩
  ·exact ⟨_,q4,fun v z=>by rw[d4] at z;cases z⟩
  ·exact ⟨_,q5,fun v z=>by rw[d5] at z;cases z⟩
 keep:=fun i h h' st kk=>by
  obtain⟨q1,q2,⟨u,v,q3⟩,q4,q5⟩:=st
  exact⟨kk z (by simp) _ q1,kk TI (by simp) _ q2,⟨u,v,kk TO (by simp) _ q3⟩,q4.at2 fun o q=>kk i1 (by simp) o q,q5.at2 fun o q=>kk i2 (by simp) o q⟩
 item:=by
  intro X hP hw hK hc i pins s σ H E I hf st hg
  subst hP hw hK
  obtain⟨xs,ys,x,y,hqa,hqb,hx,hy⟩:=hg
  obtain⟨q1,q2,⟨u0,v0,q3⟩,q4,q5⟩:=st
  obtain⟨ia,ra,pa,hza⟩:=I.tuple hqa
  obtain⟨ib,rb,pb,hzb⟩:=I.tuple hqb
  have pa:s.heap.IsTuple a ia.toArray:=pa
  have pb:s.heap.IsTuple b ib.toArray:=pb
  obtain⟨u,hu,ru⟩:=ra.get hx
  obtain⟨v,hv,rv⟩:=rb.get hy
  refine q8H D q1 q2 q3 q4 q5 pa pb (x:=u) (y:=v) (by simpa using hu) (by simpa using hv) fun h' a1 a2 a3 a4 a5 kk=>?_
  have kf:∀c o,c∉[z,TI,TO,i1,i2]->s.heap.get? c=some o->h'.get? c=some o:=fun c o hcc q=>kk c o (fun e=>hcc (by simp[e])) (fun e=>hcc (by simp[e])) (fun e=>hcc (by simp[e])) (fun e=>hcc (by simp[e])) q
  have ne:∀c∈[z,TI,TO,i1,i2],c≠s.heap.objs.size:=fun c hcc=>by
   obtain⟨o4,e4,_⟩:=q4
   obtain⟨o5,e5,_⟩:=q5
   simp only[List.mem_cons,List.not_mem_nil,or_false] at hcc
   rcases hcc with rfl|rfl|rfl|rfl|rfl
   ·exact Nat.ne_of_lt (Heap.lt_size q1)
   ·exact Nat.ne_of_lt (Heap.lt_size q2)
   ·exact Nat.ne_of_lt (Heap.lt_size q3)
   ·exact Nat.ne_of_lt (Heap.lt_size e4)
   ·exact Nat.ne_of_lt (Heap.lt_size e5)
  have I1:Inv X pins σ (upd H s.heap.objs.size (.tup [x,y])) {s with heap:=h',toks:=s.toks}:=I.yields (vals:=[u,v]) hf kf (Nat.le_refl _) ⟨_,a5,rfl,_,rfl⟩ (.cons ru (.cons rv .nil)) (by show 2<=sizeLine;decide)
  have hf1:=q70 (o:= .tup [x,y]) hf ne
  refine⟨_,rfl,wpAny_letOwnedTupleGo_zip a1 fun h'' Z2 sb=>?_⟩
  have I2:Inv X pins σ (upd H s.heap.objs.size (.tup [x,y])) {s with heap:=h'',toks:=s.toks}:=I1.turnedL (t':=s.toks) hf1 fun c o hcc q=>(sb.2 c fun e=>hcc (by simp[e])).trans q
  refine⟨.ref s.heap.objs.size,_,I2,rfl,⟨_,I.hok.fresh (Nat.le_refl _),rfl,fun xs' ys' x' y' hxs hys hx' hy'=>?_⟩,⟨Z2,sb.extBut _ _ D.TIz (kk _ _ D.TIz D.TITO D.TIi1 D.TIi2 q2),⟨u,v,sb.extBut _ _ D.TOz a2⟩,a3.extBut sb.extBut D.i1z,a4.extBut sb.extBut D.i2z⟩,fun c hcc=>(hf1 c hcc).1⟩
  have e1:=I.tuple_inj hxs hqa
  have e2:=I.tuple_inj hys hqb
  subst e1 e2
  rw[hx] at hx';rw[hy] at hy'
  rw[Option.some.inj hx',Option.some.inj hy']
 done:=by
  intro X hP hw hK hc i pins s σ H E I hf st hg
  subst hP hw hK
  obtain⟨xs,ys,hqa,hqb,over⟩:=hg
  obtain⟨q1,q2,⟨u0,v0,q3⟩,q4,q5⟩:=st
  obtain⟨ia,ra,pa,hza⟩:=I.tuple hqa
  obtain⟨ib,rb,pb,hzb⟩:=I.tuple hqb
  have la:=ra.length
  have lb:=rb.length
  refine q4y (I.ok.hd hc) D q1 q2 q3 q4 q5 (show s.heap.IsTuple a ia.toArray from pa) (show s.heap.IsTuple b ib.toArray from pb) ?_ fun h' kk=>⟨rfl,I.turnedL (t':=s.toks) hf fun c o hcc q=>kk c o (fun e=>hcc (by simp[e])) (fun e=>hcc (by simp[e])) (fun e=>hcc (by simp[e])) (fun e=>hcc (by simp[e])) q⟩
  rcases over with q|q
  ·exact .inl (by simp;omega)
  ·exact .inr (by simp;omega)
 self:=fun _ _ _ _ _ st h=>wpAny_pyIter_zip st.1 h
section
variable {X:Cx}{elts:List Expr}{k:Nat}{tp:Pos}
def iZipT (K:PySem.W.Frag)(ta:TA):TI:=fun σ H R=>ta σ H fun vs H1=>∃a b,vs=[.ref a,.ref b]/\(∃xs,SqT K H1 a xs)/\(∃ys,SqT K H1 b ys)/\R (Itz K a b) H1
theorem qck {a b:Expr}{ta:TA}{p pos:Pos}(hg:Gl X "zip")(hm:X.mg "zip"=none)(ha:PA X [a,b] ta)(hs:starEach [a,b] X.env=[(false,eval a X.env),(false,eval b X.env)]:=by rfl)(hs2:starEach [b] X.env=[(false,eval b X.env)]:=by rfl):
  PI X (.Tuple elts k tp) (.Call (.Name "zip" p) [a,b] [] pos) (iZipT X.K ta):=by
 intro pins s σ H R I h
 refine Call_ (q2G I hg hm boot_zip (PyProof.Rows.callWith_type1 (thn (ha pos pins s σ H _ I h) fun us s1 ⟨vs,H1,I1,r1,q1⟩=>?_) (by rw[hs,hs2]) (by rw[hs2];rfl)))
 obtain⟨t1,t2,e,⟨xs,hqa⟩,⟨ys,hqb⟩,q⟩:=q1
 subst e
 obtain⟨u,v,rfl,rx,ry⟩:=vals2 r1
 cases rx
 cases ry
 obtain⟨ia,ra,pa,hza⟩:=I1.tuple hqa
 obtain⟨ib,rb,pb,hzb⟩:=I1.tuple hqb
 have pa:s1.heap.IsTuple t1 ia.toArray:=pa
 have pb:s1.heap.IsTuple t2 ib.toArray:=pb
 have l1:t1<s1.heap.objs.size:=by obtain⟨o,q,_⟩:=pa;exact Heap.lt_size q
 have l2:t2<s1.heap.objs.size:=by obtain⟨o,q,_⟩:=pb;exact Heap.lt_size q
 refine q9G pa pb fun h' a1 a2 a3 a4 a5 kk=>wpAny_pyIter_zip a1 ?_
 refine⟨_,[s1.heap.objs.size+4,s1.heap.objs.size+2,s1.heap.objs.size+3,s1.heap.objs.size,s1.heap.objs.size+1],_,_,H1,rfl,I1.kept (t':=s1.toks) kk,q7V t1 t2 _ _ _ _ _ (zipApart_new l1 l2),⟨a1,a2,⟨_,_,a3⟩,a4,a5⟩,fun c hc=>?_,q⟩
 have up:∀n,FpOk X pins H1 (s1.heap.objs.size+n):=fun n=>I1.fpOk (Nat.le_add_right _ _) (I1.hok.fresh (Nat.le_add_right _ _))
 simp only[List.mem_cons,List.not_mem_nil,or_false] at hc
 rcases hc with rfl|rfl|rfl|rfl|rfl
 ·exact up 4
 ·exact up 2
 ·exact up 3
 ·exact up 0
 ·exact up 1
end
end L2
namespace L2
open PySem PySem.Spec PyProof.Rows
section
variable {X:Cx}
def rIsiT (K:PySem.W.Frag):List V->Hp->VK->Prop:=fun xs H Q=>∃x n t b,xs=[x,.ty n]/\TyOf K H x t/\PySem.W.kitOne K t (.type n)=some b/\Q (.bl b) H
theorem q9H:q24 X (.builtin "isinstance") (rIsiT X.K):=by
 intro pins s σ H xs us Q I r h
 obtain⟨x,n,t,b,rfl,ty,e,q⟩:=h
 obtain⟨u,v,rfl,rx,ry⟩:=vals2 r
 cases ry
 exact q8X I rx ty e fun tk=>⟨.bl b,H,I.tok _,rfl,q⟩
theorem q9W {bs:List Bool}:∀{us:List Value},Vals (bs.map V.bl) us->us=bs.map Value.bool:=by
 induction bs with
 |nil=>intro us r;cases r;rfl
 |cons b bs ih=>
  intro us r
  rw[List.map_cons] at r
  cases r with
  |cons r1 r2=>
   cases(show _=Value.bool b from r1)
   rw[ih r2]
   rfl
theorem q4R (bs:List Bool):((List.range bs.length).all fun i=>bs.getD i true)=bs.all id:=by
 rw[Bool.eq_iff_iff]
 simp only[List.all_eq_true,List.mem_range,id]
 constructor
 ·intro h x hx
  obtain⟨i,hi,rfl⟩:=List.mem_iff_getElem.mp hx
  have:=h i hi
  simpa[List.getD,hi] using this
 ·intro h i hi
  have:=h bs[i] (List.getElem_mem hi)
  simpa[List.getD,hi] using this
def rAll (K:PySem.W.Frag):List V->Hp->VK->Prop:=fun xs H Q=>∃(p:Addr) (bs:List Bool),xs=[.ref p]/\SqL K H p (bs.map V.bl)/\Q (.bl (bs.all id)) H
theorem qb6 (hc:X.calm=true):q24 X (.builtin "all") (rAll X.K):=by
 intro pins s σ H xs us Q I r h
 obtain⟨p,bs,rfl,hq,q⟩:=h
 obtain⟨u,rfl,rx⟩:=q40 r
 cases rx
 obtain⟨its,rv,pl,hz⟩:=I.list hq
 have hits:=q9W rv
 have hl:=pl.isList
 have hlt:p<s.heap.objs.size:=by obtain⟨o,e,_⟩:=hl;exact Heap.lt_size e
 have hh:X.A.in1.handled=none:=I.ok.hd hc
 refine call_all_walk (wpAny_pyIter_list hl ?_)
 refine⟨s.heap.objs.size,_,_,_,_,_,fun i=>bs.getD i true,rfl,Walks.list hh s.heap.objs.size p (Nat.ne_of_lt hlt) its.toArray,⟨⟨_,Heap.get?_push_size _ rfl,rfl,rfl⟩,hl.push _⟩,?_,fun h' tk hk=>?_⟩
 ·intro i v s' Q' E' hv hQ
  have e:v= .bool (bs.getD i true):=by
   have hv':its[i]? =some v:=by simpa using hv
   rw[hits,List.getElem?_map] at hv'
   cases e:bs[i]? with
   |none=>rw[e] at hv';cases hv'
   |some b=>rw[e] at hv';simp[List.getD,e];exact(Option.some.inj hv').symm
  subst e
  first
   |exact wpAny_pure hQ
   |exact hQ
 ·have e:its.toArray.size=bs.length:=by rw[hits];simp
  have I1:Inv X pins σ H {s with heap:=s.heap.push {cls:= .type "list_iterator",data:= .fields #[.ref p,.int 0 0]}}:=I.kept (t':=s.toks) fun b o e=>Heap.get?_push_of_some _ e
  have f:∀b∈[s.heap.objs.size],FpOk X pins H b:=fun b hb=>by rw[List.mem_singleton.mp hb];exact I.fpOk (Nat.le_refl _) (I.hok.fresh (Nat.le_refl _))
  refine⟨.bl (bs.all id),H,I1.turnedL (t':=tk) (ch:=[s.heap.objs.size]) f fun b o hb e=>hk b o hb e,?_,q⟩
  show Value.bool _=Value.bool _
  rw[e,q4R]
end
end L2
namespace HT
open PySem PyProof.Rows
section
variable {prog:Program}{w:World}{A:Around}{E:Value->Shared->Prop}{s:Shared}
theorem q2X {t sl:Addr}{items:Array Value}{vl vu:Value}{lo hi:Option Int}{Q:Value->Shared->Prop}(ht:IsTup s.heap t items)(hs:s.heap.IsSliceOf sl vl vu .none)(pl:IsPart vl lo)(pu:IsPart vu hi)
  (hw:sIx items.size 0 lo=0/\sIx items.size items.size hi=items.size)(h:Q (.ref t) s):wpAny (model prog w) A (getItem (.ref t) (.ref sl)) Q E s:=by
 obtain⟨os,hos,hcs,hds⟩:=id hs
 have hTs:s.TypeIs (.ref sl) "slice":=⟨os,hos,hcs⟩
 unfold getItem
 try with_reducible refine wpAny_holding ?_
 first|refine wpAny_bind (wpAny_pure ?_)|skip
 refine wpAny_bind (wpAny_sequenceKey ht.typeIs (by decide) ?_)
 refine wpAny_bind (wpAny_callSpecial?_slot (name:=Str.ofString "__getitem__") ht.typeIs PyProof.Rows.slot_tuple_getitem (wpAny_call_entry PyProof.Rows.slot_tuple_getitem ht.typeIs entry_tuple_getitem ?_ (args_tuple_getitem _ _)))
 show wpAny _ _ (Builtin.Tuple.tupleItemsOf (.ref t) >>= _) _ _ s
 refine wpAny_bind (tupleItemsOf_ ht (wpAny_bind (wpAny_typeOf hTs ?_)))
 rw[if_pos (by decide)]
 refine wpAny_bind (q1E hs pl pu ?_)
 have yes:(((sIx items.size 0 lo:Nat):Int)==0&&(1:Int)==1&&(sIx items.size items.size hi - sIx items.size 0 lo)==items.size)=true:=by
  rw[hw.1,hw.2];simp
 show wpAny _ _ (if (((sIx items.size 0 lo:Nat):Int)==0&&(1:Int)==1&&(sIx items.size items.size hi - sIx items.size 0 lo)==items.size)=true then _ else _) _ _ s
 rw[if_pos yes]
 refine wpAny_bind (m:=Builtin.Tuple.tupleIsExact _) ?_
 unfold Builtin.Tuple.tupleIsExact
 refine wpAny_bind (wpAny_typeOf ht.typeIs (wpAny_pure ?_))
 simp only[beq_self_eq_true,if_true]
 first
  |exact wpAny_bind (wpAny_rule (wpAny_pure ⟨_,rfl,wpAny_pure h⟩))
  |exact wpAny_bind (wpAny_rule (wpAny_bind (wpAny_pure (wpAny_pure ⟨_,rfl,wpAny_pure h⟩))))
  |exact wpAny_bind (wpAny_rule (wpAny_bind (wpAny_pure ⟨_,rfl,wpAny_pure h⟩)))
  |(trace_state;fail)
end
end HT
namespace L2
open PySem PySem.Spec PyProof.Rows
section
variable {X:Cx}
def qcf (K:PySem.W.Frag):V->Option Int->Option Int->Hp->VK->Prop:=fun x lo hi H Q=>∃a xs,x= .ref a/\SqT K H a xs/\(cutV xs lo hi=xs->Q (.ref a) H)/\∀p,H p=none->Q (.ref p) (upd H p (.tup (cutV xs lo hi)))
theorem qbY:SlR X (qcf X.K):=by
 intro pins s σ H x v vl vu lo hi sl Q I rx hs pl pu h
 obtain⟨a,xs,rfl,hx,h1,h2⟩:=h
 by_cases hw:HT.sIx xs.length 0 lo=0/\HT.sIx xs.length xs.length hi=xs.length
 ·have e:cutV xs lo hi=xs:=by unfold cutV;rw[hw.1,hw.2];simp
  cases rx
  obtain⟨its,r,ht,hz⟩:=I.tuple hx
  have hlen:its.toArray.size=xs.length:=by rw[List.size_toArray];exact r.length.symm
  exact⟨"tuple",_,PyProof.Rows.slot_tuple_getitem.lookup,ht.typeIs,HT.q2X ht hs pl pu (by rw[hlen];exact hw) ⟨.ref a,H,I,rfl,h1 e⟩⟩
 ·exact sl_tup pins s σ H (.ref a) v vl vu lo hi sl Q I rx hs pl pu ⟨a,xs,rfl,hx,hw,h2⟩
end
theorem q3S {J:It}{g:TG}{tc:TT}{te:TE}{R:Hp->Prop}{σ:St}{H:Hp}{D:Addr}(n:Nat)(Pv:Nat->St->Hp->Prop)(h0:Pv 0 σ H)
  (go:∀i σ H,i<n->Pv i σ H->J.go i H/\∀x H',J.yld i H x H'->g x σ H' fun σ3 H3=>tc σ3 H3 fun b H4=>
   if b=true then te σ3 H4 fun y H5=>∃ys,H5 D=some (.lst ys)/\ys.length<sizeLine/\Pv (i+1) σ3 (upd H5 D (.lst (ys++[y]))) else Pv (i+1) σ3 H4)(stop:∀σ H,Pv n σ H->J.stop n H/\R H):
  ∃W:Nat->Nat->St->Hp->Prop,(∃m,W 0 m σ H)/\∀i m σ H,W i m σ H->
   (J.stop i H/\R H)\/(J.go i H/\∃N:St->Hp->Prop,(∀σ' H',N σ' H'->∃m',m'<m/\W (i+1) m' σ' H')/\∀x H',J.yld i H x H'->g x σ H' fun σ3 H3=>tc σ3 H3 fun b H4=>
    if b=true then te σ3 H4 fun y H5=>∃ys,H5 D=some (.lst ys)/\ys.length<sizeLine/\N σ3 (upd H5 D (.lst (ys++[y]))) else N σ3 H4):=by
 refine⟨fun i m σ H=>m=n - i/\i<=n/\Pv i σ H,⟨n,by simp,Nat.zero_le _,h0⟩,?_⟩
 rintro i m σ H ⟨rfl,hi,p⟩
 by_cases hlt:i<n
 ·obtain ⟨q1,q2⟩:=go i σ H hlt p
  exact .inr ⟨q1,Pv (i+1),fun σ' H' p'=>⟨n - (i+1),by omega,rfl,hlt,p'⟩,q2⟩
 ·have e:i=n:=by omega
  subst e
  exact .inl (stop σ H p)
theorem Same.upd {H:Hp}{a:Addr}{o:HO}(h:H a=none):Same H (upd H a o):=fun b u e=>by rw[qi (qj e h)];exact e
theorem Same.put {H H':Hp}{a:Addr}{o:HO}(e:Same H H')(h:H a=none):Same H (L2.upd H' a o):=fun b u q=>by rw[qi (qj q h)];exact e b u q
def isFun:ScopeKind->Bool
 | .function=>true
 |_=>false
theorem qaQ {k:ScopeKind}(h:isFun k=true):k= .function:=by
 cases k<;>first|rfl|cases h
def q9y (Nx:List Str)(scx:Scope)(N:List Str)(scope:Scope)(own:Nat)(caps:List Nat):Bool:=
 isFun scope.kind&&scope.names.all (fun y=>(y.2 != .local||scope.names.lookup y.1==some .local)&&y.2 != .cell&&(y.2 != .free||scx.names.lookup y.1==some .cell||scx.names.lookup y.1==some .free))&&
  N.length==own+caps.length&&(caps.zip (N.drop own)).all fun p=>decide (Nx[p.1]? =some p.2)&&scope.names.lookup p.2==some .free
theorem q0q {X:Cx}{N:List Str}{scope:Scope}{own:Nat}{caps:List Nat}(Nx:List Str)(scx:Scope)(h:q9y Nx scx N scope own caps=true)(hN:X.N=Nx:=by rfl)(hs:X.env.scope=scx:=by rfl):CompOk X N scope own caps:=by
 unfold q9y at h
 simp only[Bool.and_eq_true,List.all_eq_true] at h
 obtain⟨⟨⟨h1,h2⟩,h3⟩,h4⟩:=h
 refine⟨qaQ h1,fun y hy hl=>?_,fun y hy hc=>?_,fun y hy hf=>?_,by simpa using h3,fun i j x e1 e2=>?_⟩
 ·have:=(h2 y hy).1.1
  simpa[hl] using this
 ·have:=(h2 y hy).1.2
  simp[hc] at this
 ·have:=(h2 y hy).2
  show X.env.scope.names.lookup y.1=some .cell\/X.env.scope.names.lookup y.1=some .free
  rw[hs]
  simpa[hf] using this
 ·have hm:(j,x)∈caps.zip (N.drop own):=by
   have e3:(N.drop own)[i]? =some x:=by rw[List.getElem?_drop];exact e2
   exact List.mem_iff_getElem?.mpr ⟨i,by rw[List.getElem?_zip_eq_some];exact⟨e1,e3⟩⟩
  have:=h4 _ hm
  rw[hN]
  exact⟨of_decide_eq_true this.1,by simpa using this.2⟩
structure Cal (P:Program)(w:World)(K:PySem.W.Frag)(mg:Str->Option Value)(base:Heap)(k:Nat)(x:Str)(ps:List Str)(sp:Sp):Prop where
 ex:∃f fd,FnOk P w K mg base CX0 k f fd ps sp/\mg x=some (.ref f)/\PySem.W.keepIn K (.ref f)=true/\q25 K fd ps []
structure Laid (K:PySem.W.Frag)(mg:Str->Option Value)(x:Str)(st:Stmt)(ps:List Str):Prop where
 ex:∃f fd,Fun K x x st f fd/\mg x=some (.ref f)/\q25 K fd ps []
section
variable {P:Program}{w:World}{K:PySem.W.Frag}{mg:Str->Option Value}{base:Heap}
theorem Laid.cal {x:Str}{st:Stmt}{N ps:List Str}{k:Nat}{sp:Sp}(L:Laid K mg x st ps)(S:FnScope N ps (qd st))(len:∀vs H Q E,sp vs H Q E->vs.length=ps.length)
  (hbody:∀(f:Addr) (cdv:Value) (A:Around) (outer:List Env) (s:Shared) (H:Hp) (vs:List V) (Q:VK) (E:XK),Room k (A.deeper (envOfC x (qd st) s.heap.objs.size f cdv))->sp vs H Q E->
   ∃t,PSs (cxOf CX0 P w K mg base N x (qd st) f cdv A outer s H E).nox (qK st) t/\t {nx:=fun _ H'=>Q .non H',rt:=Q} (start N vs) H):Cal P w K mg base (k+1) x ps sp:=by
 obtain⟨f,fd,F,m,b⟩:=L.ex
 exact⟨f,fd,F.ok S len (fun cdv A outer s H vs Q E hr h=>hbody f cdv A outer s H vs Q E hr h),m,F.kp,b⟩
theorem qcQ {h:Heap}{x:Str}{st:Stmt}{ps:List Str}{f:Addr}{oc:Value}{od an:Option Addr}{osl:Array (Option Value)}{kV doc pm cdv ct:Value}(X:K.In h)(G:h.Ns mainGlobals mg)(a:PySem.W.nsIn K mainGlobals x=some (some (.ref f)))
  (l:K.lookup f=some ⟨oc,od,.func (PySem.W.fnOf x x (qZ st) (qK st) (qd st) .none kV doc pm an cdv ct),osl⟩)(c:PySem.W.codeIn K cdv x=true)(k:PySem.W.keepIn K (.ref f)=true)
  (hb:∀(kV doc pm:Value) (an:Option Addr) (cdv ct:Value) (us:List Value),us.length=ps.length->bindArgs (PySem.W.fnOf x x (qZ st) (qK st) (qd st) .none kV doc pm an cdv ct) ⟨us,[]⟩=pure (ps.zip us)):Laid K mg x st ps:=
 ⟨f,_,q2H l c k,PySem.W.mg_of X G a,(q2H l c k).binds hb⟩
end
section
variable {X:Cx}{k k':Nat}{x:Str}{ps:List Str}{sp:Sp}{p pos:Pos}{e:Expr}{es:List Expr}{t:TA}
theorem qp (c:Cal X.prog X.w X.K X.mg X.base k x ps sp)(hr:Room k' X.A)(hk:k<=k')(hg:Gl X x)(ha:PA X (e::es) t)(hdb:(x==("__debug__":Str))=false:=by decide)(he:starEach (e::es) X.env=(false,eval e X.env)::starEach es X.env:=by rfl)
  (hpl:(backTo pos (starEach es X.env)).any (·.1)=false:=by rfl):PE X (.Call (.Name x p) (e::es) [] pos) (q7n sp [] E0 t):=by
 obtain⟨f,fd,F,m,kp,b⟩:=c.ex
 exact q8z F (hr.mono hk) hg m kp b .nil q6e ha hdb he hpl
end
def tyS (H:Hp):V->Option String
 | .non=>some "NoneType"
 | .bl _=>some "bool"
 | .int _=>some "int"
 | .str _=>some "str"
 | .ref p=>match H p with
  |some (.lst _)=>some "list"
  |some (.tup _)=>some "tuple"
  |some (.frz _ (.lst _))=>some "list"
  |_=>none
 |_=>none
def subS (a n:String):Bool:=a==n||(a=="bool"&&n=="int")
def q8R (n:String):Bool:=n=="bool"||n=="int"||n=="str"||n=="list"||n=="tuple"
theorem qcR (K:PySem.W.Frag):∀a∈["NoneType","bool","int","str","list","tuple"],∀n∈["bool","int","str","list","tuple"],PySem.W.kitOne K (.type a) (.type n)=some (subS a n):=by
 intro a ha n hn
 simp only[List.mem_cons,List.not_mem_nil,or_false] at ha hn
 rcases ha with rfl|rfl|rfl|rfl|rfl|rfl<;>rcases hn with rfl|rfl|rfl|rfl|rfl<;>kernel_rfl
theorem tyS_ty {K:PySem.W.Frag}{H:Hp}{x:V}{a:String}(h:tyS H x=some a):TyOf K H x (.type a)/\a∈["NoneType","bool","int","str","list","tuple"]:=by
 unfold tyS at h
 split at h
 ·cases h;exact⟨.non,by simp⟩
 ·cases h;exact⟨.bl _,by simp⟩
 ·cases h;exact⟨.int _,by simp⟩
 ·cases h;exact⟨.str _,by simp⟩
 ·split at h
  ·rename_i e;cases h;exact⟨.lst e,by simp⟩
  ·rename_i e;cases h;exact⟨.tup e,by simp⟩
  ·rename_i e;cases h;exact⟨.frz e,by simp⟩
  ·cases h
 ·cases h
section
variable {X:Cx}
def q5A:List V->Hp->VK->Prop:=fun xs H Q=>∃x n a,xs=[x,.ty n]/\tyS H x=some a/\q8R n=true/\Q (.bl (subS a n)) H
theorem q1R:q24 X (.builtin "isinstance") q5A:=by
 intro pins s σ H xs us Q I r h
 obtain⟨x,n,a,rfl,ty,kn,q⟩:=h
 obtain⟨t1,t2⟩:=tyS_ty (K:=X.K) ty
 refine q9H pins s σ H _ us Q I r ⟨x,n,_,_,rfl,t1,qcR X.K a t2 n ?_,q⟩
 unfold q8R at kn
 simp only[Bool.or_eq_true,beq_iff_eq] at kn
 simp only[List.mem_cons,List.not_mem_nil,or_false]
 rcases kn with(((kn|kn)|kn)|kn)|kn<;>simp[kn]
theorem q7U {H:Hp}{p:Addr}{xs:List V}(h:H p=some (.tup xs)):tyS H (.ref p)=some "tuple":=by simp only[tyS,h]
theorem qbM {H:Hp}{p:Addr}{xs:List V}(h:H p=some (.lst xs)):tyS H (.ref p)=some "list":=by simp only[tyS,h]
end
theorem q0p:bootBuiltins "isinstance"=some (.builtin "isinstance"):=by decide +kernel
theorem q0o:bootBuiltins "len"=some (.builtin "len"):=by decide +kernel
theorem bt_all:bootBuiltins "all"=some (.builtin "all"):=by decide +kernel
theorem q3W:bootBuiltins "sorted"=some (.builtin "sorted"):=by decide +kernel
theorem qbE:bootBuiltins "int"=some (.type "int"):=by decide +kernel
theorem qdj:bootBuiltins "bool"=some (.type "bool"):=by decide +kernel
theorem q6t:bootBuiltins "list"=some (.type "list"):=by decide +kernel
theorem q13:bootBuiltins "tuple"=some (.type "tuple"):=by decide +kernel
end L2
namespace L2
open PySem PySem.Spec PyProof.Rows
structure VMeth (P:Program)(w:World)(K:PySem.W.Frag)(mg:Str->Option Value)(base:Heap)(k:Nat)(C:Addr)(m:Str)(ps:List Str)(sp:Sp):Prop where
 cl:Cls K C
 ex:∃f fd,Meth K C m f/\FnOk P w K mg base CX0 k f fd ps sp/\q25 K fd ps []
def tVM (P:Program)(w:World)(K:PySem.W.Frag)(mg:Str->Option Value)(base:Heap)(k:Nat)(m:Str)(ta:TE)(t:TA):TE:=fun σ H Q=>ta σ H fun x H1=>∃a C dx fs ps sp,x= .ref a/\H1 a=some (.ins C dx fs)/\VMeth P w K mg base k C m ps sp/\fs.lookup m=none/\
 t σ H1 fun vs H2=>sp (x::vs) H2 Q E0
structure CMeth (K:PySem.W.Frag)(C:Addr)(m:Str)(f:Addr):Prop where
 rd:PySem.W.readsIn K C (.type "type")=true
 fc:PySem.W.findCls K (.ref C) (.type "type") m=some (.val (.ref f))
 sg:PySem.W.specialIn K (.ref C) "__getattribute__"=some (some (.builtin "type.__getattribute__"))
 kp:PySem.W.keepIn K (.ref f)=true
structure CCal (P:Program)(w:World)(K:PySem.W.Frag)(mg:Str->Option Value)(base:Heap)(k:Nat)(x m:Str)(ps:List Str)(sp:Sp):Prop where
 ex:∃C f fd,mg x=some (.ref C)/\CMeth K C m f/\FnOk P w K mg base CX0 k f fd ps sp/\q25 K fd ps []
structure Makes (P:Program)(w:World)(K:PySem.W.Frag)(mg:Str->Option Value)(base:Heap)(k:Nat)(x:Str)(C:Addr)(ps:List Str)(sp:Sp):Prop where
 ex:∃f fd,Mk K C f/\FnOk P w K mg base CX0 k f fd ps sp/\q25 K fd ps []
 at_:mg x=some (.ref C)
section
variable {X:Cx}{k k':Nat}{C:Addr}{ps:List Str}{sp:Sp}{x m:Str}{p pos apos:Pos}{e o:Expr}{es:List Expr}{ta:TE}{t:TA}
theorem q3C {pl:Sem Bool}(hr:Room k X.A)(he:PE X o ta)(ha:PA X (e::es) t)(hst:starEach (e::es) X.env=(false,eval e X.env)::starEach es X.env:=by rfl)(hpl:(backTo pos (starEach es X.env)).any (·.1)=false:=by rfl)
  (ht:eval (.Call (.Attribute o m apos) (e::es) [] pos) X.env=(do
   let ov<-eval o X.env
   standAt apos.atName
   let (f,first)<-holding [ov] (getMethod ov m pl)
   callWith pos f first (backTo pos (starEach (e::es) X.env)) (backToKw pos (keywordEach [] X.env))):=by rfl):
  PE X (.Call (.Attribute o m apos) (e::es) [] pos) (tVM X.prog X.w X.K X.mg X.base k m ta t):=by
 intro pins s σ H Q I h
 refine PySem.W.methodCall_KW (pl:=pl) (thn (he pins s σ H _ I h) fun u s1 ⟨x,H1,I1,rx,a,C,dx,fs,ps,sp,ex,ea,vm,l,q⟩=>?_) ht
 subst ex
 obtain rfl:u=Value.ref a:=rx
 obtain⟨f,fd,hm,F,hb⟩:=vm.ex
 refine q4e I1 ea vm.cl hm l ?_
 refine PySem.W.callWith_K (first:=[.ref a]) (h₀:=X.base) I.ok.mod.kin hm.kp (thn (ha pos pins s1 σ H1 _ I1 q) fun us s2 ⟨vs,H2,I2,r,q2⟩=>⟨I2.kIn,?_⟩) hst hpl
 exact q6I (us:= .ref a::us) (vs:= .ref a::vs) (ds:=[]) (dvs:=[]) F hr hb .nil q6e I2 (.cons rfl r) (by rw[List.append_nil];exact q2)
theorem pe_vm0 {pl:Sem Bool}(hr:Room k X.A)(he:PE X o ta)
  (ht:eval (.Call (.Attribute o m apos) [] [] pos) X.env=(do
   let ov<-eval o X.env
   standAt apos.atName
   let (f,first)<-holding [ov] (getMethod ov m pl)
   callWith pos f first (backTo pos (starEach [] X.env)) (backToKw pos (keywordEach [] X.env))):=by rfl):
  PE X (.Call (.Attribute o m apos) [] [] pos) (tVM X.prog X.w X.K X.mg X.base k m ta tNil):=by
 intro pins s σ H Q I h
 refine PySem.W.methodCall_KW (pl:=pl) (thn (he pins s σ H _ I h) fun u s1 ⟨x,H1,I1,rx,a,C,dx,fs,ps,sp,ex,ea,vm,l,q⟩=>?_) ht
 subst ex
 obtain rfl:u=Value.ref a:=rx
 obtain⟨f,fd,hm,F,hb⟩:=vm.ex
 refine q4e I1 ea vm.cl hm l ?_
 exact PySem.W.callWith_K0 (first:=[.ref a]) I1.kIn hm.kp (q6I (us:=[.ref a]) (vs:=[.ref a]) (ds:=[]) (dvs:=[]) F hr hb .nil q6e I1 (.cons rfl .nil) q)
theorem q3E {pl:Sem Bool}{op:Pos}(c:CCal X.prog X.w X.K X.mg X.base k x m ps sp)(hr:Room k' X.A)(hk:k<=k')(hg:Gl X x)(ha:PA X (e::es) t)(hdb:(x==("__debug__":Str))=false:=by decide)
  (hst:starEach (e::es) X.env=(false,eval e X.env)::starEach es X.env:=by rfl)(hpl:(backTo pos (starEach es X.env)).any (·.1)=false:=by rfl)
  (ht:eval (.Call (.Attribute (.Name x op) m apos) (e::es) [] pos) X.env=(do
   let ov<-eval (.Name x op) X.env
   standAt apos.atName
   let (f,first)<-holding [ov] (getMethod ov m pl)
   callWith pos f first (backTo pos (starEach (e::es) X.env)) (backToKw pos (keywordEach [] X.env))):=by rfl):
  PE X (.Call (.Attribute (.Name x op) m apos) (e::es) [] pos) (q7n sp [] E0 t):=by
 intro pins s σ H Q I h
 obtain⟨C,f,fd,hm,cm,F,hb⟩:=c.ex
 refine PySem.W.methodCall_KW (pl:=pl) (q3M I hg hm ?_ hdb) ht
 refine PySem.W.method_cls I.kIn cm.sg (PySem.W.cls_value I.kIn cm.rd cm.fc rfl ?_)
 have I1:=I.tok (s.toks+1)
 refine PySem.W.callWith_K (first:=[]) (h₀:=X.base) I.ok.mod.kin cm.kp (thn (ha pos pins _ σ H _ I1 h) fun us s2 ⟨vs,H2,I2,r,q2⟩=>⟨I2.kIn,?_⟩) hst hpl
 exact q6I F (hr.mono hk) hb .nil q6e I2 r q2
theorem q2c (c:Makes X.prog X.w X.K X.mg X.base k x C ps sp)(hr:Room k' X.A)(hk:k+1<=k')(hg:Gl X x)(ha:PA X (e::es) t)(hdb:(x==("__debug__":Str))=false:=by decide)(he:starEach (e::es) X.env=(false,eval e X.env)::starEach es X.env:=by rfl)
  (hpl:(backTo pos (starEach es X.env)).any (·.1)=false:=by rfl):PE X (.Call (.Name x p) (e::es) [] pos) (q7Z C sp [] E0 t):=by
 obtain⟨f,fd,M,F,b⟩:=c.ex
 exact qco M F (hr.mono hk) hg c.at_ b .nil q6e ha hdb he hpl
theorem qcp (c:Makes X.prog X.w X.K X.mg X.base k x C ps sp)(hr:Room k' X.A)(hk:k+1<=k')(hg:Gl X x)(hdb:(x==("__debug__":Str))=false:=by decide):PE X (.Call (.Name x p) [] [] pos) (q7Z C sp [] E0 tNil):=by
 obtain⟨f,fd,M,F,b⟩:=c.ex
 exact qak M F (hr.mono hk) hg c.at_ b .nil q6e hdb
def eqVs (xs ys:List V):Bool:=xs.length==ys.length&&(List.zipWith eqV xs ys).all id
theorem q2M (xs ys:List V):((List.range (min xs.length ys.length)).all fun j=>eqV (xs.getD j .non) (ys.getD j .non))=(List.zipWith eqV xs ys).all id:=by
 rw[Bool.eq_iff_iff]
 simp only[List.all_eq_true,List.mem_range,id]
 constructor
 ·intro h b hb
  obtain⟨i,hi,rfl⟩:=List.mem_iff_getElem.mp hb
  rw[List.length_zipWith] at hi
  have:=h i hi
  simpa[List.getD,show i<xs.length by omega,show i<ys.length by omega] using this
 ·intro h i hi
  have:=h _ (List.mem_iff_getElem.mpr ⟨i,by rw[List.length_zipWith];exact hi,rfl⟩)
  simpa[List.getD,show i<xs.length by omega,show i<ys.length by omega] using this
theorem q0j {xs:List V}{us:List Value}(r:Vals xs us){j:Nat}(h:j<us.toArray.size):RelV (xs.getD j .non) us.toArray[j]:=by
 have hj:j<us.length:=by simpa using h
 have hx:j<xs.length:=by rw[r.length];exact hj
 obtain⟨u,hu,ru⟩:=r.get (i:=j) (x:=xs[j]) (by simp[hx])
 have e1:us.toArray[j]=u:=by
  have:us[j]? =some us[j]:=by simp[hj]
  rw[this] at hu
  simpa using Option.some.inj hu
 rw[e1]
 simpa[List.getD,hx] using ru
theorem q4I {xs:List V}(h:xs.all q2l=true)(j:Nat):q2l (xs.getD j .non)=true:=by
 by_cases hj:j<xs.length
 ·rw [List.all_eq_true] at h
  have:=h xs[j] (List.getElem_mem hj)
  simpa[List.getD,hj] using this
 ·simp [List.getD,show xs.length<=j by omega,q2l]
def qcg (K:PySem.W.Frag):R2:=fun x y H Q=>∃p q xs ys,x= .ref p/\y= .ref q/\SqT K H p xs/\SqT K H q ys/\xs.all q2l=true/\ys.all q2l=true/\Q (.bl (eqVs xs ys)) H
theorem op_eqT (hu:X.A.units<cLine):OpR X (compareOp .Eq) (qcg X.K):=by
 intro pins s σ H x y v u Q I rx ry h
 obtain⟨p,q,xs,ys,rfl,rfl,hp,hq,fx,fy,k⟩:=h
 cases rx
 cases ry
 obtain⟨ia,ra,pa,_⟩:=I.tuple hp
 obtain⟨ib,rb,pb,_⟩:=I.tuple hq
 have la:=ra.length
 have lb:=rb.length
 refine SeqAt.eq_tupleAt (e:=fun j=>eqV (xs.getD j .non) (ys.getD j .non)) (show s.heap.IsTuple p ia.toArray from pa) (show s.heap.IsTuple q ib.toArray from pb) hu (fun j h1 h2=>q9h (q0j ra h1) (q0j rb h2) (q4I fx j) (q4I fy j)) ⟨.bl (eqVs xs ys),H,I,?_,k⟩
 show Value.bool _=Value.bool _
 unfold eqVs
 rw[<-q2M,Bool.and_comm]
 simp[la,lb]
end
section
variable {X:Cx}{e o:Expr}{es:List Expr}{ta:TE}{t:TA}{pos apos:Pos}{m f:Str}
theorem q01 (K:PySem.W.Frag)(h:X.K=K:=by rfl):IxR X (rIxL K):=by subst h;exact qcU
theorem qk (K:PySem.W.Frag)(h:X.K=K:=by rfl):IxR X (rIxT K):=by subst h;exact ix_tup
theorem q3h (K:PySem.W.Frag)(h:X.K=K:=by rfl):SlR X (rSlL K):=by subst h;exact qbZ
theorem q2s (K:PySem.W.Frag)(h:X.K=K:=by rfl):SlR X (qcf K):=by subst h;exact qbY
theorem qcs (K:PySem.W.Frag)(hu:X.A.units<cLine)(h:X.K=K:=by rfl):OpR X (compareOp .Eq) (qcg K):=by subst h;exact op_eqT hu
theorem q1O {k:Nat}{g:TGs}{n:Nat}(K:PySem.W.Frag)(hc:X.calm=true)(h:PGs X es g)(hK:X.K=K:=by rfl)(hn:(assignEach es X.env).length=n:=by rfl)(hst:(assignEach es X.env).findIdx? (·.1)=none:=by rfl):PG X (.Tuple es k pos) (gTup K n g):=by
 subst hK
 exact pg_tup hc h hn hst
theorem q0c (K:PySem.W.Frag)(he:PE X e ta)(hb:attributeBase e f X.env (eval e X.env)=eval e X.env)(hK:X.K=K:=by rfl):PE X (.Attribute e f pos) (tFld K ta f):=by
 subst hK
 exact pe_fld he hb
end
end L2
namespace L2
open PySem PySem.Spec PyProof.Rows
section
variable {X:Cx}{pos:Pos}
theorem qaT:PGet X (rIxL X.K):=by
 intro pins s σ H o i ov iv Q I ro ri h
 obtain⟨p,xs,i,z,rfl,rfl,hq,he,q⟩:=h
 cases ro
 obtain⟨t,rfl⟩:=ri
 obtain⟨its,r,pl,hz⟩:=I.list hq
 obtain⟨j,h1,h2,h3,h4,h5⟩:=q6w he
 obtain⟨w,ew,rw'⟩:=r.get h2
 have hl:=r.length
 have hn:=q5H
 have fin:EP X pins σ Q w s:=⟨z,H,I,rw',q⟩
 by_cases h0:0<=i
 ·have hj:i.toNat=j:=by
   rw[seqIndex_of h0 h5] at h1
   exact Option.some.inj h1
  exact wpAny_getItem_list pl.isList h0 (by omega) (by rw[hj];simpa using ew) fin
 ·have hj:(i+(its.toArray.size:Int)).toNat=j:=by
   rw[seqIndex_neg (by omega) h4] at h1
   rw[List.size_toArray,<-hl]
   exact Option.some.inj h1
  exact wpAny_getItem_list_neg pl.isList (by omega) (by rw[List.size_toArray]<;>omega) (by omega) (by rw[hj];simpa using ew) fin
end
def rLen (K:PySem.W.Frag):List V->Hp->VK->Prop:=fun xs H Q=>∃p ys,xs=[.ref p]/\(SqL K H p ys\/SqT K H p ys)/\Q (.int ys.length) H
def q8m (K:PySem.W.Frag):List V->Hp->VK->Prop:=fun xs H Q=>∃p ys,xs=[.ref p]/\((SqL K H p ys/\∀l,H l=none->Q (.ref l) (upd H l (.tup ys)))\/(SqT K H p ys/\Q (.ref p) H))
def qbm (K:PySem.W.Frag):List V->Hp->VK->Prop:=fun xs H Q=>∃p ys,xs=[.ref p]/\(SqL K H p ys\/SqT K H p ys)/\∀l,H l=none->Q (.ref l) (upd H l (.lst ys))
def rInt1:List V->Hp->VK->Prop:=fun xs H Q=>(∃i,xs=[.int i]/\Q (.int i) H)\/∃k,xs=[.bl k]/\Q (.int (if k then 1 else 0)) H
section
variable {X:Cx}
theorem lenK (K:PySem.W.Frag)(h:X.K=K:=by rfl):q24 X (.builtin "len") (rLen K):=by subst h;exact q5T
theorem q48 (K:PySem.W.Frag)(h:X.K=K:=by rfl):q24 X (.type "tuple") (q8m K):=by subst h;exact q4O
theorem qbs (K:PySem.W.Frag)(h:X.K=K:=by rfl):q24 X (.type "list") (qbm K):=by subst h;exact q5S
theorem int1:q24 X (.type "int") rInt1:=q9I
end
section
variable {σ:St}{H:Hp}{Q:VK}{B:Bool->Hp->Prop}{L:List V->Hp->Prop}{ta tb:TE}{t:TA}{c d:TT}{nx bk ct:St->Hp->Prop}{rt:VK}{g:TG}{K:PySem.W.Frag}
theorem r_var {i:Nat}{v:V}(h:σ[i]? =some (some v))(q:Q v H):tVar i σ H Q:=⟨v,h,q⟩
theorem r_c {v:V}(q:Q v H):tC v σ H Q:=q
theorem r_op {r:R2}(q:ta σ H fun x H1=>tb σ H1 fun y H2=>r x y H2 Q):tOp r ta tb σ H Q:=q
theorem r_I0 {f:Int->Int->V}{i j:Int}(q:Q (f i j) H):rI0 f (.int i) (.int j) H Q:=⟨i,j,rfl,rfl,q⟩
theorem r_I {C:Int->Int->Prop}{f:Int->Int->V}{i j:Int}(h:C i j)(q:Q (f i j) H):rI C f (.int i) (.int j) H Q:=⟨i,j,rfl,rfl,h,q⟩
theorem r_isN (q:ta σ H fun x H1=>Q (.bl (decide (x= .non))) H1):tIsN ta σ H Q:=q
theorem r_B (q:ta σ H fun x H1=>∃k,x= .bl k/\B k H1):tB ta σ H B:=q
theorem r_test (q:ta σ H fun x H1=>∃k,x= .bl k/\B k H1):tTest ta σ H B:=q
theorem r_bl {b:Bool}{P:Bool->Prop}(q:P b):∃k,V.bl b=V.bl k/\P k:=⟨b,rfl,q⟩
theorem r_or (q:c σ H fun k H1=>if k=true then B true H1 else d σ H1 B):tOr c d σ H B:=q
theorem r_not (q:c σ H fun k H1=>B (!k) H1):tNot c σ H B:=q
theorem r_andV (q:ta σ H fun x H1=>∃k,x= .bl k/\if k=true then tb σ H1 Q else Q (.bl false) H1):tAndV ta tb σ H Q:=q
theorem r_orV (q:ta σ H fun x H1=>∃k,x= .bl k/\if k=true then Q (.bl true) H1 else tb σ H1 Q):tOrV ta tb σ H Q:=q
theorem r_notV (q:ta σ H fun x H1=>∃k,x= .bl k/\Q (.bl (!k)) H1):tNotV ta σ H Q:=q
theorem r_if (q:c σ H fun k H1=>if k=true then ta σ H1 Q else tb σ H1 Q):tIf c ta tb σ H Q:=q
theorem r_cons (q:ta σ H fun x H1=>t σ H1 fun xs H2=>L (x::xs) H2):tCons ta t σ H L:=q
theorem r_nil (q:L [] H):tNil σ H L:=q
theorem r_tup (q:t σ H fun xs H1=>xs.length<=sizeLine/\∀p,H1 p=none->Q (.ref p) (upd H1 p (.tup xs))):tTup t σ H Q:=q
theorem r_lst (q:t σ H fun xs H1=>xs.length<=sizeLine/\∀p,H1 p=none->Q (.ref p) (upd H1 p (.lst xs))):tLst t σ H Q:=q
theorem r_al {n:Nat}{P:Prop}(h:Nat.ble n sizeLine=true)(q:P):n<=sizeLine/\P:=⟨Nat.le_of_ble_eq_true h,q⟩
theorem r_call {sp:Sp}{E:XK}(q:t σ H fun vs H1=>sp (vs++[]) H1 Q E):q7n sp [] E t σ H Q:=q
theorem r_cb {r:List V->Hp->VK->Prop}(q:t σ H fun vs H1=>r vs H1 Q):tCB r t σ H Q:=q
theorem r_bm {T:String}{r:V->List V->Hp->VK->Prop}(q:ta σ H fun x H1=>tyV K T x H1/\t σ H1 fun xs H2=>r x xs H2 Q):tBM K T r ta t σ H Q:=q
theorem r_sl {r:V->Option Int->Option Int->Hp->VK->Prop}{tl th:TO}(q:ta σ H fun x H1=>tl σ H1 fun l H2=>th σ H2 fun u H3=>r x l u H3 Q):tSl r ta tl th σ H Q:=q
theorem r_np {P:Option Int->Hp->Prop}(q:P none H):q7Y σ H P:=q
theorem r_pt {P:Option Int->Hp->Prop}(q:ta σ H fun x H1=>∃i,x= .int i/\P (some i) H1):tPart ta σ H P:=q
theorem r_int {i:Int}{P:Int->Prop}(q:P i):∃k,V.int i=V.int k/\P k:=⟨i,rfl,q⟩
theorem r_eqI {i j:Int}(q:Q (.bl (decide (i=j))) H):rEq (.int i) (.int j) H Q:=⟨rfl,by rw[show decide (V.int i=V.int j)=decide (i=j) by simp];exact q⟩
theorem r_eqS {i j:Str}(q:Q (.bl (decide (i=j))) H):rEq (.str i) (.str j) H Q:=⟨rfl,by rw[show decide (V.str i=V.str j)=decide (i=j) by simp];exact q⟩
theorem r_neI {i j:Int}(q:Q (.bl (!decide (i=j))) H):rNe (.int i) (.int j) H Q:=⟨rfl,by rw[show decide (V.int i=V.int j)=decide (i=j) by simp];exact q⟩
theorem r_neS {i j:Str}(q:Q (.bl (!decide (i=j))) H):rNe (.str i) (.str j) H Q:=⟨rfl,by rw[show decide (V.str i=V.str j)=decide (i=j) by simp];exact q⟩
theorem q3b {p:Addr}{xs:List V}{i:Int}{v:V}(h:SqT K H p xs)(e:atI xs i=some v)(q:Q v H):rIxT K (.ref p) (.int i) H Q:=⟨p,xs,i,v,rfl,rfl,h,e,q⟩
theorem q6b {p:Addr}{xs:List V}{i:Int}{v:V}(h:SqL K H p xs)(e:atI xs i=some v)(q:Q v H):rIxL K (.ref p) (.int i) H Q:=⟨p,xs,i,v,rfl,rfl,h,e,q⟩
theorem r_lenT {p:Addr}{xs:List V}(h:SqT K H p xs)(q:Q (.int xs.length) H):rLen K [.ref p] H Q:=⟨p,xs,rfl,.inr h,q⟩
theorem r_lenL {p:Addr}{xs:List V}(h:SqL K H p xs)(q:Q (.int xs.length) H):rLen K [.ref p] H Q:=⟨p,xs,rfl,.inl h,q⟩
theorem atI0 {v:V}{l:List V}:atI (v::l) 0=some v:=q0R (j:=0) rfl
theorem qdl {xs:List V}{j:Nat}{v:V}(h:xs[j]? =some v):atI xs (0+(j:Int))=some v:=by rw[Int.zero_add];exact q0R h
theorem q7X {α β:Type}(f:α->β)(xs:List α){i:Nat}(hi:i<xs.length):(xs.take i).map f++[f xs[i]]=(xs.take (i+1)).map f:=by rw[List.take_succ_eq_append_getElem hi,List.map_append];rfl
theorem q7t {x:V}{n a:String}{b:Bool}(h:tyS H x=some a)(k:q8R n=true)(e:subS a n=b)(q:Q (.bl b) H):q5A [x,.ty n] H Q:=⟨x,n,a,rfl,h,k,by rw[e];exact q⟩
theorem qae {i:Int}(q:Q (.bl false) H):q5A [.int i,.ty "bool"] H Q:=q7t rfl (by decide +kernel) (by decide +kernel) q
theorem qad {i:Int}(q:Q (.bl true) H):q5A [.int i,.ty "int"] H Q:=q7t rfl (by decide +kernel) (by decide +kernel) q
theorem qaa {i:Str}(q:Q (.bl false) H):q5A [.str i,.ty "tuple"] H Q:=q7t rfl (by decide +kernel) (by decide +kernel) q
theorem qab (q:Q (.bl false) H):q5A [.non,.ty "list"] H Q:=q7t rfl (by decide +kernel) (by decide +kernel) q
theorem qa9 {p:Addr}{xs:List V}(h:H p=some (.tup xs))(q:Q (.bl true) H):q5A [.ref p,.ty "tuple"] H Q:=q7t (q7U h) (by decide +kernel) (by decide +kernel) q
theorem qac {p:Addr}{xs:List V}(h:H p=some (.lst xs))(q:Q (.bl true) H):q5A [.ref p,.ty "list"] H Q:=q7t (qbM h) (by decide +kernel) (by decide +kernel) q
theorem r_seq {t u:TS}(q:t ⟨u ⟨nx,rt,bk,ct⟩,rt,bk,ct⟩ σ H):tSeq t u ⟨nx,rt,bk,ct⟩ σ H:=q
theorem r_asg (q:ta σ H fun x H1=>g x σ H1 nx):tAsg ta g ⟨nx,rt,bk,ct⟩ σ H:=q
theorem r_name {i:Nat}{v:V}{N:St->Hp->Prop}(q:N (σ.set i (some v)) H):qaU i v σ H N:=q
theorem r_ifS {t u:TS}{D:Ends}(q:c σ H fun k H1=>if k=true then t D σ H1 else u D σ H1):tIfS c t u D σ H:=q
theorem r_ret (q:ta σ H rt):tRet ta ⟨nx,rt,bk,ct⟩ σ H:=q
theorem r_next (q:nx σ H):tNext ⟨nx,rt,bk,ct⟩ σ H:=q
theorem r_drop (q:ta σ H fun _ H1=>nx σ H1):tDrop ta ⟨nx,rt,bk,ct⟩ σ H:=q
theorem r_augS {to ti te:TE}{tget:V->V->Hp->VK->Prop}{tip:TIp}{tset:TSet}(q:to σ H fun o H1=>ti σ H1 fun i H2=>tget o i H2 fun x H3=>te σ H3 fun y H4=>tip x y H4 fun z H5=>tset o i z H5 fun H6=>nx σ H6):tAugS to ti te tget tip tset ⟨nx,rt,bk,ct⟩ σ H:=q
theorem r_ipI {f:Int->Int->Int}{i j:Int}(q:Q (.int (f i j)) H):ipI f (.int i) (.int j) H Q:=⟨i,j,rfl,rfl,q⟩
theorem qbk {p:Addr}{xs:List V}{k:Int}{j:Nat}{v:V}{R:Hp->Prop}(h:H p=some (.lst xs))(e:ixN xs.length k=some j)(q:R (upd H p (.lst (xs.set j v)))):rSetL (.ref p) (.int k) v H R:=⟨p,xs,k,j,rfl,rfl,h,e,q⟩
theorem r_gT {n:Nat}{gs:TGs}{p:Addr}{xs:List V}{N:St->Hp->Prop}(h:SqT K H p xs)(e:xs.length=n)(q:gs xs σ H N):gTup K n gs (.ref p) σ H N:=⟨p,xs,rfl,h,e,q⟩
theorem r_gc {gs:TGs}{v:V}{vs:List V}{N:St->Hp->Prop}(q:g v σ H fun σ' H'=>gs vs σ' H' N):gCons g gs (v::vs) σ H N:=⟨v,vs,rfl,q⟩
theorem r_gn {N:St->Hp->Prop}(q:N σ H):gNil [] σ H N:=⟨rfl,q⟩
theorem qce {p:Addr}{xs:List V}{y:V}(h:H p=some (.lst xs))(hz:xs.length<sizeLine)(q:Q .non (upd H p (.lst (xs++[y])))):q8n (.ref p) [y] H Q:=⟨p,xs,y,rfl,rfl,h,hz,q⟩
theorem r_tyL {p:Addr}{xs:List V}{P:Prop}(h:H p=some (.lst xs))(q:P):tyV K "list" (.ref p) H/\P:=⟨.inl ⟨rfl,_,SqL.of h⟩,q⟩
theorem ifd {p:Prop}[Decidable p]{A B:Prop}(h1:p->A)(h2:¬p->B):if decide p=true then A else B:=by
 by_cases h:p
 ·rw [if_pos (decide_eq_true h)];exact h1 h
 ·rw [if_neg (by simp[h])];exact h2 h
theorem ifn {p:Prop}[Decidable p]{A B:Prop}(h1:¬p->A)(h2:p->B):if (!decide p)=true then A else B:=by
 by_cases h:p
 ·rw [if_neg (by simp[h])];exact h2 h
 ·rw [if_pos (by simp[h])];exact h1 h
theorem r_intb {x:Bool}(q:Q (.int (if x then 1 else 0)) H):rInt1 [.bl x] H Q:= .inr ⟨x,rfl,q⟩
theorem r_tol {p:Addr}{ys:List V}(h:SqL K H p ys)(q:∀l,H l=none->Q (.ref l) (upd H l (.tup ys))):q8m K [.ref p] H Q:=⟨p,ys,rfl,.inl ⟨h,q⟩⟩
theorem r_tot {p:Addr}{ys:List V}(h:SqT K H p ys)(q:Q (.ref p) H):q8m K [.ref p] H Q:=⟨p,ys,rfl,.inr ⟨h,q⟩⟩
theorem r_lof {p:Addr}{ys:List V}(h:SqL K H p ys\/SqT K H p ys)(q:∀l,H l=none->Q (.ref l) (upd H l (.lst ys))):qbm K [.ref p] H Q:=⟨p,ys,rfl,h,q⟩
theorem ifnT {A B:Prop}(h:B):if (!true)=true then A else B:=iteF h
theorem ifnF {A B:Prop}(h:A):if (!false)=true then A else B:=iteT h
theorem q0e {a b:Addr}{o u:HO}(h:H b=some u)(n:H a=none):upd H a o b=some u:=by rw[qi (qj h n)];exact h
theorem up_oth {a b:Addr}{o u:HO}(h:H b=some u)(n:b≠a):upd H a o b=some u:=by rw[qi n];exact h
end
section
variable {σ:St}{H:Hp}{g:TG}{tb:TS}{nx bk ct:St->Hp->Prop}{rt:VK}{t:TA}{wi:TI}
theorem r_for (q:wi σ H fun J H1=>∃W:Nat->Nat->St->Hp->Prop,(∃m,W 0 m σ H1)/\∀i m σ H,W i m σ H->
  (J.stop i H/\nx σ H)\/(J.go i H/\∃N:St->Hp->Prop,(∀σ' H',N σ' H'->∃m',m'<m/\W (i+1) m' σ' H')/\∀x H',J.yld i H x H'->g x σ H' fun σ2 H2=>tb ⟨N,rt,nx,N⟩ σ2 H2)):tFor wi g tb ⟨nx,rt,bk,ct⟩ σ H:=q
def rRg (R:It->Hp->Prop):List V->Hp->Prop:=fun vs H1=>∃j:Int,vs=[.int j]/\ -(2 ^ 62)<=j/\j<2 ^ 62/\R (Itr 0 j.toNat) H1
theorem r_rng1 {R:It->Hp->Prop}(q:t σ H (rRg R)):iRng1 t σ H R:=q
theorem r_comp {tc:TT}{te:TE}{own:Nat}{caps:List Nat}{Q:VK}(q:wi σ H fun J H1=>∀D,H1 D=none->∃W:Nat->Nat->St->Hp->Prop,(∃m,W 0 m (q39 own caps σ) (upd H1 D (.lst [])))/\∀i m σ' H',W i m σ' H'->
  (J.stop i H'/\Q (.ref D) H')\/(J.go i H'/\∃N:St->Hp->Prop,(∀σ'' H'',N σ'' H''->∃m',m'<m/\W (i+1) m' σ'' H'')/\∀x H2,J.yld i H' x H2->g x σ' H2 fun σ3 H3=>tc σ3 H3 fun b H4=>
   if b=true then te σ3 H4 fun y H5=>∃ys,H5 D=some (.lst ys)/\ys.length<sizeLine/\N σ3 (upd H5 D (.lst (ys++[y]))) else N σ3 H4)):q9X wi g tc te own caps σ H Q:=q
theorem r_yes {B:Bool->Hp->Prop}(q:B true H):tYes σ H B:=q
theorem r_iL {K:PySem.W.Frag}{tl:TE}{R:It->Hp->Prop}(q:tl σ H fun x H1=>∃a,x= .ref a/\(∃xs,SqL K H1 a xs)/\R (Itl K a) H1):qcW K tl σ H R:=q
theorem r_iT {K:PySem.W.Frag}{tl:TE}{R:It->Hp->Prop}(q:tl σ H fun x H1=>∃a,x= .ref a/\(∃xs,SqT K H1 a xs)/\R (Itt K a) H1):iTup K tl σ H R:=q
theorem r_eL {K:PySem.W.Frag}{R:It->Hp->Prop}(q:t σ H fun vs H1=>∃a,vs=[.ref a]/\(∃xs,SqL K H1 a xs)/\R (Ite fun H xs=>SqL K H a xs) H1):q91 K t σ H R:=q
theorem r_eT {K:PySem.W.Frag}{R:It->Hp->Prop}(q:t σ H fun vs H1=>∃a,vs=[.ref a]/\(∃xs,SqT K H1 a xs)/\R (Ite fun H xs=>SqT K H a xs) H1):q90 K t σ H R:=q
theorem r_refL {K:PySem.W.Frag}{p:Addr}{xs:List V}{R:Addr->Prop}(h:SqL K H p xs)(q:R p):∃a,V.ref p= .ref a/\(∃xs,SqL K H a xs)/\R a:=⟨p,rfl,⟨xs,h⟩,q⟩
theorem r_refT {K:PySem.W.Frag}{p:Addr}{xs:List V}{R:Addr->Prop}(h:SqT K H p xs)(q:R p):∃a,V.ref p= .ref a/\(∃xs,SqT K H a xs)/\R a:=⟨p,rfl,⟨xs,h⟩,q⟩
theorem qc8 {K:PySem.W.Frag}{p:Addr}{xs:List V}{R:Addr->Prop}(h:SqL K H p xs)(q:R p):∃a,[V.ref p]=[.ref a]/\(∃xs,SqL K H a xs)/\R a:=⟨p,rfl,⟨xs,h⟩,q⟩
theorem qc7 {K:PySem.W.Frag}{p:Addr}{xs:List V}{R:Addr->Prop}(h:SqT K H p xs)(q:R p):∃a,[V.ref p]=[.ref a]/\(∃xs,SqT K H a xs)/\R a:=⟨p,rfl,⟨xs,h⟩,q⟩
theorem r_rg {j:Int}{R:It->Hp->Prop}(h: -1000000<=j/\j<=1000000)(q:R (Itr 0 j.toNat) H):rRg R [.int j] H:=⟨j,rfl,by omega,by omega,q⟩
end
section
variable {J:It}{g:TG}{tb:TS}{nx:St->Hp->Prop}{rt:VK}{σ:St}{H:Hp}{K:PySem.W.Frag}{a:Addr}{xs:List V}{tc:TT}{te:TE}{R:Hp->Prop}{D:Addr}
abbrev ForG (J:It)(g:TG)(tb:TS)(nx:St->Hp->Prop)(rt:VK)(σ:St)(H:Hp):Prop:=∃W:Nat->Nat->St->Hp->Prop,(∃m,W 0 m σ H)/\∀i m σ H,W i m σ H->
  (J.stop i H/\nx σ H)\/(J.go i H/\∃N:St->Hp->Prop,(∀σ' H',N σ' H'->∃m',m'<m/\W (i+1) m' σ' H')/\∀x H',J.yld i H x H'->g x σ H' fun σ2 H2=>tb ⟨N,rt,nx,N⟩ σ2 H2)
theorem q2Z (n:Nat)(Pv:Nat->St->Hp->Prop)(h0:Pv 0 σ H)
  (go:∀i σ H,i<n->Pv i σ H->J.go i H/\∀x H',J.yld i H x H'->g x σ H' fun σ2 H2=>tb ⟨Pv (i+1),rt,nx,Pv (i+1)⟩ σ2 H2)(stop:∀σ H,Pv n σ H->J.stop n H/\nx σ H):ForG J g tb nx rt σ H:=by
 refine⟨fun i m σ H=>m=n - i/\i<=n/\Pv i σ H,⟨n,by simp,Nat.zero_le _,h0⟩,?_⟩
 rintro i m σ H ⟨rfl,hi,p⟩
 by_cases hlt:i<n
 ·obtain ⟨q1,q2⟩:=go i σ H hlt p
  exact .inr ⟨q1,Pv (i+1),fun σ' H' p'=>⟨n - (i+1),by omega,rfl,hlt,p'⟩,q2⟩
 ·have e:i=n:=by omega
  subst e
  exact .inl (stop σ H p)
theorem q9a {lo:Int}{n:Nat}(Pv:Nat->St->Hp->Prop)(h0:Pv 0 σ H)(go:∀i σ H,i<n->Pv i σ H->g (.int (lo+(i:Nat))) σ H fun σ2 H2=>tb ⟨Pv (i+1),rt,nx,Pv (i+1)⟩ σ2 H2)(stop:∀σ H,Pv n σ H->nx σ H):ForG (Itr lo n) g tb nx rt σ H:=
 q2Z n Pv h0 (fun i σ H hi p=>⟨hi,fun x H' ⟨e1,e2⟩=>by subst e1 e2;exact go i σ _ hi p⟩) fun σ H p=>⟨Nat.le_refl _,stop σ H p⟩
theorem q1Q (xs:List V)(Pv:Nat->St->Hp->Prop)(h0:Pv 0 σ H)(hl:∀i σ H,Pv i σ H->SqL K H a xs)(go:∀i x σ H,xs[i]? =some x->Pv i σ H->g x σ H fun σ2 H2=>tb ⟨Pv (i+1),rt,nx,Pv (i+1)⟩ σ2 H2)(stop:∀σ H,Pv xs.length σ H->nx σ H):ForG (Itl K a) g tb nx rt σ H:=
 q2Z xs.length Pv h0 (fun i σ H hi p=>⟨⟨xs,xs[i],hl i σ H p,by simp[hi]⟩,fun x H' ⟨e1,e2⟩=>by subst e1;exact go i x σ _ (e2 xs (hl i σ _ p)) p⟩) fun σ H p=>⟨⟨xs,hl _ σ H p,Nat.le_refl _⟩,stop σ H p⟩
theorem q99 (xs:List V)(Pv:Nat->St->Hp->Prop)(h0:Pv 0 σ H)(hl:∀i σ H,Pv i σ H->SqT K H a xs)(go:∀i x σ H,xs[i]? =some x->Pv i σ H->g x σ H fun σ2 H2=>tb ⟨Pv (i+1),rt,nx,Pv (i+1)⟩ σ2 H2)(stop:∀σ H,Pv xs.length σ H->nx σ H):ForG (Itt K a) g tb nx rt σ H:=
 q2Z xs.length Pv h0 (fun i σ H hi p=>⟨⟨xs,xs[i],hl i σ H p,by simp[hi]⟩,fun x H' ⟨e1,e2⟩=>by subst e1;exact go i x σ _ (e2 xs (hl i σ _ p)) p⟩) fun σ H p=>⟨⟨xs,hl _ σ H p,Nat.le_refl _⟩,stop σ H p⟩
theorem q9b {Sq:Hp->List V->Prop}(xs:List V)(Pv:Nat->St->Hp->Prop)(h0:Pv 0 σ H)(hl:∀i σ H,Pv i σ H->Sq H xs)(go:∀i x σ H T,xs[i]? =some x->Pv i σ H->H T=none->g (.ref T) σ (upd H T (.tup [.int (i:Nat),x])) fun σ2 H2=>tb ⟨Pv (i+1),rt,nx,Pv (i+1)⟩ σ2 H2)
  (stop:∀σ H,Pv xs.length σ H->nx σ H):ForG (Ite Sq) g tb nx rt σ H:=
 q2Z xs.length Pv h0 (fun i σ H hi p=>⟨⟨xs,xs[i],hl i σ H p,by simp[hi]⟩,fun x H' ⟨T,hT,e1,e2⟩=>by
  have hx:xs[i]? =some xs[i]:=by simp[hi]
  have e3:=e2 xs xs[i] (hl i σ _ p) hx
  subst e1 e3
  exact go i _ σ _ T hx p hT⟩) fun σ H p=>⟨⟨xs,hl _ σ H p,Nat.le_refl _⟩,stop σ H p⟩
abbrev qb9 (J:It)(g:TG)(tc:TT)(te:TE)(R:Hp->Prop)(D:Addr)(σ:St)(H:Hp):Prop:=∃W:Nat->Nat->St->Hp->Prop,(∃m,W 0 m σ H)/\∀i m σ H,W i m σ H->
   (J.stop i H/\R H)\/(J.go i H/\∃N:St->Hp->Prop,(∀σ' H',N σ' H'->∃m',m'<m/\W (i+1) m' σ' H')/\∀x H',J.yld i H x H'->g x σ H' fun σ3 H3=>tc σ3 H3 fun b H4=>
    if b=true then te σ3 H4 fun y H5=>∃ys,H5 D=some (.lst ys)/\ys.length<sizeLine/\N σ3 (upd H5 D (.lst (ys++[y]))) else N σ3 H4)
theorem q0K {lo:Int}{n:Nat}(Pv:Nat->St->Hp->Prop)(h0:Pv 0 σ H)(go:∀i σ H,i<n->Pv i σ H->g (.int (lo+(i:Nat))) σ H fun σ3 H3=>tc σ3 H3 fun b H4=>
   if b=true then te σ3 H4 fun y H5=>∃ys,H5 D=some (.lst ys)/\ys.length<sizeLine/\Pv (i+1) σ3 (upd H5 D (.lst (ys++[y]))) else Pv (i+1) σ3 H4)(stop:∀σ H,Pv n σ H->R H):qb9 (Itr lo n) g tc te R D σ H:=
 q3S n Pv h0 (fun i σ H hi p=>⟨hi,fun x H' ⟨e1,e2⟩=>by subst e1 e2;exact go i σ _ hi p⟩) fun σ H p=>⟨Nat.le_refl _,stop σ H p⟩
theorem q3r (xs:List V)(Pv:Nat->St->Hp->Prop)(h0:Pv 0 σ H)(hl:∀i σ H,Pv i σ H->SqL K H a xs)(go:∀i x σ H,xs[i]? =some x->Pv i σ H->g x σ H fun σ3 H3=>tc σ3 H3 fun b H4=>
   if b=true then te σ3 H4 fun y H5=>∃ys,H5 D=some (.lst ys)/\ys.length<sizeLine/\Pv (i+1) σ3 (upd H5 D (.lst (ys++[y]))) else Pv (i+1) σ3 H4)(stop:∀σ H,Pv xs.length σ H->R H):qb9 (Itl K a) g tc te R D σ H:=
 q3S xs.length Pv h0 (fun i σ H hi p=>⟨⟨xs,xs[i],hl i σ H p,by simp[hi]⟩,fun x H' ⟨e1,e2⟩=>by subst e1;exact go i x σ _ (e2 xs (hl i σ _ p)) p⟩) fun σ H p=>⟨⟨xs,hl _ σ H p,Nat.le_refl _⟩,stop σ H p⟩
theorem q78 (xs:List V)(Pv:Nat->St->Hp->Prop)(h0:Pv 0 σ H)(hl:∀i σ H,Pv i σ H->SqT K H a xs)(go:∀i x σ H,xs[i]? =some x->Pv i σ H->g x σ H fun σ3 H3=>tc σ3 H3 fun b H4=>
   if b=true then te σ3 H4 fun y H5=>∃ys,H5 D=some (.lst ys)/\ys.length<sizeLine/\Pv (i+1) σ3 (upd H5 D (.lst (ys++[y]))) else Pv (i+1) σ3 H4)(stop:∀σ H,Pv xs.length σ H->R H):qb9 (Itt K a) g tc te R D σ H:=
 q3S xs.length Pv h0 (fun i σ H hi p=>⟨⟨xs,xs[i],hl i σ H p,by simp[hi]⟩,fun x H' ⟨e1,e2⟩=>by subst e1;exact go i x σ _ (e2 xs (hl i σ _ p)) p⟩) fun σ H p=>⟨⟨xs,hl _ σ H p,Nat.le_refl _⟩,stop σ H p⟩
end
section
variable {X:Cx}{pos:Pos}{tg:Expr}{es:List Expr}{e o l:Expr}{ta te tl:TE}{t:TA}{K:PySem.W.Frag}
theorem q5J (K:PySem.W.Frag)(h:X.K=K:=by rfl):PGet X (rIxL K):=by subst h;exact qaT
theorem q09 (K:PySem.W.Frag)(hl:PE X l tl)(h:X.K=K:=by rfl):PI X tg l (qcW K tl):=by subst h;exact qcl hl
theorem q4w (K:PySem.W.Frag)(hl:PE X l tl)(h:X.K=K:=by rfl):PI X tg l (iTup K tl):=by subst h;exact pi_tup hl
theorem q8x {elts:List Expr}{k:Nat}{tp:Pos}{a:Expr}{p pos:Pos}(K:PySem.W.Frag)(hg:Gl X "enumerate")(hm:X.mg "enumerate"=none)(ha:PA X [a] t)(h:X.K=K:=by rfl)(hs:starEach [a] X.env=[(false,eval a X.env)]:=by rfl):PI X (.Tuple elts k tp) (.Call (.Name "enumerate" p) [a] [] pos) (q91 K t):=by subst h;exact qaj hg hm ha hs
theorem q8w {elts:List Expr}{k:Nat}{tp:Pos}{a:Expr}{p pos:Pos}(K:PySem.W.Frag)(hg:Gl X "enumerate")(hm:X.mg "enumerate"=none)(ha:PA X [a] t)(h:X.K=K:=by rfl)(hs:starEach [a] X.env=[(false,eval a X.env)]:=by rfl):PI X (.Tuple elts k tp) (.Call (.Name "enumerate" p) [a] [] pos) (q90 K t):=by subst h;exact qai hg hm ha hs
theorem qah {elts:List Expr}{k:Nat}{tp:Pos}{a b:Expr}{p pos:Pos}(K:PySem.W.Frag)(hg:Gl X "zip")(hm:X.mg "zip"=none)(ha:PA X [a,b] t)(h:X.K=K:=by rfl)(hs:starEach [a,b] X.env=[(false,eval a X.env),(false,eval b X.env)]:=by rfl)(hs2:starEach [b] X.env=[(false,eval b X.env)]:=by rfl):
  PI X (.Tuple elts k tp) (.Call (.Name "zip" p) [a,b] [] pos) (iZipT K t):=by subst h;exact qck hg hm ha hs hs2
theorem q9J (K:PySem.W.Frag)(hc:X.calm=true)(h:X.K=K:=by rfl):q24 X (.builtin "all") (rAll K):=by subst h;exact qb6 hc
theorem qM:1000000<sizeLine:=by decide
end
def q00 (H H':Hp):Prop:=∀p xs,H p=some (.tup xs)->H' p=some (.tup xs)
theorem q00.trans {H H1 H2:Hp}(a:q00 H H1)(b:q00 H1 H2):q00 H H2:=fun p xs h=>b p xs (a p xs h)
theorem Same.ts {H H':Hp}(s:Same H H'):q00 H H':=fun p _ h=>s p _ h
theorem q00.new {H:Hp}{a:Addr}{o:HO}(h:H a=none):q00 H (upd H a o):=(Same.upd h).ts
theorem q00.lst {H:Hp}{a:Addr}{ys:List V}{o:HO}(h:H a=some (.lst ys)):q00 H (upd H a o):=fun p xs e=>by rw[qi (q2U e h (by intro z;cases z))];exact e
end L2
namespace Ce
open PySem L2
def bit (x:Int)(t:Nat):Bool:=decide (x / 2 ^ t % 2=1)
def cnt (P:Nat->Bool):Nat->Nat
 |0=>0
 |n+1=>cnt P n+(if P n=true then 1 else 0)
theorem q3T {P R:Nat->Bool}:∀{n:Nat},(∀i,i<n->P i=R i)->cnt P n=cnt R n
 |0,_=>rfl
 |n+1,h=>by
  show cnt P n+_=cnt R n+_
  rw[q3T fun i hi=>h i (Nat.lt_succ_of_lt hi),h n (Nat.lt_succ_self n)]
theorem q9z {P:Nat->Bool}:∀{n:Nat},(∀i,i<n->P i=false)->cnt P n=0
 |0,_=>rfl
 |n+1,h=>by
  show cnt P n+_=0
  rw[q9z fun i hi=>h i (Nat.lt_succ_of_lt hi),h n (Nat.lt_succ_self n)]
  rfl
theorem q1W (w:Nat):(0:Int)<2 ^ w:=Int.pow_pos (by decide)
theorem q4P (t:Nat):bit 0 t=false:=by simp[bit]
theorem q9M {x:Int}{w t:Nat}(h0:0<=x)(h:x<2 ^ w)(ht:w<=t):bit x t=false:=by
 have h2:(2:Int) ^ w<=2 ^ t:=by
  have:(2:Int) ^ t=2 ^ w*2 ^ (t - w):=by rw[<-Int.pow_add];congr 1;omega
  rw[this]
  have:=q1W (t - w)
  have h3:=q1W w
  calc (2:Int) ^ w=2 ^ w*1:=by omega
   _<=2 ^ w*2 ^ (t - w):=Int.mul_le_mul_of_nonneg_left (by omega) (by omega)
 have:x / 2 ^ t=0:=Int.ediv_eq_zero_of_lt h0 (by omega)
 simp[bit,this]
theorem set_map {α:Type}(f:Nat->α)(n j:Nat)(v:α):((List.range n).map f).set j v=(List.range n).map fun k=>if k=j then v else f k:=by
 apply List.ext_getElem?
 intro i
 rw[List.getElem?_set]
 simp only[List.getElem?_map,List.length_map,List.length_range]
 by_cases h:j=i
 ·subst h
  by_cases hj:j<n
  ·simp [hj]
  ·simp [hj]
 ·have h':¬i=j:=fun e=>h e.symm
  by_cases hi:i<n
  ·simp [h,h',hi]
  ·simp [h,hi]
def dP (ds:Nat->Option Int)(op k:Int)(w:Nat):Bool:=decide (ds w=some k)&&bit op w
theorem qdc (ds:Nat->Option Int)(k:Int)(w:Nat):dP ds 0 k w=false:=by simp[dP,q4P]
theorem q07 (x:Int){n:Int}(h:0<n):0<=x % n:=Int.emod_nonneg _ (by omega)
theorem q0b (x:Int){n:Int}(h:0<n):x % n<n:=Int.emod_lt_of_pos _ h
theorem qcG (x:Int)(n:Nat)(h:0<n):∃j:Nat,j<n/\x % (n:Int)=(j:Int):=⟨(x % n).toNat,by have:=q07 x (n:=n) (by omega);have:=q0b x (n:=n) (by omega);omega,by have:=q07 x (n:=n) (by omega);omega⟩
theorem q7L (x:Int)(t:Nat):decide (Builtin.bitAnd (x / 2 ^ t) 1=1)=bit x t:=by
 unfold bit
 rw[PyProof.Rows.bitAnd_m1]
inductive Gt where
 |plain|door (k:Int)|need (k:Int)|bar (b:Int)|wade (h k:Int)|float (h:Int)
def Gt.vs:Gt->List V
 | .plain=>[.str "plain"]
 | .door k=>[.str "door",.int k]
 | .need k=>[.str "need",.int k]
 | .bar b=>[.str "bar",.int b]
 | .wade h k=>[.str "wade",.int h,.int k]
 | .float h=>[.str "float",.int h]
def Gt.ok:Gt->Prop
 | .plain=>True
 | .door k=>0<=k/\k<12
 | .need k=>0<=k/\k<12
 | .bar b=>0<=b/\b<8
 | .wade h k=>(0<=h/\h<10)/\0<=k/\k<12
 | .float h=>0<=h/\h<10
def Gt.dk:Gt->Option Int
 | .door k=>some k
 |_=>none
def Gt.word:Gt->Str
 | .plain=>"plain"
 | .door _=>"door"
 | .need _=>"need"
 | .bar _=>"bar"
 | .wade _ _=>"wade"
 | .float _=>"float"
def Gt.ns:Gt->List Int
 | .plain=>[]
 | .door k=>[k]
 | .need k=>[k]
 | .bar b=>[b]
 | .wade h k=>[h,k]
 | .float h=>[h]
theorem Gt.vs_eq (g:Gt):g.vs= .str g.word::g.ns.map V.int:=by cases g<;>rfl
theorem Gt.ns_len (g:Gt):g.ns.length<=2:=by cases g<;>simp[Gt.ns]
theorem q9Z:("need":Str)≠"door":=by decide +kernel
theorem qbT:("bar":Str)≠"door":=by decide +kernel
theorem q83:("float":Str)≠"door":=by decide +kernel
theorem q82:("plain":Str)≠"door":=by decide +kernel
theorem q9Y:("wade":Str)≠"door":=by decide +kernel
theorem q4W (g:Gt):decide (g.word="door")=g.dk.isSome:=by
 cases g with
 |plain=>exact decide_eq_false q82
 |door k=>exact decide_eq_true rfl
 |need k=>exact decide_eq_false q9Z
 |bar k=>exact decide_eq_false qbT
 |wade h k=>exact decide_eq_false q9Y
 |float k=>exact decide_eq_false q83
theorem q9l {g:Gt}(h:g.word="door"):∃k,g= .door k:=by
 have:=q4W g
 rw[h] at this
 cases g with
 |door k=>exact⟨k,rfl⟩
 |_=>simp[Gt.dk] at this
structure Way where
 a:Int
 b:Int
 g:Gt
 back:Bool
structure Cl where
 rooms:Int
 fst:Int
 lst:Int
 ways:List Way
 things:List (Int×Int)
 levers:List (Int×Int)
 wheels:List (Int×Int)
 bars:Int
 water:Int
structure ClOk (C:Cl):Prop where
 r1:1<=C.rooms
 r2:C.rooms<=14
 f:0<=C.fst/\C.fst<C.rooms
 l:0<=C.lst/\C.lst<C.rooms
 wl:C.ways.length<=20
 tl:C.things.length<=8
 ll:C.levers.length<=4
 vl:C.wheels.length<=4
 w:∀x∈C.ways,(0<=x.a/\x.a<C.rooms)/\(0<=x.b/\x.b<C.rooms)/\x.a≠x.b/\x.g.ok
 t:∀x∈C.things,(0<=x.1/\x.1<C.rooms)/\0<=x.2/\x.2<12
 lv:∀x∈C.levers,(0<=x.1/\x.1<C.rooms)/\1<=x.2/\x.2<=255
 wh:∀x∈C.wheels,(0<=x.1/\x.1<C.rooms)/\0<=x.2/\x.2<=9
 b:0<=C.bars/\C.bars<=255
 wa:0<=C.water/\C.water<=9
def q1b (H:Hp)(p:Addr)(x:Int×Int):Prop:=H p=some (.tup [.int x.1,.int x.2])
def q4S (H:Hp)(p:Addr)(x:Way):Prop:=∃g,H p=some (.tup [.int x.a,.int x.b,.ref g,.bl x.back])/\H g=some (.tup x.g.vs)
def Rows {α:Type}(At:Hp->Addr->α->Prop)(H:Hp)(ps:List Addr)(xs:List α):Prop:=ps.length=xs.length/\∀(i:Nat) (p:Addr) (x:α),ps[i]? =some p->xs[i]? =some x->At H p x
def q4T {α:Type}(At:Hp->Addr->α->Prop)(H:Hp)(q:Addr)(xs:List α):Prop:=∃ps,H q=some (.tup (ps.map V.ref))/\Rows At H ps xs
def qJ {α:Type}(At:Hp->Addr->α->Prop)(H:Hp)(q:Addr)(xs:List α):Prop:=∃ps,H q=some (.lst (ps.map V.ref))/\Rows At H ps xs
section
variable {α:Type}{At:Hp->Addr->α->Prop}{H H':Hp}{ps:List Addr}{xs:List α}{p q:Addr}{x:α}
theorem q1b.mono (s:q00 H H'){p:Addr}{x:Int×Int}(h:q1b H p x):q1b H' p x:=s _ _ h
theorem q4S.mono (s:q00 H H'){p:Addr}{x:Way}(h:q4S H p x):q4S H' p x:=let ⟨g,h1,h2⟩:=h;⟨g,s _ _ h1,s _ _ h2⟩
theorem Rows.mono (m:∀p x,At H p x->At H' p x)(h:Rows At H ps xs):Rows At H' ps xs:=⟨h.1,fun i p x h1 h2=>m p x (h.2 i p x h1 h2)⟩
theorem Rows.nil:Rows At H [] []:=⟨rfl,fun i p x h _=>by simp at h⟩
theorem Rows.snoc (h:Rows At H ps xs)(hx:At H p x):Rows At H (ps++[p]) (xs++[x]):=by
 refine⟨by simp[h.1],fun i q y h1 h2=>?_⟩
 by_cases hi:i<ps.length
 ·rw [List.getElem?_append_left hi] at h1
  rw[List.getElem?_append_left (by rw[<-h.1];exact hi)] at h2
  exact h.2 i q y h1 h2
 ·have e:i=ps.length:=by
   have:=(List.getElem?_eq_some_iff.mp h1).1
   simp at this
   omega
  subst e
  rw[List.getElem?_append_right (Nat.le_refl _)] at h1
  rw[List.getElem?_append_right (by rw[h.1];exact Nat.le_refl _),<-h.1] at h2
  simp at h1 h2
  rw[<-h1,<-h2]
  exact hx
theorem Rows.get (h:Rows At H ps xs){i:Nat}(hi:i<xs.length):∃p,(ps.map V.ref)[i]? =some (.ref p)/\At H p xs[i]:=by
 have hp:i<ps.length:=by rw[h.1];exact hi
 exact⟨ps[i],by simp[hp],h.2 i _ _ (by simp[hp]) (by simp[hi])⟩
theorem q4T.mono (s:q00 H H')(m:∀p x,At H p x->At H' p x)(h:q4T At H q xs):q4T At H' q xs:=let ⟨ps,h1,h2⟩:=h;⟨ps,s _ _ h1,h2.mono m⟩
theorem q4T.get (h:q4T At H q xs):∃vs,H q=some (.tup vs)/\vs.length=xs.length/\∀i (hi:i<xs.length),∃p,vs[i]? =some (.ref p)/\At H p xs[i]:=by
 obtain⟨ps,h1,h2⟩:=h
 exact⟨_,h1,by simp[h2.1],fun i hi=>h2.get hi⟩
end
structure ClAt (H:Hp)(c:Addr)(C:Cl):Prop where
 ex:∃w t l v,H c=some (.tup [.int C.rooms,.int C.fst,.int C.lst,.ref w,.ref t,.ref l,.ref v,.int C.bars,.int C.water])/\q4T q4S H w C.ways/\q4T q1b H t C.things/\q4T q1b H l C.levers/\q4T q1b H v C.wheels
theorem ClAt.mono {H H':Hp}(s:q00 H H'){c:Addr}{C:Cl}(h:ClAt H c C):ClAt H' c C:=by
 obtain⟨w,t,l,v,h0,h1,h2,h3,h4⟩:=h.ex
 exact⟨w,t,l,v,s _ _ h0,h1.mono s (fun _ _=>q4S.mono s),h2.mono s (fun _ _=>q1b.mono s),h3.mono s (fun _ _=>q1b.mono s),h4.mono s (fun _ _=>q1b.mono s)⟩
def tP (C:Cl)(tk k:Int)(t:Nat):Bool:=decide ((C.things.getD t (0,0)).2=k)&&bit tk t
def dsOf (C:Cl)(w:Nat):Option Int:=(C.ways[w]?).bind fun x=>x.g.dk
def hold (C:Cl)(tk op k:Int):Int:=(cnt (tP C tk k) C.things.length:Int) - (cnt (dP (dsOf C) op k) C.ways.length:Int)
def cl (f:Int->Int):List V:=(List.range 12).map fun k:Nat=>V.int (f k)
theorem q92 (C:Cl)(k:Int):hold C 0 0 k=0:=by
 unfold hold
 rw[q9z fun i _=>by simp[tP,q4P],q9z fun i _=>qdc _ _ _]
 rfl
theorem cl_len (f:Int->Int):(cl f).length=12:=by simp[cl]
theorem q9D {f:Int->Int}{k:Int}(h0:0<=k)(h1:k<12):atI (cl f) k=some (.int (f k)):=by
 obtain⟨j,rfl⟩:∃j:Nat,k=(j:Int):=⟨k.toNat,by omega⟩
 exact q0R (by simp[cl,show j<12 by omega])
theorem cl_ix {f:Int->Int}{k:Int}(h0:0<=k)(h1:k<12):ixN (cl f).length k=some k.toNat:=by
 rw[cl_len]
 unfold ixN
 rw[if_pos h0,if_pos (by omega)]
theorem qbD {f:Int->Int}{k v:Int}(h0:0<=k)(h1:k<12):(cl f).set k.toNat (.int v)=cl fun j=>if j=k then v else f j:=by
 unfold cl
 rw[set_map]
 refine List.map_congr_left fun j _=>?_
 by_cases e:(j:Int)=k
 ·rw [if_pos (by omega)]
  show _=V.int (if (j:Int)=k then v else f j)
  rw[if_pos e]
 ·rw [if_neg (by omega)]
  show _=V.int (if (j:Int)=k then v else f j)
  rw[if_neg e]
theorem q2L {f g:Int->Int}(h:∀k,0<=k->k<12->f k=g k):cl f=cl g:=by
 unfold cl
 refine List.map_congr_left fun j hj=>?_
 rw[List.mem_range] at hj
 rw[h j (by omega) (by omega)]
structure StOk (C:Cl)(rm tk op b wt:Int):Prop where
 hrm:0<=rm/\rm<C.rooms
 htk:0<=tk/\tk<2 ^ C.things.length
 hop:0<=op/\op<2 ^ C.ways.length
 dr:∀i,i<C.ways.length->bit op i=true->(dsOf C i).isSome=true
 hb:0<=b/\b<=255
 hwt:0<=wt/\wt<=9
 held:∀k,0<=k->k<12->0<=hold C tk op k
end Ce
namespace L2
open PySem PySem.Spec PyProof.Rows
section
variable {H:Hp}{Q:VK}{K:PySem.W.Frag}{σ:St}
theorem qca {r r':R2}{ta tb tc:TE}(q:ta σ H fun x H1=>tb σ H1 fun y H2=>r x y H2 fun z H3=>∃k,z= .bl k/\(if k=true then tc σ H3 fun w' H4=>r' y w' H4 Q else Q (.bl false) H3)):qbe r r' ta tb tc σ H Q:=q
end
end L2
namespace Ce
open PySem L2
theorem q1D {x:Int}(h:0<=x)(t:Nat):bit x t=x.toNat.testBit t:=by
 unfold bit
 rw[Nat.testBit_eq_decide_div_mod_eq]
 obtain⟨n,rfl⟩:∃n:Nat,x=(n:Int):=⟨x.toNat,by omega⟩
 rw[Int.toNat_natCast]
 congr 1
 have e:((n:Int) / 2 ^ t % 2=1)=((((n / 2 ^ t % 2:Nat):Int))=((1:Nat):Int)):=by
  rw[Int.natCast_emod,Int.natCast_ediv,Int.natCast_pow]
  rfl
 rw[e,Int.natCast_inj]
theorem qa0 {C:Cl}(ok:ClOk C):StOk C C.fst 0 0 C.bars C.water:=
 ⟨ok.f,⟨by decide,q1W _⟩,⟨by decide,q1W _⟩,fun i _ hb=>(by rw[q4P] at hb;cases hb),ok.b,ok.wa,fun k _ _=>(by rw[q92];exact Int.le_refl 0)⟩
end Ce
namespace L2
open PySem PySem.Spec PyProof.Rows
structure LaidM (K:PySem.W.Frag)(C:Addr)(m qual:Str)(st:Stmt)(ps:List Str):Prop where
 ex:∃f fd,Fun K m qual st f fd/\Meth K C m f/\q25 K fd ps []
structure LaidI (K:PySem.W.Frag)(mg:Str->Option Value)(x:Str)(C:Addr)(qual:Str)(st:Stmt)(ps:List Str):Prop where
 ex:∃f fd,Fun K "__init__" qual st f fd/\Mk K C f/\q25 K fd ps []
 at_:mg x=some (.ref C)
structure LaidC (K:PySem.W.Frag)(mg:Str->Option Value)(x m qual:Str)(st:Stmt)(ps:List Str):Prop where
 ex:∃C f fd,mg x=some (.ref C)/\Fun K m qual st f fd/\CMeth K C m f/\q25 K fd ps []
section
variable {P:Program}{w:World}{K:PySem.W.Frag}{mg:Str->Option Value}{base:Heap}
theorem LaidM.vm {C:Addr}{m qual:Str}{st:Stmt}{N ps:List Str}{k:Nat}{sp:Sp}(L:LaidM K C m qual st ps)(cl:Cls K C)(S:FnScope N ps (qd st))(len:∀vs H Q E,sp vs H Q E->vs.length=ps.length)
  (hbody:∀(f:Addr) (cdv:Value) (A:Around) (outer:List Env) (s:Shared) (H:Hp) (vs:List V) (Q:VK) (E:XK),Room k (A.deeper (envOfC qual (qd st) s.heap.objs.size f cdv))->sp vs H Q E->
   ∃t,PSs (cxOf CX0 P w K mg base N qual (qd st) f cdv A outer s H E).nox (qK st) t/\t {nx:=fun _ H'=>Q .non H',rt:=Q} (start N vs) H):VMeth P w K mg base (k+1) C m ps sp:=by
 obtain⟨f,fd,F,hm,b⟩:=L.ex
 exact⟨cl,f,fd,hm,F.ok S len (fun cdv A outer s H vs Q E hr h=>hbody f cdv A outer s H vs Q E hr h),b⟩
theorem LaidI.makes {x:Str}{C:Addr}{qual:Str}{st:Stmt}{N ps:List Str}{k:Nat}{sp:Sp}(L:LaidI K mg x C qual st ps)(S:FnScope N ps (qd st))(len:∀vs H Q E,sp vs H Q E->vs.length=ps.length)
  (hbody:∀(f:Addr) (cdv:Value) (A:Around) (outer:List Env) (s:Shared) (H:Hp) (vs:List V) (Q:VK) (E:XK),Room k (A.deeper (envOfC qual (qd st) s.heap.objs.size f cdv))->sp vs H Q E->
   ∃t,PSs (cxOf CX0 P w K mg base N qual (qd st) f cdv A outer s H E).nox (qK st) t/\t {nx:=fun _ H'=>Q .non H',rt:=Q} (start N vs) H):Makes P w K mg base (k+1) x C ps sp:=by
 obtain⟨f,fd,F,M,b⟩:=L.ex
 exact⟨⟨f,fd,M,F.ok S len (fun cdv A outer s H vs Q E hr h=>hbody f cdv A outer s H vs Q E hr h),b⟩,L.at_⟩
theorem LaidC.cc {x m qual:Str}{st:Stmt}{N ps:List Str}{k:Nat}{sp:Sp}(L:LaidC K mg x m qual st ps)(S:FnScope N ps (qd st))(len:∀vs H Q E,sp vs H Q E->vs.length=ps.length)
  (hbody:∀(f:Addr) (cdv:Value) (A:Around) (outer:List Env) (s:Shared) (H:Hp) (vs:List V) (Q:VK) (E:XK),Room k (A.deeper (envOfC qual (qd st) s.heap.objs.size f cdv))->sp vs H Q E->
   ∃t,PSs (cxOf CX0 P w K mg base N qual (qd st) f cdv A outer s H E).nox (qK st) t/\t {nx:=fun _ H'=>Q .non H',rt:=Q} (start N vs) H):CCal P w K mg base (k+1) x m ps sp:=by
 obtain⟨C,f,fd,hm,F,cm,b⟩:=L.ex
 exact⟨C,f,fd,hm,cm,F.ok S len (fun cdv A outer s H vs Q E hr h=>hbody f cdv A outer s H vs Q E hr h),b⟩
end
def rFld (K:PySem.W.Frag)(f:Str)(x:V)(H:Hp)(Q:VK):Prop:=∃a C dx fs v,x= .ref a/\H a=some (.ins C dx fs)/\Cls K C/\qz K C f/\fs.lookup f=some v/\Q v H
def rSetF (K:PySem.W.Frag)(f:Str)(x y:V)(H:Hp)(R:Hp->Prop):Prop:=∃a C dx fs,x= .ref a/\H a=some (.ins C dx fs)/\Cls K C/\qz K C f/\fs.length<1000/\R (upd H a (.ins C dx (putF f y fs)))
def rVM (P:Program)(w:World)(K:PySem.W.Frag)(mg:Str->Option Value)(base:Heap)(k:Nat)(m:Str)(σ:St)(t:TA)(x:V)(H:Hp)(Q:VK):Prop:=∃a C dx fs ps sp,x= .ref a/\H a=some (.ins C dx fs)/\VMeth P w K mg base k C m ps sp/\fs.lookup m=none/\t σ H fun vs H2=>sp (x::vs) H2 Q E0
section
variable {σ:St}{H:Hp}{Q:VK}{K:PySem.W.Frag}{ta tv:TE}{t:TA}{f m:Str}{nx bk ct:St->Hp->Prop}{rt:VK}{P:Program}{w:World}{mg:Str->Option Value}{base:Heap}{k:Nat}
theorem r_fld0 (q:ta σ H fun x H1=>rFld K f x H1 Q):tFld K ta f σ H Q:=q
theorem qc6 (q:tv σ H fun y H1=>ta σ H1 fun x H2=>rSetF K f x y H2 fun H3=>nx σ H3):sFld K ta tv f ⟨nx,rt,bk,ct⟩ σ H:=q
theorem r_vm0 (q:ta σ H fun x H1=>rVM P w K mg base k m σ t x H1 Q):tVM P w K mg base k m ta t σ H Q:=q
theorem q18 {a C dx:Addr}{fs:List (Str×V)}{v:V}(h:H a=some (.ins C dx fs))(c:Cls K C)(n:qz K C f)(l:fs.lookup f=some v)(q:Q v H):rFld K f (.ref a) H Q:=⟨a,C,dx,fs,v,rfl,h,c,n,l,q⟩
theorem q2a {a C dx:Addr}{fs:List (Str×V)}{y:V}{R:Hp->Prop}(h:H a=some (.ins C dx fs))(c:Cls K C)(n:qz K C f)(l:fs.length<1000)(q:R (upd H a (.ins C dx (putF f y fs)))):rSetF K f (.ref a) y H R:=⟨a,C,dx,fs,rfl,h,c,n,l,q⟩
theorem r_vm {a C dx:Addr}{fs:List (Str×V)}{ps:List Str}{sp:Sp}(h:H a=some (.ins C dx fs))(v:VMeth P w K mg base k C m ps sp)(l:fs.lookup m=none)(q:t σ H fun vs H2=>sp (.ref a::vs) H2 Q E0):rVM P w K mg base k m σ t (.ref a) H Q:=⟨a,C,dx,fs,ps,sp,rfl,h,v,l,q⟩
theorem r_make {C:Addr}{sp:Sp}{E:XK}(q:t σ H fun vs H1=>∀x dx,H1 x=none->H1 dx=none->dx≠x->sp (.ref x::(vs++[])) (upd (upd H1 dx (.own x)) x (.ins C dx [])) (fun v H2=>v= .non/\Q (.ref x) H2) E):q7Z C sp [] E t σ H Q:=q
end
section
variable {X:Cx}
theorem q15 {o value:Expr}{ta tv:TE}{f:Str}{pos pos':Pos}(K:PySem.W.Frag)(ha:PE X o ta)(hv:PE X value tv)(hs:swapsWith value (some (.Attribute o f pos')) pos.line X.env=pure false)(hK:X.K=K:=by rfl):PS X (.Assign [.Attribute o f pos'] value pos) (sFld K ta tv f):=by subst hK;exact ps_fld ha hv hs
end
end L2
namespace L2
open PySem PySem.Spec PyProof.Rows
inductive Deq (K:PySem.W.Frag)(H:Hp):Nat->V->V->Bool->Prop where
 |flat {n:Nat} {x y:V} (fx:q2l x=true) (fy:q2l y=true):Deq K H n x y (eqV x y)
 |same {n:Nat} (a:Addr):Deq K H n (.ref a) (.ref a) true
 | tup {n:Nat} {a b:Addr} {xs ys:List V} {e:Nat->Bool} (hne:a≠b) (ha:SqT K H a xs) (hb:SqT K H b ys) (h:∀j,j<xs.length->j<ys.length->Deq K H n (xs.getD j .non) (ys.getD j .non) (e j)):
   Deq K H (n+1) (.ref a) (.ref b) ((List.range (min xs.length ys.length)).all e&&xs.length==ys.length)
 | lst {n:Nat} {a b:Addr} {xs ys:List V} {e:Nat->Bool} (hne:a≠b) (ha:SqL K H a xs) (hb:SqL K H b ys) (hl:xs.length=ys.length) (h:∀j,j<xs.length->j<ys.length->Deq K H n (xs.getD j .non) (ys.getD j .non) (e j)):
   Deq K H (n+1) (.ref a) (.ref b) ((List.range xs.length).all e)
 |lstn {n:Nat} {a b:Addr} {xs ys:List V} (hne:a≠b) (ha:SqL K H a xs) (hb:SqL K H b ys) (hl:xs.length≠ys.length):Deq K H (n+1) (.ref a) (.ref b) false
section
variable {X:Cx}{pins:List (Addr×Obj)}{σ:St}{H:Hp}{s:Shared}
theorem q74 (I:Inv X pins σ H s){n:Nat}{x y:V}{b:Bool}(d:Deq X.K H n x y b):∀{A:Around} {u v:Value},A.units+n<cLine->RelV x u->RelV y v->SeqAt.EqAt A s u v b:=by
 induction d with
 |flat fx fy=>intro A u v _ rx ry;exact q9h rx ry fx fy
 |same a=>intro A u v _ rx ry;cases rx;cases ry;exact SeqAt.EqAt.same _
 | @tup n a b xs ys e hne ha hb h ih=>
  intro A u v hu rx ry
  cases rx
  cases ry
  obtain⟨ia,ra,pa,_⟩:=I.tuple ha
  obtain⟨ib,rb,pb,_⟩:=I.tuple hb
  have la:=ra.length
  have lb:=rb.length
  refine SeqAt.EqAt.of_refs hne ?_
  have q:=SeqAt.RcAt.tuples (A:=A) (e:=e) (show s.heap.IsTuple a ia.toArray from pa) (show s.heap.IsTuple b ib.toArray from pb) (by omega) (fun j h1 h2=>ih j (by simpa[la] using h1) (by simpa[lb] using h2) (by show A.units+1+n<cLine;omega) (q0j ra h1) (q0j rb h2))
  simpa[la,lb] using q
 | @lst n a b xs ys e hne ha hb hl h ih=>
  intro A u v hu rx ry
  cases rx
  cases ry
  obtain⟨ia,ra,pa,_⟩:=I.list ha
  obtain⟨ib,rb,pb,_⟩:=I.list hb
  have la:=ra.length
  have lb:=rb.length
  refine SeqAt.EqAt.of_refs hne ?_
  have q:=SeqAt.RcAt.lists (A:=A) (e:=e) pa.isList pb.isList (by simp;omega) (by omega) (fun j h1 h2=>ih j (by simpa[la] using h1) (by simpa[lb] using h2) (by show A.units+1+n<cLine;omega) (q0j ra h1) (q0j rb h2))
  simpa[la] using q
 | @lstn n a b xs ys hne ha hb hl=>
  intro A u v hu rx ry
  cases rx
  cases ry
  obtain⟨ia,ra,pa,_⟩:=I.list ha
  obtain⟨ib,rb,pb,_⟩:=I.list hb
  have la:=ra.length
  have lb:=rb.length
  exact SeqAt.EqAt.of_refs hne (SeqAt.RcAt.lists_lengths pa.isList pb.isList (by simp;omega) (by omega))
end
def rEqD (K:PySem.W.Frag)(n:Nat):R2:=fun x y H Q=>
 (∃p q xs ys e,x= .ref p/\y= .ref q/\SqT K H p xs/\SqT K H q ys/\(∀j,j<xs.length->j<ys.length->Deq K H n (xs.getD j .non) (ys.getD j .non) (e j))/\Q (.bl ((List.range (min xs.length ys.length)).all e&&xs.length==ys.length)) H)\/
 (∃p q xs ys e,x= .ref p/\y= .ref q/\SqL K H p xs/\SqL K H q ys/\xs.length=ys.length/\(∀j,j<xs.length->j<ys.length->Deq K H n (xs.getD j .non) (ys.getD j .non) (e j))/\Q (.bl ((List.range xs.length).all e)) H)\/
 (∃p q xs ys,x= .ref p/\y= .ref q/\SqL K H p xs/\SqL K H q ys/\xs.length≠ys.length/\Q (.bl false) H)
def rNeD (K:PySem.W.Frag)(n:Nat):R2:=fun x y H Q=>
 (∃p q xs ys e,x= .ref p/\y= .ref q/\SqL K H p xs/\SqL K H q ys/\xs.length=ys.length/\(∀j,j<xs.length->j<ys.length->Deq K H n (xs.getD j .non) (ys.getD j .non) (e j))/\Q (.bl (!(List.range xs.length).all e)) H)\/
 (∃p q xs ys,x= .ref p/\y= .ref q/\SqL K H p xs/\SqL K H q ys/\xs.length≠ys.length/\Q (.bl true) H)
section
variable {X:Cx}
theorem op_eqD (K:PySem.W.Frag)(n:Nat)(hu:X.A.units+n+1<cLine)(hK:X.K=K:=by rfl):OpR X (compareOp .Eq) (rEqD K n):=by
 subst hK
 intro pins s σ H x y v u Q I rx ry h
 rcases h with⟨p,q,xs,ys,e,rfl,rfl,hp,hq,hd,k⟩|⟨p,q,xs,ys,e,rfl,rfl,hp,hq,hl,hd,k⟩|⟨p,q,xs,ys,rfl,rfl,hp,hq,hl,k⟩
 ·cases rx
  cases ry
  obtain⟨ia,ra,pa,_⟩:=I.tuple hp
  obtain⟨ib,rb,pb,_⟩:=I.tuple hq
  have la:=ra.length
  have lb:=rb.length
  refine SeqAt.eq_tupleAt (e:=e) (show s.heap.IsTuple p ia.toArray from pa) (show s.heap.IsTuple q ib.toArray from pb) (by omega) (fun j h1 h2=>q74 I (hd j (by simpa[la] using h1) (by simpa[lb] using h2)) (by show X.A.units+1+n<cLine;omega) (q0j ra h1) (q0j rb h2)) ⟨.bl _,H,I,?_,k⟩
  show Value.bool _=Value.bool _
  simp[la,lb]
 ·cases rx
  cases ry
  obtain⟨ia,ra,pa,_⟩:=I.list hp
  obtain⟨ib,rb,pb,_⟩:=I.list hq
  have la:=ra.length
  have lb:=rb.length
  refine SeqAt.eq_listAt (e:=e) pa.isList pb.isList (by simp;omega) (by omega) (fun j h1 h2=>q74 I (hd j (by simpa[la] using h1) (by simpa[lb] using h2)) (by show X.A.units+1+n<cLine;omega) (q0j ra h1) (q0j rb h2)) ⟨.bl _,H,I,?_,k⟩
  show Value.bool _=Value.bool _
  simp[la]
 ·cases rx
  cases ry
  obtain⟨ia,ra,pa,_⟩:=I.list hp
  obtain⟨ib,rb,pb,_⟩:=I.list hq
  have la:=ra.length
  have lb:=rb.length
  exact SeqAt.eq_list_lengthsAt pa.isList pb.isList (by simp;omega) (by omega) ⟨.bl false,H,I,rfl,k⟩
theorem op_neD (K:PySem.W.Frag)(n:Nat)(hu:X.A.units+n+1<cLine)(hK:X.K=K:=by rfl):OpR X (compareOp .NotEq) (rNeD K n):=by
 subst hK
 intro pins s σ H x y v u Q I rx ry h
 rcases h with⟨p,q,xs,ys,e,rfl,rfl,hp,hq,hl,hd,k⟩|⟨p,q,xs,ys,rfl,rfl,hp,hq,hl,k⟩
 ·cases rx
  cases ry
  obtain⟨ia,ra,pa,_⟩:=I.list hp
  obtain⟨ib,rb,pb,_⟩:=I.list hq
  have la:=ra.length
  have lb:=rb.length
  refine SeqAt.RcNeAt.lists (e:=e) pa.isList pb.isList (by simp;omega) (by omega) (fun j h1 h2=>q74 I (hd j (by simpa[la] using h1) (by simpa[lb] using h2)) (by show X.A.units+1+n<cLine;omega) (q0j ra h1) (q0j rb h2)) _ _ _ _ ⟨.bl _,H,I,?_,k⟩
  show Value.bool _=Value.bool _
  simp[la]
 ·cases rx
  cases ry
  obtain⟨ia,ra,pa,_⟩:=I.list hp
  obtain⟨ib,rb,pb,_⟩:=I.list hq
  have la:=ra.length
  have lb:=rb.length
  exact SeqAt.RcNeAt.lists_lengths pa.isList pb.isList (by simp;omega) (by omega) _ _ _ _ ⟨.bl true,H,I,rfl,k⟩
end
def tFs (ta tb:TE):TE:=fun σ H Q=>ta σ H fun x H1=>∃z1:Str,x= .str z1/\z1.length<=sizeLine/\tb σ H1 fun y H2=>∃z2:Str,y= .str z2/\z1.length+z2.length<=sizeLine/\∀z:Str,z.length=z1.length+z2.length->Q (.str z) H2
def tFv (te:TE):TE:=fun σ H Q=>te σ H fun x H1=>∃z:Str,x= .str z/\z.length<=sizeLine/\Q (.str z) H1
section
variable {X:Cx}{a b e:Expr}{ta tb te:TE}{pos:Pos}
theorem pe_fv (he:PE X e te):PE X (.FormattedValue e (-1) none pos) (tFv te):=by
 intro pins s σ H Q I h
 refine FormattedValue_plain (thn (he pins s σ H _ I h) fun v s1 ⟨x,H1,I1,rx,z,ez,hz,q⟩=>?_)
 subst ez
 obtain⟨t,rfl⟩:=rx
 exact formatField_str (fun t' tk=>⟨.str z,H1,I1.tok _,⟨_,rfl⟩,q⟩) hz
theorem q8Q (x y:Str):(x++y).length=x.length+y.length:=strLen_append x y
theorem pe_fs (ha:PE X a ta)(hb:PE X b tb)(he:evalEach [a,b] X.env=[eval a X.env,eval b X.env]:=by rfl):PE X (.JoinedStr [a,b] pos) (tFs ta tb):=by
 intro pins s σ H Q I h
 refine JoinedStr_many (joinParts_cons (thn (ha pins s σ H _ I h) fun v s1 ⟨x,H1,I1,rx,z1,e1,hz1,q⟩=>?_))
 subst e1
 obtain⟨t,rfl⟩:=rx
 have el:(Str.empty++z1).length=z1.length:=by rw[q8Q];simp[Str.empty,Str.length]
 refine⟨by rw[el];exact hz1,?_⟩
 refine joinParts_cons (thn (hb pins s1 σ H1 _ I1 q) fun v s2 ⟨y,H2,I2,ry,z2,e2,hz2,q2⟩=>?_)
 subst e2
 obtain⟨t',rfl⟩:=ry
 have el2:(Str.empty++z1++z2).length=z1.length+z2.length:=by rw[q8Q,el]
 refine⟨by rw[el2];exact hz2,?_⟩
 exact joinParts_nil ⟨.str _,H2,I2.tok _,⟨_,rfl⟩,q2 _ el2⟩ (by rw[el2];exact hz2)
end
section
variable {σ:St}{H:Hp}{Q:VK}{ta tb te:TE}
theorem r_fv (q:te σ H fun x H1=>∃z:Str,x= .str z/\z.length<=sizeLine/\Q (.str z) H1):tFv te σ H Q:=q
theorem r_fs (q:ta σ H fun x H1=>∃z1:Str,x= .str z1/\z1.length<=sizeLine/\tb σ H1 fun y H2=>∃z2:Str,y= .str z2/\z1.length+z2.length<=sizeLine/\∀z:Str,z.length=z1.length+z2.length->Q (.str z) H2):tFs ta tb σ H Q:=q
end
end L2
namespace L2
open PySem PySem.Spec PyProof.Rows
structure FunD (K:PySem.W.Frag)(x:Str)(st:Stmt)(ds:List Value)(f:Addr)(fd:FuncData):Prop where
 ex:∃(T:Addr) (o:Obj) (n:Nat) (oc:Value) (od:Option Addr) (kV doc pm:Value) (an:Option Addr) (cdv ct:Value) (osl:Array (Option Value)),
  fd=PySem.W.fnOf x x (qZ st) (qK st) (qd st) (.ref T) kV doc pm an cdv ct/\K.lookup f=some ⟨oc,od,.func fd,osl⟩/\PySem.W.codeIn K cdv x=true/\K.lookup T=some o/\o.data= .seq ds.toArray n
 kp:PySem.W.keepIn K (.ref f)=true
structure LaidD (K:PySem.W.Frag)(mg:Str->Option Value)(x:Str)(st:Stmt)(ds:List Value):Prop where
 ex:∃f fd,FunD K x st ds f fd/\mg x=some (.ref f)
structure CalD (P:Program)(w:World)(K:PySem.W.Frag)(mg:Str->Option Value)(base:Heap)(k:Nat)(x:Str)(ps:List Str)(sp:Sp)(st:Stmt)(ds:List Value):Prop where
 ex:∃f fd,FnOk P w K mg base CX0 k f fd ps sp/\mg x=some (.ref f)/\FunD K x st ds f fd
def BnD (x:Str)(st:Stmt)(ds:List Value)(args:Args)(binds:List (Str×Value)):Prop:=
 ∀(T:Addr) (kV doc pm:Value) (an:Option Addr) (cdv ct:Value),∃k,bindArgs (PySem.W.fnOf x x (qZ st) (qK st) (qd st) (.ref T) kV doc pm an cdv ct) args=seqItems? (.ref T) >>= k/\k (some ds.toArray)=pure binds
section
variable {P:Program}{w:World}{K:PySem.W.Frag}{mg:Str->Option Value}{base:Heap}{x:Str}{st:Stmt}{ds:List Value}
theorem FunD.bind {f:Addr}{fd:FuncData}{args:Args}{binds:List (Str×Value)}{s:Shared}(F:FunD K x st ds f fd)(X:K.In s.heap)(h:BnD x st ds args binds):BindsTo s fd args binds:=by
 obtain⟨T,o,n,oc,od,kV,doc,pm,an,cdv,ct,osl,rfl,lk,hcd,ho,hs⟩:=F.ex
 obtain⟨k,h1,h2⟩:=h T kV doc pm an cdv ct
 exact PySem.W.binds_K X rfl ho hs h1 h2
theorem LaidD.cal {N ps:List Str}{k:Nat}{sp:Sp}(L:LaidD K mg x st ds)(S:FnScope N ps (qd st))(len:∀vs H Q E,sp vs H Q E->vs.length=ps.length)
  (hbody:∀(f:Addr) (cdv:Value) (A:Around) (outer:List Env) (s:Shared) (H:Hp) (vs:List V) (Q:VK) (E:XK),Room k (A.deeper (envOfC x (qd st) s.heap.objs.size f cdv))->sp vs H Q E->
   ∃t,PSs (cxOf CX0 P w K mg base N x (qd st) f cdv A outer s H E).nox (qK st) t/\t {nx:=fun _ H'=>Q .non H',rt:=Q} (start N vs) H):CalD P w K mg base (k+1) x ps sp st ds:=by
 obtain⟨f,fd,F,m⟩:=L.ex
 refine⟨f,fd,?_,m,F⟩
 obtain⟨T,o,n,oc,od,kV,doc,pm,an,cdv,ct,osl,rfl,lk,hcd,ho,hs⟩:=F.ex
 refine fn_of lk hcd S len fun A outer s H vs Q E hr hsp=>?_
 obtain⟨t,h,q⟩:=hbody f cdv A outer s H vs Q E hr hsp
 exact⟨t,h.nox,q⟩
theorem qaO {h:Heap}{f T:Addr}{oc:Value}{od an:Option Addr}{osl:Array (Option Value)}{kV doc pm cdv ct:Value}{o:Obj}{n:Nat}(X:K.In h)(G:h.Ns mainGlobals mg)(a:PySem.W.nsIn K mainGlobals x=some (some (.ref f)))
  (l:K.lookup f=some ⟨oc,od,.func (PySem.W.fnOf x x (qZ st) (qK st) (qd st) (.ref T) kV doc pm an cdv ct),osl⟩)(c:PySem.W.codeIn K cdv x=true)(k:PySem.W.keepIn K (.ref f)=true)
  (ho:K.lookup T=some o)(hs:o.data= .seq ds.toArray n):LaidD K mg x st ds:=
 ⟨f,_,⟨⟨T,o,n,oc,od,kV,doc,pm,an,cdv,ct,osl,rfl,l,c,ho,hs⟩,k⟩,PySem.W.mg_of X G a⟩
end
section
variable {X:Cx}{k k':Nat}{x:Str}{ps ks:List Str}{sp:Sp}{p pos:Pos}{e:Expr}{es:List Expr}{kws:List Keyword}{t tk:TA}{st:Stmt}{ds ds':List Value}{dvs:List V}
theorem q6d (c:CalD X.prog X.w X.K X.mg X.base k x ps sp st ds)(hb:∀us:List Value,(us++ds').length=ps.length->BnD x st ds ⟨us,[]⟩ (ps.zip (us++ds')))(hd:Vals dvs ds')(hr:Room k' X.A)(hk:k<=k')(hg:Gl X x)(ha:PA X (e::es) t)
  (hdb:(x==("__debug__":Str))=false:=by decide)(he:starEach (e::es) X.env=(false,eval e X.env)::starEach es X.env:=by rfl)
  (hpl:(backTo pos (starEach es X.env)).any (·.1)=false:=by rfl):PE X (.Call (.Name x p) (e::es) [] pos) (q7n sp dvs E0 t):=by
 obtain⟨f,fd,F,m,D⟩:=c.ex
 exact q8z F (hr.mono hk) hg m D.kp (fun s us hX hl=>D.bind hX (hb us hl)) hd q6e ha hdb he hpl
theorem qcd {sp:Sp}{E:XK}{σ:St}{H:Hp}{Q:VK}(q:t σ H fun vs H1=>sp (vs++dvs) H1 Q E):q7n sp dvs E t σ H Q:=q
theorem r_bm0 {K:PySem.W.Frag}{T:String}{r:V->List V->Hp->VK->Prop}{to:TE}{σ:St}{H:Hp}{Q:VK}(q:to σ H fun x H1=>tyV K T x H1/\r x [] H1 Q):tBM0 K T r to σ H Q:=q
end
end L2
namespace HT
open PySem PyProof.Rows
section
variable {prog:Program}{w:World}{A:Around}{E:Value->Shared->Prop}{s:Shared}
theorem qb5 {t b:Addr}{vs ws:List Value}{Q:Value->Shared->Prop}(ht:IsTup s.heap t vs.toArray)(hb:IsTup s.heap b ws.toArray)(hv:vs=[])(h:Q (.ref b) s):wpAny (model prog w) A (binaryOp .Add (.ref t) (.ref b)) Q E s:=by
 obtain⟨⟨cls,dd,data,sl⟩,ho,hc,n,hd⟩:=id ht
 obtain⟨⟨cls2,dd2,data2,sl2⟩,ho2,hc2,n2,hd2⟩:=id hb
 simp only at hc hd hc2 hd2
 subst hc hd hc2 hd2
 exact concat_meets ⟨_,ho,rfl⟩ ⟨_,ho2,rfl⟩ noFill_tuple_add seq_tuple_add PySem.F.slot_tuple_add PySem.F.entry_tuple_add (PySem.F.args_tuple_add_2 _ _)
   (tuple_addW0 t b vs.toArray ws.toArray n n2 dd dd2 sl sl2 (by simp[hv])) ⟨ho,ho2,h⟩
end
end HT
namespace L2
open PySem PySem.Spec PyProof.Rows
def q6L (K:PySem.W.Frag):R2:=fun x y H Q=>∃a b xs ys,x= .ref a/\y= .ref b/\SqT K H a xs/\SqT K H b ys/\xs.length+ys.length<=sizeLine/\
 (xs=[]->Q (.ref b) H)/\(xs≠[]->ys=[]->Q (.ref a) H)/\(xs≠[]->ys≠[]->∀p,H p=none->Q (.ref p) (upd H p (.tup (xs++ys))))
def rNeTs (K:PySem.W.Frag):R2:=fun x y H Q=>∃p q xs ys,x= .ref p/\y= .ref q/\SqT K H p xs/\SqT K H q ys/\xs.all q2l=true/\ys.all q2l=true/\Q (.bl (!eqVs xs ys)) H
section
variable {X:Cx}
theorem q6R (K:PySem.W.Frag)(hK:X.K=K:=by rfl):OpR X (binaryOp .Add) (q6L K):=by
 subst hK
 intro pins s σ H x y v u Q I rx ry h
 obtain⟨a,b,xs,ys,e1,e2,ha,hb,hz,q0,q1,q2⟩:=h
 by_cases hx:xs=[]
 ·subst e1 e2
  cases rx
  cases ry
  obtain⟨its,r1,p1,_⟩:=I.tuple ha
  obtain⟨its2,r2,p2,_⟩:=I.tuple hb
  exact HT.qb5 p1 p2 (r1.nil_iff.mpr hx) ⟨.ref b,H,I,rfl,q0 hx⟩
 ·exact qct pins s σ H x y v u Q I rx ry ⟨a,b,xs,ys,e1,e2,ha,hb,hx,hz,q1 hx,q2 hx⟩
theorem q6f (K:PySem.W.Frag)(hu:X.A.units<cLine)(hK:X.K=K:=by rfl):OpR X (compareOp .NotEq) (rNeTs K):=by
 subst hK
 intro pins s σ H x y v u Q I rx ry h
 obtain⟨p,q,xs,ys,rfl,rfl,hp,hq,fx,fy,k⟩:=h
 cases rx
 cases ry
 obtain⟨ia,ra,pa,_⟩:=I.tuple hp
 obtain⟨ib,rb,pb,_⟩:=I.tuple hq
 have la:=ra.length
 have lb:=rb.length
 refine SeqAt.RcNeAt.tuples (e:=fun j=>eqV (xs.getD j .non) (ys.getD j .non)) (show s.heap.IsTuple p ia.toArray from pa) (show s.heap.IsTuple q ib.toArray from pb) hu (fun j h1 h2=>q9h (q0j ra h1) (q0j rb h2) (q4I fx j) (q4I fy j)) _ _ _ _ ⟨.bl (!eqVs xs ys),H,I,?_,k⟩
 show Value.bool _=Value.bool _
 unfold eqVs
 rw[<-q2M,Bool.and_comm]
 simp[la,lb]
end
section
variable {H:Hp}{Q:VK}{K:PySem.W.Frag}
theorem r_eqT {p q:Addr}{xs ys:List V}(h1:SqT K H p xs)(h2:SqT K H q ys)(f1:xs.all q2l=true)(f2:ys.all q2l=true)(k:Q (.bl (eqVs xs ys)) H):qcg K (.ref p) (.ref q) H Q:=⟨p,q,xs,ys,rfl,rfl,h1,h2,f1,f2,k⟩
theorem qc9 {p q:Addr}{xs ys:List V}(h1:SqT K H p xs)(h2:SqT K H q ys)(f1:xs.all q2l=true)(f2:ys.all q2l=true)(k:Q (.bl (!eqVs xs ys)) H):rNeTs K (.ref p) (.ref q) H Q:=⟨p,q,xs,ys,rfl,rfl,h1,h2,f1,f2,k⟩
theorem qcc {p q:Addr}{ys:List V}(h1:SqT K H p [])(h2:SqT K H q ys)(hz:ys.length<=sizeLine)(k:Q (.ref q) H):q6L K (.ref p) (.ref q) H Q:=
 ⟨p,q,[],ys,rfl,rfl,h1,h2,by simpa using hz,fun _=>k,fun e=>(e rfl).elim,fun e=>(e rfl).elim⟩
theorem qcb {p q:Addr}{x:V}{xs:List V}(h1:SqT K H p (x::xs))(h2:SqT K H q [])(hz:(x::xs).length<=sizeLine)(k:Q (.ref p) H):q6L K (.ref p) (.ref q) H Q:=
 ⟨p,q,x::xs,[],rfl,rfl,h1,h2,by simpa using hz,fun e=>by simp at e,fun _ _=>k,fun _ e=>(e rfl).elim⟩
theorem q1L {p q:Addr}{x y:V}{xs ys:List V}(h1:SqT K H p (x::xs))(h2:SqT K H q (y::ys))(hz:Nat.ble ((x::xs).length+(y::ys).length) sizeLine=true)(k:∀r,H r=none->Q (.ref r) (upd H r (.tup (x::xs++y::ys)))):q6L K (.ref p) (.ref q) H Q:=
 ⟨p,q,x::xs,y::ys,rfl,rfl,h1,h2,Nat.le_of_ble_eq_true hz,fun e=>by simp at e,fun _ e=>by simp at e,fun _ _=>k⟩
end
end L2
namespace Ce
open PySem L2
def qaM (g:Gt)(f:Int->Int)(op:Bool)(bars wt:Int):Bool:=match g with
 | .plain=>true
 | .door _=>op
 | .need k=>decide (0<f k)
 | .bar b=>bit bars b.toNat
 | .wade h k=>decide (wt<=h)||decide (0<f k)
 | .float h=>decide (h<=wt)
inductive Wd where
 |go|pull|take|turn|unlock
 deriving DecidableEq
def Wd.str:Wd->Str
 | .go=>"go"
 | .pull=>"pull"
 | .take=>"take"
 | .turn=>"turn"
 | .unlock=>"unlock"
def Wd.part:Wd->Int
 | .go=>3
 | .pull=>5
 | .take=>4
 | .turn=>6
 | .unlock=>3
structure Sd where
 rm:Int
 tk:Int
 op:Int
 b:Int
 wt:Int
def Sd.vs (s:Sd):List V:=[.int s.rm,.int s.tk,.int s.op,.int s.b,.int s.wt]
def Sd.ok (C:Cl)(s:Sd):Prop:=StOk C s.rm s.tk s.op s.b s.wt
def q2K (x:Way)(rm:Int):Bool:=decide (rm=x.a)||(decide (rm=x.b)&&x.back)
def canB (C:Cl)(s:Sd)(i:Nat):Wd->Bool
 | .go=>match C.ways[i]? with
  |some x=>q2K x s.rm&&qaM x.g (hold C s.tk s.op) (bit s.op i) s.b s.wt
  |none=>false
 | .pull=>match C.levers[i]? with
  |some x=>decide (s.rm=x.1)
  |none=>false
 | .take=>match C.things[i]? with
  |some x=>decide (s.rm=x.1)&& !bit s.tk i
  |none=>false
 | .turn=>match C.wheels[i]? with
  |some x=>decide (s.rm=x.1)&& !decide (s.wt=x.2)
  |none=>false
 | .unlock=>match C.ways[i]? with
  |some x=>match x.g.dk with
   |some k=>(q2K x s.rm&& !bit s.op i)&&decide (0<hold C s.tk s.op k)
   |none=>false
  |none=>false
def q2m (C:Cl)(s:Sd)(i:Nat):Wd->Sd
 | .go=>match C.ways[i]? with
  |some x=>{s with rm:=if s.rm=x.a then x.b else x.a}
  |none=>s
 | .pull=>match C.levers[i]? with
  |some x=>{s with b:=Builtin.bitXor s.b x.2}
  |none=>s
 | .take=>{s with tk:=s.tk+2 ^ i}
 | .turn=>match C.wheels[i]? with
  |some x=>{s with wt:=x.2}
  |none=>s
 | .unlock=>{s with op:=s.op+2 ^ i}
def Cl.num (C:Cl):Wd->Nat
 | .go=>C.ways.length
 | .pull=>C.levers.length
 | .take=>C.things.length
 | .turn=>C.wheels.length
 | .unlock=>C.ways.length
def canD (C:Cl)(s:Sd)(d:Wd)(n:Int):Bool:= !decide (s.rm=C.lst)&&(decide (0<=n)&&canB C s n.toNat d)
def q0m (C:Cl)(s:Sd)(d:Wd)(n:Int):Sd:=q2m C s n.toNat d
theorem q9F {C:Cl}{s:Sd}{i:Nat}{d:Wd}(h:canB C s i d=true):i<C.num d:=by
 cases d<;>simp only[canB] at h
 ·cases e:C.ways[i]? with
  |none=>rw[e] at h;simp at h
  |some x=>exact(List.getElem?_eq_some_iff.mp e).1
 ·cases e:C.levers[i]? with
  |none=>rw[e] at h;simp at h
  |some x=>exact(List.getElem?_eq_some_iff.mp e).1
 ·cases e:C.things[i]? with
  |none=>rw[e] at h;simp at h
  |some x=>exact(List.getElem?_eq_some_iff.mp e).1
 ·cases e:C.wheels[i]? with
  |none=>rw[e] at h;simp at h
  |some x=>exact(List.getElem?_eq_some_iff.mp e).1
 ·cases e:C.ways[i]? with
  |none=>rw[e] at h;simp at h
  |some x=>exact(List.getElem?_eq_some_iff.mp e).1
theorem q9E {C:Cl}{s:Sd}{d:Wd}{n:Int}(h:s.rm=C.lst):canD C s d n=false:=by simp[canD,h]
theorem q7e {C:Cl}{s:Sd}{d:Wd}{n:Int}(h:n<0):canD C s d n=false:=by
 have:¬0<=n:=by omega
 simp[canD,this]
theorem q6s {C:Cl}{s:Sd}{d:Wd}{n:Int}(h:¬n<C.num d):canD C s d n=false:=by
 by_cases h0:0<=n
 ·have:canB C s n.toNat d=false:=by
   cases e:canB C s n.toNat d with
   |false=>rfl
   |true=>have:=q9F e;omega
  simp[canD,this]
 ·exact q7e (by omega)
theorem qdh {C:Cl}{s:Sd}{d:Wd}{i:Nat}(h:¬s.rm=C.lst):canD C s d (i:Int)=canB C s i d:=by
 have:(0:Int)<=(i:Int):=by omega
 simp[canD,h,this]
theorem q0n {C:Cl}{s:Sd}{d:Wd}{n:Int}(h:canD C s d n=true):¬s.rm=C.lst/\∃i:Nat,n=(i:Int)/\i<C.num d/\canB C s i d=true:=by
 unfold canD at h
 simp only[Bool.and_eq_true,Bool.not_eq_true',decide_eq_false_iff_not,decide_eq_true_eq] at h
 exact⟨h.1,n.toNat,by omega,q9F h.2.2,h.2.2⟩
theorem q9L {x:Int}{w:Nat}(h:bit x w=false):Builtin.bitOr x (2 ^ w)=x+2 ^ w:=by
 rw[PyProof.Rows.bitOr_and,PySem.W.kbt_bit]
 have:x / 2 ^ w % 2=0:=by
  unfold bit at h
  have h':=of_decide_eq_false h
  omega
 rw[this]
 simp
theorem q3X (x y:Nat):x+y=(x ^^^ y)+2*(x &&& y):=by
 have key:∀n x y,x<2 ^ n->y<2 ^ n->x+y=(x ^^^ y)+2*(x &&& y):=by
  intro n
  induction n with
  | zero => intro x y hx hy;have:x=0:=by simpa using hx
            have:y=0:=by simpa using hy
            subst_vars;rfl
  |succ n ih=>
   intro x y hx hy
   have h:=ih (x / 2) (y / 2) (by rw[Nat.pow_succ] at hx;omega) (by rw[Nat.pow_succ] at hy;omega)
   have e1:(x ^^^ y) / 2=(x / 2) ^^^ (y / 2):=Nat.xor_div_two
   have e2:(x &&& y) / 2=(x / 2) &&& (y / 2):=Nat.and_div_two
   have m1:(x ^^^ y) % 2=(x % 2+y % 2) % 2:=by
    have h1:(x ^^^ y) % 2=(x % 2) ^^^ (y % 2):=Nat.xor_mod_two_pow (n:=1)
    rw[h1]
    have a:x % 2=0\/x % 2=1:=by omega
    have b:y % 2=0\/y % 2=1:=by omega
    rcases a with a|a<;>rcases b with b|b<;>simp[a,b]
   have m2:(x &&& y) % 2=(x % 2)*(y % 2):=by
    have h1:(x &&& y) % 2=(x % 2) &&& (y % 2):=Nat.and_mod_two_pow (n:=1)
    rw[h1]
    have a:x % 2=0\/x % 2=1:=by omega
    have b:y % 2=0\/y % 2=1:=by omega
    rcases a with a|a<;>rcases b with b|b<;>simp[a,b]
   have a:x % 2=0\/x % 2=1:=by omega
   have b:y % 2=0\/y % 2=1:=by omega
   rw[<-e1,<-e2] at h
   rcases a with a|a<;>rcases b with b|b<;>rw[a,b] at m1 m2<;>omega
 exact key (x+y) x y (Nat.lt_of_le_of_lt (Nat.le_add_right x y) Nat.lt_two_pow_self) (Nat.lt_of_le_of_lt (Nat.le_add_left y x) Nat.lt_two_pow_self)
theorem q5Z {x y:Int}(hx:0<=x)(hy:0<=y):Builtin.bitXor x y=((x.toNat ^^^ y.toNat:Nat):Int):=by
 rw[PyProof.Rows.bitXor_and,PyProof.Rows.bitAnd_pp hx hy]
 have:=q3X x.toNat y.toNat
 omega
theorem q4V {x y:Int}(hx:0<=x)(hx':x<=255)(hy:0<=y)(hy':y<=255):0<=Builtin.bitXor x y/\Builtin.bitXor x y<=255:=by
 rw[q5Z hx hy]
 have:x.toNat ^^^ y.toNat<2 ^ 8:=Nat.xor_lt_two_pow (by omega) (by omega)
 omega
theorem q9Q {x i:Nat}(h:x.testBit i=false):x+2 ^ i=x ^^^ 2 ^ i:=by
 have h1:=q3X x (2 ^ i)
 have h2:x &&& 2 ^ i=0:=by
  apply Nat.eq_of_testBit_eq
  intro j
  rw[Nat.testBit_and,Nat.testBit_two_pow,Nat.zero_testBit]
  by_cases e:i=j
  ·rw [<-e,h];simp
  ·simp [e]
 omega
theorem q31 {x:Int}{i:Nat}(h0:0<=x)(h:bit x i=false)(j:Nat):bit (x+2 ^ i) j=(decide (i=j) ^^ bit x j):=by
 obtain⟨n,rfl⟩:∃n:Nat,x=(n:Int):=⟨x.toNat,by omega⟩
 have hp:=q1W i
 have e:((n:Int)+2 ^ i)=((n+2 ^ i:Nat):Int):=by rw[Int.natCast_add,Int.natCast_pow];rfl
 rw[q1D h0,Int.toNat_natCast] at h
 rw[e,q1D (by omega),q1D h0,Int.toNat_natCast,Int.toNat_natCast,q9Q h,Nat.testBit_xor,Nat.testBit_two_pow,Bool.xor_comm]
theorem qbH {x:Int}{i m:Nat}(h0:0<=x)(h1:x<2 ^ m)(hi:i<m)(h:bit x i=false):0<=x+2 ^ i/\x+2 ^ i<2 ^ m:=by
 obtain⟨n,rfl⟩:∃n:Nat,x=(n:Int):=⟨x.toNat,by omega⟩
 have hp:=q1W i
 have e:((n:Int)+2 ^ i)=((n+2 ^ i:Nat):Int):=by rw[Int.natCast_add,Int.natCast_pow];rfl
 have em:(2:Int) ^ m=((2 ^ m:Nat):Int):=by rw[Int.natCast_pow];rfl
 rw[q1D h0,Int.toNat_natCast] at h
 rw[em] at h1
 have hn:n<2 ^ m:=by omega
 have:n ^^^ 2 ^ i<2 ^ m:=Nat.xor_lt_two_pow hn (Nat.pow_lt_pow_right (by decide) hi)
 rw[e,em,q9Q h]
 omega
theorem q6r {P R:Nat->Bool}{i:Nat}(h:∀j,j≠i->R j=P j)(hi:P i=false):∀m,cnt R m=cnt P m+(if i<m then(if R i=true then 1 else 0) else 0)
 |0=>by simp[cnt]
 |m+1=>by
  show cnt R m+_=cnt P m+_+_
  rw[q6r h hi m]
  by_cases e:m=i
  ·subst e
   rw[if_neg (Nat.lt_irrefl _),if_pos (Nat.lt_succ_self _),hi]
   simp
  ·rw [h m e]
   by_cases h2:i<m
   ·rw [if_pos h2,if_pos (show i<m+1 by omega),Nat.add_right_comm]
   ·rw [if_neg h2,if_neg (show¬i<m+1 by omega),Nat.add_right_comm]
theorem q93 {C:Cl}{tk op:Int}{i:Nat}(h0:0<=tk)(hi:i<C.things.length)(hb:bit tk i=false)(k:Int):hold C (tk+2 ^ i) op k=hold C tk op k+(if C.things[i].2=k then 1 else 0):=by
 unfold hold
 have e:cnt (tP C (tk+2 ^ i) k) C.things.length=cnt (tP C tk k) C.things.length+(if C.things[i].2=k then 1 else 0):=by
  rw[q6r (P:=tP C tk k) (i:=i) (fun j hj=>by simp[tP,q31 h0 hb,show¬i=j from fun z=>hj z.symm]) (by simp[tP,hb]),if_pos hi]
  congr 1
  simp only[tP,q31 h0 hb,hb]
  by_cases ek:C.things[i].2=k
  ·simp [ek,hi]
  ·simp [ek,hi]
 rw[e]
 split<;>omega
theorem q6k {C:Cl}{tk op:Int}{i:Nat}(h0:0<=op)(hi:i<C.ways.length)(hb:bit op i=false)(k:Int):hold C tk (op+2 ^ i) k=hold C tk op k - (if C.ways[i].g.dk=some k then 1 else 0):=by
 unfold hold
 have eds:dsOf C i=C.ways[i].g.dk:=by simp[dsOf,hi]
 have e:cnt (dP (dsOf C) (op+2 ^ i) k) C.ways.length=cnt (dP (dsOf C) op k) C.ways.length+(if C.ways[i].g.dk=some k then 1 else 0):=by
  rw[q6r (P:=dP (dsOf C) op k) (i:=i) (fun j hj=>by simp[dP,q31 h0 hb,show¬i=j from fun z=>hj z.symm]) (by simp[dP,hb]),if_pos hi]
  congr 1
  simp only[dP,q31 h0 hb,hb,eds]
  by_cases ek:C.ways[i].g.dk=some k
  ·simp [ek]
  ·simp [ek]
 rw[e]
 split<;>omega
theorem q9m {C:Cl}{s:Sd}{d:Wd}{n:Int}(ok:ClOk C)(h:s.ok C)(hc:canD C s d n=true):(q0m C s d n).ok C:=by
 obtain⟨hl,i,rfl,hi,hb⟩:=q0n hc
 unfold q0m
 rw[Int.toNat_natCast]
 obtain⟨h1,h2,h3,h4,h5,h6,h7⟩:=id h
 cases d with
 |go=>
  have hi':i<C.ways.length:=hi
  have w:=ok.w _ (List.getElem_mem hi')
  simp only[q2m,List.getElem?_eq_getElem hi']
  refine⟨?_,h2,h3,h4,h5,h6,h7⟩
  by_cases e:s.rm=C.ways[i].a
  ·simp only[e,if_true]
   exact w.2.1
  ·simp only[e,if_false]
   exact w.1
 |pull=>
  have hi':i<C.levers.length:=hi
  have w:=ok.lv _ (List.getElem_mem hi')
  simp only[q2m,List.getElem?_eq_getElem hi']
  exact⟨h1,h2,h3,h4,q4V h5.1 h5.2 (by omega) w.2.2,h6,h7⟩
 |take=>
  have hi':i<C.things.length:=hi
  have ho:bit s.tk i=false:=by
   simp only[canB,List.getElem?_eq_getElem hi',Bool.and_eq_true,Bool.not_eq_true'] at hb
   exact hb.2
  refine⟨h1,qbH h2.1 h2.2 hi' ho,h3,h4,h5,h6,fun k k0 k1=>?_⟩
  show 0<=hold C (s.tk+2 ^ i) s.op k
  rw[q93 h2.1 hi' ho]
  have:=h7 k k0 k1
  split<;>omega
 |turn=>
  have hi':i<C.wheels.length:=hi
  have w:=ok.wh _ (List.getElem_mem hi')
  simp only[q2m,List.getElem?_eq_getElem hi']
  exact⟨h1,h2,h3,h4,h5,w.2,h7⟩
 |unlock=>
  have hi':i<C.ways.length:=hi
  have eds:dsOf C i=C.ways[i].g.dk:=by simp[dsOf,hi']
  cases hk:C.ways[i].g.dk with
  |none=>simp[canB,hi',hk] at hb
  |some kd=>
   simp only[canB,List.getElem?_eq_getElem hi',hk,Bool.and_eq_true,Bool.not_eq_true',decide_eq_true_eq] at hb
   refine⟨h1,h2,qbH h3.1 h3.2 hi' hb.1.2,fun j hj hbj=>?_,h5,h6,fun k k0 k1=>?_⟩
   ·replace hbj:bit (s.op+2 ^ i) j=true:=hbj
    rw[q31 h3.1 hb.1.2] at hbj
    by_cases e:i=j
    ·rw [<-e,eds,hk];rfl
    ·have:bit s.op j=true:=by simpa[e] using hbj
     exact h4 j hj this
   ·show 0<=hold C s.tk (s.op+2 ^ i) k
    rw[q6k h3.1 hi' hb.1.2,hk]
    have:=h7 k k0 k1
    by_cases e:kd=k
    ·rw [if_pos (by rw[e]),<-e];omega
    ·rw [if_neg (by intro z;exact e (Option.some.inj z))];omega
def rowD (d:Wd)(n:Nat):List (Wd×Nat):=(List.range n).map fun i=>(d,i)
theorem q2C (d:Wd)(n:Nat):(rowD d n).length=n:=by simp[rowD]
theorem q8j (d:Wd)(n:Nat):rowD d (n+1)=rowD d n++[(d,n)]:=by simp[rowD,List.range_succ]
def allD (C:Cl):List (Wd×Nat):=rowD .go C.ways.length++rowD .pull C.levers.length++rowD .take C.things.length++rowD .turn C.wheels.length++rowD .unlock C.ways.length
def fitD (C:Cl)(s:Sd):List (Wd×Nat):=(allD C).filter fun x=>canD C s x.1 (x.2:Int)
theorem q7f {C:Cl}(ok:ClOk C):(allD C).length<=56:=by
 have:=ok.wl
 have:=ok.tl
 have:=ok.ll
 have:=ok.vl
 simp only[allD,List.length_append,q2C]
 omega
theorem q72 {C:Cl}(ok:ClOk C)(s:Sd):(fitD C s).length<=56:=Nat.le_trans (List.length_filter_le _ _) (q7f ok)
theorem qaJ {d d':Wd}{n i:Nat}:(d',i)∈rowD d n↔d'=d/\i<n:=by
 simp only[rowD,List.mem_map,List.mem_range,Prod.mk.injEq]
 constructor
 ·rintro ⟨j,h,rfl,rfl⟩;exact⟨rfl,h⟩
 ·rintro ⟨rfl,h⟩;exact⟨i,h,rfl,rfl⟩
theorem qaK {C:Cl}{d:Wd}{i:Nat}:(d,i)∈allD C↔i<C.num d:=by
 simp only[allD,List.mem_append,qaJ]
 cases d<;>simp[Cl.num]
theorem q4z {C:Cl}{s:Sd}{d:Wd}{i:Nat}:(d,i)∈fitD C s↔canD C s d (i:Int)=true:=by
 simp only[fitD,List.mem_filter,qaK]
 constructor
 ·exact fun h=>h.2
 ·intro h
  obtain⟨_,j,e,hj,_⟩:=q0n h
  have:i=j:=by omega
  exact⟨by rw[this];exact hj,h⟩
theorem go_of {C:Cl}{s:Sd}{i:Nat}(hc:canD C s .go (i:Int)=true):∃x,C.ways[i]? =some x/\q2K x s.rm=true/\qaM x.g (hold C s.tk s.op) (bit s.op i) s.b s.wt=true/\¬s.rm=C.lst/\q0m C s .go (i:Int)={s with rm:=if s.rm=x.a then x.b else x.a}:=by
 obtain⟨hl,j,e,hi,hb⟩:=q0n hc
 have e':i=j:=by omega
 subst e'
 have hi':i<C.ways.length:=hi
 have hx:C.ways[i]? =some C.ways[i]:=List.getElem?_eq_getElem hi'
 simp only[canB,hx,Bool.and_eq_true] at hb
 exact⟨C.ways[i],hx,hb.1,hb.2,hl,by unfold q0m;rw[Int.toNat_natCast];simp[q2m,hi']⟩
theorem q9U {x y:Int}(hx:0<=x)(hx':x<=255)(hy:0<=y)(hy':y<=255):Builtin.bitXor (Builtin.bitXor x y) y=x:=by
 have h:=q4V hx hx' hy hy'
 rw[q5Z h.1 hy,q5Z hx hy,Int.toNat_natCast,Nat.xor_assoc,Nat.xor_self,Nat.xor_zero]
 omega
theorem qch {C:Cl}{s:Sd}{i:Nat}(hc:canD C s .pull (i:Int)=true):∃x,C.levers[i]? =some x/\s.rm=x.1/\¬s.rm=C.lst/\q0m C s .pull (i:Int)={s with b:=Builtin.bitXor s.b x.2}:=by
 obtain⟨hl,j,e,hi,hb⟩:=q0n hc
 have e':i=j:=by omega
 subst e'
 have hi':i<C.levers.length:=hi
 have hx:C.levers[i]? =some C.levers[i]:=List.getElem?_eq_getElem hi'
 simp only[canB,hx,decide_eq_true_eq] at hb
 exact⟨C.levers[i],hx,hb,hl,by unfold q0m;rw[Int.toNat_natCast];simp[q2m,hi']⟩
theorem qbQ {C:Cl}{s:Sd}{i:Nat}(hc:canD C s .take (i:Int)=true):∃x,C.things[i]? =some x/\q0m C s .take (i:Int)={s with tk:=s.tk+2 ^ i}:=by
 obtain⟨hl,j,e,hi,hb⟩:=q0n hc
 have e':i=j:=by omega
 subst e'
 have hi':i<C.things.length:=hi
 exact⟨C.things[i],List.getElem?_eq_getElem hi',by unfold q0m;rw[Int.toNat_natCast];rfl⟩
theorem qbN {C:Cl}{s:Sd}{i:Nat}(hc:canD C s .turn (i:Int)=true):∃x,C.wheels[i]? =some x/\¬s.wt=x.2/\q0m C s .turn (i:Int)={s with wt:=x.2}:=by
 obtain⟨hl,j,e,hi,hb⟩:=q0n hc
 have e':i=j:=by omega
 subst e'
 have hi':i<C.wheels.length:=hi
 have hx:C.wheels[i]? =some C.wheels[i]:=List.getElem?_eq_getElem hi'
 simp only[canB,hx,Bool.and_eq_true,Bool.not_eq_true',decide_eq_false_iff_not] at hb
 exact⟨C.wheels[i],hx,hb.2,by unfold q0m;rw[Int.toNat_natCast];simp[q2m,hi']⟩
theorem q7T {C:Cl}{s:Sd}{i:Nat}(hc:canD C s .unlock (i:Int)=true):∃x kd,C.ways[i]? =some x/\x.g= .door kd/\q0m C s .unlock (i:Int)={s with op:=s.op+2 ^ i}:=by
 obtain⟨hl,j,e,hi,hb⟩:=q0n hc
 have e':i=j:=by omega
 subst e'
 have hi':i<C.ways.length:=hi
 cases hg:C.ways[i].g with
 |door kd=>exact⟨C.ways[i],kd,List.getElem?_eq_getElem hi',hg,by unfold q0m;rw[Int.toNat_natCast];rfl⟩
 |_=>simp[canB,hi',hg,Gt.dk] at hb
end Ce
namespace L2
open PySem PySem.Spec PyProof.Rows
section
variable {X:Cx}{o e:Expr}{es:List Expr}{m:Str}{apos pos:Pos}{k k':Nat}{ta:TE}{t:TA}
theorem q6O {pl:Sem Bool}(P:Program)(w:World)(K:PySem.W.Frag)(mg:Str->Option Value)(base:Heap)(hr:Room k' X.A)(hk:k<=k')(he:PE X o ta)(ha:PA X (e::es) t)
  (e1:X.prog=P:=by rfl)(e2:X.w=w:=by rfl)(e3:X.K=K:=by rfl)(e4:X.mg=mg:=by rfl)(e5:X.base=base:=by rfl)
  (hst:starEach (e::es) X.env=(false,eval e X.env)::starEach es X.env:=by rfl)(hpl:(backTo pos (starEach es X.env)).any (·.1)=false:=by rfl)
  (ht:eval (.Call (.Attribute o m apos) (e::es) [] pos) X.env=(do
   let ov<-eval o X.env
   standAt apos.atName
   let (f,first)<-holding [ov] (getMethod ov m pl)
   callWith pos f first (backTo pos (starEach (e::es) X.env)) (backToKw pos (keywordEach [] X.env))):=by rfl):
  PE X (.Call (.Attribute o m apos) (e::es) [] pos) (tVM P w K mg base k m ta t):=by
 subst e1 e2 e3 e4 e5
 exact q3C (hr.mono hk) he ha hst hpl ht
theorem qcn {pl:Sem Bool}(P:Program)(w:World)(K:PySem.W.Frag)(mg:Str->Option Value)(base:Heap)(hr:Room k' X.A)(hk:k<=k')(he:PE X o ta)
  (e1:X.prog=P:=by rfl)(e2:X.w=w:=by rfl)(e3:X.K=K:=by rfl)(e4:X.mg=mg:=by rfl)(e5:X.base=base:=by rfl)
  (ht:eval (.Call (.Attribute o m apos) [] [] pos) X.env=(do
   let ov<-eval o X.env
   standAt apos.atName
   let (f,first)<-holding [ov] (getMethod ov m pl)
   callWith pos f first (backTo pos (starEach [] X.env)) (backToKw pos (keywordEach [] X.env))):=by rfl):
  PE X (.Call (.Attribute o m apos) [] [] pos) (tVM P w K mg base k m ta tNil):=by
 subst e1 e2 e3 e4 e5
 exact pe_vm0 (hr.mono hk) he ht
end
end L2
namespace L2
open PySem PySem.Spec PyProof.Rows
end L2
namespace L2
open PySem PySem.Spec PyProof.Rows
end L2
namespace L2
open PySem PySem.Spec PyProof.Rows
end L2
namespace L2
open PySem PySem.Spec PyProof.Rows
end L2
namespace L2
open PySem PySem.Spec PyProof.Rows
end L2
namespace L2
open PySem PySem.Spec PyProof.Rows
end L2
namespace L2
open PySem PySem.Spec PyProof.Rows
end L2
namespace L2
open PySem PySem.Spec PyProof.Rows
end L2
namespace L2
open PySem PySem.Spec PyProof.Rows
end L2
namespace L2
open PySem PySem.Spec PyProof.Rows
end L2
namespace L2
open PySem PySem.Spec PyProof.Rows
section
variable {κ:Type}[DecidableEq κ]
def valV (kvs:List (κ×V))(k:κ):Option V:=(kvs.find? fun kv=>decide (kv.1=k)).map (·.2)
def putK (kvs:List (κ×V))(k:κ)(v:V):List (κ×V):=
 if (kvs.any fun kv=>decide (kv.1=k))=true then kvs.map (fun kv=>if kv.1=k then(kv.1,v) else kv) else kvs++[(k,v)]
theorem q3d {p:κ×V}{r:List (κ×V)}{k:κ}(e:p.1=k):valV (p::r) k=some p.2:=by simp[valV,List.find?_cons,e]
theorem q3e {p:κ×V}{r:List (κ×V)}{k:κ}(e:¬p.1=k):valV (p::r) k=valV r k:=by simp[valV,List.find?_cons,e]
theorem q3f (k:κ):∀kvs:List (κ×V),(kvs.any fun kv=>decide (kv.1=k))=(valV kvs k).isSome
 |[]=>rfl
 |p::r=>by
  rw[List.any_cons]
  by_cases e:p.1=k
  ·simp only[q3d e,decide_eq_true e,Bool.true_or,Option.isSome_some]
  ·rw [q3e e,decide_eq_false e,Bool.false_or];exact q3f k r
theorem q3K (kvs:List (κ×V))(k:κ)(v:V):(putK kvs k v).length<=kvs.length+1:=by
 unfold putK
 split
 ·rw [List.length_map];omega
 ·rw [List.length_append,List.length_cons,List.length_nil];omega
theorem RelO.isSome_eq {o:Option V}{u:Option Value}(r:RelO o u):o.isSome=u.isSome:=by
 cases o with
 |none=>cases u with
  |none=>rfl
  |some _=>exact(show False from r).elim
 |some _=>cases u with
  |none=>exact(show False from r).elim
  |some _=>rfl
theorem KV.val {kvs:List (κ×V)}{vs:List (κ×Value)}(r:KV kvs vs)(k:κ):RelO (valV kvs k) (valueAt vs k):=by
 unfold KV at r
 induction r with
 |nil=>exact True.intro
 | @cons p q ps qs h t ih=>
  obtain⟨h1,h2⟩:=h
  by_cases e:p.1=k
  ·have e':q.1=k:=h1.symm.trans e
   have b:valueAt (q::qs) k=some q.2:=by simp[valueAt,List.find?_cons,e']
   rw[q3d e,b];exact h2
  ·have e':¬q.1=k:=fun z=>e (h1.trans z)
   have b:valueAt (q::qs) k=valueAt qs k:=by simp[valueAt,List.find?_cons,e']
   rw[q3e e,b];exact ih
theorem KV.any {kvs:List (κ×V)}{vs:List (κ×Value)}(r:KV kvs vs)(k:κ):(kvs.any fun kv=>decide (kv.1=k))=vs.any fun kv=>decide (kv.1=k):=by
 unfold KV at r
 induction r with
 |nil=>rfl
 |cons h t ih=>rw[List.any_cons,List.any_cons,ih,h.1]
theorem KV.repl {kvs:List (κ×V)}{vs:List (κ×Value)}(r:KV kvs vs)(k:κ){y:V}{u:Value}(ry:RelV y u):
  KV (kvs.map fun kv=>if kv.1=k then(kv.1,y) else kv) (vs.map fun kv=>if kv.1=k then(kv.1,u) else kv):=by
 unfold KV at r ⊢
 induction r with
 |nil=>exact .nil
 | @cons p q ps qs h t ih=>
  rw[List.map_cons,List.map_cons]
  refine .cons ?_ ih
  obtain⟨h1,h2⟩:=h
  by_cases e:p.1=k
  ·rw [if_pos e,if_pos (h1.symm.trans e)];exact⟨h1,ry⟩
  ·rw [if_neg e,if_neg (fun z=>e (h1.trans z))];exact⟨h1,h2⟩
theorem KV.put {kvs:List (κ×V)}{vs:List (κ×Value)}(r:KV kvs vs)(k:κ){y:V}{u:Value}(ry:RelV y u):KV (putK kvs k y) (stored vs k u):=by
 unfold putK stored
 rw[r.any k]
 by_cases e:(vs.any fun kv=>decide (kv.1=k))=true
 ·rw [if_pos e,if_pos e];exact r.repl k ry
 ·rw [if_neg e,if_neg e];exact Paired.snoc r ⟨rfl,ry⟩
theorem KV.length {kvs:List (κ×V)}{vs:List (κ×Value)}(r:KV kvs vs):kvs.length=vs.length:=Paired.length r
end
theorem q8V {P:Program}{w:World}{k:Key}{u:Value}(r:RelV (kV k) u):(q0r P w).is k u=true:=by
 cases k with
 |inl i=>obtain⟨t,e⟩:=(show∃t,u=Value.int i t from r);subst e;exact q6h P w i t
 |inr x=>obtain⟨t,e⟩:=(show∃t,u=Value.str x t from r);subst e;exact q6g P w x t
theorem q5I {P:Program}{w:World}:∀{ks:List Key} {us:List Value},Vals (ks.map kV) us->ItemsAre (q0r P w) ks us
 |[],_,r=>by rw[List.map_nil] at r;cases r;exact .nil
 |k::ks,_,r=>by
  rw[List.map_cons] at r
  cases r with
  |cons h t=>exact .cons (q8V h) (q5I t)
abbrev KT (H:Hp):List (List Key×V)->List (List Key×Addr×Value)->Prop:=Paired fun p q=>p.1=q.1/\H q.2.1=some (.tup (p.1.map kV))/\RelV p.2 q.2.2
theorem KT.val {H:Hp}{kvs:List (List Key×V)}{xs:List (List Key×Addr×Value)}(r:KT H kvs xs)(k:List Key):RelO (valV kvs k) ((atKey xs k).map (·.2)):=by
 induction r with
 |nil=>exact True.intro
 | @cons p q ps qs h t ih=>
  obtain⟨h1,_,h2⟩:=h
  by_cases e:p.1=k
  ·have e':q.1=k:=h1.symm.trans e
   have b:atKey (q::qs) k=some q.2:=by simp[atKey,List.find?_cons,e']
   rw[q3d e,b];exact h2
  ·have e':¬q.1=k:=fun z=>e (h1.trans z)
   have b:atKey (q::qs) k=atKey qs k:=by simp[atKey,List.find?_cons,e']
   rw[q3e e,b];exact ih
theorem KT.repl {H:Hp}{kvs:List (List Key×V)}{xs:List (List Key×Addr×Value)}(r:KT H kvs xs)(k:List Key){y:V}{u:Value}(ry:RelV y u):
  KT H (kvs.map fun kv=>if kv.1=k then(kv.1,y) else kv) (xs.map (putAt k u)):=by
 induction r with
 |nil=>exact .nil
 | @cons p q ps qs h t ih=>
  rw[List.map_cons,List.map_cons]
  refine .cons ?_ ih
  obtain⟨h1,h2,h3⟩:=h
  unfold putAt
  by_cases e:p.1=k
  ·rw [if_pos e,if_pos (h1.symm.trans e)];exact⟨h1,h2,ry⟩
  ·rw [if_neg e,if_neg (fun z=>e (h1.trans z))];exact⟨h1,h2,h3⟩
theorem KT.put {H:Hp}{kvs:List (List Key×V)}{xs:List (List Key×Addr×Value)}(r:KT H kvs xs)(k:List Key){b:Addr}{y:V}{u:Value}(hb:H b=some (.tup (k.map kV)))(ry:RelV y u):
  KT H (putK kvs k y) (storedH xs k b u):=by
 have e:(kvs.any fun kv=>decide (kv.1=k))=(atKey xs k).isSome:=by
  rw[q3f,(r.val k).isSome_eq,Option.isSome_map]
 unfold putK storedH
 rw[e]
 by_cases q:(atKey xs k).isSome=true
 ·rw [if_pos q,if_pos q];exact r.repl k ry
 ·rw [if_neg q,if_neg q];exact Paired.snoc r ⟨rfl,hb,ry⟩
theorem KT.keeps {H H':Hp}{kvs:List (List Key×V)}{xs:List (List Key×Addr×Value)}(r:KT H kvs xs)(ht:∀b ys,H b=some (.tup ys)->H' b=some (.tup ys)):KT H' kvs xs:=
 Paired.mapP r fun _ _ z=>⟨z.1,ht _ _ z.2.1,z.2.2⟩
section
variable {P:Program}{w:World}{H:Hp}{h:Heap}{a:Addr}
theorem rd_of {u:HO}(ok:HOk P w H h)(e:Rd H a u):q0a P w H h a u:=e.ok ok
theorem q9p {kvs:List (Key×V)}(ok:HOk P w H h)(e:Rd H a (.dK kvs)):kvs.length<=sizeLine/\(a==sysModules)=false/\∃vs,KV kvs vs/\h.DictOf (q0r P w) a vs:=
 show q0a P w H h a (.dK kvs) from rd_of ok e
theorem dk_of {kvs:List (Key×V)}(ok:HOk P w H h)(e:H a=some (.dK kvs)):kvs.length<=sizeLine/\(a==sysModules)=false/\∃vs,KV kvs vs/\h.DictOf (q0r P w) a vs:=q9p ok (.inl e)
theorem q4d {ks:List Key}(ok:HOk P w H h)(e:H a=some (.tup (ks.map kV))):(tupleKind (q0r P w)).is h ks a:=by
 obtain⟨_,its,r,o,h1,h2,n,h3⟩:=(show q0a P w H h a (.tup (ks.map kV)) from ok a _ e)
 exact⟨o,its.toArray,n,h1,h2,h3,by simpa using q5I r⟩
theorem q9j {kvs:List (List Key×V)}(ok:HOk P w H h)(e:Rd H a (.dT kvs)):kvs.length<=sizeLine/\(a==sysModules)=false/\
  ∃xs,KT H kvs xs/\h.DictOfH (tupleKind (q0r P w)) a xs:=by
 obtain⟨z,y,xs,r,o,es,ep,h1,h2,h3,h4,h5⟩:=(show q0a P w H h a (.dT kvs) from rd_of ok e)
 refine⟨z,y,xs,r,o,es,ep,h1,h2,h3,h4,fun x hx=>?_,h5⟩
 have all:∀{l:List (List Key×V)} {m:List (List Key×Addr×Value)},KT H l m->∀x∈m,(tupleKind (q0r P w)).is h x.1 x.2.1:=by
  intro l m q
  induction q with
  |nil=>intro x hx;exact nomatch hx
  | @cons p q ps qs hq t ih=>
   intro x hx
   rcases List.mem_cons.mp hx with e|hx
   ·subst e
    exact q4d ok (by rw[<-hq.1];exact hq.2.1)
   ·exact ih x hx
 exact all r x hx
theorem dt_of {kvs:List (List Key×V)}(ok:HOk P w H h)(e:H a=some (.dT kvs)):kvs.length<=sizeLine/\(a==sysModules)=false/\
  ∃xs,KT H kvs xs/\h.DictOfH (tupleKind (q0r P w)) a xs:=q9j ok (.inl e)
end
def DGet (H:Hp)(a:Addr)(y:V)(r:Option V):Prop:=
 (∃kvs k,Rd H a (.dK kvs)/\y=kV k/\r=valV kvs k)\/∃kvs k b,Rd H a (.dT kvs)/\y= .ref b/\H b=some (.tup (k.map kV))/\r=valV kvs k
def DPut (H:Hp)(a:Addr)(y v:V)(H':Hp):Prop:=
 (∃kvs k,H a=some (.dK kvs)/\y=kV k/\kvs.length<sizeLine/\H'=upd H a (.dK (putK kvs k v)))\/
 ∃kvs k b,H a=some (.dT kvs)/\y= .ref b/\H b=some (.tup (k.map kV))/\kvs.length<sizeLine/\H'=upd H a (.dT (putK kvs k v))
theorem DPut.t {H:Hp}{a b:Addr}{kvs:List (List Key×V)}{k:List Key}{v:V}(e:H a=some (.dT kvs))(eb:H b=some (.tup (k.map kV)))(hl:kvs.length<sizeLine):
  DPut H a (.ref b) v (upd H a (.dT (putK kvs k v))):= .inr ⟨kvs,k,b,e,rfl,eb,hl,rfl⟩
section
variable {X:Cx}{pins:List (Addr×Obj)}{σ:St}{H:Hp}{s:Shared}{a:Addr}{y v:V}{u r:Value}{o:Option V}{A:Around}{E:Value->Shared->Prop}
theorem Inv.big (I:Inv X pins σ H s):sysModules<s.heap.objs.size:=by
 have h:mainGlobals<s.heap.objs.size:=(I.mod.glob.keeps I.bk).lt
 exact Nat.lt_trans (by decide) h
theorem q9x {Q:Value->Shared->Prop}(hu:A.units+1<cLine)(I:Inv X pins σ H s)(g:DGet H a y (some v))(ry:RelV y u)(h:∀w' s',Inv X pins σ H s'->RelV v w'->Q w' s'):
  wpAny (model X.prog X.w) A (getItem (.ref a) u) Q E s:=by
 rcases g with⟨kvs,k,e,ey,l⟩|⟨kvs,k,b,e,ey,eb,l⟩
 ·subst ey
  obtain⟨z,hd,vs,rel,dd⟩:=q9p I.hok e
  obtain⟨w',hw,rw'⟩:=RelO.some_of (v:=v) (o:=valueAt vs k) (by rw[l];exact rel.val k)
  exact wpAny_getItem_of (q8V ry) dd.mapOf hw (h w' _ (I.tok _) rw')
 ·subst ey
  cases(show u=Value.ref b from ry)
  obtain⟨z,hd,xs,rel,dd⟩:=q9j I.hok e
  obtain⟨w',hw,rw'⟩:=RelO.some_of (v:=v) (o:=(atKey xs k).map (·.2)) (by rw[l];exact rel.val k)
  obtain⟨p,hp,hp2⟩:=Option.map_eq_some_iff.mp hw
  refine wpAny_getItem_heap (tupleKind_room_in1 hu) (q4d I.hok eb) dd hp ?_
  rw[hp2]
  exact h w' _ (I.tok _) rw'
theorem d_in {Q:Value->Shared->Prop}(hu:A.units+1<cLine)(I:Inv X pins σ H s)(g:DGet H a y o)(ry:RelV y u)(h:∀s',Inv X pins σ H s'->Q (.bool o.isSome) s'):
  wpAny (model X.prog X.w) A (compareOp .In u (.ref a)) Q E s:=by
 rcases g with⟨kvs,k,e,ey,l⟩|⟨kvs,k,b,e,ey,eb,l⟩
 ·subst ey
  obtain⟨z,hd,vs,rel,dd⟩:=q9p I.hok e
  refine wpAny_in_of (q8V ry) hd dd.mapOf ?_
  rw[<-(rel.val k).isSome_eq,<-l]
  exact h _ (I.tok _)
 ·subst ey
  cases(show u=Value.ref b from ry)
  obtain⟨z,hd,xs,rel,dd⟩:=q9j I.hok e
  refine wpAny_in_heap (tupleKind_room_in1 hu) (q4d I.hok eb) hd dd ?_
  have q:=(rel.val k).isSome_eq
  rw[Option.isSome_map] at q
  rw[<-q,<-l]
  exact h _ (I.tok _)
theorem qdb {Q:Value->Shared->Prop}(hu:A.units+1<cLine)(I:Inv X pins σ H s)(g:DGet H a y o)(ry:RelV y u)(h:∀s',Inv X pins σ H s'->Q (.bool (!o.isSome)) s'):
  wpAny (model X.prog X.w) A (compareOp .NotIn u (.ref a)) Q E s:=by
 rcases g with⟨kvs,k,e,ey,l⟩|⟨kvs,k,b,e,ey,eb,l⟩
 ·subst ey
  obtain⟨z,hd,vs,rel,dd⟩:=q9p I.hok e
  refine wpAny_notIn_of (q8V ry) hd dd.mapOf ?_
  rw[<-(rel.val k).isSome_eq,<-l]
  exact h _ (I.tok _)
 ·subst ey
  cases(show u=Value.ref b from ry)
  obtain⟨z,hd,xs,rel,dd⟩:=q9j I.hok e
  refine wpAny_notIn_heap (tupleKind_room_in1 hu) (q4d I.hok eb) hd dd ?_
  have q:=(rel.val k).isSome_eq
  rw[Option.isSome_map] at q
  rw[<-q,<-l]
  exact h _ (I.tok _)
theorem q6p {h':Heap}{t':Nat}{ob:HO}(I:Inv X pins σ H s)(mu:Mut (H a))(hs:Heap.SameBut a s.heap h')(he:∃q,h'.get? a=some q)(new:q0a X.prog X.w (upd H a ob) h' a ob):
  Inv X pins σ (upd H a ob) {s with heap:=h',toks:=t'}:=
 I.write (x:=a) (e:=a) mu (.inl rfl) (fun b q hb z=>(hs.2 b hb).trans z) he new
theorem dk_new {P:Program}{w:World}{H':Hp}{h':Heap}{kvs:List (Key×V)}{vs:List (Key×Value)}(z:kvs.length<=sizeLine)(hd:(a==sysModules)=false)(rel:KV kvs vs)(dd:h'.DictOf (q0r P w) a vs):
  q0a P w H' h' a (.dK kvs):=⟨z,hd,vs,rel,dd⟩
theorem q9w {H':Hp}{Q:Unit->Shared->Prop}(hu:A.units+1<cLine)(I:Inv X pins σ H s)(g:DPut H a y v H')(ry:RelV y u)(rv:RelV v r)(h:∀s',Inv X pins σ H' s'->Q () s'):
  wpAny (model X.prog X.w) A (setItem (.ref a) u r) Q E s:=by
 rcases g with⟨kvs,k,e,ey,l,eH⟩|⟨kvs,k,b,e,ey,eb,l,eH⟩
 ·subst ey eH
  obtain⟨z,hd,vs,rel,dd⟩:=dk_of I.hok e
  have hz:vs.length<=sizeLine:=by rw[<-rel.length];exact z
  have hl:(putK kvs k v).length<=sizeLine:=by have:=q3K kvs k v;omega
  refine wpAny_setItem_pairs (hsz:=hz) (q8V ry) dd fun h' dd' hs=>h _ ?_
  have he:∃q,h'.get? a=some q:=let ⟨q,_,_,hq,_⟩:=dd';⟨q,hq⟩
  exact q6p I (by rw[e];exact True.intro) hs he (dk_new hl hd (rel.put k rv) dd')
 ·subst ey eH
  cases(show u=Value.ref b from ry)
  obtain⟨z,hd,xs,rel,dd⟩:=dt_of I.hok e
  have hz:xs.length<=sizeLine:=by rw[<-Paired.length rel];exact z
  have hl:(putK kvs k v).length<=sizeLine:=by have:=q3K kvs k v;omega
  refine wpAny_setItem_heap (hsz:=hz) (tupleKind_room_in1 hu) (q4d I.hok eb) dd fun h' dd' hs=>h _ ?_
  obtain⟨q,es,ep,hq,h2,h3,h4,_,h5⟩:=dd'
  refine q6p I (by rw[e];exact True.intro) hs ⟨q,hq⟩ ⟨hl,hd,_,(rel.put k eb rv).keeps fun c ys ec=>?_,q,es,ep,hq,h2,h3,h4,h5⟩
  rw[qi (q2U ec e (fun z=>nomatch z))]
  exact ec
end
def NoSl (i:Expr):Prop:=∀ov iv,subscripted i false ov iv=operate [ov,iv] (getItem ov iv)
theorem qbS {prog:Program}{w:World}{A:Around}{E:Value->Shared->Prop}{s:Shared}{env:Env}{value slice:Expr}{pos:Pos}{T id:String}{Q:Value->Shared->Prop}
  (hl:typeLookup (.type T) "__getitem__"=pure (some (.builtin id)))(hs:NoSl slice)
  (h:wpAny (model prog w) A (eval value env) (fun o s₁=>wpAny (model prog w) A (eval slice env) (fun i s₂=>s₂.TypeIs o T/\wpAny (model prog w) A (getItem o i) Q E s₂) E s₁) E s):
  wpAny (model prog w) A (eval (.Subscript value slice pos) env) Q E s:=by
 refine Subscript_ (wpAny_mono h (fun o s₁ h₁=>wpAny_mono h₁ (fun i s₂ h₂=>?_) fun _ _ x=>x) fun _ _ x=>x)
 obtain⟨hT,h₂⟩:=h₂
 unfold subscriptTail
 refine wpAny_bind ?_
 rw[getitemInPython_of_ne hT.not_modules]
 refine wpAny_bind (wpAny_specialOf hT hl ?_)
 have fin:wpAny (model prog w) A (subscripted slice false o i) (fun r s₃=>wpAny (model prog w) A (letTemporaryGo value o r >>= fun _=>pure r) Q E s₃) E s₂:=by
  rw[hs o i]
  exact wpAny_operating (wpAny_mono h₂ (fun r s₃ h₃=>wpAny_bind (wpAny_letTemporaryGo (wpAny_pure h₃))) fun _ _ x=>x)
 first
  |exact wpAny_pure (wpAny_bind fin)
  |exact wpAny_bind (wpAny_pure (wpAny_bind fin))
  |exact wpAny_bind fin
theorem q6o {X:Cx}{pins:List (Addr×Obj)}{σ:St}{H:Hp}{s:Shared}{a:Addr}{y:V}{o:Option V}(I:Inv X pins σ H s)(g:DGet H a y o):s.TypeIs (.ref a) "dict":=by
 rcases g with⟨kvs,k,e,_,_⟩|⟨kvs,k,b,e,_,_,_⟩
 ·obtain ⟨_,_,vs,_,dd⟩:=q9p I.hok e
  exact dd.typeIs
 ·obtain ⟨_,_,xs,_,dd⟩:=q9j I.hok e
  exact dd.typeIs
def tDGet (td ty:TE):TE:=fun σ H Q=>td σ H fun x H1=>ty σ H1 fun y H2=>∃a v,x= .ref a/\DGet H2 a y (some v)/\Q v H2
def tDIn (ty td:TE):TE:=fun σ H Q=>ty σ H fun y H1=>td σ H1 fun x H2=>∃a o,x= .ref a/\DGet H2 a y o/\Q (.bl o.isSome) H2
def q80 (ty td:TE):TE:=fun σ H Q=>ty σ H fun y H1=>td σ H1 fun x H2=>∃a o,x= .ref a/\DGet H2 a y o/\Q (.bl (!o.isSome)) H2
def sDPut (td ty tv:TE):TS:=fun D σ H=>tv σ H fun v H1=>td σ H1 fun x H2=>ty σ H2 fun y H3=>∃a H4,x= .ref a/\DPut H3 a y v H4/\D.nx σ H4
section
variable {X:Cx}{o i e value:Expr}{pos pos' tpos:Pos}{td ty tv:TE}
theorem q6c (hu:X.A.units+1<cLine)(ho:PE X o td)(hi:PE X i ty)(hs:NoSl i):PE X (.Subscript o i pos) (tDGet td ty):=by
 intro pins s σ H Q I h
 refine qbS PySem.F.slot_dict_getitem.lookup hs (thn (ho pins s σ H _ I h) fun u s1 ⟨x,H1,I1,rx,q1⟩=>thn (hi pins s1 σ H1 _ I1 q1) fun iv s2 ⟨y,H2,I2,ry,a,v,ex,g,q2⟩=>?_)
 subst ex
 obtain rfl:u=Value.ref a:=rx
 exact⟨q6o I2 g,q9x hu I2 g ry fun w' s3 I3 rw'=>⟨v,H2,I3,rw',q2⟩⟩
theorem pc_din (hu:X.A.units+1<cLine)(hi:PE X i ty)(ho:PE X o td):PC X .In i o (tDIn ty td):=by
 intro pins s σ H Q I h
 refine thn (hi pins s σ H _ I h) fun iv s1 ⟨y,H1,I1,ry,q1⟩=>thn (ho pins s1 σ H1 _ I1 q1) fun u s2 ⟨x,H2,I2,rx,a,ov,ex,g,q2⟩=>?_
 subst ex
 obtain rfl:u=Value.ref a:=rx
 exact d_in hu I2 g ry fun s3 I3=>⟨.bl ov.isSome,H2,I3,rfl,q2⟩
theorem q3G (hu:X.A.units+1<cLine)(hi:PE X i ty)(ho:PE X o td):PC X .NotIn i o (q80 ty td):=by
 intro pins s σ H Q I h
 refine thn (hi pins s σ H _ I h) fun iv s1 ⟨y,H1,I1,ry,q1⟩=>thn (ho pins s1 σ H1 _ I1 q1) fun u s2 ⟨x,H2,I2,rx,a,ov,ex,g,q2⟩=>?_
 subst ex
 obtain rfl:u=Value.ref a:=rx
 exact qdb hu I2 g ry fun s3 I3=>⟨.bl (!ov.isSome),H2,I3,rfl,q2⟩
theorem q2j (hu:X.A.units+1<cLine)(ho:PE X o td)(hi:PE X i ty)(hv:PE X value tv)(hs:swapsWith value (some (.Subscript o i pos')) pos.line X.env=pure false):
  PS X (.Assign [.Subscript o i pos'] value pos) (sDPut td ty tv):=by
 intro pins s σ H D I h
 refine wpAny_Assign_Subscript (thn (hv pins s σ H _ I h) fun r s1 ⟨v,H1,I1,rv,q1⟩=>thn (ho pins s1 σ H1 _ I1 q1) fun u s2 ⟨x,H2,I2,rx,q2⟩=>thn (hi pins s2 σ H2 _ I2 q2) fun iv s3 ⟨y,H3,I3,ry,a,H4,ex,g,q3⟩=>?_) hs
 subst ex
 obtain rfl:u=Value.ref a:=rx
 exact q9w hu I3 g ry rv fun s4 I4=>⟨σ,H4,I4,q3⟩
end
theorem q76 {P:Program}{w:World}{H:Hp}(h:Heap)(hb:sysModules<h.objs.size):q0a P w H (h.push {cls:= .type "dict",data:= .dict #[]}) h.objs.size (.dT []):=
 ⟨Nat.zero_le _,beq_eq_false_iff_ne.mpr (Ne.symm (Nat.ne_of_lt hb)),[],.nil,_,#[],0,Heap.get?_push_size _ rfl,⟨rfl,rfl,rfl⟩,rfl,rfl,List.nodup_nil⟩
def qbd:TE:=fun _ H Q=>∀p,H p=none->Q (.ref p) (upd H p (.dT []))
section
variable {X:Cx}{pos:Pos}
theorem q3k:PE X (.Dict [] [] pos) qbd:=fun pins s σ H Q I h=>
 wpAny_Dict_empty ⟨.ref s.heap.objs.size,_,I.laid (a:=s.heap.objs.size) (o:= .dT []) (t':=s.toks) (fun _ _ q=>Heap.get?_push_of_some _ q) (Nat.le_refl _) (q76 s.heap I.big),rfl,h _ (I.hok.fresh (Nat.le_refl _))⟩
end
def qbc:List (TE×TE)->St->Hp->(List (V×V)->Hp->Prop)->Prop
 |[],_,H,Q=>Q [] H
 |(tk,tv)::r,σ,H,Q=>tk σ H fun x H1=>tv σ H1 fun y H2=>qbc r σ H2 fun ps H3=>Q ((x,y)::ps) H3
abbrev VV:List (V×V)->List (Value×Value)->Prop:=Paired fun p q=>RelV p.1 q.1/\RelV p.2 q.2
def PPs (X:Cx)(pos:Pos)(keys:List (Option Expr))(values:List Expr)(trs:List (TE×TE)):Prop:=
 ∀(pins:List (Addr×Obj)) (s:Shared) (σ:St) (H:Hp) (Q:List (V×V)->Hp->Prop),Inv X pins σ H s->qbc trs σ H Q->
  wpAny (model X.prog X.w) X.A (evalPairs (pairTrees keys values X.env pos)) (fun vs s'=>∃ps H',Inv X pins σ H' s'/\VV ps vs/\Q ps H') X.xe s
theorem qcj {X:Cx}{pos:Pos}:PPs X pos [] [] []:=fun pins s σ H Q I h=>pairTrees_nil_walk ⟨[],H,I,.nil,h⟩
theorem qaf {X:Cx}{pos:Pos}{k v:Expr}{ks:List (Option Expr)}{vs:List Expr}{tk tv:TE}{trs:List (TE×TE)}(hk:PE X k tk)(hv:PE X v tv)(hr:PPs X pos ks vs trs):
  PPs X pos (some k::ks) (v::vs) ((tk,tv)::trs):=fun pins s σ H Q I h=>
 pairTrees_cons_walk (thn (hk pins s σ H _ I h) fun u s1 ⟨x,H1,I1,rx,q1⟩=>thn (hv pins s1 σ H1 _ I1 q1) fun w2 s2 ⟨y,H2,I2,ry,q2⟩=>
  thn (hr pins s2 σ H2 _ I2 q2) fun ws s3 ⟨ps,H3,I3,rel,q3⟩=>⟨(x,y)::ps,H3,I3,.cons ⟨rx,ry⟩ rel,q3⟩)
end L2
namespace Att
open PySem PySem.W PySem.Calls PyProof.Rows
end Att
namespace L2
open PySem PySem.Spec PyProof.Rows
end L2
namespace L2
open PySem PySem.Spec PyProof.Rows
end L2
namespace L2
open PySem PySem.Spec PyProof.Rows
end L2
namespace L2
open PySem PySem.Spec PyProof.Rows
def rInD (K:PySem.W.Frag)(n:Nat)(neg:Bool):R2:=fun x y H Q=>∃(p:Addr) (ps:List Addr) (e:Addr->Bool),y= .ref p/\SqL K H p (ps.map V.ref)/\(∀b∈ps,Deq K H n (.ref b) x (e b))/\Q (.bl (if neg then !ps.any e else ps.any e)) H
def refB (e:Addr->Bool):Value->Bool
 | .ref b=>e b
 |_=>false
theorem q2p:∀{ps:List Addr} {us:List Value},Vals (ps.map V.ref) us->us=ps.map Value.ref
 |[],_,.nil=>rfl
 |p::ps,_,.cons r t=>by
  have r':=(show _=Value.ref p from r)
  rw[r',q2p t]
  rfl
theorem qb8 (e:Addr->Bool)(ps:List Addr):(ps.map Value.ref).any (refB e)=ps.any e:=by
 rw[List.any_map]
 rfl
section
variable {X:Cx}
theorem q5E (K:PySem.W.Frag)(n:Nat)(hu:X.A.units+n+1<cLine)(hK:X.K=K:=by rfl):OpR X (compareOp .NotIn) (rInD K n true):=by
 subst hK
 intro pins s σ H x y v u Q I rx ry h
 obtain⟨p,ps,e,rfl,hq,hd,q⟩:=h
 cases ry
 obtain⟨its,r,pl,hz⟩:=I.list hq
 have ei:=q2p r
 subst ei
 refine SeqAt.notIn_listAt (refB e) pl.isList (fun w hw=>?_) ⟨.bl _,H,I,rfl,?_⟩
 ·obtain ⟨b,hb,rfl⟩:=List.mem_map.mp (show w∈ps.map Value.ref by simpa using hw)
  exact q74 I (hd b hb) (by first|omega|(show X.A.units+1+n<cLine;omega)) rfl rx
 ·rw [show(ps.map Value.ref).toArray.any (refB e)=(ps.map Value.ref).any (refB e) by simp,qb8]
  exact q
end
end L2
namespace DI
open PySem PyProof.Rows
section
variable {prog:Program}{w:World}{A:Around}{E:Value->Shared->Prop}{s:Shared}{d it v:Addr}{o:Obj}{es:Array DictEntry}{ep i:Nat}
theorem ty (ho:s.heap.get? d=some o)(hx:o.ExactDict):s.TypeIs (.ref d) "dict":=⟨o,ho,hx.1⟩
theorem keys {Q:Value->Shared->Prop}(hd:(d==sysModules)=false)(ho:s.heap.get? d=some o)(hx:o.ExactDict)(hdat:o.data= .dict es ep)
  (hQ:Q (.ref s.heap.objs.size) {s with heap:=s.heap.push {cls:= .type "dict_keyiterator",data:= .fields #[.ref d,.int 0 0,.int es.size 0,.int ep 0]}}):wpAny (model prog w) A (pyIter (.ref d)) Q E s:=by
 have hT:=ty ho hx
 refine wpAny_pyIter_slot hT F.slot_dict_iter (wpAny_call_entry F.slot_dict_iter hT F.entry_dict_iter ?_ (F.args_dict_iter_1 _))
 unfold Builtin.«dict.__iter__» Builtin.Dict.dictSlotNone Builtin.Dict.showsAll
 refine wpAny_bind (wpAny_bind (wpAny_notOrdered_dict hT (wpAny_pure (wpAny_bind ?_))))
 refine wpAny_pure (wpAny_bind ?_)
 dsimp only
 rw[if_neg (by intro z;rw[hd] at z;cases z)]
 refine wpAny_pure (wpAny_bind (wpAny_dictEntries ho hdat (wpAny_bind (wpAny_dictEpoch ho hdat ?_))))
 refine wpAny_bind (wpAny_newObj_type (wpAny_pure ⟨_,rfl,"dict_keyiterator",_,⟨_,Heap.get?_push_size _ rfl,rfl⟩,F.slot_dict_keyiterator_next.lookup,?_⟩))
 simpa[rawInt] using hQ
theorem q8S {Q:Option Value->Shared->Prop}(hit:s.heap.IsKeyIter it d i es.size ep)(ho:s.heap.get? d=some o)(hdat:o.data= .dict es ep)(hi:i<es.size)
  (hQ:∀h',h'.IsKeyIter it d (i+1) es.size ep->Heap.SameBut it s.heap h'->Q (some es[i].key) {s with heap:=h'}):wpAny (model prog w) A (pyNext (.ref it)) Q E s:=by
 obtain⟨oi,hoi,hc,hf⟩:=id hit
 have hT:=hit.typeIs
 unfold pyNext
 refine wpAny_bind (wpAny_attempt (wpAny_callSpecial?_slot (name:=Str.ofString "__next__") hT F.slot_dict_keyiterator_next (wpAny_call_entry F.slot_dict_keyiterator_next hT F.entry_dict_keyiterator_next ?_ (F.args_dict_keyiterator_next_1 _))))
 refine wpAny_bind (wpAny_pure (wpAny_bind (wpAny_bind ?_)))
 first|refine wpAny_bind (wpAny_typeNameOfWhole_keyiter hT (wpAny_pure (wpAny_bind (wpAny_fieldsOf hoi hf ?_))))|refine wpAny_bind (wpAny_typeNameOf_keyiter hT (wpAny_pure (wpAny_bind (wpAny_fieldsOf hoi hf ?_))))
 simp only[show Builtin.Dict_items.ownsTuple "dict_keyiterator"=false by decide,Bool.false_eq_true,if_false]
 show wpAny _ _ (if (Value.ref d==Value.none)=true then _ else _) _ _ s
 rw[if_neg (by exact Bool.false_ne_true)]
 refine wpAny_bind (wpAny_pure (wpAny_bind (wpAny_dictEntries ho hdat ?_)))
 rw[if_neg (by simp)]
 refine wpAny_bind (wpAny_pure (wpAny_bind (wpAny_dictEpoch ho hdat ?_)))
 rw[if_neg (by simp)]
 refine wpAny_pure ?_
 simp only[show¬((i:Int)<0) by omega,if_false,Int.toNat_natCast,Array.getElem?_eq_getElem hi]
 refine wpAny_bind ?_
 first|refine wpAny_bind (wpAny_typeNameOfWhole_keyiter hT (wpAny_pure (wpAny_bind (wpAny_isOneOf_keyiter hT ?_))))|refine wpAny_bind (wpAny_typeNameOf_keyiter hT (wpAny_pure (wpAny_bind (wpAny_isOneOf_keyiter hT ?_))))
 show wpAny _ _ (setField (.ref it) 1 (rawInt ((i:Int)+1)) >>= _) _ _ s
 refine wpAny_bind (wpAny_setField hoi hf (by simp) ?_)
 have hit':(s.heap.update it (Obj.mapFields (·.setIfInBounds 1 (rawInt ((i:Int)+1))))).IsKeyIter it d (i+1) es.size ep:=
  ⟨_,Heap.get?_update_self _ hoi (Obj.isFreed_of_fields (Obj.data_mapFields hf _)),(Obj.cls_mapFields ..).trans hc,by rw[Obj.data_mapFields hf];simp[rawInt]⟩
 refine wpAny_bind (wpAny_holding (wpAny_bind (wpAny_isOneOf_keyiter (s:={s with heap:=s.heap.update it (Obj.mapFields (·.setIfInBounds 1 (rawInt ((i:Int)+1))))}) hit'.typeIs ?_)))
 show wpAny _ _ (pure es[i].key) _ _ _
 exact wpAny_pure (wpAny_pure ⟨_,rfl,wpAny_pure (hQ _ hit' (Heap.SameBut.update ..))⟩)
theorem qbw {Q:Option Value->Shared->Prop}(hh:A.handled=none)(hit:s.heap.IsKeyIter it d i es.size ep)(ho:s.heap.get? d=some o)(hdat:o.data= .dict es ep)(hi:es.size<=i)
  (hQ:∀h',Heap.ExtBut it s.heap h'->Q none {s with heap:=h'}):wpAny (model prog w) A (pyNext (.ref it)) Q E s:=by
 obtain⟨oi,hoi,hc,hf⟩:=id hit
 have hT:=hit.typeIs
 unfold pyNext
 refine wpAny_bind (wpAny_attempt (wpAny_callSpecial?_slot (name:=Str.ofString "__next__") hT F.slot_dict_keyiterator_next (wpAny_call_entry F.slot_dict_keyiterator_next hT F.entry_dict_keyiterator_next ?_ (F.args_dict_keyiterator_next_1 _))))
 refine wpAny_bind (wpAny_pure (wpAny_bind (wpAny_bind ?_)))
 first|refine wpAny_bind (wpAny_typeNameOfWhole_keyiter hT (wpAny_pure (wpAny_bind (wpAny_fieldsOf hoi hf ?_))))|refine wpAny_bind (wpAny_typeNameOf_keyiter hT (wpAny_pure (wpAny_bind (wpAny_fieldsOf hoi hf ?_))))
 simp only[show Builtin.Dict_items.ownsTuple "dict_keyiterator"=false by decide,Bool.false_eq_true,if_false]
 show wpAny _ _ (if (Value.ref d==Value.none)=true then _ else _) _ _ s
 rw[if_neg (by exact Bool.false_ne_true)]
 refine wpAny_bind (wpAny_pure (wpAny_bind (wpAny_dictEntries ho hdat ?_)))
 rw[if_neg (by simp)]
 refine wpAny_bind (wpAny_pure (wpAny_bind (wpAny_dictEpoch ho hdat ?_)))
 rw[if_neg (by simp)]
 refine wpAny_pure ?_
 simp only[show¬((i:Int)<0) by omega,if_false,Int.toNat_natCast,Array.getElem?_eq_none hi]
 refine wpAny_bind ?_
 first|refine wpAny_bind (wpAny_typeNameOfWhole_keyiter hT (wpAny_pure ?_))|refine wpAny_bind (wpAny_typeNameOf_keyiter hT (wpAny_pure ?_))
 show wpAny _ _ (setField (.ref it) 0 .none >>= _) _ _ s
 refine wpAny_bind (wpAny_setField hoi hf (by simp) ?_)
 show wpAny _ _ (newExc (.type "StopIteration") [] >>= _) _ _ _
 refine wpAny_bind ?_
 simp only[newExc,newTuple]
 refine wpAny_bind (wpAny_newObj_type (wpAny_bind (m:=firstArgMember _ _) (wpAny_of_eq (a:=Value.none) (by first|rfl|(simp only[firstArgMember];rfl)) (wpAny_newObj_type ?_ (by size_fits)))) (by size_fits))
 simp only[raiseNew]
 refine wpAny_bind (wpAny_handled ?_)
 rw[show A.in1.handled=none from hh]
 refine wpAny_bind (wpAny_pure (wpAny_throw ?_))
 refine wpAny_bind (wpAny_isInstance (b:=true) (T:="StopIteration") ⟨_,Heap.get?_push_size _ rfl,rfl⟩ isSubtype_stop ?_)
 exact wpAny_pure (hQ _ (((Heap.SameBut.update ..).extBut.push _).push _))
theorem view (d:Addr)(hd:(d==sysModules)=false):MeetsIn prog w (Builtin.«dict.items» ⟨[.ref d],[]⟩) (fun _ R s=>(∃o,s.heap.get? d=some o/\o.ExactDict)/\
   R (.ok (.ret (.ref s.heap.objs.size))) {s with heap:=s.heap.push {cls:= .type "dict_items",data:= .fields #[.ref d]}}):=
 .of_wp fun A R s ⟨⟨o,ho,hx⟩,h⟩=>by
  unfold Builtin.«dict.items» Builtin.Dict.noArgs Builtin.Dict.showsAll
  refine wpAny_bind (wpAny_bind (wpAny_notOrdered_dict (ty ho hx) (wpAny_pure (wpAny_bind ?_))))
  rw[if_neg (by intro z;rw[hd] at z;cases z)]
  exact wpAny_pure (wpAny_bind (wpAny_newObj_type (wpAny_pure ⟨_,rfl,h⟩)))
theorem items {Q:Value->Shared->Prop}(hv:s.heap.IsItemsView v d)(ho:s.heap.get? d=some o)(hdat:o.data= .dict es ep)
  (hQ:Q (.ref s.heap.objs.size) {s with heap:=s.heap.push {cls:= .type "dict_itemiterator",data:= .fields #[.none,.bool false,.ref d,.int 0 0,.int es.size 0,.int ep 0,.none,.none]}}):wpAny (model prog w) A (pyIter (.ref v)) Q E s:=by
 obtain⟨ov,hov,hcv,hdv⟩:=id hv
 refine wpAny_pyIter_slot hv.typeIs F.slot_dict_items_iter (wpAny_call_entry F.slot_dict_items_iter hv.typeIs F.entry_dict_items_iter ?_ (F.args_dict_items_iter_1 _))
 unfold Builtin.«dict_items.__iter__» Builtin.Dict_items.dictOf Builtin.Dict_items.newIterator
 refine wpAny_bind (wpAny_pure (wpAny_bind (wpAny_bind (wpAny_field hov hdv (x:= .ref d) rfl (wpAny_pure ?_)))))
 refine wpAny_bind (wpAny_bind (wpAny_dictEntries ho hdat (wpAny_bind (wpAny_dictEpoch ho hdat ?_))))
 simp only[show Builtin.Dict_items.ownsTuple "dict_itemiterator"=true by decide,if_true]
 refine wpAny_newObj_type (wpAny_pure ⟨_,rfl,"dict_itemiterator",_,⟨_,Heap.get?_push_size _ rfl,rfl⟩,F.slot_dict_itemiterator_next.lookup,?_⟩)
  (by simp only[sizeOk,Builtin.Dict_items.ownedTupleFields,List.size_toArray,List.length_append,List.length_cons,List.length_nil,sizeLine_eq];omega)
 simpa[rawInt,Builtin.Dict_items.ownedTupleFields] using hQ
theorem qaP {ok ov:Value}{Q:Option Value->Shared->Prop}(hit:IsItemIter s.heap it d i es.size ep ok ov)(ho:s.heap.get? d=some o)(hdat:o.data= .dict es ep)(hi:i<es.size)
  (hQ:∀h',IsItemIterOut h' it d (i+1) es.size ep es[i].key es[i].val s.heap.objs.size->h'.get? s.heap.objs.size=some {cls:= .type "tuple",data:= .seq #[es[i].key,es[i].val]}->
   (∀b o,b≠it->s.heap.get? b=some o->h'.get? b=some o)->Q (some (.ref s.heap.objs.size)) {s with heap:=h'}):wpAny (model prog w) A (pyNext (.ref it)) Q E s:=by
 obtain⟨hp,g,dr,tk,os⟩:=s
 have hT:Shared.TypeIs ⟨hp,g,dr,tk,os⟩ (.ref it) "dict_itemiterator":=⟨_,hit,rfl⟩
 unfold pyNext
 refine wpAny_bind (wpAny_attempt (wpAny_callSpecial?_slot (name:=Str.ofString "__next__") hT F.slot_dict_itemiterator_next (wpAny_call_entry F.slot_dict_itemiterator_next hT F.entry_dict_itemiterator_next ?_ (F.args_dict_itemiterator_next_1 _))))
 refine wpAny_bind (wpAny_pure (wpAny_bind (wpAny_bind ?_)))
 first|refine wpAny_bind (wpAny_typeNameOfWhole_itemiter hT (wpAny_pure (wpAny_bind (wpAny_fieldsOf hit rfl ?_))))|refine wpAny_bind (wpAny_typeNameOf_itemiter hT (wpAny_pure (wpAny_bind (wpAny_fieldsOf hit rfl ?_))))
 simp only[show Builtin.Dict_items.ownsTuple "dict_itemiterator"=true by decide,if_true]
 show wpAny _ _ (if (Value.ref d==Value.none)=true then _ else _) _ _ _
 rw[if_neg (by exact Bool.false_ne_true)]
 refine wpAny_bind (wpAny_pure (wpAny_bind (wpAny_dictEntries ho hdat ?_)))
 rw[if_neg (by simp)]
 refine wpAny_bind (wpAny_pure (wpAny_bind (wpAny_dictEpoch ho hdat ?_)))
 rw[if_neg (by simp)]
 refine wpAny_pure ?_
 simp only[show¬((i:Int)<0) by omega,if_false,Int.toNat_natCast,Array.getElem?_eq_getElem hi]
 refine wpAny_bind ?_
 first|refine wpAny_bind (wpAny_typeNameOfWhole_itemiter hT (wpAny_pure (wpAny_bind (wpAny_isOneOf_itemiter hT ?_))))|refine wpAny_bind (wpAny_typeNameOf_itemiter hT (wpAny_pure (wpAny_bind (wpAny_isOneOf_itemiter hT ?_))))
 show wpAny _ _ (setField (.ref it) 3 (rawInt ((i:Int)+1)) >>= _) _ _ _
 refine wpAny_bind (wpAny_setField_rec hit (by simp) fun h1 e1 b1=>?_)
 replace b1:Heap.SameBut it hp h1:=b1
 replace e1:IsItemIter h1 it d (i+1) es.size ep ok ov:=by
  unfold IsItemIter
  rw[show((i+1:Nat):Int)=(i:Int)+1 by omega]
  simpa[rawInt] using e1
 have T1:Shared.TypeIs ⟨h1,g,dr,tk,os⟩ (.ref it) "dict_itemiterator":=⟨_,e1,rfl⟩
 refine wpAny_bind (wpAny_holding (wpAny_bind (wpAny_isOneOf_itemiter T1 (wpAny_bind (wpAny_isOneOf_itemiter T1 ?_)))))
 show wpAny _ _ (Builtin.Dict_items.pairFromOwner (.ref it) 6 es[i].key es[i].val) _ _ _
 unfold Builtin.Dict_items.pairFromOwner
 refine wpAny_bind (wpAny_newTuple ?_)
 have z1:h1.objs.size=hp.objs.size:=b1.1
 have lt:it<hp.objs.size:=Heap.lt_size hit
 have ne:hp.objs.size≠it:=Nat.ne_of_gt lt
 obtain⟨h2,eh2⟩:∃h2,h2=h1.push {cls:= .type "tuple",data:= .seq #[es[i].key,es[i].val]}:=⟨_,rfl⟩
 have e2:IsItemIter h2 it d (i+1) es.size ep ok ov:=by rw[eh2];exact Heap.get?_push_of_some _ e1
 have t2:h2.get? hp.objs.size=some {cls:= .type "tuple",data:= .seq #[es[i].key,es[i].val]}:=by rw[eh2,<-z1];exact Heap.get?_push_size _ rfl
 have k2:∀b o,b≠it->hp.get? b=some o->h2.get? b=some o:=fun b o hb e=>by rw[eh2];exact Heap.get?_push_of_some _ (b1.extBut b o hb e)
 show wpAny _ _ (Builtin.Dict_items.ownedTupleIsFree (.ref it) >>= _) _ _ ⟨h1.push _,g,dr,tk,os⟩
 rw[z1,<-eh2]
 refine wpAny_bind ?_
 unfold Builtin.Dict_items.ownedTupleIsFree
 refine wpAny_bind (wpAny_field e2 rfl (x:= .none) rfl (wpAny_pure ?_))
 simp only[if_true]
 refine wpAny_bind (wpAny_field e2 rfl (x:=ok) rfl (wpAny_bind (wpAny_field e2 rfl (x:=ov) rfl (wpAny_bind (wpAny_setField_rec e2 (by simp) fun h3 e3 b3=>?_)))))
 replace b3:Heap.SameBut it h2 h3:=b3
 replace e3:IsItemIter h3 it d (i+1) es.size ep es[i].key ov:=e3
 refine wpAny_bind (wpAny_setField_rec e3 (by simp) fun h4 e4 b4=>?_)
 replace b4:Heap.SameBut it h3 h4:=b4
 replace e4:IsItemIter h4 it d (i+1) es.size ep es[i].key es[i].val:=e4
 refine wpAny_bind (wpAny_setField_rec e4 (by simp) fun h5 e5 b5=>?_)
 replace b5:Heap.SameBut it h4 h5:=b5
 replace e5:IsItemIterOut h5 it d (i+1) es.size ep es[i].key es[i].val hp.objs.size:=e5
 refine wpAny_bind (wpAny_setField_rec e5 (by simp) fun h6 e6 b6=>?_)
 replace b6:Heap.SameBut it h5 h6:=b6
 replace e6:IsItemIterOut h6 it d (i+1) es.size ep es[i].key es[i].val hp.objs.size:=e6
 have kk:∀b o,b≠it->h2.get? b=some o->h6.get? b=some o:=fun b o hb e=>b6.extBut b o hb (b5.extBut b o hb (b4.extBut b o hb (b3.extBut b o hb e)))
 exact wpAny_bind (wpAny_letGo (wpAny_pure (wpAny_pure ⟨_,rfl,wpAny_pure (hQ h6 e6 (kk _ _ ne t2) fun b o hb e=>kk b o hb (k2 b o hb e))⟩)))
theorem qcV {ok ov:Value}{Q:Option Value->Shared->Prop}(hh:A.handled=none)(hit:IsItemIter s.heap it d i es.size ep ok ov)(ho:s.heap.get? d=some o)(hdat:o.data= .dict es ep)(hi:es.size<=i)
  (hQ:∀h',Heap.ExtBut it s.heap h'->Q none {s with heap:=h'}):wpAny (model prog w) A (pyNext (.ref it)) Q E s:=by
 have hT:s.TypeIs (.ref it) "dict_itemiterator":=⟨_,hit,rfl⟩
 unfold pyNext
 refine wpAny_bind (wpAny_attempt (wpAny_callSpecial?_slot (name:=Str.ofString "__next__") hT F.slot_dict_itemiterator_next (wpAny_call_entry F.slot_dict_itemiterator_next hT F.entry_dict_itemiterator_next ?_ (F.args_dict_itemiterator_next_1 _))))
 refine wpAny_bind (wpAny_pure (wpAny_bind (wpAny_bind ?_)))
 first|refine wpAny_bind (wpAny_typeNameOfWhole_itemiter hT (wpAny_pure (wpAny_bind (wpAny_fieldsOf hit rfl ?_))))|refine wpAny_bind (wpAny_typeNameOf_itemiter hT (wpAny_pure (wpAny_bind (wpAny_fieldsOf hit rfl ?_))))
 simp only[show Builtin.Dict_items.ownsTuple "dict_itemiterator"=true by decide,if_true]
 show wpAny _ _ (if (Value.ref d==Value.none)=true then _ else _) _ _ s
 rw[if_neg (by exact Bool.false_ne_true)]
 refine wpAny_bind (wpAny_pure (wpAny_bind (wpAny_dictEntries ho hdat ?_)))
 rw[if_neg (by simp)]
 refine wpAny_bind (wpAny_pure (wpAny_bind (wpAny_dictEpoch ho hdat ?_)))
 rw[if_neg (by simp)]
 refine wpAny_pure ?_
 simp only[show¬((i:Int)<0) by omega,if_false,Int.toNat_natCast,Array.getElem?_eq_none hi]
 refine wpAny_bind ?_
 first|refine wpAny_bind (wpAny_typeNameOfWhole_itemiter hT (wpAny_pure ?_))|refine wpAny_bind (wpAny_typeNameOf_itemiter hT (wpAny_pure ?_))
 show wpAny _ _ (setField (.ref it) 2 .none >>= _) _ _ s
 refine wpAny_bind (wpAny_setField hit rfl (by simp) ?_)
 show wpAny _ _ (newExc (.type "StopIteration") [] >>= _) _ _ _
 refine wpAny_bind ?_
 simp only[newExc,newTuple]
 refine wpAny_bind (wpAny_newObj_type (wpAny_bind (m:=firstArgMember _ _) (wpAny_of_eq (a:=Value.none) (by first|rfl|(simp only[firstArgMember];rfl)) (wpAny_newObj_type ?_ (by size_fits)))) (by size_fits))
 simp only[raiseNew]
 refine wpAny_bind (wpAny_handled ?_)
 rw[show A.in1.handled=none from hh]
 refine wpAny_bind (wpAny_pure (wpAny_throw ?_))
 refine wpAny_bind (wpAny_isInstance (b:=true) (T:="StopIteration") ⟨_,Heap.get?_push_size _ rfl,rfl⟩ isSubtype_stop ?_)
 exact wpAny_pure (hQ _ (((Heap.SameBut.update ..).extBut.push _).push _))
end
end DI
namespace L2
open PySem PySem.Spec PyProof.Rows
theorem Paired.at' {α β:Type}{F:α->β->Prop}:∀{l:List α} {m:List β} {i:Nat} {x:α} {y:β},Paired F l m->l[i]? =some x->m[i]? =some y->F x y
 |_,_,0,_,_,.cons r _,hx,hy=>by cases hx;cases hy;exact r
 |_,_,i+1,_,_,.cons _ t,hx,hy=>Paired.at' (i:=i) t hx hy
section
variable {X:Cx}{pins:List (Addr×Obj)}{σ:St}{H:Hp}{s:Shared}{a:Addr}
theorem Inv.hold {kvs:List (List Key×V)}(I:Inv X pins σ H s)(e:H a=some (.dT kvs)):∃o,Inv X pins σ (upd H a (.frz o (.dT kvs))) s:=by
 obtain⟨z,y,xs,r,o,es,ep,h1,h2⟩:=(show q0a X.prog X.w H s.heap a (.dT kvs) from I.hok a _ e)
 have ne:∀{b:Addr} {u:HO},H b=some u->(∀k,u≠ .dT k)->b≠a:=fun {b u} q n z=>by rw[z,e] at q;cases q;exact n _ rfl
 refine⟨o,I.un (h':=s.heap) (t':=s.toks) ⟨fun b ob q n _ _=>q,fun b ob q n _ _=>⟨ob.slots,q⟩,fun b ob q n _=>?_,fun b ob q _=>⟨ob,q⟩,fun b ts q=>?_,fun b ob u q=>?_,fun b ps q=>⟨#[],?_⟩⟩ fun b u q=>?_⟩
 ·rw [qi (fun z=>by rw[z,e] at n;cases n)];exact n
 ·rw [qi (ne q fun k z=>by cases z)];exact q
 ·rw [qi (ne q fun k z=>by cases z)];exact q
 ·rw [qi (ne q fun k z=>by cases z)];simpa using q
 ·have ht:∀c ts,H c=some (.tup ts)->upd H a (.frz o (.dT kvs)) c=some (.tup ts):=fun c ts q=>by rw[qi (ne q fun k z=>by cases z)];exact q
  have ho:∀c x,H c=some (.own x)->upd H a (.frz o (.dT kvs)) c=some (.own x):=fun c x q=>by rw[qi (ne q fun k z=>by cases z)];exact q
  by_cases hb:b=a
  ·subst hb
   rw[qb] at q
   cases q
   exact⟨h1,(I.hok b _ e).stay (fun c v _ q=>q) (fun c q=>ho c b q) ht⟩
  ·rw [qi hb] at q
   exact(I.hok b u q).stay (fun c v _ q=>q) (fun c q=>ho c b q) ht
theorem Inv.heldAt {o:Obj}{kvs:List (List Key×V)}{es:Array DictEntry}{ep:Nat}(I:Inv X pins σ H s)(e:H a=some (.frz o (.dT kvs)))(hd:o.data= .dict es ep):s.heap.get? a=some o/\o.ExactDict/\(a==sysModules)=false/\es.size=kvs.length/\
  ∀(i:Nat) (hi:i<kvs.length) (hj:i<es.size),∃b,es[i].key= .ref b/\H b=some (.tup (kvs[i].1.map kV))/\RelV kvs[i].2 es[i].val:=by
 obtain⟨h0,z,y,xs,r,o',es',ep',h1,h2,h3,h4,h5⟩:=(show q0a X.prog X.w H s.heap a (.frz o (.dT kvs)) from I.hok a _ e)
 rw[h0] at h1
 cases h1
 rw[hd] at h3
 cases h3
 have hl:kvs.length=xs.length:=r.length
 have hs:es.size=xs.length:=size_of_entries h4
 refine⟨h0,h2,y,by omega,fun i hi hj=>?_⟩
 have e1:=entry_at h4 i
 have hx:xs[i]? =some (xs[i]'(by omega)):=List.getElem?_eq_getElem _
 rw[Array.getElem?_eq_getElem hj,hx] at e1
 have e2:=Option.some.inj e1
 have rq:=Paired.at' r (List.getElem?_eq_getElem hi) hx
 refine⟨(xs[i]'(by omega)).2.1,by rw[e2];rfl,?_,?_⟩
 ·exact rq.2.1
 ·rw [e2];exact rq.2.2
end
def Itd (a:Addr)(o:Obj)(kvs:List (List Key×V)):It:=
 ⟨fun i H=>H a=some (.frz o (.dT kvs))/\i<kvs.length,fun i H x H'=>H'=H/\∃b p,kvs[i]? =some p/\x= .ref b/\H b=some (.tup (p.1.map kV)),fun i H=>H a=some (.frz o (.dT kvs))/\kvs.length<=i⟩
def Itp (a:Addr)(o:Obj)(kvs:List (List Key×V)):It:=
 ⟨fun i H=>H a=some (.frz o (.dT kvs))/\i<kvs.length,fun i H x H'=>∃T b p,H T=none/\kvs[i]? =some p/\x= .ref T/\H b=some (.tup (p.1.map kV))/\H'=upd H T (.tup [.ref b,p.2]),fun i H=>H a=some (.frz o (.dT kvs))/\kvs.length<=i⟩
theorem qbP {P:Program}{w:World}{K:PySem.W.Frag}{tg:Expr}{a it:Addr}{o:Obj}{kvs:List (List Key×V)}{es:Array DictEntry}{ep:Nat}(hd:o.data= .dict es ep):Turn P w K tg (Itd a o kvs) [it] it (fun i h=>h.IsKeyIter it a i es.size ep) where
 mem:=by simp
 obj:=fun i h st b hb=>by
  have e:b=it:=by simpa using hb
  subst e
  obtain⟨o,e,c,d⟩:=st
  exact⟨o,e,fun v z=>by rw[d] at z;cases z⟩
 keep:=fun i h h' st k=>st.at fun o e=>k it (by simp) o e
 item:=by
  intro X hP hw hK hc i pins s σ H E I hf st hg
  subst hP hw hK
  obtain⟨ha,hi⟩:=hg
  obtain⟨f0,f1,f2,f3,f4,f5⟩:=hf it (by simp)
  obtain⟨g0,gx,gm,gs,gi⟩:=I.heldAt ha hd
  have hj:i<es.size:=by omega
  obtain⟨b,kb,tb,_⟩:=gi i hi hj
  refine DI.q8S st g0 hd hj fun h' st' sb=>?_
  have I1:Inv X pins σ H {s with heap:=h'}:=I.turned (t':=s.toks) (fun b o hb e=>(sb.2 b hb).trans e) f0 f1 f3 f4 f5
  obtain⟨o',e,c,d⟩:=id st'
  exact⟨_,rfl,go_of (s:={s with heap:=h'}) e c d (by decide) ⟨.ref b,H,I1,kb,⟨rfl,b,_,List.getElem?_eq_getElem hi,rfl,tb⟩,st',fun b hb=>(hf b hb).1⟩⟩
 done:=by
  intro X hP hw hK hc i pins s σ H E I hf st hg
  subst hP hw hK
  obtain⟨ha,hi⟩:=hg
  obtain⟨f0,f1,f2,f3,f4,f5⟩:=hf it (by simp)
  obtain⟨g0,gx,gm,gs,gi⟩:=I.heldAt ha hd
  exact DI.qbw (I.ok.hd hc) st g0 hd (by omega) fun h' eb=>⟨rfl,I.turned (t':=s.toks) (fun b o hb e=>eb b o hb e) f0 f1 f3 f4 f5⟩
 self:=fun _ _ _ _ _ st h=>wpAny_pyIter_keyiter st h
theorem q5N:entryFor table "dict_itemiterator.__iter__"=some Builtin.«dict_keyiterator.__iter__» :=entryFor_alias (id':="dict_keyiterator.__iter__") (by kernel_rfl) rfl (by decide +kernel) (by kernel_rfl)
theorem q6j {prog:Program}{w:World}{A:Around}{E:Value->Shared->Prop}{s:Shared}{it d:Addr}{i n ep:Nat}{ok ov:Value}{Q:Value->Shared->Prop}(hit:IsItemIter s.heap it d i n ep ok ov)(h:Q (.ref it) s):wpAny (model prog w) A (pyIter (.ref it)) Q E s:=by
 have hT:s.TypeIs (.ref it) "dict_itemiterator":=⟨_,hit,rfl⟩
 refine wpAny_pyIter_slot hT F.slot_dict_itemiterator_iter (wpAny_call_entry F.slot_dict_itemiterator_iter hT q5N ?_ (F.args_dict_itemiterator_iter_1 _))
 show wpAny _ _ (ret (.ref it)) _ _ s
 exact wpAny_pure ⟨_,rfl,"dict_itemiterator",_,hT,F.slot_dict_itemiterator_next.lookup,h⟩
theorem qbO {P:Program}{w:World}{K:PySem.W.Frag}{elts:List Expr}{k:Nat}{tp:Pos}{a it:Addr}{o:Obj}{kvs:List (List Key×V)}{es:Array DictEntry}{ep:Nat}(hd:o.data= .dict es ep):Turn P w K (.Tuple elts k tp) (Itp a o kvs) [it] it (fun i h=>∃ok ov,IsItemIter h it a i es.size ep ok ov) where
 mem:=by simp
 obj:=fun i h st b hb=>by
  have e:b=it:=by simpa using hb
  subst e
  obtain⟨_,_,e⟩:=st
  exact⟨_,e,fun v z=>by cases z⟩
 keep:=fun i h h' st kk=>let ⟨ok,ov,e⟩:=st;⟨ok,ov,kk it (by simp) _ e⟩
 item:=by
  intro X hP hw hK hc i pins s σ H E I hf st hg
  subst hP hw hK
  obtain⟨ha,hi⟩:=hg
  obtain⟨ok,ov,st⟩:=st
  obtain⟨g0,gx,gm,gs,gi⟩:=I.heldAt ha hd
  have hj:i<es.size:=by omega
  obtain⟨b,kb,tb,rb⟩:=gi i hi hj
  refine DI.qaP st g0 hd hj fun h' ho hT hk=>?_
  have ne:∀b∈[it],b≠s.heap.objs.size:=fun b hb=>by rw[List.mem_singleton.mp hb];exact Nat.ne_of_lt (Heap.lt_size st)
  have kk:∀b o,b∉[it]->s.heap.get? b=some o->h'.get? b=some o:=fun b o hb q=>hk b o (fun z=>hb (by simp[z])) q
  have I1:Inv X pins σ (upd H s.heap.objs.size (.tup [.ref b,kvs[i].2])) {s with heap:=h',toks:=s.toks}:=I.yields (vals:=[es[i].key,es[i].val]) hf kk (Nat.le_refl _) ⟨_,hT,rfl,_,rfl⟩ (.cons kb (.cons rb .nil)) (by show 2<=sizeLine;decide)
  have hf1:=q70 (o:= .tup [.ref b,kvs[i].2]) hf ne
  refine⟨_,rfl,wpAny_letOwnedTupleGo_items ho fun h'' he'' sb=>?_⟩
  have I2:Inv X pins σ (upd H s.heap.objs.size (.tup [.ref b,kvs[i].2])) {s with heap:=h'',toks:=s.toks}:=I1.turnedL (t':=s.toks) hf1 fun b o hb q=>(sb.2 b fun z=>hb (by simp[z])).trans q
  exact⟨.ref s.heap.objs.size,_,I2,rfl,⟨_,b,_,I.hok.fresh (Nat.le_refl _),List.getElem?_eq_getElem hi,rfl,tb,rfl⟩,⟨_,_,he''⟩,fun b hb=>(hf1 b hb).1⟩
 done:=by
  intro X hP hw hK hc i pins s σ H E I hf st hg
  subst hP hw hK
  obtain⟨ha,hi⟩:=hg
  obtain⟨ok,ov,st⟩:=st
  obtain⟨g0,gx,gm,gs,gi⟩:=I.heldAt ha hd
  exact DI.qcV (I.ok.hd hc) st g0 hd (by omega) fun h' eb=>⟨rfl,I.turnedL (t':=s.toks) (ch:=[it]) hf fun b o hb q=>eb b o (fun z=>hb (by simp[z])) q⟩
 self:=fun _ _ _ _ _ st h=>by obtain⟨_,_,st⟩:=st;exact q6j st h
section
variable {X:Cx}{tg:Expr}
def iDk (tl:TE):TI:=fun σ H R=>tl σ H fun x H1=>∃a o kvs,x= .ref a/\H1 a=some (.frz o (.dT kvs))/\R (Itd a o kvs) H1
theorem pi_dk {l:Expr}{tl:TE}(hl:PE X l tl):PI X tg l (iDk tl):=by
 intro pins s σ H R I h
 refine thn (hl pins s σ H _ I h) fun v s1 ⟨x,H1,I1,r1,q1⟩=>?_
 obtain⟨a,o,kvs,e,ha,q⟩:=q1
 subst e
 cases r1
 obtain⟨es,ep,hd⟩:∃es ep,o.data= .dict es ep:=by
  obtain⟨h0,z,y,xs,r,o',es',ep',h1,h2,h3,h4,h5⟩:=(show q0a X.prog X.w H1 s1.heap a (.frz o (.dT kvs)) from I1.hok a _ ha)
  rw[h0] at h1
  cases h1
  exact⟨_,_,h3⟩
 obtain⟨g0,gx,gm,gs,gi⟩:=I1.heldAt ha hd
 refine DI.keys gm g0 gx hd ?_
 refine⟨s1.heap.objs.size,[s1.heap.objs.size],_,_,H1,rfl,I1.kept (t':=s1.toks) fun b o e=>Heap.get?_push_of_some _ e,qbP hd,⟨_,Heap.get?_push_size _ rfl,rfl,rfl⟩,fun b hb=>?_,q⟩
 have e:b=s1.heap.objs.size:=by simpa using hb
 subst e
 exact I1.fpOk (Nat.le_refl _) (I1.hok.fresh (Nat.le_refl _))
def iDp (tl:TE):TI:=fun σ H R=>tl σ H fun x H1=>∃a o kvs,x= .ref a/\H1 a=some (.frz o (.dT kvs))/\R (Itp a o kvs) H1
theorem pi_dp {elts:List Expr}{k:Nat}{tp:Pos}{l:Expr}{tl:TE}{apos cpos:Pos}(hl:PE X l tl)(hbase:attributeBase l "items" X.env (eval l X.env)=eval l X.env:=by rfl)(hline:(apos.endLine==cpos.line)=true:=by rfl):PI X (.Tuple elts k tp) (.Call (.Attribute l "items" apos) [] [] cpos) (iDp tl):=by
 intro pins s σ H R I h
 refine wpAny_Call_method0_late hbase hline (thn (hl pins s σ H _ I h) fun v s1 ⟨x,H1,I1,r1,q1⟩=>?_)
 obtain⟨a,o,kvs,e,ha,q⟩:=q1
 subst e
 cases r1
 obtain⟨es,ep,hd⟩:∃es ep,o.data= .dict es ep:=by
  obtain⟨h0,z,y,xs,r,o',es',ep',h1,h2,h3,h4,h5⟩:=(show q0a X.prog X.w H1 s1.heap a (.frz o (.dT kvs)) from I1.hok a _ ha)
  rw[h0] at h1
  cases h1
  exact⟨_,_,h3⟩
 obtain⟨g0,gx,gm,gs,gi⟩:=I1.heldAt ha hd
 refine⟨"dict","dict.items",F.plainAttrs_dict,F.slot_dict_items,F.type_dict_items,DI.ty g0 gx,fun b z=>by cases z;exact⟨o,g0,gx.2.1⟩,Calls.callWith_builtin rfl (PySem.evalArgs_none ?_)⟩
 refine call_meetsIn F.slot_dict_items (DI.ty g0 gx) F.entry_dict_items (F.args_dict_items_1 _) (DI.view a gm) ⟨⟨o,g0,gx⟩,?_⟩
 have I2:Inv X pins σ H1 {s1 with heap:=s1.heap.push {cls:= .type "dict_items",data:= .fields #[.ref a]}}:=I1.kept (t':=s1.toks) fun b o e=>Heap.get?_push_of_some _ e
 refine DI.items (s:={s1 with heap:=s1.heap.push {cls:= .type "dict_items",data:= .fields #[.ref a]}}) ⟨_,Heap.get?_push_size _ rfl,rfl,rfl⟩ (Heap.get?_push_of_some _ g0) hd ?_
 refine⟨_,[_],_,_,H1,rfl,I2.kept (t':=s1.toks) fun b o e=>Heap.get?_push_of_some _ e,qbO hd,⟨_,_,Heap.get?_push_size _ rfl⟩,fun b hb=>?_,q⟩
 rw[List.mem_singleton.mp hb]
 exact I2.fpOk (Nat.le_refl _) (I2.hok.fresh (Nat.le_refl _))
end
def sHold (t:TS):TS:=fun D σ H=>∃a kvs,H a=some (.dT kvs)/\∀o,t D σ (upd H a (.frz o (.dT kvs)))
theorem q8q {X:Cx}{s:Stmt}{t:TS}(h:PS X s t):PS X s (sHold t):=by
 intro pins sh σ H D I q
 obtain⟨a,kvs,e,k⟩:=q
 obtain⟨o,I1⟩:=I.hold e
 exact h pins sh σ _ D I1 (k o)
section
variable {K:PySem.W.Frag}{g:TG}{tb:TS}{nx:St->Hp->Prop}{rt:V->Hp->Prop}{σ:St}{H:Hp}{a:Addr}{o:Obj}{kvs:List (List Key×V)}
theorem for_dk (Pv:Nat->St->Hp->Prop)(h0:Pv 0 σ H)(hl:∀i σ H,Pv i σ H->H a=some (.frz o (.dT kvs)))
  (go:∀i b p σ H,kvs[i]? =some p->H b=some (.tup (p.1.map kV))->Pv i σ H->g (.ref b) σ H fun σ2 H2=>tb ⟨Pv (i+1),rt,nx,Pv (i+1)⟩ σ2 H2)(stop:∀σ H,Pv kvs.length σ H->nx σ H):ForG (Itd a o kvs) g tb nx rt σ H:=
 q2Z kvs.length Pv h0 (fun i σ H hi p=>⟨⟨hl i σ H p,hi⟩,fun x H' ⟨e1,b,q,hq,ex,hb⟩=>by subst e1 ex;exact go i b q σ _ hq hb p⟩) fun σ H p=>⟨⟨hl _ σ H p,Nat.le_refl _⟩,stop σ H p⟩
theorem for_dp (Pv:Nat->St->Hp->Prop)(h0:Pv 0 σ H)(hl:∀i σ H,Pv i σ H->H a=some (.frz o (.dT kvs)))
  (go:∀i b T p σ H,kvs[i]? =some p->H b=some (.tup (p.1.map kV))->H T=none->Pv i σ H->g (.ref T) σ (upd H T (.tup [.ref b,p.2])) fun σ2 H2=>tb ⟨Pv (i+1),rt,nx,Pv (i+1)⟩ σ2 H2)(stop:∀σ H,Pv kvs.length σ H->nx σ H):ForG (Itp a o kvs) g tb nx rt σ H:=
 q2Z kvs.length Pv h0 (fun i σ H hi p=>⟨⟨hl i σ H p,hi⟩,fun x H' ⟨T,b,q,hT,hq,ex,hb,e1⟩=>by subst e1 ex;exact go i b T q σ _ hq hb hT p⟩) fun σ H p=>⟨⟨hl _ σ H p,Nat.le_refl _⟩,stop σ H p⟩
variable {tc:TT}{te:TE}{R:Hp->Prop}{D:Addr}
theorem qdd (Pv:Nat->St->Hp->Prop)(h0:Pv 0 σ H)(hl:∀i σ H,Pv i σ H->H a=some (.frz o (.dT kvs)))(go:∀i b p σ H,kvs[i]? =some p->H b=some (.tup (p.1.map kV))->Pv i σ H->g (.ref b) σ H fun σ3 H3=>tc σ3 H3 fun b H4=>
   if b=true then te σ3 H4 fun y H5=>∃ys,H5 D=some (.lst ys)/\ys.length<sizeLine/\Pv (i+1) σ3 (upd H5 D (.lst (ys++[y]))) else Pv (i+1) σ3 H4)(stop:∀σ H,Pv kvs.length σ H->R H):qb9 (Itd a o kvs) g tc te R D σ H:=
 q3S kvs.length Pv h0 (fun i σ H hi p=>⟨⟨hl i σ H p,hi⟩,fun x H' ⟨e1,b,q,hq,ex,hb⟩=>by subst e1 ex;exact go i b q σ _ hq hb p⟩) fun σ H p=>⟨⟨hl _ σ H p,Nat.le_refl _⟩,stop σ H p⟩
end
end L2
namespace Srt
open PySem PySem.W PyProof.Rows
variable {O:KeyOrd}{key:Nat->O.α}{n:Nat}
end Srt
namespace Srt
open PySem PySem.W PyProof.Rows
def LO:KeyOrd where
 α:=List Int
 blt a b:=decide (a<b)
 irrefl a:=decide_eq_false (List.lt_irrefl a)
 trans a b c h1 h2:=decide_eq_true (List.lt_trans (of_decide_eq_true h1) (of_decide_eq_true h2))
 negTrans a b c h:=by
  have h:=of_decide_eq_true h
  by_cases h1:a<b
  ·exact .inl (decide_eq_true h1)
  ·by_cases h2:b<c
   ·exact .inr (decide_eq_true h2)
   ·exact absurd h (List.not_lt.mpr (List.le_trans (List.not_lt.mp h2) (List.not_lt.mp h1)))
 total a b h1 h2:=List.le_antisymm (List.not_lt.mp (of_decide_eq_false h2)) (List.not_lt.mp (of_decide_eq_false h1))
section
variable {prog:Program}{w:World}{A:Around}{E:Value->Shared->Prop}{s:Shared}{Q:Bool->Shared->Prop}
theorem lex:∀{us vs:List Value} {ks js:List Int} {i:Nat},IntsAre us ks->IntsAre vs js->ks.length=js.length->Q (decide (ks<js)) s->KatLex prog w A true false Q (us.zip vs) i s
 |_,_,[],[],i,.nil,.nil,_,h=>by
  have e:decide (([]:List Int)<[])=false:=rfl
  rw[e] at h
  exact h
 |_,_,k::ks,j::js,i,.cons _ t hu,.cons _ t' hv,hl,h=>by
  refine kat_cons (wpAny_eqBool_int ?_)
  by_cases e:k=j
  ·subst e
   rw[show(k==k)=true by simp]
   refine kat_yes (lex hu hv (by simpa using hl) ?_)
   have e2:decide (k::ks<k::js)=decide (ks<js):=by simp[List.cons_lt_cons_iff]
   rw[e2] at h
   exact h
  ·rw [show(k==j)=false by simpa using e]
   have e2:decide (k::ks<j::js)=decide (k<j):=by simp[List.cons_lt_cons_iff,e]
   rw[e2] at h
   refine kat_no ?_
   by_cases hi:i=0
   ·subst hi
    exact oneLt_int h
   ·rw [show(true&&i==0)=false by simpa using hi]
    exact kat_one _ _ (lt_int h)
end
end Srt
namespace L2
open PySem PySem.Spec PyProof.Rows PySem.W
theorem pw_two {α:Type}{R:α->α->Prop}:∀{l:List α},l.length<2->l.Pairwise R
 |[],_=> .nil
 |[_],_=>List.pairwise_singleton _ _
 |_::_::_,h=>absurd h (by simp)
theorem q3g {X:Cx}{pins:List (Addr×Obj)}{σ:St}{H:Hp}{s:Shared}{b:Addr}{ks:List Int}(I:Inv X pins σ H s)(e:H b=some (.tup (ks.map V.int))):∃(o:Obj) (us:List Value) (n:Nat),s.heap.get? b=some o/\o.cls= .type "tuple"/\o.data= .seq us.toArray n/\IntsAre us ks:=by
 obtain⟨_,its,r,o,h1,h2,n,h3⟩:=(show q0a X.prog X.w H s.heap b (.tup (ks.map V.int)) from I.hok b _ e)
 exact⟨o,its,n,h1,h2,h3,q7G r⟩
theorem q4D {us:List Value}{ks:List Int}(h:IntsAre us ks):us.length=ks.length:=by
 induction h with
 |nil=>rfl
 |cons _ _ _ ih=>simp[ih]
end L2
namespace L2
open PySem PySem.Spec PyProof.Rows
theorem q0Q {k:Nat}{A:Around}(hr:Room k A):A.units+1<cLine:=by have:=hr.un;omega
section
variable {σ:St}{H:Hp}{Q:VK}{td ty tv:TE}{nx:St->Hp->Prop}{rt:V->Hp->Prop}{bk ct:St->Hp->Prop}
theorem r_dnew (q:∀p,H p=none->Q (.ref p) (upd H p (.dT []))):qbd σ H Q:=q
theorem r_dget (q:td σ H fun x H1=>ty σ H1 fun y H2=>∃a v,x= .ref a/\DGet H2 a y (some v)/\Q v H2):tDGet td ty σ H Q:=q
theorem r_din (q:ty σ H fun y H1=>td σ H1 fun x H2=>∃a o,x= .ref a/\DGet H2 a y o/\Q (.bl o.isSome) H2):tDIn ty td σ H Q:=q
theorem r_dnin (q:ty σ H fun y H1=>td σ H1 fun x H2=>∃a o,x= .ref a/\DGet H2 a y o/\Q (.bl (!o.isSome)) H2):q80 ty td σ H Q:=q
theorem r_dput (q:tv σ H fun v H1=>td σ H1 fun x H2=>ty σ H2 fun y H3=>∃a H4,x= .ref a/\DPut H3 a y v H4/\nx σ H4):sDPut td ty tv ⟨nx,rt,bk,ct⟩ σ H:=q
theorem r_hold {t:TS}{D:Ends}(q:∃a kvs,H a=some (.dT kvs)/\∀o,t D σ (upd H a (.frz o (.dT kvs)))):sHold t D σ H:=q
theorem r_dk {R:It->Hp->Prop}(q:td σ H fun x H1=>∃a o kvs,x= .ref a/\H1 a=some (.frz o (.dT kvs))/\R (Itd a o kvs) H1):iDk td σ H R:=q
theorem r_dp {R:It->Hp->Prop}(q:td σ H fun x H1=>∃a o kvs,x= .ref a/\H1 a=some (.frz o (.dT kvs))/\R (Itp a o kvs) H1):iDp td σ H R:=q
end
theorem r_augN {i:Nat}{v:V}{te:TE}{ip:V->V->Hp->VK->Prop}{σ:St}{H:Hp}{nx:St->Hp->Prop}{rt:V->Hp->Prop}{bk ct:St->Hp->Prop}(h:σ[i]? =some (some v))(q:te σ H fun y H1=>ip v y H1 fun z H2=>nx (σ.set i (some z)) H2):tAug i te ip ⟨nx,rt,bk,ct⟩ σ H:=⟨v,h,q⟩
theorem q8l {c:TT}{tb:TS}{σ:St}{H:Hp}{nx:St->Hp->Prop}{rt:V->Hp->Prop}{bk ct:St->Hp->Prop}(W:Nat->St->Hp->Prop)(m:Nat)(h0:W m σ H)
  (go:∀m σ H,W m σ H->c σ H fun b H1=>if b=true then∃N:St->Hp->Prop,(∀σ' H',N σ' H'->∃m',m'<m/\W m' σ' H')/\tb ⟨N,rt,nx,N⟩ σ H1 else nx σ H1):qbb c tb ⟨nx,rt,bk,ct⟩ σ H:=⟨W,⟨m,h0⟩,go⟩
theorem qbo {X:Cx}{tg l:Expr}{tl:TE}(K:PySem.W.Frag)(hl:PE X l tl):PI X tg l (iDk tl):=pi_dk hl
theorem pi_dpK {X:Cx}{elts:List Expr}{k:Nat}{tp:Pos}{l:Expr}{tl:TE}{apos cpos:Pos}(K:PySem.W.Frag)(hl:PE X l tl)(hbase:attributeBase l "items" X.env (eval l X.env)=eval l X.env:=by rfl)(hline:(apos.endLine==cpos.line)=true:=by rfl):PI X (.Tuple elts k tp) (.Call (.Attribute l "items" apos) [] [] cpos) (iDp tl):=pi_dp hl hbase hline
end L2
namespace Ce
open L2 PySem PySem.Spec PyProof.Rows
def Sd.ns (s:Sd):List Int:=[s.rm,s.tk,s.op,s.b,s.wt]
def Sd.key (s:Sd):List Key:=[.inl s.rm,.inl s.tk,.inl s.op,.inl s.b,.inl s.wt]
theorem Sd.ns_inj {a b:Sd}(h:a.ns=b.ns):a=b:=by
 cases a;cases b;simp only[Sd.ns,List.cons.injEq,and_true] at h;obtain⟨h1,h2,h3,h4,h5⟩:=h;subst h1 h2 h3 h4 h5;rfl
theorem Sd.key_inj {a b:Sd}(h:a.key=b.key):a=b:=by
 cases a;cases b;simp only[Sd.key,List.cons.injEq,Sum.inl.injEq,and_true] at h;obtain⟨h1,h2,h3,h4,h5⟩:=h;subst h1 h2 h3 h4 h5;rfl
theorem Sd.vs_inj {a b:Sd}(h:a.vs=b.vs):a=b:=by
 cases a;cases b;simp only[Sd.vs,List.cons.injEq,V.int.injEq,and_true] at h;obtain⟨h1,h2,h3,h4,h5⟩:=h;subst h1 h2 h3 h4 h5;rfl
instance:DecidableEq Sd:=fun a b=>decidable_of_iff (a.ns=b.ns) ⟨Sd.ns_inj,fun h=>by rw[h]⟩
def SAt (H:Hp)(p:Addr)(s:Sd):Prop:=H p=some (.tup s.vs)
theorem SAt.mono {H H':Hp}(s:q00 H H'){p:Addr}{x:Sd}(h:SAt H p x):SAt H' p x:=s _ _ h
theorem SAt.put {H:Hp}{D:Addr}{xs:List V}{o:HO}(hD:H D=some (.lst xs)){p:Addr}{x:Sd}(h:SAt H p x):SAt (upd H D o) p x:=q00.lst hD _ _ h
theorem q9s {K:PySem.W.Frag}{H:Hp}{a b:Addr}{s t:Sd}(ha:SAt H a s)(hb:SAt H b t):Deq K H 1 (.ref a) (.ref b) (decide (s=t)):=by
 by_cases e:a=b
 ·subst e
  have:s=t:=Sd.vs_inj (by have h:=ha.symm.trans hb;simpa using h)
  rw[decide_eq_true this]
  exact .same a
 ·have h:=Deq.tup (K:=K) (n:=0) (e:=fun j=>eqV (s.vs.getD j .non) (t.vs.getD j .non)) e (SqT.of ha) (SqT.of hb) fun j h1 h2=> .flat (by
    have:j<5:=h1
    obtain rfl|rfl|rfl|rfl|rfl:j=0\/j=1\/j=2\/j=3\/j=4:=by omega
    all_goals rfl) (by
    have:j<5:=h1
    obtain rfl|rfl|rfl|rfl|rfl:j=0\/j=1\/j=2\/j=3\/j=4:=by omega
    all_goals rfl)
  have e2:((List.range (min s.vs.length t.vs.length)).all (fun j=>eqV (s.vs.getD j .non) (t.vs.getD j .non))&&s.vs.length==t.vs.length)=decide (s=t):=by
   have e3:decide (s=t)=(decide (s.rm=t.rm)&&(decide (s.tk=t.tk)&&(decide (s.op=t.op)&&(decide (s.b=t.b)&&decide (s.wt=t.wt))))):=by
    cases s;cases t;simp[Bool.decide_and]
   rw[e3]
   show((eqV (.int s.rm) (.int t.rm)&&(eqV (.int s.tk) (.int t.tk)&&(eqV (.int s.op) (.int t.op)&&(eqV (.int s.b) (.int t.b)&&(eqV (.int s.wt) (.int t.wt)&&true)))))&&true)=_
   simp[eqV]
   rfl
  rw[e2] at h
  exact h
def sdOf (H:Hp)(b:Addr):Option Sd:=match H b with
 |some (.tup [.int r,.int t,.int o,.int bb,.int w])=>some ⟨r,t,o,bb,w⟩
 |_=>none
theorem q8d {H:Hp}{b:Addr}{s:Sd}(h:SAt H b s):sdOf H b=some s:=by
 unfold sdOf
 rw[h]
 rfl
theorem qbF {H:Hp}{s:Sd}:∀{ps:List Addr} {sts:List Sd},Rows SAt H ps sts->(ps.any fun b=>decide (sdOf H b=some s))=decide (s∈sts)
 |[],[],_=>by simp
 |[],_::_,h=>by simp[Rows] at h
 |_::_,[],h=>by simp[Rows] at h
 |p::ps,t::sts,h=>by
  have h1:SAt H p t:=h.2 0 p t rfl rfl
  have h2:Rows SAt H ps sts:=⟨by have:=h.1;simpa using this,fun i q x a b=>h.2 (i+1) q x a b⟩
  rw[List.any_cons,qbF h2,q8d h1]
  by_cases e:t=s
  ·subst e;simp
  ·simp [e,show¬s=t from fun z=>e z.symm]
theorem Rows.mem {α:Type}{At:Hp->Addr->α->Prop}{H:Hp}{ps:List Addr}{xs:List α}(h:Rows At H ps xs){b:Addr}(hb:b∈ps):∃x∈xs,At H b x:=by
 obtain⟨i,hi,e⟩:=List.getElem_of_mem hb
 have hj:i<xs.length:=by rw[<-h.1];exact hi
 exact⟨xs[i],List.getElem_mem hj,h.2 i b _ (by rw[List.getElem?_eq_getElem hi,e]) (List.getElem?_eq_getElem hj)⟩
theorem q6K {K:PySem.W.Frag}{H:Hp}{Q:VK}{p q:Addr}{s:Sd}{sts:List Sd}(hl:qJ SAt H p sts)(hq:SAt H q s)(k:Q (.bl (!decide (s∈sts))) H):rInD K 1 true (.ref q) (.ref p) H Q:=by
 obtain⟨ps,h1,h2⟩:=hl
 refine⟨p,ps,fun b=>decide (sdOf H b=some s),rfl,SqL.of h1,fun b hb=>?_,?_⟩
 ·obtain ⟨t,_,ht⟩:=Rows.mem h2 hb
  have:=q9s (K:=K) ht hq
  show Deq K H 1 (.ref b) (.ref q) (decide (sdOf H b=some s))
  rw[q8d ht]
  simpa using this
 ·rw [qbF h2];exact k
abbrev Dk:=List (Sd×V)
def dkv (l:Dk):List (List Key×V):=l.map fun x=>(x.1.key,x.2)
def dat (l:Dk)(s:Sd):Option V:=(l.find? fun x=>decide (x.1=s)).map (·.2)
theorem q4K (s:Sd):∀l:Dk,valV (dkv l) s.key=dat l s
 |[]=>rfl
 |x::l=>by
  by_cases e:x.1=s
  ·rw [show dkv (x::l)=(x.1.key,x.2)::dkv l from rfl,q3d (by rw[e])]
   simp[dat,e]
  ·rw [show dkv (x::l)=(x.1.key,x.2)::dkv l from rfl,q3e (fun z=>e (Sd.key_inj z)),q4K s l]
   simp[dat,e]
theorem q4L {l:Dk}{s:Sd}:dat l s=none↔s∉l.map (·.1):=by
 unfold dat
 rw[Option.map_eq_none_iff,List.find?_eq_none]
 simp only[decide_eq_true_eq,List.mem_map,not_exists,not_and]
theorem q77 {l:Dk}{s:Sd}{v:V}(hn:(l.map (·.1)).Nodup)(h:(s,v)∈l):dat l s=some v:=by
 induction l with
 |nil=>cases h
 |cons x l ih=>
  rw[List.map_cons,List.nodup_cons] at hn
  rcases List.mem_cons.mp h with e|h
  ·subst e;simp[dat]
  ·have ne:¬x.1=s:=fun e=>hn.1 (List.mem_map.mpr ⟨_,h,e.symm⟩)
   have:=ih hn.2 h
   simpa[dat,ne] using this
theorem q1a {l:Dk}{s:Sd}:(dat l s).isSome=decide (s∈l.map (·.1)):=by
 cases e:dat l s with
 |none=>rw[decide_eq_false (q4L.mp e)];rfl
 |some v=>
  have:¬dat l s=none:=by rw[e];simp
  rw[decide_eq_true (Classical.byContradiction fun z=>this (q4L.mpr z))];rfl
theorem qd7 {l:Dk}{s:Sd}{v:V}(h:s∉l.map (·.1)):putK (dkv l) s.key v=dkv (l++[(s,v)]):=by
 unfold putK
 rw[q3f,q4K,q4L.mpr h,if_neg (by decide)]
 simp[dkv]
def DAtS (H:Hp)(a:Addr)(l:Dk):Prop:=H a=some (.dT (dkv l))
theorem q3Q {H:Hp}{a b:Addr}{l:Dk}{s:Sd}(h:Rd H a (.dT (dkv l)))(hb:SAt H b s):DGet H a (.ref b) (dat l s):= .inr ⟨_,s.key,b,h,rfl,hb,(q4K s l).symm⟩
theorem q4f {H:Hp}{a b:Addr}{l:Dk}{s:Sd}{v:V}(h:DAtS H a l)(hb:SAt H b s)(hl:l.length<sizeLine)(hn:s∉l.map (·.1)):DPut H a (.ref b) v (upd H a (.dT (dkv (l++[(s,v)])))):=by
 have:=DPut.t (k:=s.key) (v:=v) h hb (by simpa[dkv] using hl)
 rwa [qd7 hn] at this
inductive Rch {α:Type}(R:α->α->Prop)(a:α):α->Prop where
 |refl:Rch R a a
 |step {b c:α}:Rch R a b->R b c->Rch R a c
theorem Rch.trans {α:Type}{R:α->α->Prop}{a b c:α}(h1:Rch R a b)(h2:Rch R b c):Rch R a c:=by
 induction h2 with
 |refl=>exact h1
 |step _ r ih=>exact ih.step r
theorem Rch.head {α:Type}{R:α->α->Prop}{a b c:α}(h:R a b)(h2:Rch R b c):Rch R a c:=(Rch.refl.step h).trans h2
structure Srch (R:Sd->Sd->Prop)(s0:Sd)(row:List Sd)(pl:Nat):Prop where
 nd:row.Nodup
 st:s0∈row
 rch:∀x∈row,Rch R s0 x
 cl:∀i (h:i<row.length),i<pl->∀y,R row[i] y->y∈row
theorem Srch.start {R:Sd->Sd->Prop}{s0:Sd}:Srch R s0 [s0] 0:=⟨by simp,by simp,fun x hx=>by rw[List.mem_singleton.mp hx];exact .refl,fun i _ h=>absurd h (Nat.not_lt_zero _)⟩
theorem Srch.end {R:Sd->Sd->Prop}{s0:Sd}{row:List Sd}{pl:Nat}(h:Srch R s0 row pl)(hp:row.length<=pl)(x:Sd):x∈row↔Rch R s0 x:=by
 refine⟨h.rch x,fun hx=>?_⟩
 induction hx with
 |refl=>exact h.st
 |step _ r ih=>
  obtain⟨i,hi,e⟩:=List.getElem_of_mem ih
  exact h.cl i hi (by omega) _ (by rw[e];exact r)
structure Mid (R:Sd->Sd->Prop)(s0 here:Sd)(row:List Sd)(pl:Nat)(done:List Sd):Prop where
 nd:row.Nodup
 st:s0∈row
 rch:∀x∈row,Rch R s0 x
 cl:∀i (h:i<row.length),i<pl->∀y,R row[i] y->y∈row
 at':row[pl]? =some here
 dn:∀y∈done,y∈row
theorem Srch.mid {R:Sd->Sd->Prop}{s0 here:Sd}{row:List Sd}{pl:Nat}(h:Srch R s0 row pl)(e:row[pl]? =some here):Mid R s0 here row pl []:=⟨h.nd,h.st,h.rch,h.cl,e,fun y z=>nomatch z⟩
theorem Mid.old {R:Sd->Sd->Prop}{s0 here y:Sd}{row done:List Sd}{pl:Nat}(h:Mid R s0 here row pl done)(hy:y∈row):Mid R s0 here row pl (done++[y]):=
 ⟨h.nd, h.st, h.rch, h.cl, h.at', fun x hx => by rcases List.mem_append.mp hx with z|z;· exact h.dn x z
                                                 ·rw [List.mem_singleton.mp z];exact hy⟩
theorem Mid.new {R:Sd->Sd->Prop}{s0 here y:Sd}{row done:List Sd}{pl:Nat}(h:Mid R s0 here row pl done)(hy:y∉row)(r:R here y):Mid R s0 here (row++[y]) pl (done++[y]):=by
 have hpl:pl<row.length:=(List.getElem?_eq_some_iff.mp h.at').1
 refine⟨List.nodup_append.mpr ⟨h.nd,by simp,fun a ha b hb e=>?_⟩,List.mem_append_left _ h.st,fun x hx=>?_,fun i hi hl z rz=>?_,?_,fun x hx=>?_⟩
 ·rw [List.mem_singleton.mp hb] at e;subst e;exact hy ha
 ·rcases List.mem_append.mp hx with z|z
  ·exact h.rch x z
  ·rw [List.mem_singleton.mp z]
   exact(h.rch here (List.mem_of_getElem? h.at')).step r
 ·rw [List.getElem_append_left (by omega)] at rz
  exact List.mem_append_left _ (h.cl i (by omega) hl z rz)
 ·rw [List.getElem?_append_left hpl];exact h.at'
 ·rcases List.mem_append.mp hx with z|z
  ·exact List.mem_append_left _ (h.dn x z)
  ·exact List.mem_append_right _ z
theorem Mid.next {R:Sd->Sd->Prop}{s0 here:Sd}{row done:List Sd}{pl:Nat}(h:Mid R s0 here row pl done)(hd:∀y,R here y->y∈done):Srch R s0 row (pl+1):=by
 refine⟨h.nd,h.st,h.rch,fun i hi hl z rz=>?_⟩
 by_cases e:i=pl
 ·subst e
  have:row[i]=here:=(List.getElem?_eq_some_iff.mp h.at').2
  rw[this] at rz
  exact h.dn z (hd z rz)
 ·exact h.cl i hi (by omega) z rz
def Ord (l:List Sd):Prop:=l.Pairwise fun a b=>¬b.ns<a.ns
theorem q4x:∀{l m:List Sd},l.Perm m->Ord l->Ord m->l=m:=fun {l m} hp hl hm=>
 hp.eq_of_pairwise (fun a b _ _ h1 h2=>Sd.ns_inj (List.le_antisymm (List.not_lt.mp h1) (List.not_lt.mp h2))) hl hm
structure IsR (R:Sd->Sd->Prop)(s:Sd)(l:List Sd):Prop where
 nd:l.Nodup
 ord:Ord l
 mem:∀t,t∈l↔Rch R s t/\Rch R t s
theorem IsR.uniq {R:Sd->Sd->Prop}{s t:Sd}{l m:List Sd}(h1:IsR R s l)(h2:IsR R t m)(e:Rch R s t/\Rch R t s):l=m:=by
 refine q4x ((List.perm_ext_iff_of_nodup h1.nd h2.nd).mpr fun x=>?_) h1.ord h2.ord
 rw[h1.mem,h2.mem]
 exact⟨fun⟨a,b⟩=>⟨e.2.trans a,b.trans e.1⟩,fun⟨a,b⟩=>⟨e.1.trans a,b.trans e.2⟩⟩
theorem IsR.self {R:Sd->Sd->Prop}{s:Sd}{l:List Sd}(h:IsR R s l):s∈l:=(h.mem s).mpr ⟨.refl,.refl⟩
end Ce
namespace Tim
open PySem PySem.W PyProof.Rows
def q2Y:Bool->Keyed->Array Keyed->Nat->Nat->Nat->StateT SortSt Sem (Option Nat):=sortPriv% PySem.Builtin.gallop
def qaH:Array Keyed->Array Keyed->StateT SortSt Sem (Array Keyed):=sortPriv% PySem.Builtin.mergeLo
def qaI:Array Keyed->Array Keyed->StateT SortSt Sem (Array Keyed):=sortPriv% PySem.Builtin.mergeHi
structure Cmp (prog:Program)(w:World)(A:Around)(s:Shared)(κ:SortKind)(O:KeyOrd)(kf:Keyed->O.α)(Ok:Keyed->Prop):Prop where
 lt:∀(x y:Keyed) (Q:Bool->Shared->Prop) (E:Value->Shared->Prop),Ok x->Ok y->Q (O.blt (kf x) (kf y)) s->wpAny (model prog w) A (keyLt' κ x.1 y.1) Q E s
section
variable {prog:Program}{w:World}{A:Around}{E:Value->Shared->Prop}{s:Shared}{κ:SortKind}{O:KeyOrd}{kf:Keyed->O.α}{Ok:Keyed->Prop}
theorem w_lt (c:Cmp prog w A s κ O kf Ok){x y:Keyed}{st:SortSt}{Q:Option Bool->SortSt->Prop}(hk:kindOf st=κ)(hx:Ok x)(hy:Ok y)(h:Q (some (O.blt (kf x) (kf y))) st):wpS (model prog w) A E s (lt' x y) Q st:=by
 rw[lt'_eq]
 refine wpS_bind (wpS_get (wpS_bind (wpS_lift (wpAny_attempt ?_))))
 rw[hk]
 exact c.lt x y _ _ hx hy ⟨rfl,wpS_pure h⟩
theorem qS {arr:Array Keyed}{i:Nat}{p:Keyed}{st:SortSt}{Q:Keyed->SortSt->Prop}(hp:arr[i]? =some p)(h:Q p st):wpS (model prog w) A E s (elem' arr i) Q st:=by
 rw[elem'_eq,hp]
 exact wpS_pure h
def bey (left:Bool)(key:Keyed)(arr:Array Keyed)(base i:Nat):StateT SortSt Sem (Option Bool):=
 elem' arr (base+i) >>= fun x=>if left=true then lt' x key else lt' key x >>= fun r=>pure (r.map (!·))
abbrev bdB (kf:Keyed->O.α)(left:Bool)(key p:Keyed):Bool:=if left=true then O.blt (kf p) (kf key) else !O.blt (kf key) (kf p)
theorem w_bey (c:Cmp prog w A s κ O kf Ok){left:Bool}{key p:Keyed}{arr:Array Keyed}{base i:Nat}{st:SortSt}{Q:Option Bool->SortSt->Prop}(hk:kindOf st=κ)(hp:arr[base+i]? =some p)(op:Ok p)(ok:Ok key)(h:Q (some (bdB kf left key p)) st):wpS (model prog w) A E s (bey left key arr base i) Q st:=by
 refine wpS_bind (qS hp ?_)
 cases left with
 |true=>exact w_lt c hk op ok h
 |false=>exact wpS_bind (w_lt c hk ok op (wpS_pure h))
theorem q2n (c:Cmp prog w A s κ O kf Ok){left:Bool}{key:Keyed}{arr:Array Keyed}{base n hint:Nat}{B:Nat->Bool}{st:SortSt}{Q:Option Nat->SortSt->Prop}(hk:kindOf st=κ)(hn:hint<n)(ok:Ok key)
  (hB:∀i,i<n->∃p,arr[base+i]? =some p/\Ok p/\bdB kf left key p=B i)(mo:∀i j,i<=j->j<n->B j=true->B i=true)
  (h:∀k,k<=n->(∀i,i<k->B i=true)->(∀i,k<=i->i<n->B i=false)->Q (some k) st):wpS (model prog w) A E s (q2Y left key arr base n hint) Q st:=by
 have bq:∀{i:Nat} {R:Option Bool->SortSt->Prop},i<n->R (some (B i)) st->wpS (model prog w) A E s (bey left key arr base i) R st:=fun {i R} hi hR=>by
  obtain⟨p,h1,h2,h3⟩:=hB i hi
  rw[<-h3] at hR
  exact w_bey c hk h1 h2 ok hR
 have mf:∀i j,i<=j->j<n->B i=false->B j=false:=fun i j h1 h2 h3=>by
  cases e:B j with
  |false=>rfl
  |true=>rw[mo i j h1 h2 e] at h3;cases h3
 refine wpS_bind (bq hn ?_)
 dsimp only
 cases hb:B hint with
 |true=>
  rw[if_pos rfl]
  refine wpS_bind (wpS_mono (wpS_forRange (I:=fun(x:Nat) (c:Option (Option Nat)×Nat×Nat) (st':SortSt)=>st=st'/\c.1=none/\c.2.1<c.2.2/\x+1<=c.2.2/\hint+c.2.1<n/\B (hint+c.2.1)=true)
   (Q:=fun(c:Option (Option Nat)×Nat×Nat) (st':SortSt)=>st=st'/\c.1=none/\c.2.1<c.2.2/\hint+c.2.1<n/\B (hint+c.2.1)=true/\(n - hint<=c.2.2\/hint+c.2.2<n/\B (hint+c.2.2)=false)) ?_ ?_ (show _/\_ from⟨rfl,rfl,Nat.zero_lt_one,Nat.le_refl _,hn,hb⟩)) ?_)
  ·rintro x ⟨r,lo,ofs⟩ st' _ hx ⟨rfl,rfl,h1,h2,h3,h4⟩
   dsimp only at h1 h2 h3 h4 ⊢
   by_cases hge:ofs≥n - hint
   ·rw [if_pos hge]
    exact wpS_pure ⟨rfl,rfl,h1,h3,h4,.inl hge⟩
   ·rw [if_neg hge]
    refine wpS_bind (bq (i:=hint+ofs) (by omega) ?_)
    dsimp only
    cases e:B (hint+ofs) with
    |true=>
     rw[if_neg (by decide)]
     exact wpS_pure ⟨rfl,rfl,by show ofs<2*ofs+1;omega,by show x+1+1<=2*ofs+1;omega,by show hint+ofs<n;omega,e⟩
    |false=>
     rw[if_pos (by decide)]
     exact wpS_pure ⟨rfl,rfl,h1,h3,h4,.inr ⟨by show hint+ofs<n;omega,e⟩⟩
  ·rintro ⟨r,lo,ofs⟩ st' ⟨rfl,rfl,h1,h2,h3,h4⟩
   exact⟨rfl,rfl,h1,h3,h4,.inl (by show n - hint<=ofs;have h2':max 0 n+1<=ofs:=h2;omega)⟩
  ·rintro ⟨r,lo,ofs⟩ st' ⟨rfl,rfl,h1,h3,h4,h5⟩
   dsimp only at h1 h3 h4 h5 ⊢
   have k1:hint+lo+1<=hint+min ofs (n - hint):=by omega
   have k2:hint+min ofs (n - hint)<=n:=by omega
   have k3:∀i,i<hint+lo+1->B i=true:=fun i hi=>mo i (hint+lo) (by omega) h3 h4
   have k4:∀i,hint+min ofs (n - hint)<=i->i<n->B i=false:=fun i h1 h2=>by
    rcases h5 with h5|⟨h5,h6⟩
    ·omega
    ·exact mf (hint+ofs) i (by omega) h2 h6
   generalize hint+lo+1=lo' at k1 k3 ⊢
   generalize hint+min ofs (n - hint)=hi' at k1 k2 k4 ⊢
   refine wpS_bind (wpS_mono (wpS_forRange (I:=fun(x:Nat) (c:Option (Option Nat)×Nat×Nat) (st':SortSt)=>st=st'/\c.1=none/\c.2.1<=c.2.2/\c.2.2<=n/\c.2.2 - c.2.1<=n - x/\(∀i,i<c.2.1->B i=true)/\∀i,c.2.2<=i->i<n->B i=false)
    (Q:=fun(c:Option (Option Nat)×Nat×Nat) (st':SortSt)=>st=st'/\c.1=none/\c.2.1=c.2.2/\c.2.2<=n/\(∀i,i<c.2.1->B i=true)/\∀i,c.2.2<=i->i<n->B i=false) ?_ ?_ (show _/\_ from⟨rfl,rfl,by show lo'<=hi';omega,k2,by show hi' - lo'<=n - 0;omega,k3,k4⟩)) ?_)
   ·rintro x ⟨r,lo,hi⟩ st' _ hx ⟨rfl,rfl,g1,g2,g3,g4,g5⟩
    dsimp only at g1 g2 g3 g4 g5 ⊢
    by_cases hge:lo≥hi
    ·rw [if_pos hge]
     exact wpS_pure ⟨rfl,rfl,by show lo=hi;omega,g2,g4,g5⟩
    ·rw [if_neg hge]
     refine wpS_bind (bq (i:=lo+(hi - lo) / 2) (by omega) ?_)
     dsimp only
     cases e:B (lo+(hi - lo) / 2) with
     |true=>
      rw[if_pos rfl]
      exact wpS_pure ⟨rfl,rfl,by show lo+(hi - lo) / 2+1<=hi;omega,g2,by show hi - (lo+(hi - lo) / 2+1)<=n - (x+1);omega,fun i hi'=>mo i _ (Nat.le_of_lt_succ hi') (by omega) e,g5⟩
     |false=>
      rw[if_neg (by decide)]
      exact wpS_pure ⟨rfl,rfl,by show lo<=lo+(hi - lo) / 2;omega,by show lo+(hi - lo) / 2<=n;omega,by show lo+(hi - lo) / 2 - lo<=n - (x+1);omega,g4,fun i h1 h2=>mf _ i h1 h2 e⟩
   ·rintro ⟨r,lo,hi⟩ st' ⟨rfl,rfl,g1,g2,g3,g4,g5⟩
    exact⟨rfl,rfl,by show lo=hi;have g1':lo<=hi:=g1;have g3':hi - lo<=n - max 0 n:=g3;omega,g2,g4,g5⟩
   ·rintro ⟨r,lo,hi⟩ st' ⟨rfl,rfl,g1,g2,g4,g5⟩
    dsimp only at g1 g2 g4 g5 ⊢
    subst g1
    exact wpS_pure (h lo g2 g4 g5)
 |false=>
  rw[if_neg (by decide)]
  refine wpS_bind (wpS_mono (wpS_forRange (I:=fun(x:Nat) (c:Option (Option Nat)×Nat×Nat) (st':SortSt)=>st=st'/\c.1=none/\c.2.1<c.2.2/\x+1<=c.2.2/\c.2.1<=hint/\B (hint - c.2.1)=false)
   (Q:=fun(c:Option (Option Nat)×Nat×Nat) (st':SortSt)=>st=st'/\c.1=none/\c.2.1<c.2.2/\c.2.1<=hint/\B (hint - c.2.1)=false/\(hint+1<=c.2.2\/c.2.2<=hint/\B (hint - c.2.2)=true)) ?_ ?_ (show _/\_ from⟨rfl,rfl,Nat.zero_lt_one,Nat.le_refl _,Nat.zero_le _,hb⟩)) ?_)
  ·rintro x ⟨r,lo,ofs⟩ st' _ hx ⟨rfl,rfl,h1,h2,h3,h4⟩
   dsimp only at h1 h2 h3 h4 ⊢
   by_cases hge:ofs≥hint+1
   ·rw [if_pos hge]
    exact wpS_pure ⟨rfl,rfl,h1,h3,h4,.inl hge⟩
   ·rw [if_neg hge]
    refine wpS_bind (bq (i:=hint - ofs) (by omega) ?_)
    dsimp only
    cases e:B (hint - ofs) with
    |false=>
     rw[if_neg (by decide)]
     exact wpS_pure ⟨rfl,rfl,by show ofs<2*ofs+1;omega,by show x+1+1<=2*ofs+1;omega,by show ofs<=hint;omega,e⟩
    |true=>
     rw[if_pos rfl]
     exact wpS_pure ⟨rfl,rfl,h1,h3,h4,.inr ⟨by show ofs<=hint;omega,e⟩⟩
  ·rintro ⟨r,lo,ofs⟩ st' ⟨rfl,rfl,h1,h2,h3,h4⟩
   exact⟨rfl,rfl,h1,h3,h4,.inl (by show hint+1<=ofs;have h2':max 0 n+1<=ofs:=h2;omega)⟩
  ·rintro ⟨r,lo,ofs⟩ st' ⟨rfl,rfl,h1,h3,h4,h5⟩
   dsimp only at h1 h3 h4 h5 ⊢
   have k1:hint+1 - min ofs (hint+1)<=hint - lo:=by omega
   have k2:hint - lo<=n:=by omega
   have k3:∀i,i<hint+1 - min ofs (hint+1)->B i=true:=fun i hi=>by
    rcases h5 with h5|⟨h5,h6⟩
    ·omega
    ·exact mo i (hint - ofs) (by omega) (by omega) h6
   have k4:∀i,hint - lo<=i->i<n->B i=false:=fun i g1 g2=>mf (hint - lo) i g1 g2 h4
   generalize hint+1 - min ofs (hint+1)=lo' at k1 k3 ⊢
   generalize hint - lo=hi' at k1 k2 k4 ⊢
   refine wpS_bind (wpS_mono (wpS_forRange (I:=fun(x:Nat) (c:Option (Option Nat)×Nat×Nat) (st':SortSt)=>st=st'/\c.1=none/\c.2.1<=c.2.2/\c.2.2<=n/\c.2.2 - c.2.1<=n - x/\(∀i,i<c.2.1->B i=true)/\∀i,c.2.2<=i->i<n->B i=false)
    (Q:=fun(c:Option (Option Nat)×Nat×Nat) (st':SortSt)=>st=st'/\c.1=none/\c.2.1=c.2.2/\c.2.2<=n/\(∀i,i<c.2.1->B i=true)/\∀i,c.2.2<=i->i<n->B i=false) ?_ ?_ (show _/\_ from⟨rfl,rfl,by show lo'<=hi';omega,k2,by show hi' - lo'<=n - 0;omega,k3,k4⟩)) ?_)
   ·rintro x ⟨r,lo,hi⟩ st' _ hx ⟨rfl,rfl,g1,g2,g3,g4,g5⟩
    dsimp only at g1 g2 g3 g4 g5 ⊢
    by_cases hge:lo≥hi
    ·rw [if_pos hge]
     exact wpS_pure ⟨rfl,rfl,by show lo=hi;omega,g2,g4,g5⟩
    ·rw [if_neg hge]
     refine wpS_bind (bq (i:=lo+(hi - lo) / 2) (by omega) ?_)
     dsimp only
     cases e:B (lo+(hi - lo) / 2) with
     |true=>
      rw[if_pos rfl]
      exact wpS_pure ⟨rfl,rfl,by show lo+(hi - lo) / 2+1<=hi;omega,g2,by show hi - (lo+(hi - lo) / 2+1)<=n - (x+1);omega,fun i hi'=>mo i _ (Nat.le_of_lt_succ hi') (by omega) e,g5⟩
     |false=>
      rw[if_neg (by decide)]
      exact wpS_pure ⟨rfl,rfl,by show lo<=lo+(hi - lo) / 2;omega,by show lo+(hi - lo) / 2<=n;omega,by show lo+(hi - lo) / 2 - lo<=n - (x+1);omega,g4,fun i h1 h2=>mf _ i h1 h2 e⟩
   ·rintro ⟨r,lo,hi⟩ st' ⟨rfl,rfl,g1,g2,g3,g4,g5⟩
    exact⟨rfl,rfl,by show lo=hi;have g1':lo<=hi:=g1;have g3':hi - lo<=n - max 0 n:=g3;omega,g2,g4,g5⟩
   ·rintro ⟨r,lo,hi⟩ st' ⟨rfl,rfl,g1,g2,g4,g5⟩
    dsimp only at g1 g2 g4 g5 ⊢
    subst g1
    exact wpS_pure (h lo g2 g4 g5)
end
end Tim
namespace Tim
open PySem PySem.W PyProof.Rows
section
variable {O:KeyOrd}{kf:Keyed->O.α}
def Srd (kf:Keyed->O.α)(l:List Keyed):Prop:=l.Pairwise fun x y=>O.kle (kf x) (kf y)
structure MI (kf:Keyed->O.α)(al bl ol:List Keyed)(ia ib:Nat):Prop where
 pm:ol.Perm (al.take ia++bl.take ib)
 so:Srd kf ol
 la:∀x∈ol,∀y∈al.drop ia,O.kle (kf x) (kf y)
 lb:∀x∈ol,∀y∈bl.drop ib,O.kle (kf x) (kf y)
def Res (kf:Keyed->O.α)(al bl:List Keyed)(r:Array Keyed):Prop:=r.toList.Perm (al++bl)/\Srd kf r.toList
theorem q9k {l:List Keyed}(h:Srd kf l){i j:Nat}(hij:i<=j){x y:Keyed}(hx:x∈(l.drop i).take (j - i))(hy:y∈l.drop j):O.kle (kf x) (kf y):=by
 have e:l.drop i=(l.drop i).take (j - i)++l.drop j:=by
  have:=(List.take_append_drop (j - i) (l.drop i)).symm
  rwa [List.drop_drop,show i+(j - i)=j by omega] at this
 have h2:Srd kf (l.drop i):=h.sublist (List.drop_sublist _ _)
 rw[e] at h2
 exact(List.pairwise_append.mp h2).2.2 x hx y hy
theorem q3I {l:List Keyed}{i j:Nat}(hij:i<=j){y:Keyed}(hy:y∈l.drop j):y∈l.drop i:=by
 have e:l.drop j=(l.drop i).drop (j - i):=by rw[List.drop_drop,show i+(j - i)=j by omega]
 rw[e] at hy
 exact List.mem_of_mem_drop hy
theorem q5b {l:List Keyed}{i k:Nat}:l.take (i+k)=l.take i++(l.drop i).take k:=List.take_add
theorem MI.as {al bl ol:List Keyed}{ia ib:Nat}(k:Nat)(h:MI kf al bl ol ia ib)(sa:Srd kf al)(hl:∀x∈(al.drop ia).take k,∀z∈bl.drop ib,O.kle (kf x) (kf z)):MI kf al bl (ol++(al.drop ia).take k) (ia+k) ib:=by
 refine⟨?_,?_,fun x hx y hy=>?_,fun x hx y hy=>?_⟩
 ·rw [q5b,List.append_assoc]
  refine(h.pm.append_right _).trans ?_
  rw[List.append_assoc]
  exact List.Perm.append_left _ List.perm_append_comm
 ·refine List.pairwise_append.mpr ⟨h.so,sa.sublist ((List.take_sublist _ _).trans (List.drop_sublist _ _)),fun x hx y hy=>h.la x hx y (List.mem_of_mem_take hy)⟩
 ·rcases List.mem_append.mp hx with hx|hx
  ·exact h.la x hx y (q3I (by omega) hy)
  ·exact q9k sa (i:=ia) (j:=ia+k) (by omega) (by rw[show ia+k - ia=k by omega];exact hx) hy
 ·rcases List.mem_append.mp hx with hx|hx
  ·exact h.lb x hx y hy
  ·exact hl x hx y hy
theorem MI.bs {al bl ol:List Keyed}{ia ib:Nat}(k:Nat)(h:MI kf al bl ol ia ib)(sb:Srd kf bl)(hl:∀x∈(bl.drop ib).take k,∀z∈al.drop ia,O.kle (kf x) (kf z)):MI kf al bl (ol++(bl.drop ib).take k) ia (ib+k):=by
 refine⟨?_,?_,fun x hx y hy=>?_,fun x hx y hy=>?_⟩
 ·rw [q5b,<-List.append_assoc]
  exact h.pm.append_right _
 ·refine List.pairwise_append.mpr ⟨h.so,sb.sublist ((List.take_sublist _ _).trans (List.drop_sublist _ _)),fun x hx y hy=>h.lb x hx y (List.mem_of_mem_take hy)⟩
 ·rcases List.mem_append.mp hx with hx|hx
  ·exact h.la x hx y hy
  ·exact hl x hx y hy
 ·rcases List.mem_append.mp hx with hx|hx
  ·exact h.lb x hx y (q3I (by omega) hy)
  ·exact q9k sb (i:=ib) (j:=ib+k) (by omega) (by rw[show ib+k - ib=k by omega];exact hx) hy
theorem q3p {l:List Keyed}{i:Nat}{x:Keyed}(h:l[i]? =some x):(l.drop i).take 1=[x]:=by
 obtain⟨hi,e⟩:=List.getElem?_eq_some_iff.mp h
 rw[List.drop_eq_getElem_cons hi,e]
 rfl
theorem MI.a {al bl ol:List Keyed}{ia ib:Nat}{x:Keyed}(h:MI kf al bl ol ia ib)(sa:Srd kf al)(hx:al[ia]? =some x)(hl:∀z∈bl.drop ib,O.kle (kf x) (kf z)):MI kf al bl (ol++[x]) (ia+1) ib:=by
 have:=h.as 1 sa (by rw[q3p hx];intro y hy z hz;rw[List.mem_singleton.mp hy];exact hl z hz)
 rwa [q3p hx] at this
theorem MI.b {al bl ol:List Keyed}{ia ib:Nat}{x:Keyed}(h:MI kf al bl ol ia ib)(sb:Srd kf bl)(hx:bl[ib]? =some x)(hl:∀z∈al.drop ia,O.kle (kf x) (kf z)):MI kf al bl (ol++[x]) ia (ib+1):=by
 have:=h.bs 1 sb (by rw[q3p hx];intro y hy z hz;rw[List.mem_singleton.mp hy];exact hl z hz)
 rwa [q3p hx] at this
theorem MI.ab {al bl ol:List Keyed}{ia ib:Nat}{r:Array Keyed}(h:MI kf al bl ol ia ib)(sa:Srd kf al)(sb:Srd kf bl)(hl:∀x∈al.drop ia,∀y∈bl.drop ib,O.kle (kf x) (kf y))(er:r.toList=ol++al.drop ia++bl.drop ib):Res kf al bl r:=by
 unfold Res
 rw[er]
 constructor
 ·refine ((h.pm.append_right _).append_right _).trans ?_
  rw[List.append_assoc (al.take ia),List.append_assoc,List.append_assoc]
  refine(List.Perm.append_left _ ?_).trans (List.Perm.of_eq (by rw[<-List.append_assoc,List.take_append_drop]))
  refine List.Perm.trans ?_ (List.Perm.append_left _ (List.Perm.of_eq (List.take_append_drop ib bl)))
  rw[<-List.append_assoc,<-List.append_assoc]
  exact List.perm_append_comm.append_right _
 ·exact List.pairwise_append.mpr ⟨List.pairwise_append.mpr ⟨h.so,sa.sublist (List.drop_sublist _ _),h.la⟩,sb.sublist (List.drop_sublist _ _),fun x hx y hy=>by
   rcases List.mem_append.mp hx with hx|hx
   ·exact h.lb x hx y hy
   ·exact hl x hx y hy⟩
theorem MI.ba {al bl ol:List Keyed}{ia ib:Nat}{r:Array Keyed}(h:MI kf al bl ol ia ib)(sa:Srd kf al)(sb:Srd kf bl)(hl:∀y∈bl.drop ib,∀x∈al.drop ia,O.kle (kf y) (kf x))(er:r.toList=ol++bl.drop ib++al.drop ia):Res kf al bl r:=by
 unfold Res
 rw[er]
 constructor
 ·refine ((h.pm.append_right _).append_right _).trans ?_
  rw[List.append_assoc (al.take ia),List.take_append_drop,List.append_assoc]
  refine(List.Perm.append_left _ List.perm_append_comm).trans ?_
  rw[<-List.append_assoc,List.take_append_drop]
 ·exact List.pairwise_append.mpr ⟨List.pairwise_append.mpr ⟨h.so,sb.sublist (List.drop_sublist _ _),h.lb⟩,sa.sublist (List.drop_sublist _ _),fun x hx y hy=>by
   rcases List.mem_append.mp hx with hx|hx
   ·exact h.la x hx y hy
   ·exact hl x hx y hy⟩
end
end Tim
namespace Tim
open PySem PySem.W PyProof.Rows
abbrev Stq (st st':SortSt):Prop:=kindOf st'=kindOf st/\arrOf st'=arrOf st/\pendingOf st'=pendingOf st/\failedOf st'=failedOf st
theorem q30 (a:Array Keyed)(i:Nat):(a.extract i a.size).toList=a.toList.drop i:=by
 rw[Array.toList_extract,List.extract_eq_take_drop]
 exact List.take_of_length_le (by simp)
theorem q9f (a:Array Keyed)(i k:Nat):(a.extract i (i+k)).toList=(a.toList.drop i).take k:=by
 rw[Array.toList_extract,List.extract_eq_take_drop,show i+k - i=k by omega]
theorem q02 {a:Array Keyed}{i:Nat}(h:i<a.size):∃x,a[i]? =some x/\a.toList[i]? =some x/\x∈a.toList:=⟨a[i],by simp[h],by simp[h],by simp⟩
theorem q3n {l:List Keyed}{i k:Nat}{x:Keyed}(h:x∈(l.drop i).take k):∃j,j<k/\l[i+j]? =some x:=by
 obtain⟨j,hj,e⟩:=List.getElem_of_mem h
 rw[List.length_take] at hj
 refine⟨j,by omega,?_⟩
 rw[List.getElem_take,List.getElem_drop] at e
 rw[<-e]
 exact List.getElem?_eq_getElem _
theorem q0z {l:List Keyed}{i:Nat}{x:Keyed}(h:x∈l.drop i):∃j,i+j<l.length/\l[i+j]? =some x:=by
 obtain⟨j,hj,e⟩:=List.getElem_of_mem h
 rw[List.length_drop] at hj
 refine⟨j,by omega,?_⟩
 rw[List.getElem_drop] at e
 rw[<-e]
 exact List.getElem?_eq_getElem _
theorem use1 {P:Nat->Prop}{G:Prop}(h:∀n,P n)(k:(∀n,P n)->G):G:=k h
theorem use3 {F P:Array Keyed->Nat->Nat->Prop}{G:Prop}(h:∀o i j,F o i j->P o i j)(k:(∀o i j,F o i j->P o i j)->G):G:=k h
section
variable {prog:Program}{w:World}{A:Around}{E:Value->Shared->Prop}{s:Shared}{κ:SortKind}{O:KeyOrd}{kf:Keyed->O.α}{Ok:Keyed->Prop}
theorem q0M {l:List Keyed}(h:Srd kf l){i j:Nat}{x y:Keyed}(hij:i<=j)(hx:l[i]? =some x)(hy:l[j]? =some y):O.kle (kf x) (kf y):=by
 by_cases e:i=j
 ·subst e
  rw[hx] at hy
  cases hy
  exact KeyOrd.kle_refl _
 ·obtain ⟨h1,e1⟩:=List.getElem?_eq_some_iff.mp hx
  obtain⟨h2,e2⟩:=List.getElem?_eq_some_iff.mp hy
  have:=List.pairwise_iff_getElem.mp h i j h1 h2 (by omega)
  rwa [e1,e2] at this
theorem w_gl (c:Cmp prog w A s κ O kf Ok){key:Keyed}{arr:Array Keyed}{base:Nat}{st:SortSt}{Q:Option Nat->SortSt->Prop}(hk:kindOf st=κ)(hn:base<arr.size)(ok:Ok key)(oa:∀x∈arr.toList,Ok x)(sa:Srd kf arr.toList)
  (h:∀k,base+k<=arr.size->(∀x∈(arr.toList.drop base).take k,O.klt (kf x) (kf key))->(∀x∈arr.toList.drop (base+k),O.kle (kf key) (kf x))->Q (some k) st):wpS (model prog w) A E s (q2Y true key arr base (arr.size - base) 0) Q st:=by
 refine q2n c (B:=fun i=>match arr[base+i]? with|some p=>O.blt (kf p) (kf key)|none=>false) hk (by omega) ok (fun i hi=>?_) (fun i j h1 h2 h3=>?_) fun k k1 k2 k3=>?_
 ·obtain ⟨x,h1,h2,h3⟩:=q02 (a:=arr) (i:=base+i) (by omega)
  exact⟨x,h1,oa x h3,by rw[h1];rfl⟩
 ·obtain ⟨x,x1,x2,x3⟩:=q02 (a:=arr) (i:=base+i) (by omega)
  obtain⟨y,y1,y2,y3⟩:=q02 (a:=arr) (i:=base+j) (by omega)
  rw[y1] at h3
  rw[x1]
  exact KeyOrd.klt_of_kle_of_klt (q0M sa (by omega) x2 y2) h3
 ·refine h k (by omega) (fun x hx=>?_) fun x hx=>?_
  ·obtain ⟨j,hj,e⟩:=q3n hx
   have:=k2 j hj
   rw[show arr[base+j]? =some x by simpa using e] at this
   exact this
  ·obtain ⟨j,hj,e⟩:=q0z hx
   have:=k3 (k+j) (by omega) (by simp at hj;omega)
   rw[show arr[base+(k+j)]? =some x by rw[<-Nat.add_assoc];simpa using e] at this
   exact this
theorem w_gr (c:Cmp prog w A s κ O kf Ok){key:Keyed}{arr:Array Keyed}{base:Nat}{st:SortSt}{Q:Option Nat->SortSt->Prop}(hk:kindOf st=κ)(hn:base<arr.size)(ok:Ok key)(oa:∀x∈arr.toList,Ok x)(sa:Srd kf arr.toList)
  (h:∀k,base+k<=arr.size->(∀x∈(arr.toList.drop base).take k,O.kle (kf x) (kf key))->(∀x∈arr.toList.drop (base+k),O.klt (kf key) (kf x))->Q (some k) st):wpS (model prog w) A E s (q2Y false key arr base (arr.size - base) 0) Q st:=by
 refine q2n c (B:=fun i=>match arr[base+i]? with|some p=> !O.blt (kf key) (kf p)|none=>false) hk (by omega) ok (fun i hi=>?_) (fun i j h1 h2 h3=>?_) fun k k1 k2 k3=>?_
 ·obtain ⟨x,h1,h2,h3⟩:=q02 (a:=arr) (i:=base+i) (by omega)
  exact⟨x,h1,oa x h3,by rw[h1];rfl⟩
 ·obtain ⟨x,x1,x2,x3⟩:=q02 (a:=arr) (i:=base+i) (by omega)
  obtain⟨y,y1,y2,y3⟩:=q02 (a:=arr) (i:=base+j) (by omega)
  rw[y1] at h3
  rw[x1]
  have h3':O.kle (kf y) (kf key):=by show O.blt (kf key) (kf y)=false;simpa using h3
  have:=KeyOrd.kle_trans (q0M sa (by omega) x2 y2) h3'
  show(!O.blt (kf key) (kf x))=true
  rw[this]
  rfl
 ·refine h k (by omega) (fun x hx=>?_) fun x hx=>?_
  ·obtain ⟨j,hj,e⟩:=q3n hx
   have:=k2 j hj
   rw[show arr[base+j]? =some x by simpa using e] at this
   show O.blt (kf key) (kf x)=false
   simpa using this
  ·obtain ⟨j,hj,e⟩:=q0z hx
   have:=k3 (k+j) (by omega) (by simp at hj;omega)
   rw[show arr[base+(k+j)]? =some x by rw[<-Nat.add_assoc];simpa using e] at this
   show O.blt (kf key) (kf x)=true
   simpa using this
set_option hygiene false in
local macro_rules| `(tactic| walk_at "tloB")=> `(tactic| (
 obtain⟨x0,x1,x2,x3⟩:=q02 (a:=a) (i:=ia2) (by omega)
 refine wpS_bind (qS x1 ?_)
 refine wpS_bind (w_gl c hk3 (by omega) (oa x0 x3) ob sb fun k' k1' k2' k3'=>?_)
 have le0:∀z∈a.toList.drop ia2,O.kle (kf x0) (kf z):=fun z hz=>by
  obtain⟨j,_,ej⟩:=q0z hz
  exact q0M sa (by omega) x2 ej
 have m4:=m3.bs k' sb fun x hx z hz=>KeyOrd.kle_trans (KeyOrd.kle_of_klt (k2' x hx)) (le0 z hz)
 rw[<-q9f,<-Array.toList_append] at m4
 dsimp only
 by_cases hk0':k'>0
 ·rw [if_pos hk0']
  by_cases he:ib3+k'=b.size
  ·rw [if_pos (by simpa using he)]
   exact wpS_pure ⟨q3,.inl ⟨_,rfl,fB m4 he⟩⟩
  ·rw [if_neg (by simpa using he)]
   have m5:=m4.a sa x2 k3'
   rw[<-Array.toList_push] at m5
   refine wpS_bind (qS x1 ?_)
   by_cases hf:ia2+1+1=a.size
   ·rw [if_pos (by simpa using hf)]
    exact wpS_pure ⟨q3,.inl ⟨_,rfl,fA m5 hf⟩⟩
   ·rw [if_neg (by simpa using hf)]
    split
    ·exact wpS_pure ⟨q3,.inr ⟨rfl,m5,by show ia2+1+1<a.size;omega,by show ib3+k'<b.size;omega,by show s1<=ia2+1+(ib3+k');omega⟩⟩
    ·exact wpS_pure ⟨q3,rfl,m5,by show ia2+1+1<a.size;omega,by show ib3+k'<b.size;omega,by show s1<=ia2+1+(ib3+k');omega⟩
 ·rw [if_neg hk0']
  have hz:k'=0:=by omega
  subst hz
  have m5:=m3.a sa x2 k3'
  rw[<-Array.toList_push] at m5
  refine wpS_bind (qS x1 ?_)
  by_cases hf:ia2+1+1=a.size
  ·rw [if_pos (by simpa using hf)]
   exact wpS_pure ⟨q3,.inl ⟨_,rfl,fA m5 hf⟩⟩
  ·rw [if_neg (by simpa using hf)]
   split
   ·exact wpS_pure ⟨q3,.inr ⟨rfl,m5,by show ia2+1+1<a.size;omega,by show ib3<b.size;omega,by show s1<=ia2+1+ib3;omega⟩⟩
   ·exact wpS_pure ⟨q3,rfl,m5,by show ia2+1+1<a.size;omega,by show ib3<b.size;omega,by show s1<=ia2+1+ib3;omega⟩))
set_option hygiene false in
local macro_rules| `(tactic| walk_at "tloA")=> `(tactic| (
 refine wpS_bind (wpS_modify ?_)
 obtain⟨y0,y1,y2,y3⟩:=q02 (a:=b) (i:=ib) (by omega)
 refine wpS_bind (qS y1 ?_)
 have q3:=q
 have hk3:kindOf st1=κ:=by rw[q.1];exact hk
 refine wpS_bind (w_gr c hk3 (by omega) (ob y0 y3) oa sa fun k k1 k2 k3=>?_)
 have le1:∀z∈b.toList.drop ib,O.kle (kf y0) (kf z):=fun z hz=>by
  obtain⟨j,_,ej⟩:=q0z hz
  exact q0M sb (by omega) y2 ej
 have m2:=m.as k sa fun x hx z hz=>KeyOrd.kle_trans (k2 x hx) (le1 z hz)
 rw[<-q9f,<-Array.toList_append] at m2
 dsimp only
 apply use3 (F:=fun o i j=>MI kf a.toList b.toList o.toList i j/\i+1<a.size/\j<b.size/\s1<=i+j)
 rotate_left
 ·intro key
  by_cases hk0:k>0
  ·rw [if_pos hk0]
   by_cases he:ia+k+1=a.size
   ·rw [if_pos (by simpa using he)]
    exact wpS_pure ⟨q3,.inl ⟨_,rfl,fA m2 he⟩⟩
   rw[if_neg (by simpa using he)]
   by_cases he2:ia+k=a.size
   ·rw [if_pos (by simpa using he2)]
    exact wpS_pure ⟨q3,.inl ⟨_,rfl,fC m2 he2⟩⟩
   rw[if_neg (by simpa using he2)]
   refine wpS_bind (qS y1 ?_)
   have m3:=m2.b sb y2 fun z hz=>KeyOrd.kle_of_klt (k3 z hz)
   rw[<-Array.toList_push] at m3
   have ba2:ia+k+1<a.size:=by omega
   have pr2:s1<=ia+k+ib:=by omega
   generalize (out++a.extract ia (ia+k)).push y0=out3 at m3 ⊢
   generalize ia+k=ia2 at m3 ba2 pr2 ⊢
   by_cases hf:ib+1=b.size
   ·rw [if_pos (by simpa using hf)]
    exact wpS_pure ⟨q3,.inl ⟨_,rfl,fB m3 hf⟩⟩
   rw[if_neg (by simpa using hf)]
   have bb3:ib+1<b.size:=by omega
   have pr3:s1<=ia2+(ib+1):=by omega
   generalize ib+1=ib3 at m3 bb3 pr3 ⊢
   exact key out3 ia2 ib3 ⟨m3,ba2,bb3,pr3⟩
  ·rw [if_neg hk0]
   refine wpS_bind (qS y1 ?_)
   have m3:=m.b sb y2 fun z hz=>KeyOrd.kle_of_klt (k3 z (by rw[show k=0 by omega];exact hz))
   rw[<-Array.toList_push] at m3
   by_cases hf:ib+1=b.size
   ·rw [if_pos (by simpa using hf)]
    exact wpS_pure ⟨q3,.inl ⟨_,rfl,fB m3 hf⟩⟩
   rw[if_neg (by simpa using hf)]
   exact key (out.push y0) ia (ib+1) ⟨m3,ba,by omega,by omega⟩
 ·rintro out3 ia2 ib3 ⟨m3,ba2,bb3,pr3⟩
  walk_at "tloB"))
theorem q7R (c:Cmp prog w A s κ O kf Ok){a b:Array Keyed}{st:SortSt}{Q:Array Keyed->SortSt->Prop}(hk:kindOf st=κ)(oa:∀x∈a.toList,Ok x)(ob:∀x∈b.toList,Ok x)(sa:Srd kf a.toList)(sb:Srd kf b.toList)(ha:0<a.size)(hb:0<b.size)
  (hd:∀x∈a.toList,∀y,b.toList[0]? =some y->O.kle (kf y) (kf x))(hl:∀y∈b.toList,∀x,a.toList[a.size - 1]? =some x->O.kle (kf y) (kf x))
  (h:∀r st',Res kf a.toList b.toList r->Stq st st'->Q r st'):wpS (model prog w) A E s (qaH a b) Q st:=by
 have fA:∀{out:Array Keyed} {ia ib:Nat},MI kf a.toList b.toList out.toList ia ib->ia+1=a.size->Res kf a.toList b.toList (out++b.extract ib++a.extract ia):=fun {out ia ib} m e=>by
  refine m.ba sa sb (fun y hy x hx=>?_) (by rw[Array.toList_append,Array.toList_append,q30,q30])
  obtain⟨j,hj,ej⟩:=q0z hx
  have:ia+j=a.size - 1:=by simp at hj;omega
  rw[this] at ej
  exact hl y (List.mem_of_mem_drop hy) x ej
 have fB:∀{out:Array Keyed} {ia ib:Nat},MI kf a.toList b.toList out.toList ia ib->ib=b.size->Res kf a.toList b.toList (out++a.extract ia++b.extract ib):=fun {out ia ib} m e=>by
  refine m.ab sa sb (fun x hx y hy=>?_) (by rw[Array.toList_append,Array.toList_append,q30,q30])
  rw[List.drop_eq_nil_of_le (by simp;omega)] at hy
  cases hy
 have fC:∀{out:Array Keyed} {ia ib:Nat},MI kf a.toList b.toList out.toList ia ib->ia=a.size->Res kf a.toList b.toList (out++a.extract ia++b.extract ib):=fun {out ia ib} m e=>by
  refine m.ab sa sb (fun x hx y hy=>?_) (by rw[Array.toList_append,Array.toList_append,q30,q30])
  rw[List.drop_eq_nil_of_le (by simp;omega)] at hx
  cases hx
 obtain⟨b0,b1,b2,b3⟩:=q02 hb
 have m0:MI kf a.toList b.toList (#[b0]:Array Keyed).toList 0 1:=by
  have:=(show MI kf a.toList b.toList [] 0 0 from⟨by simp,List.Pairwise.nil,fun x hx=>(nomatch hx),fun x hx=>(nomatch hx)⟩).b sb b2 fun z hz=>hd z (by simpa using hz) b0 b2
  simpa using this
 refine wpS_bind (wpS_lift (wpAny_rule ⟨rfl,?_⟩))
 refine wpS_bind (qS b1 ?_)
 dsimp only
 by_cases e1:1=b.size
 ·rw [if_pos (by simpa using e1)]
  exact wpS_pure (h _ _ (fB m0 e1) ⟨rfl,rfl,rfl,rfl⟩)
 rw[if_neg (by simpa using e1)]
 by_cases e2:0+1=a.size
 ·rw [if_pos (by simpa using e2)]
  exact wpS_pure (h _ _ (fA m0 e2) ⟨rfl,rfl,rfl,rfl⟩)
 rw[if_neg (by simpa using e2)]
 refine wpS_bind (wpS_get ?_)
 refine wpS_bind (wpS_mono (wpS_forRange (I:=fun(x:Nat) (c:Option (Array Keyed)×Array Keyed×Nat×Nat×Nat) (st':SortSt)=>c.1=none/\Stq st st'/\MI kf a.toList b.toList c.2.1.toList c.2.2.1 c.2.2.2.1/\c.2.2.1+1<a.size/\c.2.2.2.1<b.size/\x+1<=c.2.2.1+c.2.2.2.1)
  (Q:=fun(c:Option (Array Keyed)×Array Keyed×Nat×Nat×Nat) (st':SortSt)=>Stq st st'/\∃r,c.1=some r/\Res kf a.toList b.toList r) ?_ ?_ (show _/\_ from⟨rfl,⟨rfl,rfl,rfl,rfl⟩,m0,by show 0+1<a.size;omega,by show 1<b.size;omega,Nat.le_refl _⟩)) ?_)
 ·rintro x ⟨r,out,ia,ib,mg⟩ st1 _ hx ⟨rfl,q,m,ba,bb,pr⟩
  dsimp only at m ba bb pr ⊢
  have hk1:kindOf st1=κ:=by rw[q.1];exact hk
  refine wpS_bind (wpS_mono (wpS_forRange (I:=fun(y:Nat) (c:Option (Array Keyed)×Array Keyed×Nat×Nat×Nat×Nat) (st':SortSt)=>st1=st'/\c.1=none/\MI kf a.toList b.toList c.2.1.toList c.2.2.1 c.2.2.2.1/\c.2.2.1+1<a.size/\c.2.2.2.1<b.size/\ia+ib+y<=c.2.2.1+c.2.2.2.1)
   (Q:=fun(c:Option (Array Keyed)×Array Keyed×Nat×Nat×Nat×Nat) (st':SortSt)=>st1=st'/\((∃r,c.1=some r/\Res kf a.toList b.toList r)\/c.1=none/\MI kf a.toList b.toList c.2.1.toList c.2.2.1 c.2.2.2.1/\c.2.2.1+1<a.size/\c.2.2.2.1<b.size/\ia+ib+1<=c.2.2.1+c.2.2.2.1)) ?_ ?_ (show _/\_ from⟨rfl,rfl,m,ba,bb,Nat.le_refl _⟩)) ?_)
  ·rintro y ⟨r,out',ia',ib',ac,bc⟩ st2 _ hy ⟨rfl,rfl,m',ba',bb',pr'⟩
   dsimp only at m' ba' bb' pr' ⊢
   obtain⟨y0,y1,y2,y3⟩:=q02 (a:=b) (i:=ib') (by omega)
   obtain⟨x0,x1,x2,x3⟩:=q02 (a:=a) (i:=ia') (by omega)
   refine wpS_bind (qS y1 (wpS_bind (qS x1 (wpS_bind (w_lt c hk1 (ob y0 y3) (oa x0 x3) ?_)))))
   dsimp only
   cases e:O.blt (kf y0) (kf x0) with
   |true=>
    rw[if_pos rfl]
    refine wpS_bind (qS y1 ?_)
    have m2:=m'.b sb y2 fun z hz=>by
     obtain⟨j,_,ej⟩:=q0z hz
     exact KeyOrd.kle_of_klt (KeyOrd.klt_of_klt_of_kle e (q0M sa (by omega) x2 ej))
    rw[<-Array.toList_push] at m2
    by_cases he:ib'+1=b.size
    ·rw [if_pos (by simpa using he)]
     exact wpS_pure ⟨rfl,.inl ⟨_,rfl,fB m2 he⟩⟩
    ·rw [if_neg (by simpa using he)]
     split
     ·exact wpS_pure ⟨rfl,.inr ⟨rfl,m2,ba',by show ib'+1<b.size;omega,by show ia+ib+1<=ia'+(ib'+1);omega⟩⟩
     ·exact wpS_pure ⟨rfl,rfl,m2,ba',by show ib'+1<b.size;omega,by show ia+ib+(y+1)<=ia'+(ib'+1);omega⟩
   |false=>
    rw[if_neg (by decide)]
    refine wpS_bind (qS x1 ?_)
    have m2:=m'.a sa x2 fun z hz=>by
     obtain⟨j,_,ej⟩:=q0z hz
     exact KeyOrd.kle_trans e (q0M sb (by omega) y2 ej)
    rw[<-Array.toList_push] at m2
    by_cases he:ia'+1+1=a.size
    ·rw [if_pos (by simpa using he)]
     exact wpS_pure ⟨rfl,.inl ⟨_,rfl,fA m2 he⟩⟩
    ·rw [if_neg (by simpa using he)]
     split
     ·exact wpS_pure ⟨rfl,.inr ⟨rfl,m2,by show ia'+1+1<a.size;omega,bb',by show ia+ib+1<=ia'+1+ib';omega⟩⟩
     ·exact wpS_pure ⟨rfl,rfl,m2,by show ia'+1+1<a.size;omega,bb',by show ia+ib+(y+1)<=ia'+1+ib';omega⟩
  ·rintro ⟨r,out',ia',ib',ac,bc⟩ st2 ⟨rfl,rfl,m',ba',bb',pr'⟩
   have pr2:ia+ib+max 0 (a.size+b.size)<=ia'+ib':=pr'
   exact⟨rfl,.inr ⟨rfl,m',ba',bb',by show ia+ib+1<=ia'+ib';omega⟩⟩
  ·rintro ⟨r,out',ia',ib',ac,bc⟩ st2 ⟨rfl,hq⟩
   dsimp only at hq ⊢
   rcases hq with⟨r0,e0,hr0⟩|⟨e0,m',ba',bb',pr'⟩
   ·subst e0
    exact wpS_pure ⟨q,_,rfl,hr0⟩
   ·subst e0
    dsimp only
    refine wpS_bind (wpS_lift (wpAny_rule ⟨rfl,?_⟩))
    generalize hs1:ia+ib+1=s1 at pr'
    refine wpS_bind (wpS_mono (wpS_forRange (I:=fun(y:Nat) (c:Option (Array Keyed)×Array Keyed×Nat×Nat×Nat×Nat×Nat) (st':SortSt)=>Stq st st'/\c.1=none/\MI kf a.toList b.toList c.2.1.toList c.2.2.1 c.2.2.2.1/\c.2.2.1+1<a.size/\c.2.2.2.1<b.size/\s1<=c.2.2.1+c.2.2.2.1)
     (Q:=fun(c:Option (Array Keyed)×Array Keyed×Nat×Nat×Nat×Nat×Nat) (st':SortSt)=>Stq st st'/\((∃r,c.1=some r/\Res kf a.toList b.toList r)\/c.1=none/\MI kf a.toList b.toList c.2.1.toList c.2.2.1 c.2.2.2.1/\c.2.2.1+1<a.size/\c.2.2.2.1<b.size/\s1<=c.2.2.1+c.2.2.2.1)) ?_ ?_ (show _/\_ from⟨q,rfl,m',ba',bb',pr'⟩)) ?_)
    ·clear m' ba' bb' pr' q m ba bb pr hk1
     rintro y ⟨r,out,ia,ib,mg,ac,bc⟩ st1 _ hy ⟨q,rfl,m,ba,bb,pr⟩
     dsimp only at m ba bb pr ⊢
     apply use1
     rotate_left
     ·intro key
      by_cases hg:mg>1
      ·rw [if_pos hg]
       generalize mg - 1=mg2
       exact key mg2
      ·rw [if_neg hg]
       exact key mg
     ·intro mg2
      walk_at "tloA"
    ·rintro ⟨r,out',ia',ib',mg',ac,bc⟩ st2 ⟨q',rfl,z⟩
     exact⟨q',.inr ⟨rfl,z⟩⟩
    ·rintro ⟨r,out2,ia2,ib2,mg2,ac,bc⟩ st2 ⟨q',hq⟩
     dsimp only at hq ⊢
     rcases hq with⟨r0,e0,hr0⟩|⟨e0,m2,ba2,bb2,pr2⟩
     ·subst e0
      exact wpS_pure ⟨q',_,rfl,hr0⟩
     ·subst e0
      dsimp only
      refine wpS_bind (wpS_modify ?_)
      exact wpS_pure ⟨rfl,q',m2,ba2,bb2,by show x+1+1<=ia2+ib2;omega⟩
 ·rintro ⟨r,out,ia,ib,mg⟩ st1 ⟨rfl,q,m,ba,bb,pr⟩
  dsimp only at ba bb pr
  omega
 ·rintro ⟨r,out,ia,ib,mg⟩ st1 ⟨q,r0,e0,hr0⟩
  dsimp only at e0 ⊢
  subst e0
  exact wpS_pure (h _ _ hr0 q)
end
end Tim
namespace Tim
open PySem PySem.W PyProof.Rows
section
variable {prog:Program}{w:World}{A:Around}{E:Value->Shared->Prop}{s:Shared}{κ:SortKind}{O:KeyOrd}{kf:Keyed->O.α}{Ok:Keyed->Prop}
structure MH (kf:Keyed->O.α)(al bl ol:List Keyed)(na nb:Nat):Prop where
 pm:ol.Perm (al.drop na++bl.drop nb)
 so:Srd kf ol.reverse
 la:∀x∈ol,∀y∈al.take na,O.kle (kf y) (kf x)
 lb:∀x∈ol,∀y∈bl.take nb,O.kle (kf y) (kf x)
theorem q5P {l:List Keyed}{i j:Nat}(h:i<=j):l.drop i=(l.take j).drop i++l.drop j:=by
 have e:=List.take_append_drop j l
 conv=>lhs;rw[<-e]
 by_cases hl:i<=(l.take j).length
 ·rw [List.drop_append_of_le_length hl]
 ·rw [List.length_take] at hl
  rw[List.drop_eq_nil_of_le (show(l.take j).length<=i by rw[List.length_take];omega),List.nil_append,List.drop_eq_nil_of_le (show l.length<=j by omega),List.append_nil,List.drop_eq_nil_of_le (by rw[List.length_take];omega)]
theorem MH.as {al bl ol:List Keyed}{na nb:Nat}(k:Nat)(hk:k<=na)(h:MH kf al bl ol na nb)(sa:Srd kf al)(hl:∀x∈(al.take na).drop k,∀z∈bl.take nb,O.kle (kf z) (kf x)):MH kf al bl (ol++((al.take na).drop k).reverse) k nb:=by
 refine⟨?_,?_,fun x hx y hy=>?_,fun x hx y hy=>?_⟩
 ·rw [q5P (l:=al) hk]
  refine((h.pm.append (List.reverse_perm _)).trans ?_)
  refine List.perm_append_comm.trans ?_
  rw[List.append_assoc]
 ·rw [List.reverse_append,List.reverse_reverse]
  exact List.pairwise_append.mpr ⟨sa.sublist ((List.drop_sublist _ _).trans (List.take_sublist _ _)),h.so,fun x hx y hy=>h.la y (List.mem_reverse.mp hy) x (List.mem_of_mem_drop hx)⟩
 ·rcases List.mem_append.mp hx with hx|hx
  ·refine h.la x hx y ?_
   have e:al.take k=(al.take na).take k:=by rw[List.take_take,Nat.min_eq_left hk]
   rw[e] at hy
   exact List.mem_of_mem_take hy
  ·have hx':=List.mem_reverse.mp hx
   have e:al.take na=al.take k++(al.take na).drop k:=by
    have:=(List.take_append_drop k (al.take na)).symm
    rwa [List.take_take,Nat.min_eq_left hk] at this
   have h2:Srd kf (al.take na):=sa.sublist (List.take_sublist _ _)
   rw[e] at h2
   exact(List.pairwise_append.mp h2).2.2 y hy x hx'
 ·rcases List.mem_append.mp hx with hx|hx
  ·exact h.lb x hx y hy
  ·exact hl x (List.mem_reverse.mp hx) y hy
theorem MH.bs {al bl ol:List Keyed}{na nb:Nat}(k:Nat)(hk:k<=nb)(h:MH kf al bl ol na nb)(sb:Srd kf bl)(hl:∀x∈(bl.take nb).drop k,∀z∈al.take na,O.kle (kf z) (kf x)):MH kf al bl (ol++((bl.take nb).drop k).reverse) na k:=by
 refine⟨?_,?_,fun x hx y hy=>?_,fun x hx y hy=>?_⟩
 ·rw [q5P (l:=bl) hk]
  refine((h.pm.append (List.reverse_perm _)).trans ?_)
  rw[List.append_assoc]
  exact List.Perm.append_left _ List.perm_append_comm
 ·rw [List.reverse_append,List.reverse_reverse]
  exact List.pairwise_append.mpr ⟨sb.sublist ((List.drop_sublist _ _).trans (List.take_sublist _ _)),h.so,fun x hx y hy=>h.lb y (List.mem_reverse.mp hy) x (List.mem_of_mem_drop hx)⟩
 ·rcases List.mem_append.mp hx with hx|hx
  ·exact h.la x hx y hy
  ·exact hl x (List.mem_reverse.mp hx) y hy
 ·rcases List.mem_append.mp hx with hx|hx
  ·refine h.lb x hx y ?_
   have e:bl.take k=(bl.take nb).take k:=by rw[List.take_take,Nat.min_eq_left hk]
   rw[e] at hy
   exact List.mem_of_mem_take hy
  ·have hx':=List.mem_reverse.mp hx
   have e:bl.take nb=bl.take k++(bl.take nb).drop k:=by
    have:=(List.take_append_drop k (bl.take nb)).symm
    rwa [List.take_take,Nat.min_eq_left hk] at this
   have h2:Srd kf (bl.take nb):=sb.sublist (List.take_sublist _ _)
   rw[e] at h2
   exact(List.pairwise_append.mp h2).2.2 y hy x hx'
theorem q3o {l:List Keyed}{n:Nat}{x:Keyed}(h:l[n]? =some x):(l.take (n+1)).drop n=[x]:=by
 obtain⟨hi,e⟩:=List.getElem?_eq_some_iff.mp h
 rw[List.take_succ_eq_append_getElem hi,List.drop_append_of_le_length (by rw[List.length_take];omega),List.drop_eq_nil_of_le (by rw[List.length_take];omega),e]
 rfl
theorem MH.a {al bl ol:List Keyed}{na nb:Nat}{x:Keyed}(h:MH kf al bl ol (na+1) nb)(sa:Srd kf al)(hx:al[na]? =some x)(hl:∀z∈bl.take nb,O.kle (kf z) (kf x)):MH kf al bl (ol++[x]) na nb:=by
 have:=h.as na (by omega) sa (by rw[q3o hx];intro y hy z hz;rw[List.mem_singleton.mp hy];exact hl z hz)
 rwa [q3o hx] at this
theorem MH.b {al bl ol:List Keyed}{na nb:Nat}{x:Keyed}(h:MH kf al bl ol na (nb+1))(sb:Srd kf bl)(hx:bl[nb]? =some x)(hl:∀z∈al.take na,O.kle (kf z) (kf x)):MH kf al bl (ol++[x]) na nb:=by
 have:=h.bs nb (by omega) sb (by rw[q3o hx];intro y hy z hz;rw[List.mem_singleton.mp hy];exact hl z hz)
 rwa [q3o hx] at this
theorem MH.ab {al bl ol:List Keyed}{na nb:Nat}{r:Array Keyed}(h:MH kf al bl ol na nb)(sa:Srd kf al)(sb:Srd kf bl)(hl:∀x∈al.take na,∀y∈bl.take nb,O.kle (kf x) (kf y))(er:r.toList=al.take na++bl.take nb++ol.reverse):Res kf al bl r:=by
 unfold Res
 rw[er]
 constructor
 ·refine (List.Perm.append_left _ ((List.reverse_perm _).trans h.pm)).trans ?_
  rw[List.append_assoc]
  refine(List.Perm.append_left _ (?_:(bl.take nb++(al.drop na++bl.drop nb)).Perm (al.drop na++(bl.take nb++bl.drop nb)))).trans ?_
  ·rw [<-List.append_assoc,<-List.append_assoc]
   exact List.perm_append_comm.append_right _
  ·rw [<-List.append_assoc,List.take_append_drop,List.take_append_drop]
 ·exact List.pairwise_append.mpr ⟨List.pairwise_append.mpr ⟨sa.sublist (List.take_sublist _ _),sb.sublist (List.take_sublist _ _),hl⟩,h.so,fun x hx y hy=>by
   rcases List.mem_append.mp hx with hx|hx
   ·exact h.la y (List.mem_reverse.mp hy) x hx
   ·exact h.lb y (List.mem_reverse.mp hy) x hx⟩
theorem MH.ba {al bl ol:List Keyed}{na nb:Nat}{r:Array Keyed}(h:MH kf al bl ol na nb)(sa:Srd kf al)(sb:Srd kf bl)(hl:∀y∈bl.take nb,∀x∈al.take na,O.kle (kf y) (kf x))(er:r.toList=bl.take nb++al.take na++ol.reverse):Res kf al bl r:=by
 unfold Res
 rw[er]
 constructor
 ·refine (List.Perm.append_left _ ((List.reverse_perm _).trans h.pm)).trans ?_
  rw[List.append_assoc]
  refine(List.Perm.append_left _ (List.Perm.of_eq (show al.take na++(al.drop na++bl.drop nb)=al++bl.drop nb by rw[<-List.append_assoc,List.take_append_drop]))).trans ?_
  rw[<-List.append_assoc]
  refine(List.perm_append_comm.append_right _).trans ?_
  rw[List.append_assoc,List.take_append_drop]
 ·exact List.pairwise_append.mpr ⟨List.pairwise_append.mpr ⟨sb.sublist (List.take_sublist _ _),sa.sublist (List.take_sublist _ _),hl⟩,h.so,fun x hx y hy=>by
   rcases List.mem_append.mp hx with hx|hx
   ·exact h.lb y (List.mem_reverse.mp hy) x hx
   ·exact h.la y (List.mem_reverse.mp hy) x hx⟩
theorem q21 (a:Array Keyed)(n:Nat):(a.extract 0 n).toList=a.toList.take n:=by
 rw[Array.toList_extract,List.extract_eq_take_drop,List.drop_zero,Nat.sub_zero]
theorem q73 (a:Array Keyed)(i n:Nat):((a.extract i n).reverse).toList=((a.toList.take n).drop i).reverse:=by
 rw[Array.toList_reverse,Array.toList_extract,List.extract_eq_take_drop,List.drop_take]
theorem q08 {l:List Keyed}{n:Nat}{x:Keyed}(h:x∈l.take n):∃j,j<n/\l[j]? =some x:=by
 obtain⟨j,hj,e⟩:=q3n (i:=0) (by simpa using h)
 exact⟨j,hj,by simpa using e⟩
theorem q4c {l:List Keyed}{i n:Nat}{x:Keyed}(h:x∈(l.take n).drop i):∃j,i<=j/\j<n/\l[j]? =some x:=by
 rw[List.drop_take] at h
 obtain⟨j,hj,e⟩:=q3n h
 exact⟨i+j,by omega,by omega,e⟩
theorem w_hl (c:Cmp prog w A s κ O kf Ok){key:Keyed}{arr:Array Keyed}{n:Nat}{st:SortSt}{Q:Option Nat->SortSt->Prop}(hk:kindOf st=κ)(h0:0<n)(hn:n<=arr.size)(ok:Ok key)(oa:∀x∈arr.toList,Ok x)(sa:Srd kf arr.toList)
  (h:∀k,k<=n->(∀x∈arr.toList.take k,O.klt (kf x) (kf key))->(∀x∈(arr.toList.take n).drop k,O.kle (kf key) (kf x))->Q (some k) st):wpS (model prog w) A E s (q2Y true key arr 0 n (n - 1)) Q st:=by
 refine q2n c (B:=fun i=>match arr[0+i]? with|some p=>O.blt (kf p) (kf key)|none=>false) hk (by omega) ok (fun i hi=>?_) (fun i j h1 h2 h3=>?_) fun k k1 k2 k3=>?_
 ·obtain ⟨x,h1,h2,h3⟩:=q02 (a:=arr) (i:=0+i) (by omega)
  exact⟨x,h1,oa x h3,by rw[h1];rfl⟩
 ·obtain ⟨x,x1,x2,x3⟩:=q02 (a:=arr) (i:=0+i) (by omega)
  obtain⟨y,y1,y2,y3⟩:=q02 (a:=arr) (i:=0+j) (by omega)
  rw[y1] at h3
  rw[x1]
  exact KeyOrd.klt_of_kle_of_klt (q0M sa (by omega) x2 y2) h3
 ·refine h k k1 (fun x hx=>?_) fun x hx=>?_
  ·obtain ⟨j,hj,e⟩:=q08 hx
   have:=k2 j hj
   rw[show arr[0+j]? =some x by rw[Nat.zero_add];simpa using e] at this
   exact this
  ·obtain ⟨j,hj1,hj2,e⟩:=q4c hx
   have:=k3 j hj1 hj2
   rw[show arr[0+j]? =some x by rw[Nat.zero_add];simpa using e] at this
   exact this
theorem w_hr (c:Cmp prog w A s κ O kf Ok){key:Keyed}{arr:Array Keyed}{n:Nat}{st:SortSt}{Q:Option Nat->SortSt->Prop}(hk:kindOf st=κ)(h0:0<n)(hn:n<=arr.size)(ok:Ok key)(oa:∀x∈arr.toList,Ok x)(sa:Srd kf arr.toList)
  (h:∀k,k<=n->(∀x∈arr.toList.take k,O.kle (kf x) (kf key))->(∀x∈(arr.toList.take n).drop k,O.klt (kf key) (kf x))->Q (some k) st):wpS (model prog w) A E s (q2Y false key arr 0 n (n - 1)) Q st:=by
 refine q2n c (B:=fun i=>match arr[0+i]? with|some p=> !O.blt (kf key) (kf p)|none=>false) hk (by omega) ok (fun i hi=>?_) (fun i j h1 h2 h3=>?_) fun k k1 k2 k3=>?_
 ·obtain ⟨x,h1,h2,h3⟩:=q02 (a:=arr) (i:=0+i) (by omega)
  exact⟨x,h1,oa x h3,by rw[h1];rfl⟩
 ·obtain ⟨x,x1,x2,x3⟩:=q02 (a:=arr) (i:=0+i) (by omega)
  obtain⟨y,y1,y2,y3⟩:=q02 (a:=arr) (i:=0+j) (by omega)
  rw[y1] at h3
  rw[x1]
  have h3':O.kle (kf y) (kf key):=by show O.blt (kf key) (kf y)=false;simpa using h3
  have:=KeyOrd.kle_trans (q0M sa (by omega) x2 y2) h3'
  show(!O.blt (kf key) (kf x))=true
  rw[this]
  rfl
 ·refine h k k1 (fun x hx=>?_) fun x hx=>?_
  ·obtain ⟨j,hj,e⟩:=q08 hx
   have:=k2 j hj
   rw[show arr[0+j]? =some x by rw[Nat.zero_add];simpa using e] at this
   show O.blt (kf key) (kf x)=false
   simpa using this
  ·obtain ⟨j,hj1,hj2,e⟩:=q4c hx
   have:=k3 j hj1 hj2
   rw[show arr[0+j]? =some x by rw[Nat.zero_add];simpa using e] at this
   show O.blt (kf key) (kf x)=true
   simpa using this
theorem MH.a' {al bl ol:List Keyed}{na nb:Nat}{x:Keyed}(h1:1<=na)(h:MH kf al bl ol na nb)(sa:Srd kf al)(hx:al[na - 1]? =some x)(hl:∀z∈bl.take nb,O.kle (kf z) (kf x)):MH kf al bl (ol++[x]) (na - 1) nb:=by
 obtain⟨n,rfl⟩:∃n,na=n+1:=⟨na - 1,by omega⟩
 exact h.a sa hx hl
theorem MH.b' {al bl ol:List Keyed}{na nb:Nat}{x:Keyed}(h1:1<=nb)(h:MH kf al bl ol na nb)(sb:Srd kf bl)(hx:bl[nb - 1]? =some x)(hl:∀z∈al.take na,O.kle (kf z) (kf x)):MH kf al bl (ol++[x]) na (nb - 1):=by
 obtain⟨n,rfl⟩:∃n,nb=n+1:=⟨nb - 1,by omega⟩
 exact h.b sb hx hl
set_option hygiene false in
local macro_rules| `(tactic| walk_at "thiB")=> `(tactic| (
 obtain⟨x0,x1,x2,x3⟩:=q02 (a:=a) (i:=na2 - 1) (by omega)
 refine wpS_bind (qS x1 ?_)
 refine wpS_bind (w_hl c hk3 (by omega) (by omega) (oa x0 x3) ob sb fun k' k1' k2' k3'=>?_)
 have le0:∀z∈a.toList.take na2,O.kle (kf z) (kf x0):=fun z hz=>by
  obtain⟨j,hj,ej⟩:=q08 hz
  exact q0M sa (by omega) ej x2
 have m4:=m3.bs k' k1' sb fun x hx z hz=>KeyOrd.kle_trans (le0 z hz) (k3' x hx)
 rw[<-q73,<-Array.toList_append] at m4
 dsimp only
 by_cases hk0':nb3 - k'>0
 ·rw [if_pos hk0']
  by_cases he:k'=1
  ·rw [if_pos (by simpa using he)]
   exact wpS_pure ⟨q3,.inl ⟨_,rfl,fB m4 he⟩⟩
  rw[if_neg (by simpa using he)]
  by_cases he2:k'=0
  ·rw [if_pos (by simpa using he2)]
   exact wpS_pure ⟨q3,.inl ⟨_,rfl,fC m4 he2⟩⟩
  rw[if_neg (by simpa using he2)]
  have m5:=m4.a' (by omega) sa x2 fun z hz=>KeyOrd.kle_of_klt (k2' z hz)
  rw[<-Array.toList_push] at m5
  refine wpS_bind (qS x1 ?_)
  by_cases hf:na2 - 1=0
  ·rw [if_pos (by simpa using hf)]
   exact wpS_pure ⟨q3,.inl ⟨_,rfl,fA m5 hf⟩⟩
  ·rw [if_neg (by simpa using hf)]
   split
   ·exact wpS_pure ⟨q3,.inr ⟨rfl,m5,by show 1<=na2 - 1;omega,by show 2<=k';omega,by show na2 - 1+k'<=s1;omega,by show na2 - 1<=a.size;omega,by show k'<=b.size;omega⟩⟩
   ·exact wpS_pure ⟨q3,rfl,m5,by show 1<=na2 - 1;omega,by show 2<=k';omega,by show na2 - 1+k'<=s1;omega,by show na2 - 1<=a.size;omega,by show k'<=b.size;omega⟩
 ·rw [if_neg hk0']
  have hz:k'=nb3:=by omega
  subst hz
  have m5:=m3.a' (by omega) sa x2 fun z hz=>KeyOrd.kle_of_klt (k2' z hz)
  rw[<-Array.toList_push] at m5
  refine wpS_bind (qS x1 ?_)
  by_cases hf:na2 - 1=0
  ·rw [if_pos (by simpa using hf)]
   exact wpS_pure ⟨q3,.inl ⟨_,rfl,fA m5 hf⟩⟩
  ·rw [if_neg (by simpa using hf)]
   split
   ·exact wpS_pure ⟨q3,.inr ⟨rfl,m5,by show 1<=na2 - 1;omega,by show 2<=k';omega,by show na2 - 1+k'<=s1;omega,by show na2 - 1<=a.size;omega,by show k'<=b.size;omega⟩⟩
   ·exact wpS_pure ⟨q3,rfl,m5,by show 1<=na2 - 1;omega,by show 2<=k';omega,by show na2 - 1+k'<=s1;omega,by show na2 - 1<=a.size;omega,by show k'<=b.size;omega⟩))
set_option hygiene false in
local macro_rules| `(tactic| walk_at "thiA")=> `(tactic| (
 refine wpS_bind (wpS_modify ?_)
 obtain⟨y0,y1,y2,y3⟩:=q02 (a:=b) (i:=nb - 1) (by omega)
 refine wpS_bind (qS y1 ?_)
 have q3:=q
 have hk3:kindOf st1=κ:=by rw[q.1];exact hk
 refine wpS_bind (w_hr c hk3 (by omega) (by omega) (ob y0 y3) oa sa fun k k1 k2 k3=>?_)
 have le1:∀z∈b.toList.take nb,O.kle (kf z) (kf y0):=fun z hz=>by
  obtain⟨j,hj,ej⟩:=q08 hz
  exact q0M sb (by omega) ej y2
 have m2:=m.as k k1 sa fun x hx z hz=>KeyOrd.kle_trans (le1 z hz) (KeyOrd.kle_of_klt (k3 x hx))
 rw[<-q73,<-Array.toList_append] at m2
 dsimp only
 generalize hkc:na - k=kc
 apply use3 (F:=fun o i j=>MH kf a.toList b.toList o.toList i j/\1<=i/\i<=a.size/\2<=j/\j<=b.size/\i+j<=s1)
 rotate_left
 ·intro key
  by_cases hk0:kc>0
  ·rw [if_pos hk0]
   by_cases he:k=0
   ·rw [if_pos (by simpa using he)]
    exact wpS_pure ⟨q3,.inl ⟨_,rfl,fA m2 he⟩⟩
   rw[if_neg (by simpa using he)]
   refine wpS_bind (qS y1 ?_)
   have m3:=m2.b' (by omega) sb y2 k2
   rw[<-Array.toList_push] at m3
   have ba2:1<=k:=by omega
   have za2:k<=a.size:=by omega
   have pr2:k+nb<=s1:=by omega
   generalize (out++(a.extract k na).reverse).push y0=out3 at m3 ⊢
   generalize k=na2 at m3 ba2 pr2 za2 ⊢
   by_cases hf:nb - 1=1
   ·rw [if_pos (by simpa using hf)]
    exact wpS_pure ⟨q3,.inl ⟨_,rfl,fB m3 hf⟩⟩
   rw[if_neg (by simpa using hf)]
   have bb3:2<=nb - 1:=by omega
   have zb3:nb - 1<=b.size:=by omega
   have pr3:na2+(nb - 1)<=s1:=by omega
   generalize nb - 1=nb3 at m3 bb3 pr3 zb3 ⊢
   exact key out3 na2 nb3 ⟨m3,ba2,za2,bb3,zb3,pr3⟩
  ·rw [if_neg hk0]
   refine wpS_bind (qS y1 ?_)
   have m3:=m.b' (by omega) sb y2 (by rw[show k=na by omega] at k2;exact k2)
   rw[<-Array.toList_push] at m3
   by_cases hf:nb - 1=1
   ·rw [if_pos (by simpa using hf)]
    exact wpS_pure ⟨q3,.inl ⟨_,rfl,fB m3 hf⟩⟩
   rw[if_neg (by simpa using hf)]
   exact key (out.push y0) na (nb - 1) ⟨m3,ba,za,by omega,by omega,by omega⟩
 ·rintro out3 na2 nb3 ⟨m3,ba2,za2,bb3,zb3,pr3⟩
  walk_at "thiB"))
theorem q7S (c:Cmp prog w A s κ O kf Ok){a b:Array Keyed}{st:SortSt}{Q:Array Keyed->SortSt->Prop}(hk:kindOf st=κ)(oa:∀x∈a.toList,Ok x)(ob:∀x∈b.toList,Ok x)(sa:Srd kf a.toList)(sb:Srd kf b.toList)(ha:0<a.size)(hb:0<b.size)
  (hd:∀x∈a.toList,∀y,b.toList[0]? =some y->O.kle (kf y) (kf x))(hl:∀y∈b.toList,∀x,a.toList[a.size - 1]? =some x->O.kle (kf y) (kf x))
  (h:∀r st',Res kf a.toList b.toList r->Stq st st'->Q r st'):wpS (model prog w) A E s (qaI a b) Q st:=by
 have fA:∀{out:Array Keyed} {na nb:Nat},MH kf a.toList b.toList out.toList na nb->na=0->Res kf a.toList b.toList (a.extract 0 na++b.extract 0 nb++out.reverse):=fun {out na nb} m e=>by
  refine m.ab sa sb (fun x hx y hy=>?_) (by rw[Array.toList_append,Array.toList_append,q21,q21,Array.toList_reverse])
  subst e
  simp at hx
 have fC:∀{out:Array Keyed} {na nb:Nat},MH kf a.toList b.toList out.toList na nb->nb=0->Res kf a.toList b.toList (a.extract 0 na++b.extract 0 nb++out.reverse):=fun {out na nb} m e=>by
  refine m.ab sa sb (fun x hx y hy=>?_) (by rw[Array.toList_append,Array.toList_append,q21,q21,Array.toList_reverse])
  subst e
  simp at hy
 have fB:∀{out:Array Keyed} {na nb:Nat},MH kf a.toList b.toList out.toList na nb->nb=1->Res kf a.toList b.toList (b.extract 0 nb++a.extract 0 na++out.reverse):=fun {out na nb} m e=>by
  refine m.ba sa sb (fun y hy x hx=>?_) (by rw[Array.toList_append,Array.toList_append,q21,q21,Array.toList_reverse])
  obtain⟨j,hj,ej⟩:=q08 hy
  have:j=0:=by omega
  subst this
  exact hd x (List.mem_of_mem_take hx) y ej
 obtain⟨x0,x1,x2,x3⟩:=q02 (a:=a) (i:=a.size - 1) (by omega)
 have m0:MH kf a.toList b.toList (#[x0]:Array Keyed).toList (a.size - 1) b.size:=by
  have:=(show MH kf a.toList b.toList [] a.size b.size from⟨by simp,List.Pairwise.nil,fun x hx=>(nomatch hx),fun x hx=>(nomatch hx)⟩).a' ha sa x2 fun z hz=>hl z (List.mem_of_mem_take hz) x0 x2
  simpa using this
 refine wpS_bind (wpS_lift (wpAny_rule ⟨rfl,?_⟩))
 refine wpS_bind (qS x1 ?_)
 dsimp only
 by_cases e1:a.size - 1=0
 ·rw [if_pos (by simpa using e1)]
  exact wpS_pure (h _ _ (fA m0 e1) ⟨rfl,rfl,rfl,rfl⟩)
 rw[if_neg (by simpa using e1)]
 by_cases e2:b.size=1
 ·rw [if_pos (by simpa using e2)]
  exact wpS_pure (h _ _ (fB m0 e2) ⟨rfl,rfl,rfl,rfl⟩)
 rw[if_neg (by simpa using e2)]
 refine wpS_bind (wpS_get ?_)
 refine wpS_bind (wpS_mono (wpS_forRange (I:=fun(x:Nat) (c:Option (Array Keyed)×Nat×Nat×Array Keyed×Nat) (st':SortSt)=>c.1=none/\Stq st st'/\MH kf a.toList b.toList c.2.2.2.1.toList c.2.1 c.2.2.1/\1<=c.2.1/\2<=c.2.2.1/\c.2.1+c.2.2.1+x+1<=a.size+b.size/\c.2.1<=a.size/\c.2.2.1<=b.size)
  (Q:=fun(c:Option (Array Keyed)×Nat×Nat×Array Keyed×Nat) (st':SortSt)=>Stq st st'/\∃r,c.1=some r/\Res kf a.toList b.toList r) ?_ ?_ (show _/\_ from⟨rfl,⟨rfl,rfl,rfl,rfl⟩,m0,by show 1<=a.size - 1;omega,by show 2<=b.size;omega,by show a.size - 1+b.size+0+1<=a.size+b.size;omega,by show a.size - 1<=a.size;omega,Nat.le_refl _⟩)) ?_)
 ·rintro x ⟨r,na,nb,out,mg⟩ st1 _ hx ⟨rfl,q,m,ba,bb,pr,za,zb⟩
  dsimp only at m ba bb pr za zb ⊢
  have hk1:kindOf st1=κ:=by rw[q.1];exact hk
  refine wpS_bind (wpS_mono (wpS_forRange (I:=fun(y:Nat) (c:Option (Array Keyed)×Nat×Nat×Array Keyed×Nat×Nat) (st':SortSt)=>st1=st'/\c.1=none/\MH kf a.toList b.toList c.2.2.2.1.toList c.2.1 c.2.2.1/\1<=c.2.1/\2<=c.2.2.1/\c.2.1+c.2.2.1+y<=na+nb/\c.2.1<=a.size/\c.2.2.1<=b.size)
   (Q:=fun(c:Option (Array Keyed)×Nat×Nat×Array Keyed×Nat×Nat) (st':SortSt)=>st1=st'/\((∃r,c.1=some r/\Res kf a.toList b.toList r)\/c.1=none/\MH kf a.toList b.toList c.2.2.2.1.toList c.2.1 c.2.2.1/\1<=c.2.1/\2<=c.2.2.1/\c.2.1+c.2.2.1+1<=na+nb/\c.2.1<=a.size/\c.2.2.1<=b.size)) ?_ ?_ (show _/\_ from⟨rfl,rfl,m,ba,bb,Nat.le_refl _,za,zb⟩)) ?_)
  ·rintro y ⟨r,na',nb',out',ac,bc⟩ st2 _ hy ⟨rfl,rfl,m',ba',bb',pr',za',zb'⟩
   dsimp only at m' ba' bb' pr' za' zb' ⊢
   obtain⟨y0,y1,y2,y3⟩:=q02 (a:=b) (i:=nb' - 1) (by omega)
   obtain⟨x0,x1,x2,x3⟩:=q02 (a:=a) (i:=na' - 1) (by omega)
   refine wpS_bind (qS y1 (wpS_bind (qS x1 (wpS_bind (w_lt c hk1 (ob y0 y3) (oa x0 x3) ?_)))))
   dsimp only
   cases e:O.blt (kf y0) (kf x0) with
   |true=>
    rw[if_pos rfl]
    refine wpS_bind (qS x1 ?_)
    have m2:=m'.a' ba' sa x2 fun z hz=>by
     obtain⟨j,hj,ej⟩:=q08 hz
     exact KeyOrd.kle_of_klt (KeyOrd.klt_of_kle_of_klt (q0M sb (by omega) ej y2) e)
    rw[<-Array.toList_push] at m2
    by_cases he:na' - 1=0
    ·rw [if_pos (by simpa using he)]
     exact wpS_pure ⟨rfl,.inl ⟨_,rfl,fA m2 he⟩⟩
    ·rw [if_neg (by simpa using he)]
     split
     ·exact wpS_pure ⟨rfl,.inr ⟨rfl,m2,by show 1<=na' - 1;omega,bb',by show na' - 1+nb'+1<=na+nb;omega,by show na' - 1<=a.size;omega,zb'⟩⟩
     ·exact wpS_pure ⟨rfl,rfl,m2,by show 1<=na' - 1;omega,bb',by show na' - 1+nb'+(y+1)<=na+nb;omega,by show na' - 1<=a.size;omega,zb'⟩
   |false=>
    rw[if_neg (by decide)]
    refine wpS_bind (qS y1 ?_)
    have m2:=m'.b' (by omega) sb y2 fun z hz=>by
     obtain⟨j,hj,ej⟩:=q08 hz
     exact KeyOrd.kle_trans (q0M sa (by omega) ej x2) e
    rw[<-Array.toList_push] at m2
    by_cases he:nb' - 1=1
    ·rw [if_pos (by simpa using he)]
     exact wpS_pure ⟨rfl,.inl ⟨_,rfl,fB m2 he⟩⟩
    ·rw [if_neg (by simpa using he)]
     split
     ·exact wpS_pure ⟨rfl,.inr ⟨rfl,m2,ba',by show 2<=nb' - 1;omega,by show na'+(nb' - 1)+1<=na+nb;omega,za',by show nb' - 1<=b.size;omega⟩⟩
     ·exact wpS_pure ⟨rfl,rfl,m2,ba',by show 2<=nb' - 1;omega,by show na'+(nb' - 1)+(y+1)<=na+nb;omega,za',by show nb' - 1<=b.size;omega⟩
  ·rintro ⟨r,na',nb',out',ac,bc⟩ st2 ⟨rfl,rfl,m',ba',bb',pr',zz⟩
   have pr2:na'+nb'+max 0 (a.size+b.size)<=na+nb:=pr'
   exact⟨rfl,.inr ⟨rfl,m',ba',bb',by show na'+nb'+1<=na+nb;omega,zz⟩⟩
  ·rintro ⟨r,na',nb',out',ac,bc⟩ st2 ⟨rfl,hq⟩
   dsimp only at hq ⊢
   rcases hq with⟨r0,e0,hr0⟩|⟨e0,m',ba',bb',pr',za',zb'⟩
   ·subst e0
    exact wpS_pure ⟨q,_,rfl,hr0⟩
   ·subst e0
    dsimp only
    refine wpS_bind (wpS_lift (wpAny_rule ⟨rfl,?_⟩))
    obtain⟨s1,hs1⟩:∃s1,s1+1=na+nb:=⟨na+nb - 1,by omega⟩
    have pr1:na'+nb'<=s1:=by omega
    refine wpS_bind (wpS_mono (wpS_forRange (I:=fun(y:Nat) (c:Option (Array Keyed)×Nat×Nat×Array Keyed×Nat×Nat×Nat) (st':SortSt)=>Stq st st'/\c.1=none/\MH kf a.toList b.toList c.2.2.2.1.toList c.2.1 c.2.2.1/\1<=c.2.1/\2<=c.2.2.1/\c.2.1+c.2.2.1<=s1/\c.2.1<=a.size/\c.2.2.1<=b.size)
     (Q:=fun(c:Option (Array Keyed)×Nat×Nat×Array Keyed×Nat×Nat×Nat) (st':SortSt)=>Stq st st'/\((∃r,c.1=some r/\Res kf a.toList b.toList r)\/c.1=none/\MH kf a.toList b.toList c.2.2.2.1.toList c.2.1 c.2.2.1/\1<=c.2.1/\2<=c.2.2.1/\c.2.1+c.2.2.1<=s1/\c.2.1<=a.size/\c.2.2.1<=b.size)) ?_ ?_ (show _/\_ from⟨q,rfl,m',ba',bb',pr1,za',zb'⟩)) ?_)
    ·clear m' ba' bb' pr' q m ba bb hk1 za zb za' zb' pr1 x2 x3 x1
     rintro y ⟨r,na,nb,out,mg,ac,bc⟩ st1 _ hy ⟨q,rfl,m,ba,bb,pr,za,zb⟩
     dsimp only at m ba bb pr za zb ⊢
     apply use1
     rotate_left
     ·intro key
      by_cases hg:mg>1
      ·rw [if_pos hg]
       generalize mg - 1=mg2
       exact key mg2
      ·rw [if_neg hg]
       exact key mg
     ·intro mg2
      walk_at "thiA"
    ·rintro ⟨r,na',nb',out',mg',ac,bc⟩ st2 ⟨q',rfl,z⟩
     exact⟨q',.inr ⟨rfl,z⟩⟩
    ·rintro ⟨r,na2,nb2,out2,mg2,ac,bc⟩ st2 ⟨q',hq⟩
     dsimp only at hq ⊢
     rcases hq with⟨r0,e0,hr0⟩|⟨e0,m2,ba2,bb2,pr2,zz⟩
     ·subst e0
      exact wpS_pure ⟨q',_,rfl,hr0⟩
     ·subst e0
      dsimp only
      refine wpS_bind (wpS_modify ?_)
      exact wpS_pure ⟨rfl,q',m2,ba2,bb2,by show na2+nb2+(x+1)+1<=a.size+b.size;omega,zz⟩
 ·rintro ⟨r,na,nb,out,mg⟩ st1 ⟨rfl,q,m,ba,bb,pr,zz⟩
  dsimp only at ba bb pr
  omega
 ·rintro ⟨r,na,nb,out,mg⟩ st1 ⟨q,r0,e0,hr0⟩
  dsimp only at e0 ⊢
  subst e0
  exact wpS_pure (h _ _ hr0 q)
end
end Tim
namespace Tim
open PySem PySem.W PyProof.Rows
theorem q8o:∀(m:List Keyed) (o:Nat) (k:Nat) (a:Array Keyed),o+k+m.length<=a.size->
  ((m.zipIdx k).foldl (fun a (p,j)=>a.setIfInBounds (o+j) p) a).toList=a.toList.take (o+k)++m++a.toList.drop (o+k+m.length)
 |[],o,k,a,_=>by simp
 |p::m,o,k,a,h=>by
  rw[List.length_cons] at h
  rw[List.zipIdx_cons,List.foldl_cons,q8o m o (k+1) _ (by rw[Array.size_setIfInBounds];omega)]
  have hlt:o+k<a.toList.length:=by simp;omega
  rw[Array.toList_setIfInBounds,show o+(k+1)=o+k+1 by omega,List.take_set,List.drop_set]
  rw[if_pos (by omega),List.take_succ_eq_append_getElem hlt,List.set_append_right _ _ (by rw[List.length_take];omega)]
  have e:o+k - (a.toList.take (o+k)).length=0:=by rw[List.length_take];omega
  rw[e,List.set_cons_zero,List.length_cons,show o+k+1+m.length=o+k+(m.length+1) by omega]
  simp
theorem q6E {A B:List Keyed}{n:Nat}(h:n=A.length):(A++B).drop n=B:=by subst h;simp
theorem seg {A B C:List Keyed}{i j:Nat}(hi:i=A.length)(hj:j=i+B.length){a:Array Keyed}(e:a.toList=A++B++C):(a.extract i j).toList=B:=by
 rw[Array.toList_extract,List.extract_eq_take_drop,e,List.append_assoc,q6E hi,show j - i=B.length by omega,List.take_left']
 rfl
theorem q8b {A B C:List Keyed}{i j:Nat}(hi:i=A.length)(hj:j<B.length){a:Array Keyed}(e:a.toList=A++B++C):a[i+j]? =some B[j]:=by
 rw[<-Array.getElem?_toList,e,List.append_assoc,List.getElem?_append_right (by omega),List.getElem?_append_left (by omega),show i+j - A.length=j by omega]
 exact List.getElem?_eq_getElem hj
section
variable {prog:Program}{w:World}{A:Around}{E:Value->Shared->Prop}{s:Shared}{κ:SortKind}{O:KeyOrd}{kf:Keyed->O.α}{Ok:Keyed->Prop}
theorem w_seg (c:Cmp prog w A s κ O kf Ok){left:Bool}{key:Keyed}{arr:Array Keyed}{n hint base:Nat}{L B R:List Keyed}{st:SortSt}{Q:Option Nat->SortSt->Prop}(hk:kindOf st=κ)(e:arr.toList=L++B++R)(hb:base=L.length)(hn:n=B.length)(hh:hint<n)(ok:Ok key)(ob:∀x∈B,Ok x)(sb:Srd kf B)
  (h:∀k,k<=n->(∀x∈B.take k,bdB kf left key x=true)->(∀x∈B.drop k,bdB kf left key x=false)->Q (some k) st):wpS (model prog w) A E s (q2Y left key arr base n hint) Q st:=by
 refine q2n c (B:=fun i=>match B[i]? with|some p=>bdB kf left key p|none=>false) hk hh ok (fun i hi=>?_) (fun i j h1 h2 h3=>?_) fun k k1 k2 k3=>?_
 ·have hi':i<B.length:=by omega
  exact⟨B[i],q8b hb hi' e,ob _ (List.getElem_mem hi'),by rw[List.getElem?_eq_getElem hi']⟩
 ·have hi:i<B.length:=by omega
  have hj:j<B.length:=by omega
  rw[List.getElem?_eq_getElem hj] at h3
  rw[List.getElem?_eq_getElem hi]
  have le:=q0M sb h1 (List.getElem?_eq_getElem hi) (List.getElem?_eq_getElem hj)
  cases left with
  |true=>exact KeyOrd.klt_of_kle_of_klt le h3
  |false=>
   have h3':O.kle (kf B[j]) (kf key):=by show O.blt (kf key) (kf B[j])=false;simpa[bdB] using h3
   have:=KeyOrd.kle_trans le h3'
   show(!O.blt (kf key) (kf B[i]))=true
   rw[this]
   rfl
 ·refine h k k1 (fun x hx=>?_) fun x hx=>?_
  ·obtain ⟨j,hj,ej⟩:=q08 hx
   have:=k2 j hj
   rw[ej] at this
   exact this
  ·obtain ⟨j,hj,ej⟩:=q0z hx
   have:=k3 (k+j) (by omega) (by omega)
   rw[ej] at this
   exact this
theorem qbI {st st1:SortSt}{Q:PUnit->SortSt->Prop}(h:Q ⟨⟩ st1):wpS (model prog w) A E s (set st1:StateT SortSt Sem PUnit) Q st:=by
 unfold wpS;rw[StateT.run_set];exact wpAny_pure ⟨rfl,h⟩
def offs:Nat->List (List Keyed)->List (Nat×Nat)
 |_,[]=>[]
 |o,r::rs=>(o,r.length)::offs (o+r.length) rs
theorem q3m:∀(o:Nat) (A B:List (List Keyed)),offs o (A++B)=offs o A++offs (o+A.flatten.length) B
 |o,[],B=>by simp[offs]
 |o,r::A,B=>by
  simp only[List.cons_append,offs,q3m (o+r.length) A B,List.flatten_cons,List.length_append]
  rw[show o+r.length+A.flatten.length=o+(r.length+A.flatten.length) by omega]
theorem q1B:∀(o:Nat) (A:List (List Keyed)),(offs o A).length=A.length
 |_,[]=>rfl
 |o,r::A=>by simp[offs,q1B (o+r.length) A]
abbrev pr2 (p:Nat×Nat×Nat):Nat×Nat:=(p.1,p.2.1)
structure Rns (kf:Keyed->O.α)(Ok:Keyed->Prop)(a0:List Keyed)(st:SortSt)(Rs:List (List Keyed))(rest:List Keyed):Prop where
 arr:(arrOf st).toList=Rs.flatten++rest
 pm:(arrOf st).toList.Perm a0
 so:∀r∈Rs,Srd kf r/\r≠[]
 pd:(pendingOf st).toList.map pr2=offs 0 Rs
 fl:failedOf st=none
theorem q7v {p:Array (Nat×Nat×Nat)}{P S:List (List Keyed)}{X Y Z:List Keyed}{i sa na nb pw:Nat}(e:p.toList.map pr2=offs 0 (P++X::Y::S))(hi:i=P.length)(h1:sa=P.flatten.length)(h2:na+nb=Z.length)(hz:Z.length=X.length+Y.length):
  ((p.setIfInBounds i (sa,na+nb,pw)).eraseIdxIfInBounds (i+1)).toList.map pr2=offs 0 (P++Z::S):=by
 rw[q3m] at e ⊢
 rw[Nat.zero_add] at e ⊢
 obtain⟨l1,l',el,e1,e'⟩:=List.map_eq_append_iff.mp e
 simp only[offs] at e'
 obtain⟨x,l'',ex,e3,e4⟩:=List.map_eq_cons_iff.mp e'
 obtain⟨y,l2,ey,e5,e6⟩:=List.map_eq_cons_iff.mp e4
 have hl1:l1.length=i:=by have:=congrArg List.length e1;rw[List.length_map,q1B] at this;omega
 rw[Array.toList_eraseIdxIfInBounds,Array.toList_setIfInBounds,el,ex,ey]
 subst hi
 rw[show(l1++x::y::l2).set P.length (sa,na+nb,pw)=l1++(sa,na+nb,pw)::y::l2 by rw[List.set_append_right _ _ (by omega),hl1,Nat.sub_self];rfl]
 rw[show(l1++(sa,na+nb,pw)::y::l2).eraseIdx (P.length+1)=l1++(sa,na+nb,pw)::l2 by rw[List.eraseIdx_append_of_length_le (by omega),hl1,show P.length+1 - P.length=1 by omega];rfl]
 rw[List.map_append,List.map_cons,e1,e6]
 simp only[offs,pr2,h1,h2]
 rw[hz,show P.flatten.length+X.length+Y.length=P.flatten.length+(X.length+Y.length) by omega]
theorem q4X (c:Cmp prog w A s κ O kf Ok){a0:List Keyed}{st:SortSt}{P:List (List Keyed)}{X Y:List Keyed}{S:List (List Keyed)}{rest:List Keyed}{i:Nat}{Q:Bool->SortSt->Prop}(o0:∀x∈a0,Ok x)(hk:kindOf st=κ)(hi:i=P.length)(R:Rns kf Ok a0 st (P++X::Y::S) rest)
  (h:∀(Z:List Keyed) (st':SortSt),kindOf st'=κ->Rns kf Ok a0 st' (P++Z::S) rest->Q true st'):wpS (model prog w) A E s (mergeAt' i) Q st:=by
 have oall:∀x∈(arrOf st).toList,Ok x:=fun x hx=>o0 x (R.pm.mem_iff.mp hx)
 obtain⟨sX,nX⟩:=R.so X (by simp)
 obtain⟨sY,nY⟩:=R.so Y (by simp)
 have hpX:0<X.length:=List.length_pos_iff.mpr nX
 have hpY:0<Y.length:=List.length_pos_iff.mpr nY
 have ea:(arrOf st).toList=P.flatten++X++Y++(S.flatten++rest):=by rw[R.arr];simp
 have epd:=R.pd
 rw[q3m] at epd
 obtain⟨pa,ha,ea1⟩:∃pa,(pendingOf st)[i]? =some pa/\pr2 pa=(P.flatten.length,X.length):=by
  have:((pendingOf st).toList.map pr2)[i]? =some (P.flatten.length,X.length):=by
   rw[epd,List.getElem?_append_right (by rw[q1B];omega),q1B,show i - P.length=0 by omega]
   simp[offs]
  rw[List.getElem?_map] at this
  obtain⟨pa,h1,h2⟩:=Option.map_eq_some_iff.mp this
  exact⟨pa,by simpa using h1,h2⟩
 obtain⟨pb,hb,eb1⟩:∃pb,(pendingOf st)[i+1]? =some pb/\pr2 pb=(P.flatten.length+X.length,Y.length):=by
  have:((pendingOf st).toList.map pr2)[i+1]? =some (P.flatten.length+X.length,Y.length):=by
   rw[epd,List.getElem?_append_right (by rw[q1B];omega),q1B,show i+1 - P.length=1 by omega]
   simp[offs]
  rw[List.getElem?_map] at this
  obtain⟨pb,h1,h2⟩:=Option.map_eq_some_iff.mp this
  exact⟨pb,by simpa using h1,h2⟩
 obtain⟨sa,na,pw⟩:=pa
 obtain⟨sb,nb,pw'⟩:=pb
 simp only[pr2,Prod.mk.injEq] at ea1 eb1
 refine wpS_bind (wpS_get ?_)
 dsimp only
 obtain⟨esa,ena⟩:=ea1
 obtain⟨esb,enb⟩:=eb1
 have fin:∀(Z:List Keyed) (st':SortSt),kindOf st'=κ->failedOf st'=none->pendingOf st'=((pendingOf st).setIfInBounds i (sa,na+nb,pw)).eraseIdxIfInBounds (i+1)->(arrOf st').toList=P.flatten++Z++(S.flatten++rest)->Z.Perm (X++Y)->Srd kf Z->Q true st':=fun Z st' g1 g2 g3 g4 g5 g6=>by
  have hz:Z.length=X.length+Y.length:=by rw[g5.length_eq,List.length_append]
  refine h Z st' g1 ⟨by rw[g4];simp,?_,fun r hr=>?_,by rw[g3];exact q7v R.pd hi esa (by omega) hz,g2⟩
  ·refine List.Perm.trans ?_ R.pm
   rw[g4,ea]
   refine List.Perm.append_right _ ?_
   rw[List.append_assoc]
   exact List.Perm.append_left _ g5
  ·rcases List.mem_append.mp hr with hr|hr
   ·exact R.so r (by simp[hr])
   ·rcases List.mem_cons.mp hr with rfl|hr
    ·exact ⟨g6,fun z=>by rw[z] at hz;simp at hz;omega⟩
    ·exact R.so r (by simp[hr])
 have same:(arrOf st).toList=P.flatten++(X++Y)++(S.flatten++rest):=by rw[ea];simp
 have oX:∀x∈X,Ok x:=fun x hx=>oall x (by rw[ea];simp[hx])
 have oY:∀x∈Y,Ok x:=fun x hx=>oall x (by rw[ea];simp[hx])
 have hY0:(arrOf st)[sb]? =some Y[0]:=by
  have:=q8b (A:=P.flatten++X) (B:=Y) (C:=S.flatten++rest) (i:=sb) (j:=0) (by rw[List.length_append];omega) hpY ea
  simpa using this
 have hXl:(arrOf st)[sa+(na - 1)]? =some (X[na - 1]'(by omega)):=q8b (A:=P.flatten) (B:=X) (C:=Y++(S.flatten++rest)) (i:=sa) (j:=na - 1) esa (by omega) (by rw[ea];simp)
 simp only[ha,hb]
 refine wpS_bind (qbI ?_)
 refine wpS_bind (qS hY0 ?_)
 refine wpS_bind (w_seg c (left:=false) (L:=P.flatten) (B:=X) (R:=Y++(S.flatten++rest)) hk (by rw[ea];simp) esa ena (by omega) (oY _ (List.getElem_mem _)) oX sX fun k k1 k2 k3=>?_)
 dsimp only
 have leY:∀y∈Y,O.kle (kf Y[0]) (kf y):=fun y hy=>by
  obtain⟨j,hj,ej⟩:=List.getElem_of_mem hy
  exact q0M sY (Nat.zero_le j) (List.getElem?_eq_getElem hpY) (by rw[List.getElem?_eq_getElem hj,ej])
 have k2':∀x∈X.take k,O.kle (kf x) (kf Y[0]):=fun x hx=>by show O.blt (kf Y[0]) (kf x)=false;simpa[bdB] using k2 x hx
 have k3':∀x∈X.drop k,O.klt (kf Y[0]) (kf x):=fun x hx=>by show O.blt (kf Y[0]) (kf x)=true;simpa[bdB] using k3 x hx
 by_cases e1:na - k=0
 ·rw [if_pos (by simpa using e1)]
  refine wpS_pure (fin (X++Y) _ hk R.fl rfl same (List.Perm.refl _) (List.pairwise_append.mpr ⟨sX,sY,fun x hx y hy=>?_⟩))
  exact KeyOrd.kle_trans (k2' x (by rw[List.take_of_length_le (by omega)];exact hx)) (leY y hy)
 rw[if_neg (by simpa using e1)]
 rw[show sa+k+(na - k) - 1=sa+(na - 1) by omega]
 refine wpS_bind (qS hXl ?_)
 have leX:∀x∈X,O.kle (kf x) (kf (X[na - 1]'(by omega))):=fun x hx=>by
  obtain⟨j,hj,ej⟩:=List.getElem_of_mem hx
  exact q0M sX (i:=j) (j:=na - 1) (by omega) (by rw[List.getElem?_eq_getElem hj,ej]) (List.getElem?_eq_getElem (by omega))
 refine wpS_bind (w_seg c (left:=true) (L:=P.flatten++X) (B:=Y) (R:=S.flatten++rest) hk ea (by rw[List.length_append];omega) enb (by omega) (oX _ (List.getElem_mem _)) oY sY fun m m1 m2 m3=>?_)
 dsimp only
 have m2':∀y∈Y.take m,O.klt (kf y) (kf (X[na - 1]'(by omega))):=fun y hy=>by show O.blt _ _=true;simpa[bdB] using m2 y hy
 have m3':∀y∈Y.drop m,O.kle (kf (X[na - 1]'(by omega))) (kf y):=fun y hy=>by show O.blt _ _=false;simpa[bdB] using m3 y hy
 by_cases e2:m=0
 ·rw [if_pos (by simpa using e2)]
  refine wpS_pure (fin (X++Y) _ hk R.fl rfl same (List.Perm.refl _) (List.pairwise_append.mpr ⟨sX,sY,fun x hx y hy=>?_⟩))
  exact KeyOrd.kle_trans (leX x hx) (m3' y (by rw[e2];exact hy))
 rw[if_neg (by simpa using e2)]
 have eX:(P.flatten++X.take k)++X.drop k++(Y++(S.flatten++rest))=P.flatten++X++Y++(S.flatten++rest):=by
  rw[List.append_assoc (P.flatten),List.take_append_drop]
  simp
 have eY:(P.flatten++X)++Y.take m++(Y.drop m++(S.flatten++rest))=P.flatten++X++Y++(S.flatten++rest):=by
  rw[List.append_assoc _ (Y.take m),<-List.append_assoc (Y.take m),List.take_append_drop]
  simp
 have s1:((arrOf st).extract (sa+k) sb).toList=X.drop k:=seg (A:=P.flatten++X.take k) (B:=X.drop k) (C:=Y++(S.flatten++rest)) (by rw[List.length_append,List.length_take];omega) (by rw[List.length_drop];omega) (by rw[ea,eX])
 have s2:((arrOf st).extract sb (sb+m)).toList=Y.take m:=seg (A:=P.flatten++X) (B:=Y.take m) (C:=Y.drop m++(S.flatten++rest)) (by rw[List.length_append];omega) (by rw[List.length_take];omega) (by rw[ea,eY])
 have z1:((arrOf st).extract (sa+k) sb).size=na - k:=by rw[<-Array.length_toList,s1,List.length_drop];omega
 have z2:((arrOf st).extract sb (sb+m)).size=m:=by rw[<-Array.length_toList,s2,List.length_take];omega
 have hd:∀x∈((arrOf st).extract (sa+k) sb).toList,∀y,((arrOf st).extract sb (sb+m)).toList[0]? =some y->O.kle (kf y) (kf x):=fun x hx y hy=>by
  rw[s1] at hx
  rw[s2,List.getElem?_take_of_lt (by omega),List.getElem?_eq_getElem hpY] at hy
  cases hy
  exact KeyOrd.kle_of_klt (k3' x hx)
 have hl:∀y∈((arrOf st).extract sb (sb+m)).toList,∀x,((arrOf st).extract (sa+k) sb).toList[((arrOf st).extract (sa+k) sb).size - 1]? =some x->O.kle (kf y) (kf x):=fun y hy x hx=>by
  rw[s2] at hy
  rw[s1,z1,List.getElem?_drop,show k+(na - k - 1)=na - 1 by omega,List.getElem?_eq_getElem (by omega)] at hx
  cases hx
  exact KeyOrd.kle_of_klt (m2' y hy)
 have oa:∀x∈((arrOf st).extract (sa+k) sb).toList,Ok x:=fun x hx=>by rw[s1] at hx;exact oX x (List.mem_of_mem_drop hx)
 have ob:∀x∈((arrOf st).extract sb (sb+m)).toList,Ok x:=fun x hx=>by rw[s2] at hx;exact oY x (List.mem_of_mem_take hx)
 have sA:Srd kf ((arrOf st).extract (sa+k) sb).toList:=by rw[s1];exact sX.sublist (List.drop_sublist _ _)
 have sB:Srd kf ((arrOf st).extract sb (sb+m)).toList:=by rw[s2];exact sY.sublist (List.take_sublist _ _)
 have put:∀(r:Array Keyed) (st':SortSt),Res kf ((arrOf st).extract (sa+k) sb).toList ((arrOf st).extract sb (sb+m)).toList r->kindOf st'=κ->failedOf st'=none->pendingOf st'=((pendingOf st).setIfInBounds i (sa,na+nb,pw)).eraseIdxIfInBounds (i+1)->arrOf st'=List.foldl (fun a (x:Keyed×Nat)=>a.setIfInBounds (sa+k+x.2) x.1) (arrOf st) r.toList.zipIdx->Q true st':=fun r st' hr g1 g2 g3 g4=>by
  obtain⟨r1,r2⟩:=hr
  rw[s1,s2] at r1
  have rl:r.toList.length=na - k+m:=by rw[r1.length_eq,List.length_append,List.length_drop,List.length_take];omega
  refine fin (X.take k++r.toList++Y.drop m) st' g1 g2 g3 ?_ ?_ ?_
  ·have al:(arrOf st).toList.length=P.flatten.length+X.length+Y.length+(S.flatten++rest).length:=by rw[ea];simp;omega
   rw[g4,q8o r.toList (sa+k) 0 (arrOf st) (by rw[<-Array.length_toList];omega)]
   rw[Nat.add_zero,rl]
   have t1:(arrOf st).toList.take (sa+k)=P.flatten++X.take k:=by
    rw[ea,<-eX,List.append_assoc,List.take_left' (by rw[List.length_append,List.length_take];omega)]
   have t2:(arrOf st).toList.drop (sa+k+(na - k+m))=Y.drop m++(S.flatten++rest):=by
    rw[ea,<-eY,q6E (by rw[List.length_append,List.length_append,List.length_take];omega)]
   rw[t1,t2]
   simp
  ·refine (List.Perm.append_right _ (List.Perm.append_left _ r1)).trans ?_
   rw[<-List.append_assoc,List.take_append_drop,List.append_assoc,List.take_append_drop]
  ·refine List.pairwise_append.mpr ⟨List.pairwise_append.mpr ⟨sX.sublist (List.take_sublist _ _),r2,fun x hx y hy=>?_⟩,sY.sublist (List.drop_sublist _ _),fun x hx y hy=>?_⟩
   ·rcases List.mem_append.mp (r1.mem_iff.mp hy) with hy|hy
    ·have:=sX
     rw[<-List.take_append_drop k X] at this
     exact(List.pairwise_append.mp this).2.2 x hx y hy
    ·exact KeyOrd.kle_trans (k2' x hx) (leY y (List.mem_of_mem_take hy))
   ·rcases List.mem_append.mp hx with hx|hx
    ·exact KeyOrd.kle_trans (leX x (List.mem_of_mem_take hx)) (m3' y hy)
    ·rcases List.mem_append.mp (r1.mem_iff.mp hx) with hx|hx
     ·exact KeyOrd.kle_trans (leX x (List.mem_of_mem_drop hx)) (m3' y hy)
     ·have:=sY
      rw[<-List.take_append_drop m Y] at this
      exact(List.pairwise_append.mp this).2.2 x hx y hy
 by_cases hle:na - k<=m
 ·rw [if_pos hle]
  refine wpS_bind (q7R c hk oa ob sA sB (show 0<((arrOf st).extract (sa+k) sb).size by omega) (show 0<((arrOf st).extract sb (sb+m)).size by omega) hd hl fun r st' hr q=>?_)
  refine wpS_bind (wpS_modify (wpS_bind (wpS_get ?_)))
  have ef:failedOf st'=none:=q.2.2.2.trans R.fl
  have e0:(failedOf st').isNone=true:=by rw[ef];rfl
  refine wpS_pure ?_
  show Q (failedOf st').isNone _
  rw[e0]
  exact put r _ hr (q.1.trans hk) ef q.2.2.1 (by show List.foldl _ (arrOf st') _=_;rw[q.2.1])
 ·rw [if_neg hle]
  refine wpS_bind (q7S c hk oa ob sA sB (show 0<((arrOf st).extract (sa+k) sb).size by omega) (show 0<((arrOf st).extract sb (sb+m)).size by omega) hd hl fun r st' hr q=>?_)
  refine wpS_bind (wpS_modify (wpS_bind (wpS_get ?_)))
  have ef:failedOf st'=none:=q.2.2.2.trans R.fl
  have e0:(failedOf st').isNone=true:=by rw[ef];rfl
  refine wpS_pure ?_
  show Q (failedOf st').isNone _
  rw[e0]
  exact put r _ hr (q.1.trans hk) ef q.2.2.1 (by show List.foldl _ (arrOf st') _=_;rw[q.2.1])
end
end Tim
namespace Tim
open PySem PySem.W PyProof.Rows
section
variable {prog:Program}{w:World}{A:Around}{E:Value->Shared->Prop}{s:Shared}{κ:SortKind}{O:KeyOrd}{kf:Keyed->O.α}{Ok:Keyed->Prop}
def Kx (kf:Keyed->O.α)(a:Array Keyed)(i:Nat):O.α:=kf (a.getD i (Value.none,Value.none))
theorem q2O {a b:Array Keyed}{i j:Nat}(h:a[i]? =b[j]?):Kx kf a i=Kx kf b j:=by
 unfold Kx
 rw[Array.getD_eq_getD_getElem?,Array.getD_eq_getD_getElem?,h]
theorem qdp {a:Array Keyed}{i:Nat}{x:Keyed}(h:a[i]? =some x):Kx kf a i=kf x:=by
 unfold Kx
 rw[Array.getD_eq_getD_getElem?,h]
 rfl
theorem q4Y (c:Cmp prog w A s κ O kf Ok){i j:Nat}{st:SortSt}{Q:Option Bool->SortSt->Prop}(hk:kindOf st=κ)(hi:i<(arrOf st).size)(hj:j<(arrOf st).size)(ok:∀x∈(arrOf st).toList,Ok x)(h:Q (some (O.blt (Kx kf (arrOf st) i) (Kx kf (arrOf st) j))) st):wpS (model prog w) A E s (ltAt' i j) Q st:=by
 obtain⟨x,x1,x2,x3⟩:=q02 hi
 obtain⟨y,y1,y2,y3⟩:=q02 hj
 rw[qdp x1,qdp y1] at h
 rw[ltAt'_eq]
 exact wpS_bind (wpS_get (wpS_bind (qS x1 (wpS_bind (qS y1 (w_lt c hk (ok x x3) (ok y y3) h))))))
structure Chg (st st':SortSt)(lo hi:Nat):Prop where
 kd:kindOf st'=kindOf st
 pd:pendingOf st'=pendingOf st
 fl:failedOf st'=failedOf st
 pm:(arrOf st').Perm (arrOf st)
 out:∀j,(j<lo\/hi<=j)->(arrOf st')[j]? =(arrOf st)[j]?
theorem Chg.refl (st:SortSt)(lo hi:Nat):Chg st st lo hi:=⟨rfl,rfl,rfl,Array.Perm.refl _,fun _ _=>rfl⟩
theorem Chg.rev {st st1:SortSt}{lo hi i j:Nat}(h:Chg st st1 lo hi)(hi':lo<=i)(hj:j<=hi)(hs:hi<=(arrOf st1).size):Chg st (setArr st1 (mirror (arrOf st1) i j ((j - i) / 2))) lo hi:=
 ⟨h.kd,h.pd,h.fl,(mirror_perm _ _ _ _).trans h.pm,fun k hk=>by
  show(mirror (arrOf st1) i j ((j - i) / 2))[k]? =_
  rw[getElem?_mirror_all (by omega),if_neg (by omega)]
  exact h.out k hk⟩
theorem Chg.bub {st st1:SortSt}{lo hi src d:Nat}(h:Chg st st1 lo hi)(h1:src<hi)(h2:d<=src)(h3:lo<=src - d)(hs:hi<=(arrOf st1).size):Chg st (setArr st1 (bubble (arrOf st1) src d)) lo hi:=
 ⟨h.kd,h.pd,h.fl,(bubble_perm _ _ _).trans h.pm,fun k hk=>by
  show(bubble (arrOf st1) src d)[k]? =_
  rw[getElem?_bubble (by omega) d h2,if_neg (by omega),if_neg (by omega)]
  exact h.out k hk⟩
theorem q9V {i j:Nat}{st:SortSt}{Q:Unit->SortSt->Prop}(h:Q () (setArr st (mirror (arrOf st) i j ((j - i) / 2)))):wpS (model prog w) A E s (reverseSlice' i j) Q st:=by
 rw[reverseSlice'_eq]
 exact wpS_modify h
theorem w_down {i j:Nat}{st:SortSt}{Q:Unit->SortSt->Prop}(h:Q () (setArr st (bubble (arrOf st) i (i - j)))):wpS (model prog w) A E s (moveDown' i j) Q st:=by
 rw[moveDown'_eq]
 exact wpS_modify h
theorem q9R {a:Array Keyed}{i j:Nat}(hj:j<=a.size)(k:Nat):Kx kf (mirror a i j ((j - i) / 2)) k=if i<=k/\k<j then Kx kf a (i+j - 1 - k) else Kx kf a k:=by
 have e:=getElem?_mirror_all (i:=i) hj k
 by_cases h1:i<=k/\k<j
 ·rw [if_pos h1] at e ⊢;exact q2O e
 ·rw [if_neg h1] at e ⊢;exact q2O e
theorem q4U {a:Array Keyed}{i j:Nat}(hj:j<=a.size)(heq:∀k,i<=k->k<j->Kx kf a k=Kx kf a (j - 1))(k:Nat):Kx kf (mirror a i j ((j - i) / 2)) k=Kx kf a k:=by
 rw[q9R hj]
 split
 ·rw [heq _ (by omega) (by omega),heq k (by omega) (by omega)]
 ·rfl
theorem q9S {a:Array Keyed}{src d:Nat}(hs:src<a.size)(hd:d<=src)(k:Nat):Kx kf (bubble a src d) k=if k=src - d then Kx kf a src else if src - d<k/\k<=src then Kx kf a (k - 1) else Kx kf a k:=by
 have e:=getElem?_bubble hs d hd k
 split
 ·rename_i h;rw[if_pos h] at e;exact q2O e
 ·rename_i h
  rw[if_neg h] at e
  split
  ·rename_i h2;rw[if_pos h2] at e;exact q2O e
  ·rename_i h2;rw[if_neg h2] at e;exact q2O e
def Upx (kf:Keyed->O.α)(a:Array Keyed)(lo m:Nat):Prop:=∀i j,i<=j->j<m->O.kle (Kx kf a (lo+i)) (Kx kf a (lo+j))
def Dnx (kf:Keyed->O.α)(a:Array Keyed)(lo m:Nat):Prop:=∀i j,i<=j->j<m->O.kle (Kx kf a (lo+j)) (Kx kf a (lo+i))
abbrev Eqx (kf:Keyed->O.α)(a:Array Keyed)(lo m q:Nat):Prop:=∀i,m - (q+1)<=i->i<m->Kx kf a (lo+i)=Kx kf a (lo+m - 1)
theorem Upx.one {a:Array Keyed}{lo:Nat}:Upx kf a lo 1:=fun i j h1 h2=>by
 have:i=j:=by omega
 subst this
 exact KeyOrd.kle_refl _
theorem Upx.snoc {a:Array Keyed}{lo m:Nat}(h:Upx kf a lo m)(h1:1<=m)(hl:O.kle (Kx kf a (lo+m - 1)) (Kx kf a (lo+m))):Upx kf a lo (m+1):=fun i j hij hj=>by
 by_cases e:j=m
 ·subst e
  by_cases e2:i=j
  ·subst e2;exact KeyOrd.kle_refl _
  ·have:=h i (j - 1) (by omega) (by omega)
   rw[show lo+(j - 1)=lo+j - 1 by omega] at this
   exact KeyOrd.kle_trans this hl
 ·exact h i j hij (by omega)
theorem Dnx.snoc {a:Array Keyed}{lo m:Nat}(h:Dnx kf a lo m)(h1:1<=m)(hl:O.kle (Kx kf a (lo+m)) (Kx kf a (lo+m - 1))):Dnx kf a lo (m+1):=fun i j hij hj=>by
 by_cases e:j=m
 ·subst e
  by_cases e2:i=j
  ·subst e2;exact KeyOrd.kle_refl _
  ·have:=h i (j - 1) (by omega) (by omega)
   rw[show lo+(j - 1)=lo+j - 1 by omega] at this
   exact KeyOrd.kle_trans hl this
 ·exact h i j hij (by omega)
set_option hygiene false in
local macro_rules| `(tactic| walk_at "tcAsc")=> `(tactic| (
 refine wpS_bind (wpS_mono (wpS_forRange (I:=fun(x:Nat) (c:Option (Option Nat)×Nat) (st':SortSt)=>st1=st'/\c.1=none/\x=c.2/\Upx kf (arrOf st1) lo c.2)
  (Q:=fun(c:Option (Option Nat)×Nat) (st':SortSt)=>st1=st'/\c.1=none/\1<=c.2/\c.2<=nrem/\Upx kf (arrOf st1) lo c.2/\(c.2=nrem\/O.klt (Kx kf (arrOf st1) (lo+c.2)) (Kx kf (arrOf st1) (lo+c.2 - 1)))) ?_ ?_ (show _/\_ from⟨rfl,rfl,rfl,u1⟩)) ?_)
 ·rintro x ⟨r,n⟩ st2 hx1 hx2 ⟨rfl,rfl,e,u⟩
  dsimp only at e u ⊢
  subst e
  refine wpS_bind (q4Y c hk1 (by omega) (by omega) ok1 ?_)
  dsimp only
  cases eb:O.blt (Kx kf (arrOf st1) (lo+x)) (Kx kf (arrOf st1) (lo+x - 1)) with
  |true=>
   rw[if_pos rfl]
   exact wpS_pure ⟨rfl,rfl,by show 1<=x;omega,by show x<=nrem;omega,u,.inr eb⟩
  |false=>
   rw[if_neg (by decide)]
   exact wpS_pure ⟨rfl,rfl,rfl,u.snoc (by omega) eb⟩
 ·rintro ⟨r,n⟩ st2 ⟨rfl,rfl,e,u⟩
  dsimp only at e u
  exact⟨rfl,rfl,by show 1<=n;omega,by show n<=nrem;omega,u,.inl (by show n=nrem;omega)⟩))
set_option hygiene false in
theorem w_two {α:Type}{c:Prop}[Decidable c]{p q:StateT SortSt Sem α}{R:SortSt->Prop}{Q:α->SortSt->Prop}{st:SortSt}(D:∀st0,R st0->wpS (model prog w) A E s q Q st0)(h1:c->(∀st0,R st0->wpS (model prog w) A E s q Q st0)->wpS (model prog w) A E s p Q st)(h2:¬c->R st):wpS (model prog w) A E s (if c then p else q) Q st:=by
 by_cases h:c
 ·rw [if_pos h];exact h1 h D
 ·rw [if_neg h];exact D st (h2 h)
theorem qbK (c:Cmp prog w A s κ O kf Ok){lo nrem:Nat}{st:SortSt}{Q:Option Nat->SortSt->Prop}(hk:kindOf st=κ)(ok:∀x∈(arrOf st).toList,Ok x)(hn:1<=nrem)(hs:lo+nrem<=(arrOf st).size)
  (h:∀m st',1<=m->m<=nrem->Chg st st' lo (lo+nrem)->Upx kf (arrOf st') lo m->Q (some m) st'):wpS (model prog w) A E s (countRun' lo nrem) Q st:=by
 obtain⟨st1,est⟩:∃st1,st1=st:=⟨st,rfl⟩
 have hk1:kindOf st1=κ:=by rw[est];exact hk
 have ok1:∀x∈(arrOf st1).toList,Ok x:=by rw[est];exact ok
 have sz:(arrOf st1).size=(arrOf st).size:=by rw[est]
 have u1:Upx kf (arrOf st1) lo 1:=Upx.one
 have hc0:Chg st st1 lo (lo+nrem):=by rw[est];exact Chg.refl _ _ _
 rw[<-est]
 walk_at "tcAsc"
 rintro⟨r,n⟩ st2 ⟨rfl,rfl,g1,g2,g3,g4⟩
 dsimp only at g1 g2 g3 g4 ⊢
 by_cases e:n=nrem
 ·rw [if_pos (by simpa using e)]
  exact wpS_pure (h n st1 g1 g2 hc0 g3)
 rw[if_neg (by simpa using e)]
 have hl:=g4.resolve_left e
 refine w_two (R:=fun st0=>Chg st st0 lo (lo+nrem)/\Dnx kf (arrOf st0) lo (n+1)) ?_ (fun hn1 D=>?_) (fun hn1=>⟨hc0,?_⟩)
 ·clear hl g3 g4 u1 hc0 sz ok1 hk1 est
  clear st1
  rintro st1 ⟨hc,dn⟩
  refine wpS_bind (wpS_lift (wpAny_rule ⟨rfl,?_⟩))
  refine wpS_bind (wpS_mono (wpS_forRange (I:=fun(x:Nat) (c:Option (Option Nat)×Nat×Nat) (st':SortSt)=>Chg st st' lo (lo+nrem)/\c.1=none/\x=c.2.1/\Dnx kf (arrOf st') lo c.2.1/\c.2.2+1<=c.2.1/\Eqx kf (arrOf st') lo c.2.1 c.2.2)
   (Q:=fun(c:Option (Option Nat)×Nat×Nat) (st':SortSt)=>Chg st st' lo (lo+nrem)/\c.1=none/\c.2.1<=nrem/\Dnx kf (arrOf st') lo c.2.1/\c.2.2+1<=c.2.1/\Eqx kf (arrOf st') lo c.2.1 c.2.2) ?_ ?_ (show _/\_ from⟨hc,rfl,rfl,dn,by show 0+1<=n+1;omega,fun i h1 h2=>by have h1':n+1 - (0+1)<=i:=h1;have h2':i<n+1:=h2;rw[show i=n by omega];show _=Kx kf _ (lo+(n+1) - 1);rw[show lo+(n+1) - 1=lo+n by omega]⟩)) ?_)
  ·clear dn hc
   rintro x ⟨r,n,q⟩ st1 hx1 hx2 ⟨hc,rfl,e,dn,hq,he⟩
   dsimp only at e dn hq he ⊢
   subst e
   have sz:(arrOf st1).size=(arrOf st).size:=hc.pm.size_eq
   have hk1:kindOf st1=κ:=hc.kd.trans hk
   have ok1:∀y∈(arrOf st1).toList,Ok y:=fun y hy=>ok y (hc.pm.toList.mem_iff.mp hy)
   refine wpS_bind (q4Y c hk1 (by omega) (by omega) ok1 ?_)
   dsimp only
   have one:∀a,Eqx kf a lo (x+1) 0:=fun a i h1 h2=>by rw[show i=x by omega,show lo+(x+1) - 1=lo+x by omega]
   cases eb:O.blt (Kx kf (arrOf st1) (lo+x)) (Kx kf (arrOf st1) (lo+x - 1)) with
   |true=>
    rw[if_pos rfl]
    have dn':Dnx kf (arrOf st1) lo (x+1):=dn.snoc (by omega) (KeyOrd.kle_of_klt eb)
    by_cases hq0:q>0
    ·rw [if_pos hq0]
     refine wpS_bind (q9V (wpS_pure ⟨hc.rev (by omega) (by omega) (by omega),rfl,rfl,fun i j h1 h2=>?_,by show 0+1<=x+1;omega,one _⟩))
     have kk:=q4U (kf:=kf) (a:=arrOf st1) (i:=lo+x - (q+1)) (j:=lo+x) (by omega) fun k h1 h2=>by
      have:=he (k - lo) (by omega) (by omega)
      rwa [show lo+(k - lo)=k by omega] at this
     show O.kle (Kx kf (mirror _ _ _ _) _) (Kx kf (mirror _ _ _ _) _)
     rw[kk,kk]
     exact dn' i j h1 h2
    ·rw [if_neg hq0]
     exact wpS_pure ⟨hc,rfl,rfl,dn',by show 0+1<=x+1;omega,one _⟩
   |false=>
    rw[if_neg (by decide)]
    refine wpS_bind (q4Y c hk1 (by omega) (by omega) ok1 ?_)
    dsimp only
    cases eb2:O.blt (Kx kf (arrOf st1) (lo+x - 1)) (Kx kf (arrOf st1) (lo+x)) with
    |true=>
     rw[if_pos rfl]
     exact wpS_pure ⟨hc,rfl,by show x<=nrem;omega,dn,hq,he⟩
    |false=>
     rw[if_neg (by decide)]
     have eq:=O.total _ _ eb eb2
     refine wpS_pure ⟨hc,rfl,rfl,dn.snoc (by omega) eb2,by show q+1+1<=x+1;omega,fun i h1 h2=>?_⟩
     have h1':x+1 - (q+1+1)<=i:=h1
     have h2':i<x+1:=h2
     show _=Kx kf _ (lo+(x+1) - 1)
     rw[show lo+(x+1) - 1=lo+x by omega]
     by_cases ei:i=x
     ·rw [ei]
     ·rw [eq]
      exact he i (by omega) (by omega)
  ·rintro ⟨r,n,q⟩ st1 ⟨hc,rfl,e,z⟩
   dsimp only at e
   exact⟨hc,rfl,by show n<=nrem;omega,z⟩
  ·clear dn hc
   rintro⟨r,n,q⟩ st1 ⟨hc,rfl,hn,dn,hq,he⟩
   dsimp only at hn dn hq he ⊢
   have sz:(arrOf st1).size=(arrOf st).size:=hc.pm.size_eq
   have fin:∀st1,Chg st st1 lo (lo+nrem)->Dnx kf (arrOf st1) lo n->Chg st (setArr st1 (mirror (arrOf st1) lo (lo+n) ((lo+n - lo) / 2))) lo (lo+nrem)/\Upx kf (mirror (arrOf st1) lo (lo+n) ((lo+n - lo) / 2)) lo n:=fun st1 hc dn=>by
    have sz:(arrOf st1).size=(arrOf st).size:=hc.pm.size_eq
    refine⟨hc.rev (by omega) (by omega) (by omega),fun i j h1 h2=>?_⟩
    rw[q9R (by omega),q9R (by omega),if_pos (by omega),if_pos (by omega),show lo+(lo+n) - 1 - (lo+i)=lo+(n - 1 - i) by omega,show lo+(lo+n) - 1 - (lo+j)=lo+(n - 1 - j) by omega]
    exact dn _ _ (by omega) (by omega)
   refine w_two (R:=fun st0=>Chg st st0 lo (lo+nrem)/\Dnx kf (arrOf st0) lo n) ?_ (fun hq0 D=>?_) (fun _=>⟨hc,dn⟩)
   ·clear dn hc he sz
    clear st1
    rintro st1 ⟨hc,dn⟩
    refine wpS_bind (q9V ?_)
    obtain⟨hc2,u0⟩:=fin st1 hc dn
    generalize hst:setArr st1 (mirror (arrOf st1) lo (lo+n) ((lo+n - lo) / 2))=st3 at hc2
    have u1:Upx kf (arrOf st3) lo n:=by rw[<-hst];exact u0
    clear hst u0 fin dn hc
    clear st1
    obtain⟨st1,rfl⟩:∃st1,st1=st3:=⟨_,rfl⟩
    have sz:(arrOf st1).size=(arrOf st).size:=hc2.pm.size_eq
    have hk1:kindOf st1=κ:=hc2.kd.trans hk
    have ok1:∀y∈(arrOf st1).toList,Ok y:=fun y hy=>ok y (hc2.pm.toList.mem_iff.mp hy)
    walk_at "tcAsc"
    rintro⟨r,m⟩ st2 ⟨rfl,rfl,g1,g2,g3,_⟩
    exact wpS_pure (h m st1 g1 g2 hc2 g3)
   ·refine wpS_bind (q9V ?_)
    have kk:=q4U (kf:=kf) (a:=arrOf st1) (i:=lo+n - (q+1)) (j:=lo+n) (by omega) fun k h1 h2=>by
     have:=he (k - lo) (by omega) (by omega)
     rwa [show lo+(k - lo)=k by omega] at this
    exact D _ ⟨hc.rev (by omega) (by omega) (by omega),fun i j h1 h2=>by
     show O.kle (Kx kf (mirror _ _ _ _) _) (Kx kf (mirror _ _ _ _) _)
     rw[kk,kk]
     exact dn i j h1 h2⟩
 ·refine wpS_bind (q4Y c hk1 (by omega) (by omega) ok1 ?_)
  dsimp only
  cases eb:O.blt (Kx kf (arrOf st1) lo) (Kx kf (arrOf st1) (lo+n - 1)) with
  |true=>
   rw[if_pos rfl]
   exact wpS_pure (h n st1 g1 g2 hc0 g3)
  |false=>
   rw[if_neg (by decide)]
   have eqs:∀i,i<n->Kx kf (arrOf st1) (lo+i)=Kx kf (arrOf st1) (lo+n - 1):=fun i hi=>by
    have a1:=g3 i (n - 1) (by omega) (by omega)
    rw[show lo+(n - 1)=lo+n - 1 by omega] at a1
    have a2:=g3 0 i (by omega) hi
    rw[Nat.add_zero] at a2
    exact KeyOrd.kle_antisymm a1 (KeyOrd.kle_trans (show O.kle (Kx kf (arrOf st1) (lo+n - 1)) (Kx kf (arrOf st1) lo) from eb) a2)
   have kk:=q4U (kf:=kf) (a:=arrOf st1) (i:=lo) (j:=lo+n) (by omega) fun k h1 h2=>by
    have:=eqs (k - lo) (by omega)
    rwa [show lo+(k - lo)=k by omega] at this
   refine wpS_bind (q9V ?_)
   refine D _ ⟨hc0.rev (i:=lo) (j:=lo+n) (by omega) (by omega) (by omega),fun i j h1 h2=>?_⟩
   show O.kle (Kx kf (mirror _ _ _ _) _) (Kx kf (mirror _ _ _ _) _)
   rw[kk,kk]
   by_cases ej:j=n
   ·by_cases ei:i=n
    ·rw [ej,ei];exact KeyOrd.kle_refl _
    ·rw [ej,eqs i (by omega)];exact KeyOrd.kle_of_klt hl
   ·rw [eqs i (by omega),eqs j (by omega)];exact KeyOrd.kle_refl _
 ·have hz:n=1:=by omega
  intro i j h1 h2
  subst hz
  by_cases ej:j=1
  ·by_cases ei:i=1
   ·rw [ej,ei];exact KeyOrd.kle_refl _
   ·rw [ej,show i=0 by omega,Nat.add_zero]
    exact KeyOrd.kle_of_klt hl
  ·rw [show i=0 by omega,show j=0 by omega];exact KeyOrd.kle_refl _
theorem w_bin (c:Cmp prog w A s κ O kf Ok){lo n m:Nat}{st:SortSt}{Q:Bool->SortSt->Prop}(hk:kindOf st=κ)(ok:∀x∈(arrOf st).toList,Ok x)(hm:1<=m)(hmn:m<=n)(hs:lo+n<=(arrOf st).size)(u0:Upx kf (arrOf st) lo m)
  (h:∀st',Chg st st' lo (lo+n)->Upx kf (arrOf st') lo n->Q true st'):wpS (model prog w) A E s (binarySort' lo n m) Q st:=by
 refine wpS_bind (wpS_mono (wpS_forRange (I:=fun(x:Nat) (c:Option Bool×Unit) (st':SortSt)=>Chg st st' lo (lo+n)/\c.1=none/\Upx kf (arrOf st') lo x)
  (Q:=fun(c:Option Bool×Unit) (st':SortSt)=>Chg st st' lo (lo+n)/\c.1=none/\Upx kf (arrOf st') lo n) ?_ ?_ (show _/\_ from⟨Chg.refl _ _ _,rfl,by rw[Nat.max_eq_left hm];exact u0⟩)) ?_)
 ·rintro k ⟨r,⟨⟩⟩ st1 hk1 hk2 ⟨hc,rfl,u⟩
  dsimp only
  have sz:(arrOf st1).size=(arrOf st).size:=hc.pm.size_eq
  have hkd:kindOf st1=κ:=hc.kd.trans hk
  have ok1:∀y∈(arrOf st1).toList,Ok y:=fun y hy=>ok y (hc.pm.toList.mem_iff.mp hy)
  refine wpS_bind (wpS_mono (wpS_forRange (I:=fun(y:Nat) (c:Option Bool×Nat×Nat) (st':SortSt)=>st1=st'/\c.1=none/\c.2.1<=c.2.2/\c.2.2<=k/\c.2.2 - c.2.1<=k - y/\(∀i,i<c.2.1->O.kle (Kx kf (arrOf st1) (lo+i)) (Kx kf (arrOf st1) (lo+k)))/\∀i,c.2.2<=i->i<k->O.klt (Kx kf (arrOf st1) (lo+k)) (Kx kf (arrOf st1) (lo+i)))
   (Q:=fun(c:Option Bool×Nat×Nat) (st':SortSt)=>st1=st'/\c.1=none/\c.2.1=c.2.2/\c.2.2<=k/\(∀i,i<c.2.1->O.kle (Kx kf (arrOf st1) (lo+i)) (Kx kf (arrOf st1) (lo+k)))/\∀i,c.2.2<=i->i<k->O.klt (Kx kf (arrOf st1) (lo+k)) (Kx kf (arrOf st1) (lo+i))) ?_ ?_ (show _/\_ from⟨rfl,rfl,Nat.zero_le _,Nat.le_refl _,Nat.le_refl _,fun i hi=>absurd hi (Nat.not_lt_zero _),fun i h1 h2=>absurd h2 (Nat.not_lt.mpr h1)⟩)) ?_)
  ·rintro y ⟨r,l,rr⟩ st2 _ hy ⟨rfl,rfl,g1,g2,g3,g4,g5⟩
   dsimp only at g1 g2 g3 g4 g5 ⊢
   by_cases hge:l≥rr
   ·rw [if_pos hge]
    exact wpS_pure ⟨rfl,rfl,by show l=rr;omega,g2,g4,g5⟩
   ·rw [if_neg hge]
    refine wpS_bind (q4Y c hkd (by omega) (by omega) ok1 ?_)
    dsimp only
    cases e:O.blt (Kx kf (arrOf st1) (lo+k)) (Kx kf (arrOf st1) (lo+(l+rr) / 2)) with
    |true=>
     rw[if_pos rfl]
     exact wpS_pure ⟨rfl,rfl,by show l<=(l+rr) / 2;omega,by show(l+rr) / 2<=k;omega,by show(l+rr) / 2 - l<=k - (y+1);omega,g4,fun i h1 h2=>KeyOrd.klt_of_klt_of_kle e (u _ _ h1 h2)⟩
    |false=>
     rw[if_neg (by decide)]
     exact wpS_pure ⟨rfl,rfl,by show(l+rr) / 2+1<=rr;omega,g2,by show rr - ((l+rr) / 2+1)<=k - (y+1);omega,fun i hi=>KeyOrd.kle_trans (u i ((l+rr) / 2) (Nat.le_of_lt_succ hi) (by omega)) e,g5⟩
  ·rintro ⟨r,l,rr⟩ st2 ⟨rfl,rfl,g1,g2,g3,g4,g5⟩
   exact⟨rfl,rfl,by show l=rr;have g1':l<=rr:=g1;have g3':rr - l<=k - max 0 k:=g3;omega,g2,g4,g5⟩
  ·rintro ⟨r,l,rr⟩ st2 ⟨rfl,rfl,g1,g2,g4,g5⟩
   dsimp only at g1 g2 g4 g5 ⊢
   subst g1
   refine wpS_bind (w_down (wpS_pure ⟨hc.bub (by omega) (by omega) (by omega) (by omega),rfl,fun i j x y=>?_⟩))
   show O.kle (Kx kf (bubble _ _ _) _) (Kx kf (bubble _ _ _) _)
   have hkx:=q9S (kf:=kf) (a:=arrOf st1) (src:=lo+k) (d:=lo+k - (lo+l)) (by omega) (by omega)
   rw[hkx,hkx,show lo+k - (lo+k - (lo+l))=lo+l by omega]
   by_cases i1:i=l
   ·rw [if_pos (by omega)]
    by_cases j1:j=l
    ·rw [if_pos (by omega)];exact KeyOrd.kle_refl _
    ·rw [if_neg (by omega),if_pos (by omega),show lo+j - 1=lo+(j - 1) by omega]
     exact KeyOrd.kle_of_klt (g5 (j - 1) (by omega) (by omega))
   ·rw [if_neg (by omega)]
    by_cases i2:l<i/\i<=k
    ·rw [if_pos (by omega),if_neg (by omega),if_pos (by omega),show lo+i - 1=lo+(i - 1) by omega,show lo+j - 1=lo+(j - 1) by omega]
     exact u _ _ (by omega) (by omega)
    ·rw [if_neg (by omega)]
     by_cases j1:j=l
     ·rw [if_pos (by omega)];exact g4 i (by omega)
     ·rw [if_neg (by omega)]
      by_cases j2:l<j/\j<=k
      ·rw [if_pos (by omega),show lo+j - 1=lo+(j - 1) by omega]
       exact u _ _ (by omega) (by omega)
      ·rw [if_neg (by omega)]
       exact u _ _ x (by omega)
 ·rintro ⟨r,⟨⟩⟩ st1 ⟨hc,rfl,u⟩
  exact⟨hc,rfl,by rw[show max (max m 1) n=n by omega] at u;exact u⟩
 ·rintro ⟨r,⟨⟩⟩ st1 ⟨hc,rfl,u⟩
  exact wpS_pure (h st1 hc u)
end
end Tim
namespace Tim
open PySem PySem.W PyProof.Rows
section
variable {prog:Program}{w:World}{A:Around}{E:Value->Shared->Prop}{s:Shared}{κ:SortKind}{O:KeyOrd}{kf:Keyed->O.α}{Ok:Keyed->Prop}{a0:List Keyed}{st:SortSt}{Rs:List (List Keyed)}{rest:List Keyed}
theorem Rns.psize (R:Rns kf Ok a0 st Rs rest):(pendingOf st).size=Rs.length:=by
 have:=congrArg List.length R.pd
 rw[List.length_map,q1B,Array.length_toList] at this
 exact this
theorem Rns.len (R:Rns kf Ok a0 st Rs rest):Rs.flatten.length+rest.length=a0.length:=by
 have:=R.pm.length_eq
 rw[R.arr,List.length_append] at this
 exact this
theorem Rns.asize (R:Rns kf Ok a0 st Rs rest):(arrOf st).size=a0.length:=by rw[<-Array.length_toList];exact R.pm.length_eq
theorem qbg {α:Type}{l:List α}{i:Nat}(h:i+1<l.length):∃P X Y S,l=P++X::Y::S/\i=P.length:=by
 refine⟨l.take i,l[i],l[i+1],l.drop (i+2),?_,by rw[List.length_take];omega⟩
 rw[<-List.drop_eq_getElem_cons (i:=i+1) h,<-List.drop_eq_getElem_cons (i:=i) (by omega),List.take_append_drop]
theorem Rns.chg {st2:SortSt}{hi:Nat}(R:Rns kf Ok a0 st Rs rest)(h:Chg st st2 Rs.flatten.length hi):Rns kf Ok a0 st2 Rs ((arrOf st2).toList.drop Rs.flatten.length):=by
 refine⟨?_,h.pm.toList.trans R.pm,R.so,by rw[h.pd];exact R.pd,h.fl.trans R.fl⟩
 have e:(arrOf st2).toList.take Rs.flatten.length=Rs.flatten:=by
  have e1:(arrOf st).toList.take Rs.flatten.length=Rs.flatten:=by rw[R.arr];exact List.take_left' rfl
  refine Eq.trans (List.ext_getElem? fun j=>?_) e1
  rw[List.getElem?_take,List.getElem?_take]
  split
  ·rename_i hj
   have:=h.out j (.inl hj)
   simpa using this
  ·rfl
 conv=>lhs;rw[<-List.take_append_drop Rs.flatten.length (arrOf st2).toList,e]
theorem Upx.srd {a:Array Keyed}{lo n:Nat}(h:Upx kf a lo n)(hn:lo+n<=a.size):Srd kf ((a.toList.drop lo).take n):=by
 refine List.pairwise_iff_getElem.mpr fun i j hi hj hij=>?_
 rw[List.length_take] at hi hj
 have hi':i<n:=by omega
 have hj':j<n:=by omega
 have g:∀k (hk:k<n),Kx kf a (lo+k)=kf (((a.toList.drop lo).take n)[k]'(by rw[List.length_take,List.length_drop,Array.length_toList];omega)):=fun k hk=>by
  refine qdp ?_
  rw[List.getElem_take,List.getElem_drop]
  simp[show lo+k<a.size by omega]
 rw[<-g i hi',<-g j hj']
 exact h i j (by omega) hj'
theorem Rns.push {n lo:Nat}(R:Rns kf Ok a0 st Rs rest)(hlo:lo=Rs.flatten.length)(h1:1<=n)(h2:n<=rest.length)(hs:Srd kf (rest.take n)):Rns kf Ok a0 (SortSt.mk' (kindOf st) (arrOf st) ((pendingOf st).push (lo,n,0)) (gallopOf st) (failedOf st)) (Rs++[rest.take n]) (rest.drop n):=by
 subst hlo
 refine⟨?_,R.pm,fun r hr=>?_,?_,R.fl⟩
 ·show (arrOf st).toList=_
  rw[R.arr]
  simp
 ·rcases List.mem_append.mp hr with hr|hr
  ·exact R.so r hr
  ·rw [List.mem_singleton.mp hr]
   exact⟨hs,fun z=>by have:=congrArg List.length z;rw[List.length_take,List.length_nil] at this;omega⟩
 ·show ((pendingOf st).push (Rs.flatten.length,n,0)).toList.map pr2=_
  rw[Array.toList_push,List.map_append,R.pd,q3m]
  simp[offs,pr2]
  omega
theorem Rns.power {pw:Nat}(R:Rns kf Ok a0 st Rs rest):Rns kf Ok a0 (SortSt.mk' (kindOf st) (arrOf st) ((pendingOf st).modify ((pendingOf st).size - 1) fun x=>match x with|(st,len,snd)=>(st,len,pw)) (gallopOf st) (failedOf st)) Rs rest:=by
 refine⟨R.arr,R.pm,R.so,?_,R.fl⟩
 show((pendingOf st).modify ((pendingOf st).size - 1) fun x=>match x with|(st,len,snd)=>(st,len,pw)).toList.map pr2=_
 rw[<-R.pd,Array.toList_modify]
 refine List.ext_getElem? fun j=>?_
 rw[List.getElem?_map,List.getElem?_map,List.getElem?_modify]
 cases(pendingOf st).toList[j]? with
 |none=>rfl
 |some p=>
  obtain⟨p1,p2,p3⟩:=p
  by_cases hj:(pendingOf st).size - 1=j
  ·simp [hj,pr2]
  ·simp [hj]
theorem q5M {n:Nat}(h:n<=rest.length):(Rs++[rest.take n]).flatten.length=Rs.flatten.length+n:=by
 rw[List.flatten_append,List.length_append]
 simp
 omega
set_option hygiene false in
local macro_rules| `(tactic| walk_at "tsTail")=> `(tactic| (
 refine wpS_bind (wpS_get ?_)
 try dsimp only
 rcases hbk:(pendingOf st2).back? with _|⟨sB,nB,pB⟩
 ·simp only[hbk]
  refine wpS_bind (wpS_modify (wpS_pure ?_))
  exact⟨_,_,hk2,R2.push rfl g1 g2 g3,rfl,(q5M g2).symm,Nat.add_le_add hxl g1⟩
 ·simp only[hbk]
  refine wpS_bind (wpS_mono (wpS_forRange (I:=fun(y:Nat) (c:Option Unit×Unit) (st':SortSt)=>c.1=none/\∃Rs',kindOf st'=κ/\Rns kf Ok a0 st' Rs' rest2)
   (Q:=fun(c:Option Unit×Unit) (st':SortSt)=>c.1=none/\∃Rs',kindOf st'=κ/\Rns kf Ok a0 st' Rs' rest2) ?_ ?_ (show _/\_ from⟨rfl,_,hk2,R2⟩)) ?_)
  ·rintro y ⟨r,⟨⟩⟩ st3 _ hy ⟨rfl,Rs',hk3,R3⟩
   refine wpS_bind (wpS_get ?_)
   try dsimp only
   split
   ·rename_i older heq
    split
    ·exact wpS_pure ⟨rfl,_,hk3,R3⟩
    ·have hp:1<(pendingOf st3).size:=by
      by_cases hp:(pendingOf st3).size>1
      ·exact hp
      ·rw [if_neg hp] at heq;cases heq
     have hps:=R3.psize
     obtain⟨P,X,Y,S,eR,eP⟩:=qbg (l:=Rs') (i:=(pendingOf st3).size - 2) (by omega)
     rw[eR] at R3
     refine wpS_bind (q4X c o0 hk3 eP R3 fun Z st4 hk4 R4=>?_)
     rw[if_neg (by decide)]
     exact wpS_pure ⟨rfl,_,hk4,R4⟩
   ·exact wpS_pure ⟨rfl,_,hk3,R3⟩
  ·rintro ⟨r,⟨⟩⟩ st3 z
   exact z
  ·rintro ⟨r,⟨⟩⟩ st3 ⟨rfl,Rs',hk3,R3⟩
   try dsimp only
   refine wpS_bind (wpS_modify (wpS_bind (wpS_modify (wpS_pure ?_))))
   have e0:=R2.len
   have e1:=R3.len
   have e2:Rs.flatten.length=Rs'.flatten.length:=by omega
   exact⟨_,_,hk3,R3.power.push e2 g1 g2 g3,rfl,(congrArg (· +_) e2).trans (q5M g2).symm,Nat.add_le_add hxl g1⟩))
theorem q7g (c:Cmp prog w A s κ O kf Ok){Q:Unit->SortSt->Prop}(hk:kindOf st=κ)(o0:∀x∈(arrOf st).toList,Ok x)(hpd:pendingOf st= #[])(hfl:failedOf st=none)
  (h:∀st',(arrOf st').toList.Perm (arrOf st).toList->Srd kf (arrOf st').toList->failedOf st'=none->Q () st'):wpS (model prog w) A E s sortRuns' Q st:=by
 obtain⟨a0,ea0⟩:∃a0,a0=(arrOf st).toList:=⟨_,rfl⟩
 have sz:(arrOf st).size=a0.length:=by rw[ea0,Array.length_toList]
 rw[<-ea0] at o0
 have R0:Rns kf Ok a0 st [] (arrOf st).toList:=⟨by simp,by rw[ea0],fun r hr=>(nomatch hr),by rw[hpd];rfl,hfl⟩
 refine wpS_bind (wpS_get ?_)
 refine wpS_bind (wpS_mono (wpS_forRange (I:=fun(x:Nat) (c:Option Unit×Nat) (st':SortSt)=>∃Rs rest,kindOf st'=κ/\Rns kf Ok a0 st' Rs rest/\c.1=none/\c.2=Rs.flatten.length/\x<=c.2)
  (Q:=fun(c:Option Unit×Nat) (st':SortSt)=>c.1=none/\∃Rs,kindOf st'=κ/\Rns kf Ok a0 st' Rs []) ?_ ?_ ⟨[],_,hk,R0,rfl,rfl,Nat.le_refl _⟩) ?_)
 ·rintro x ⟨r,lo⟩ st1 _ hx ⟨Rs,rest,hk1,R1,rfl,rfl,hxl⟩
  dsimp only at hxl ⊢
  have len1:=R1.len
  by_cases hge:Rs.flatten.length≥(arrOf st).size
  ·rw [if_pos hge]
   have er:rest=[]:=List.length_eq_zero_iff.mp (by omega)
   subst er
   exact wpS_pure ⟨rfl,_,hk1,R1⟩
  ·rw [if_neg hge]
   have as1:=R1.asize
   have ok1:∀y∈(arrOf st1).toList,Ok y:=fun y hy=>o0 y (R1.pm.mem_iff.mp hy)
   refine wpS_bind (qbK c hk1 ok1 (show 1<=(arrOf st).size - Rs.flatten.length by omega) (show Rs.flatten.length+((arrOf st).size - Rs.flatten.length)<=(arrOf st1).size by omega) fun m st2 m1 m2 hc u=>?_)
   try dsimp only
   have R2:=R1.chg hc
   have as2:=R2.asize
   have hk2:kindOf st2=κ:=hc.kd.trans hk1
   have m2:m<=(arrOf st).size - Rs.flatten.length:=m2
   split
   ·rename_i hlt
    refine wpS_bind (wpS_lift (wpAny_rule ⟨rfl,?_⟩))
    have ok2:∀y∈(arrOf st2).toList,Ok y:=fun y hy=>o0 y (R2.pm.mem_iff.mp hy)
    have f1:1<=min ((arrOf st).size - Rs.flatten.length) (minRun' (arrOf st).size (arrOf st).size 0):=Nat.le_min.mpr ⟨by omega,Nat.le_trans m1 (Nat.le_of_lt hlt)⟩
    have f2:min ((arrOf st).size - Rs.flatten.length) (minRun' (arrOf st).size (arrOf st).size 0)<=(arrOf st).size - Rs.flatten.length:=Nat.min_le_left _ _
    refine wpS_bind (w_bin c hk2 ok2 m1 (Nat.le_min.mpr ⟨m2,Nat.le_of_lt hlt⟩) (show Rs.flatten.length+min ((arrOf st).size - Rs.flatten.length) (minRun' (arrOf st).size (arrOf st).size 0)<=(arrOf st2).size by omega) u fun st3 hc3 u3=>?_)
    rw[if_neg (by decide)]
    have R3:=R2.chg hc3
    have hk3:kindOf st3=κ:=hc3.kd.trans hk2
    have as3:=R3.asize
    have g1:=f1
    have g2:min ((arrOf st).size - Rs.flatten.length) (minRun' (arrOf st).size (arrOf st).size 0)<=((arrOf st3).toList.drop Rs.flatten.length).length:=by rw[List.length_drop,show(arrOf st3).toList.length=(arrOf st3).size from Array.length_toList];omega
    have g3:Srd kf (((arrOf st3).toList.drop Rs.flatten.length).take (min ((arrOf st).size - Rs.flatten.length) (minRun' (arrOf st).size (arrOf st).size 0))):=u3.srd (show Rs.flatten.length+min ((arrOf st).size - Rs.flatten.length) (minRun' (arrOf st).size (arrOf st).size 0)<=(arrOf st3).size by omega)
    clear hc3 u3 R2 hk2 as2 ok2 hc u m1 m2 hlt f1 f2
    clear st2
    obtain⟨st2,rfl⟩:∃z,z=st3:=⟨_,rfl⟩
    have R2:=R3
    have hk2:=hk3
    clear R3 hk3
    obtain⟨rest2,er2⟩:∃z,z=(arrOf st2).toList.drop Rs.flatten.length:=⟨_,rfl⟩
    rw[<-er2] at R2 g2 g3
    walk_at "tsTail"
   ·have g1:=m1
    have g2:m<=((arrOf st2).toList.drop Rs.flatten.length).length:=by rw[List.length_drop,show(arrOf st2).toList.length=(arrOf st2).size from Array.length_toList];omega
    have g3:Srd kf (((arrOf st2).toList.drop Rs.flatten.length).take m):=u.srd (by omega)
    obtain⟨rest2,er2⟩:∃z,z=(arrOf st2).toList.drop Rs.flatten.length:=⟨_,rfl⟩
    rw[<-er2] at R2 g2 g3
    walk_at "tsTail"
 ·rintro ⟨r,lo⟩ st1 ⟨Rs,rest,hk1,R1,rfl,rfl,hxl⟩
  dsimp only at hxl ⊢
  have len1:=R1.len
  have er:rest=[]:=List.length_eq_zero_iff.mp (by have:max 0 (arrOf st).size<=Rs.flatten.length:=hxl;omega)
  subst er
  exact⟨rfl,_,hk1,R1⟩
 ·rintro ⟨r,lo⟩ st1 ⟨rfl,Rs,hk1,R1⟩
  try dsimp only
  refine wpS_bind (wpS_mono (wpS_forRange (I:=fun(y:Nat) (c:Option Unit×Unit) (st':SortSt)=>c.1=none/\∃Rs,kindOf st'=κ/\Rns kf Ok a0 st' Rs []/\Rs.length<=max 1 (a0.length - y))
   (Q:=fun(c:Option Unit×Unit) (st':SortSt)=>c.1=none/\∃Rs,kindOf st'=κ/\Rns kf Ok a0 st' Rs []/\Rs.length<=1) ?_ ?_ (show _/\_ from⟨rfl,_,hk1,R1,?_⟩)) ?_)
  ·rintro y ⟨r,⟨⟩⟩ st3 _ hy ⟨rfl,Rs,hk3,R3,hlen⟩
   refine wpS_bind (wpS_get ?_)
   try dsimp only
   have hps:=R3.psize
   by_cases hp:(pendingOf st3).size<=1
   ·rw [if_pos hp]
    exact wpS_pure ⟨rfl,_,hk3,R3,by omega⟩
   ·rw [if_neg hp]
    have mrg:∀(i:Nat),i+1<Rs.length->∀{Q:Bool->SortSt->Prop},(∀(Rs4:List (List Keyed)) (st4:SortSt),kindOf st4=κ->Rns kf Ok a0 st4 Rs4 []->Rs4.length+1=Rs.length->Q true st4)->wpS (model prog w) A E s (mergeAt' i) Q st3:=fun i hi Q hq=>by
     obtain⟨P,X,Y,S,eR,eP⟩:=qbg hi
     rw[eR] at R3
     refine q4X c o0 hk3 eP R3 fun Z st4 hk4 R4=>hq _ _ hk4 R4 ?_
     rw[eR]
     simp
     omega
    split
    ·rename_i h3
     have h3':0<(pendingOf st3).size - 2:=h3
     split
     ·refine wpS_bind (mrg ((pendingOf st3).size - 2 - 1) (by omega) fun Rs4 st4 hk4 R4 h4=>?_)
      rw[if_neg (by decide)]
      exact wpS_pure ⟨rfl,_,hk4,R4,by omega⟩
     ·refine wpS_bind (mrg ((pendingOf st3).size - 2) (by omega) fun Rs4 st4 hk4 R4 h4=>?_)
      rw[if_neg (by decide)]
      exact wpS_pure ⟨rfl,_,hk4,R4,by omega⟩
    ·split
     ·rename_i z
      exact nomatch z
     ·refine wpS_bind (mrg ((pendingOf st3).size - 2) (by omega) fun Rs4 st4 hk4 R4 h4=>?_)
      rw[if_neg (by decide)]
      exact wpS_pure ⟨rfl,_,hk4,R4,by omega⟩
  ·rintro ⟨r,⟨⟩⟩ st3 ⟨rfl,Rs,hk3,R3,hlen⟩
   exact⟨rfl,_,hk3,R3,by have h2:Rs.length<=max 1 (a0.length - max 0 (arrOf st).size):=hlen;omega⟩
  ·have ln:=R1.len
   have:∀(l:List (List Keyed)),(∀r∈l,r≠[])->l.length<=l.flatten.length:=fun l=>by
    induction l with
    |nil=>intro _;simp
    |cons r l ih=>
     intro hr
     have h1:=ih fun z hz=>hr z (List.mem_cons_of_mem _ hz)
     have h2:0<r.length:=List.length_pos_iff.mpr (hr r (.head _))
     rw[List.flatten_cons,List.length_append,List.length_cons]
     omega
   have:=this Rs fun r hr=>(R1.so r hr).2
   rw[List.length_nil] at ln
   omega
  ·rintro ⟨r,⟨⟩⟩ st3 ⟨rfl,Rs,hk3,R3,hlen⟩
   try dsimp only
   refine wpS_pure (h st3 (by rw[<-ea0];exact R3.pm) ?_ R3.fl)
   rw[R3.arr,List.append_nil]
   match Rs,R3.so,hlen with
   |[],_,_=>exact List.Pairwise.nil
   |[r],so,_=>simpa using(so r (by simp)).1
   |_::_::_,_,hl=>simp at hl
end
end Tim
namespace Srt
open PySem PySem.W PyProof.Rows
section
variable {prog:Program}{w:World}{A:Around}{E:Value->Shared->Prop}{s:Shared}
theorem q6x {α:Type}:∀l:List α,l.zip l=l.map fun v=>(v,v)
 |[]=>rfl
 |v::l=>by rw[List.zip_cons_cons,q6x l];rfl
theorem q2V {κ:SortKind}{a:Addr}{vs:List Value}{n:Nat}{P:PySem.Fin->Shared->Prop}{O:KeyOrd}{kv:Value->O.α}(ho:s.heap.get? a=some (seqObj "list" vs.toArray n))(hz:vs.length<=sizeLine)
  (hk:2<=vs.length->∀(h':Heap),(∀b o,b≠a->s.heap.get? b=some o->h'.get? b=some o)->∀(R:SortKind->Shared->Prop),R κ {s with heap:=h'}->wpAny (model prog w) A (keyKind' vs.toArray) R (fun _ _=>False) {s with heap:=h'})
  (ha:2<=vs.length->∀(h':Heap),(∀b o,b≠a->s.heap.get? b=some o->h'.get? b=some o)->∀(x y:Value) (C:Bool->Shared->Prop) (E:Value->Shared->Prop),x∈vs->y∈vs->C (O.blt (kv x) (kv y)) {s with heap:=h'}->wpAny (model prog w) A (keyLt' κ x y) C E {s with heap:=h'})
  (h:∀out:Array Value,(out.toList.Perm vs/\out.toList.Pairwise fun x y=>O.kle (kv x) (kv y))->P (.done (.ret .none)) {s with heap:=sortedHeap s.heap a vs out}):
  wpAny (model prog w) A (Builtin.«list.sort» ⟨[.ref a],[]⟩) P E s:=by
 have hlt:a<s.heap.objs.size:=Heap.lt_size ho
 obtain⟨e1,ho1⟩:∃e1,(s.heap.update a (Obj.mapSeq fun _=>(#[]:Array Value))).get? a=some (seqObj "list" #[] e1):=⟨_,get?_update_seq ho fun _=> #[]⟩
 have kp:∀b o,b≠a->s.heap.get? b=some o->(((s.heap.update a (Obj.mapSeq fun _=>(#[]:Array Value))).push (seqObj "tuple" vs.toArray 0)).push (seqObj "list" #[] 0)).get? b=some o:=fun b o hb e=>
  Heap.get?_push_of_some _ (Heap.get?_push_of_some _ (((Heap.SameBut.update s.heap a (Obj.mapSeq fun _=>(#[]:Array Value))).2 b hb).trans e))
 have ho6:(((s.heap.update a (Obj.mapSeq fun _=>(#[]:Array Value))).push (seqObj "tuple" vs.toArray 0)).push (seqObj "list" #[] 0)).get? a=some (seqObj "list" #[] e1):=Heap.get?_push_of_some _ (Heap.get?_push_of_some _ ho1)
 rw[list_sort_plain]
 refine wpAny_bind (listItems_at ho rfl (wpAny_bind (listUpdate_at ho rfl (wpAny_bind (seqEpoch_at ho1 rfl (wpAny_bind (wpAny_newTuple (wpAny_bind (wpAny_newList (wpAny_holding ?_) (Nat.zero_le _))) hz)))) (by rw[List.size_toArray];exact hz) (Nat.zero_le _))))
 show wpAny (model prog w) A _ P E {s with heap:=((s.heap.update a (Obj.mapSeq fun _=>(#[]:Array Value))).push (seqObj "tuple" vs.toArray 0)).push (seqObj "list" #[] 0)}
 dsimp only
 by_cases h2:vs.length<2
 ·have h2':vs.toArray.size<2:=by rw[List.size_toArray];exact h2
  rw[if_pos h2',if_pos h2']
  refine wpAny_bind (wpAny_pure ?_)
  rw[StateT.run_pure]
  refine wpAny_bind (wpAny_pure ?_)
  dsimp only
  have eo:Array.map (fun x:Value×Value=>x.2) (arrOf (SortSt.mk' general' (vs.toArray.zip vs.toArray) #[] 7 none))=vs.toArray:=by
   show Array.map (fun x:Value×Value=>x.2) (vs.toArray.zip vs.toArray)=vs.toArray
   apply Array.toList_inj.mp
   rw[Array.toList_map,Array.toList_zip]
   exact List.map_snd_zip (Nat.le_refl _)
  rw[eo]
  refine wpAny_bind (seqEpoch_at ho6 rfl (wpAny_bind (listUpdate_at ho6 rfl ?_ (Nat.zero_le _) (by rw[List.size_toArray];exact Nat.le_succ_of_le hz))))
  simp only[bne_self_eq_false,Bool.false_eq_true,if_false]
  exact wpAny_pure (h _ ⟨List.Perm.refl _,L2.pw_two h2⟩)
 ·have h2':¬vs.toArray.size<2:=by rw[List.size_toArray];exact h2
  rw[if_neg h2',if_neg h2']
  obtain⟨s6,es6⟩:∃s6:Shared,s6={s with heap:=((s.heap.update a (Obj.mapSeq fun _=>(#[]:Array Value))).push (seqObj "tuple" vs.toArray 0)).push (seqObj "list" #[] 0)}:=⟨_,rfl⟩
  have ho7:s6.heap.get? a=some (seqObj "list" #[] e1):=by rw[es6];exact ho6
  have hk':=hk (by omega) _ kp (fun κ' s0=>κ'=κ/\s0=s6) ⟨rfl,es6.symm⟩
  have ha':=ha (by omega) _ kp
  rw[<-es6] at hk' ha' ⊢
  refine wpAny_bind (wpAny_mono hk' (fun κ' s0 hκ=>?_) fun _ _ x=>x.elim)
  obtain⟨rfl,rfl⟩:=hκ
  have cm:Tim.Cmp prog w A s0 κ' O (fun x=>kv x.1) (fun x=>x.1∈vs):=⟨fun x y Q E hx hy hq=>ha' x.1 y.1 Q E hx hy hq⟩
  have eq2:(vs.toArray.zip vs.toArray).toList=vs.map fun v=>(v,v):=by
   rw[Array.toList_zip]
   exact q6x vs
  refine wpAny_bind (wpAny_mono (show wpS (model prog w) A E s0 sortRuns' (fun _ st'=>∃l:List Value,(arrOf st').toList=l.map (fun v=>(v,v))/\l.Perm vs/\(l.Pairwise fun x y=>O.kle (kv x) (kv y))/\failedOf st'=none) (SortSt.mk' κ' (vs.toArray.zip vs.toArray) #[] 7 none) from
   Tim.q7g cm rfl (fun x hx=>?_) rfl rfl fun st' pm so fl=>?_) ?_ fun _ _ e=>e)
  ·have hx:x∈(vs.toArray.zip vs.toArray).toList:=hx
   rw[eq2] at hx
   obtain⟨v,hv,rfl⟩:=List.mem_map.mp hx
   exact hv
  ·have pm:(arrOf st').toList.Perm (vs.toArray.zip vs.toArray).toList:=pm
   rw[eq2] at pm
   have e3:(arrOf st').toList=((arrOf st').toList.map (·.2)).map fun v=>(v,v):=by
    rw[List.map_map]
    conv=>lhs;rw[<-List.map_id (arrOf st').toList]
    refine List.map_congr_left fun x hx=>?_
    obtain⟨v,_,rfl⟩:=List.mem_map.mp (pm.mem_iff.mp hx)
    rfl
   refine⟨(arrOf st').toList.map (·.2),e3,?_,?_,fl⟩
   ·have:=pm.map (·.2)
    rwa [List.map_map,show((fun x:Keyed=>x.2) ∘ fun v:Value=>(v,v))=id from rfl,List.map_id] at this
   ·rw [e3] at so
    exact(List.pairwise_map (R:=fun x y:Keyed=>O.kle (kv x.1) (kv y.1))).mp (show(List.map (fun v:Value=>(v,v)) (List.map (fun x=>x.2) (arrOf st').toList)).Pairwise (fun x y=>O.kle (kv x.1) (kv y.1)) from so)
  rintro⟨⟨⟩,st'⟩ s' ⟨rfl,l,har,pm,so,hf⟩
  dsimp only
  have eo:Array.map (fun x:Value×Value=>x.2) (arrOf st')=l.toArray:=by
   apply Array.toList_inj.mp
   rw[Array.toList_map,har,List.map_map]
   exact List.map_id _
  rw[eo]
  refine wpAny_bind (seqEpoch_at ho7 rfl (wpAny_bind (listUpdate_at ho7 rfl ?_ (Nat.zero_le _) (by rw[List.size_toArray,pm.length_eq];exact Nat.le_succ_of_le hz))))
  rw[hf]
  simp only[bne_self_eq_false,Bool.false_eq_true,if_false]
  have hh:=h l.toArray ⟨pm,so⟩
  rw[es6]
  exact wpAny_pure hh
theorem q65 {κ:SortKind}{l:Addr}{vs:List Value}{Q:Value->Shared->Prop}{O:KeyOrd}{kv:Value->O.α}(hl:s.heap.IsList l vs.toArray)(hz:vs.length<=sizeLine)
  (hk:2<=vs.length->∀(A':Around) (h':Heap),A'.units<=A.units+2->(∀b o,s.heap.get? b=some o->h'.get? b=some o)->∀(R:SortKind->Shared->Prop),R κ {s with heap:=h'}->wpAny (model prog w) A' (keyKind' vs.toArray) R (fun _ _=>False) {s with heap:=h'})
  (ha:2<=vs.length->∀(A':Around) (h':Heap),A'.units<=A.units+2->(∀b o,s.heap.get? b=some o->h'.get? b=some o)->∀(x y:Value) (C:Bool->Shared->Prop) (E:Value->Shared->Prop),x∈vs->y∈vs->C (O.blt (kv x) (kv y)) {s with heap:=h'}->wpAny (model prog w) A' (keyLt' κ x y) C E {s with heap:=h'})
  (h:∀out:Array Value,(out.toList.Perm vs/\out.toList.Pairwise fun x y=>O.kle (kv x) (kv y))->Q (.ref (s.heap.objs.size+1)) {s with heap:=sortedAll s.heap vs out}):
  wpAny (model prog w) A (call (.builtin "sorted") [.ref l]) Q E s:=by
 refine Calls.call_function_entry kind_sorted plain_sorted entry_sorted (args_sorted1 _) ?_
 unfold Builtin.«sorted»
 refine wpAny_bind (m:=checkCount "sorted" 1 1 _) (wpAny_pure (wpAny_bind (collect_list hl (wpAny_bind (wpAny_newList ?_ hz)) hz)))
 have hsz:((s.heap.push (seqObj "list" #[] 0)).update s.heap.objs.size (Obj.mapSeq (· ++vs.toArray))).objs.size=s.heap.objs.size+1:=by
  rw[Heap.size_update,size_push']
 have hoL:(((s.heap.push (seqObj "list" #[] 0)).update s.heap.objs.size (Obj.mapSeq (· ++vs.toArray))).push (seqObj "list" vs.toArray 0)).get? (s.heap.objs.size+1)=some (seqObj "list" vs.toArray 0):=by
  rw[<-hsz];exact Heap.get?_push_size _ rfl
 have kp:∀b o,s.heap.get? b=some o->(((s.heap.push (seqObj "list" #[] 0)).update s.heap.objs.size (Obj.mapSeq (· ++vs.toArray))).push (seqObj "list" vs.toArray 0)).get? b=some o:=fun b o q=>by
  have hlt:b<s.heap.objs.size:=Heap.lt_size q
  rw[Heap.get?_push_ne _ _ _ (by rw[hsz];exact Nat.ne_of_lt (Nat.lt_succ_of_lt hlt)),Heap.get?_update_ne _ _ _ _ (Nat.ne_of_lt hlt),Heap.get?_push_ne _ _ _ (Nat.ne_of_lt hlt)]
  exact q
 have kq:∀b o,s.heap.get? b=some o->b≠s.heap.objs.size+1:=fun b o q=>Nat.ne_of_lt (Nat.lt_succ_of_lt (Heap.lt_size q))
 show wpAny _ _ _ _ _ {s with heap:=((s.heap.push (seqObj "list" #[] 0)).update s.heap.objs.size (Obj.mapSeq (· ++vs.toArray))).push (seqObj "list" vs.toArray 0)}
 rw[hsz]
 refine wpAny_bind (wpAny_holding (wpAny_call_entry slot_list_sort ⟨_,hoL,rfl⟩ entry_list_sort (q2V (s:={s with heap:=_}) hoL hz (fun h2 h' k=>hk h2 _ h' (Nat.le_refl _) fun b o q=>k b o (kq b o q) (kp b o q)) (fun h2 h' k=>ha h2 _ h' (Nat.le_refl _) fun b o q=>k b o (kq b o q) (kp b o q)) fun out ho=>⟨_,rfl,?_⟩) (args_list_sort _)))
 exact wpAny_pure ⟨_,rfl,h out ho⟩
end
end Srt
namespace L2
open PySem PySem.Spec PyProof.Rows PySem.W
def rSortW (K:PySem.W.Frag):List V->Hp->VK->Prop:=fun xs H Q=>∃(p:Addr) (l:List (Addr×List Int)) (m:Nat),xs=[.ref p]/\SqL K H p (l.map fun x=>V.ref x.1)/\1<=m/\(∀x∈l,H x.1=some (.tup (x.2.map V.int))/\x.2.length=m)/\
 ∀(q:Addr) (l':List (Addr×List Int)),H q=none->l'.Perm l->l'.Pairwise (fun a b=>¬b.2<a.2)->Q (.ref q) (upd H q (.lst (l'.map fun x=>V.ref x.1)))
section
variable {X:Cx}{pins:List (Addr×Obj)}{σ:St}{H:Hp}{s:Shared}{l:List (Addr×List Int)}{m:Nat}
theorem qcT (I:Inv X pins σ H s)(hm:1<=m)(hl:∀x∈l,H x.1=some (.tup (x.2.map V.int))/\x.2.length=m)(h2:2<=l.length){A:Around}{R:SortKind->Shared->Prop}(hR:R (tuples' true) s):wpAny (model X.prog X.w) A (keyKind' (l.map fun x=>Value.ref x.1).toArray) R (fun _ _=>False) s:=by
 obtain⟨fs,kt,hf⟩:∃fs:List Value,KatTups s.heap (l.map fun x=>Value.ref x.1) fs/\fs.length=l.length/\∀v∈fs,∃n t,v=Value.int n t:=by
  clear h2
  induction l with
  |nil=>exact⟨[],trivial,rfl,fun v hv=>nomatch hv⟩
  |cons x l ih=>
   obtain⟨fs,a1,a2,a3⟩:=ih fun y hy=>hl y (List.mem_cons_of_mem _ hy)
   obtain⟨e1,e2⟩:=hl x (.head _)
   obtain⟨o,us,n,g1,g2,g3,g4⟩:=q3g I e1
   have hlen:=q4D g4
   match us,x.2,g4,hlen,e2 with
   |_,_,.cons k t hr,_,_=>
    refine⟨.int k t::fs,KatTups.cons g1 g2 g3 (by simp) a1,by simpa using a2,fun v hv=>?_⟩
    rcases List.mem_cons.mp hv with rfl|hv
    ·exact ⟨_,_,rfl⟩
    ·exact a3 v hv
   |_,_,.nil,_,e2=>simp at e2;omega
 refine kat_kind kt (by have:=hf.1;omega) (T:= .type "int") (fun v hv=>?_) (by decide) (by rw[show(Value.type "int" != Value.type "tuple")=true by decide];exact hR)
 obtain⟨n,t,rfl⟩:=hf.2 v hv
 exact .now
theorem ltT (I:Inv X pins σ H s){kd:Value->List Int}(hkd:∀x∈l,kd (.ref x.1)=x.2)(hl:∀x∈l,H x.1=some (.tup (x.2.map V.int))/\x.2.length=m){A:Around}{u v:Value}{C:Bool->Shared->Prop}{E:Value->Shared->Prop}(hi:u∈l.map fun x=>Value.ref x.1)(hj:v∈l.map fun x=>Value.ref x.1)(hC:C (Srt.LO.blt (kd u) (kd v)) s):wpAny (model X.prog X.w) A (keyLt' (tuples' true) u v) C E s:=by
 obtain⟨x,hx,rfl⟩:=List.mem_map.mp hi
 obtain⟨y,hy,rfl⟩:=List.mem_map.mp hj
 obtain⟨a1,a2⟩:=hl x hx
 obtain⟨b1,b2⟩:=hl y hy
 obtain⟨o,us,n,g1,g2,g3,g4⟩:=q3g I a1
 obtain⟨o',us',n',g1',g2',g3',g4'⟩:=q3g I b1
 have l1:=q4D g4
 have l2:=q4D g4'
 refine kat_lt g1 g3 g1' g3' ?_
 rw[show decide (us.toArray.size<us'.toArray.size)=false by simp;omega]
 refine Srt.lex g4 g4' (by omega) ?_
 have hC':C (decide (kd (.ref x.1)<kd (.ref y.1))) s:=hC
 rw[hkd x hx,hkd y hy] at hC'
 exact hC'
theorem keyT (hl:∀x∈l,H x.1=some (.tup (x.2.map V.int))/\x.2.length=m):∃kd:Value->List Int,∀x∈l,kd (.ref x.1)=x.2:=by
 refine⟨fun v=>match v with| .ref a=>(match H a with|some (.tup ys)=>ys.map (fun y=>match y with| .int n=>n|_=>0)|_=>[])|_=>[],fun x hx=>?_⟩
 dsimp only
 rw[(hl x hx).1]
 dsimp only
 rw[List.map_map]
 exact List.map_id _
theorem outT {kd:Value->List Int}(hkd:∀x∈l,kd (.ref x.1)=x.2){out:Array Value}(pm:out.toList.Perm (l.map fun x=>Value.ref x.1))(so:out.toList.Pairwise fun x y=>Srt.LO.kle (kd x) (kd y)):
  ∃l':List (Addr×List Int),l'.Perm l/\out.toList=l'.map (fun x=>Value.ref x.1)/\l'.Pairwise (fun a b=>¬b.2<a.2):=by
 have g:∀x∈l,(fun v:Value=>((match v with| .ref a=>a|_=>0:Addr),kd v)) (Value.ref x.1)=x:=fun x hx=>by
  dsimp only
  rw[hkd x hx]
 refine⟨out.toList.map fun v=>((match v with| .ref a=>a|_=>0:Addr),kd v),?_,?_,?_⟩
 ·have:=pm.map fun v:Value=>((match v with| .ref a=>a|_=>0:Addr),kd v)
  rw[List.map_map] at this
  refine this.trans (List.Perm.of_eq ?_)
  conv=>rhs;rw[<-List.map_id l]
  exact List.map_congr_left fun x hx=>g x hx
 ·rw [List.map_map]
  conv=>lhs;rw[<-List.map_id out.toList]
  refine List.map_congr_left fun v hv=>?_
  obtain⟨x,hx,rfl⟩:=List.mem_map.mp (pm.mem_iff.mp hv)
  rfl
 ·rw [List.pairwise_map]
  exact so.imp fun {a b} hab=>of_decide_eq_false hab
theorem qa6:∀l':List (Addr×List Int),Vals (l'.map fun x=>V.ref x.1) (l'.map fun x=>Value.ref x.1)
 |[]=> .nil
 |_::l'=> .cons rfl (qa6 l')
end
section
variable {X:Cx}
theorem sortTW (K:PySem.W.Frag)(hK:X.K=K:=by rfl):q24 X (.builtin "sorted") (rSortW K):=by
 subst hK
 intro pins s σ H xs us Q I r h
 obtain⟨p,l,m,rfl,hq,hm,hl,q⟩:=h
 obtain⟨u,rfl,rx⟩:=q40 r
 cases rx
 obtain⟨its,rv,pl,hz⟩:=I.list hq
 have ei:its=l.map fun x=>Value.ref x.1:=by
  have:=q2p (ps:=l.map (·.1)) (by rw[List.map_map];exact rv)
  rw[this,List.map_map]
  rfl
 subst ei
 rw[List.length_map] at hz
 obtain⟨kd,hkd⟩:=keyT hl
 refine Srt.q65 (κ:=tuples' true) (O:=Srt.LO) (kv:=kd) pl.isList (by rw[List.length_map];exact hz) (fun h2 A h' _ kp R hR=>qcT (I.kept (t':=s.toks) kp) hm hl (by rw[List.length_map] at h2;exact h2) hR) (fun h2 A h' _ kp x y C E hx hy hC=>ltT (I.kept (t':=s.toks) kp) hkd hl hx hy hC) fun out ho=>?_
 obtain⟨l',hp,ho',hs⟩:=outT hkd ho.1 ho.2
 obtain⟨e,he⟩:=sortedAll_at s.heap (l.map fun x=>Value.ref x.1) out
 refine⟨.ref (s.heap.objs.size+1),upd H (s.heap.objs.size+1) (.lst (l'.map fun x=>V.ref x.1)),I.laid (t':=s.toks) (fun _ _=>sortedAll_old) (Nat.le_succ _) ⟨by rw[List.length_map,hp.length_eq];exact hz,out.toList,e,by rw[ho'];exact qa6 l',by simpa[seqObj] using he⟩,rfl,q _ _ (I.hok.fresh (Nat.le_succ _)) hp hs⟩
end
end L2
namespace Ce
open L2 PySem PySem.Spec PyProof.Rows
structure Small (C:Cl):Prop where
 r:C.rooms<=5
 w:C.ways.length<=4
 t:C.things.length<=2
 l:C.levers.length<=1
 v:C.wheels.length<=1
def nx (C:Cl)(s:Sd):List Sd:=(fitD C s).map fun x=>q0m C s x.1 (x.2:Int)
def NxR (C:Cl)(s t:Sd):Prop:=t∈nx C s
theorem nx_of {C:Cl}{s t:Sd}(h:NxR C s t):∃(d:Wd) (i:Nat),canD C s d (i:Int)=true/\t=q0m C s d (i:Int):=by
 obtain⟨⟨d,i⟩,hx,rfl⟩:=List.mem_map.mp h
 exact⟨d,i,q4z.mp hx,rfl⟩
theorem nx_ok {C:Cl}{s t:Sd}(ok:ClOk C)(h:s.ok C)(r:NxR C s t):t.ok C:=by
 obtain⟨d,i,hc,rfl⟩:=nx_of r
 exact q9m ok h hc
theorem q4N {C:Cl}{s t:Sd}(ok:ClOk C)(h:s.ok C)(r:Rch (NxR C) s t):t.ok C:=by
 induction r with
 |refl=>exact h
 |step _ r ih=>exact nx_ok ok ih r
theorem q7a {P:Nat->Bool}{n:Nat}(h:∀i,n<=i->P i=false):∀{m:Nat},n<=m->cnt P m=cnt P n
 |0,hm=>by rw[Nat.le_zero.mp hm]
 |m+1,hm=>by
  by_cases e:n=m+1
  ·rw [e]
  ·show cnt P m+_=_
   rw[h m (by omega),q7a h (by omega)]
   rfl
theorem q81 (f g:Nat->Int):∀l:List Nat,(l.map fun k=>f k+g k).sum=(l.map f).sum+(l.map g).sum
 |[]=>rfl
 |k::l=>by
  simp only[List.map_cons,List.sum_cons]
  rw[q81 f g l]
  omega
theorem one12:∀j,j<12->((List.range 12).map fun k:Nat=>if decide (j=k)=true then(1:Int) else 0).sum=1:=by decide
theorem qcS {κ:Nat->Option Int}{b:Nat->Bool}:∀{n:Nat},(∀i,i<n->b i=true->∃k:Nat,κ i=some (k:Int)/\k<12)->((List.range 12).map fun k:Nat=>(cnt (fun i=>decide (κ i=some (k:Int))&&b i) n:Int)).sum=(cnt b n:Int)
 |0,_=>rfl
 |n+1,h=>by
  have ih:=qcS (n:=n) fun i hi=>h i (Nat.lt_succ_of_lt hi)
  have e:(fun k:Nat=>(cnt (fun i=>decide (κ i=some (k:Int))&&b i) (n+1):Int))=fun k:Nat=>(cnt (fun i=>decide (κ i=some (k:Int))&&b i) n:Int)+(if (decide (κ n=some (k:Int))&&b n)=true then(1:Int) else 0):=by
   funext k
   show((cnt _ n+_:Nat):Int)=_
   split<;>simp
  rw[e,q81,ih]
  show _=((cnt b n+_:Nat):Int)
  cases hb:b n with
  |false=>
   have:(fun k:Nat=>if (decide (κ n=some (k:Int))&&false)=true then(1:Int) else 0)=fun _=>0:=by funext k;simp
   rw[this,show((List.range 12).map fun _:Nat=>(0:Int)).sum=0 from rfl]
   simp
  |true=>
   obtain⟨j,hj,hl⟩:=h n (Nat.lt_succ_self n) hb
   have:(fun k:Nat=>if (decide (κ n=some (k:Int))&&true)=true then(1:Int) else 0)=fun k=>if decide (j=k)=true then(1:Int) else 0:=by
    funext k
    rw[hj,Bool.and_true]
    congr 1
    simp only[decide_eq_true_eq,eq_iff_iff,Option.some.injEq]
    omega
   rw[this,one12 j hl]
   simp
theorem qbf:∀{l:List Nat} {f g:Nat->Int},(∀k∈l,f k<=g k)->(l.map f).sum<=(l.map g).sum
 |[],_,_,_=>Int.le_refl _
 |k::l,f,g,h=>by
  have:=qbf (l:=l) (f:=f) (g:=g) fun j hj=>h j (List.mem_cons_of_mem _ hj)
  have:=h k (.head _)
  simp only[List.map_cons,List.sum_cons]
  omega
theorem q8C {C:Cl}{s:Sd}(ok:ClOk C)(h:s.ok C):cnt (bit s.op) C.ways.length<=cnt (bit s.tk) C.things.length:=by
 have e1:((List.range 12).map fun k:Nat=>(cnt (dP (dsOf C) s.op (k:Int)) C.ways.length:Int)).sum=(cnt (bit s.op) C.ways.length:Int):=by
  refine qcS fun i hi hb=>?_
  have hd:=h.dr i hi hb
  unfold dsOf at hd ⊢
  rw[List.getElem?_eq_getElem hi] at hd ⊢
  obtain⟨k,hk⟩:=Option.isSome_iff_exists.mp hd
  have hg:=(ok.w _ (List.getElem_mem hi)).2.2.2
  have hk':C.ways[i].g.dk=some k:=hk
  cases eg:C.ways[i].g with
  |door k'=>
   rw[eg] at hg hk'
   have hg:0<=k'/\k'<12:=hg
   refine⟨k'.toNat,?_,by omega⟩
   show C.ways[i].g.dk=_
   rw[eg]
   show some k'=_
   congr 1
   omega
  |_=>rw[eg] at hk';cases hk'
 have e2:((List.range 12).map fun k:Nat=>(cnt (tP C s.tk (k:Int)) C.things.length:Int)).sum=(cnt (bit s.tk) C.things.length:Int):=by
  have:=qcS (κ:=fun i=>some (C.things.getD i (0,0)).2) (b:=bit s.tk) (n:=C.things.length) fun i hi _=>by
   have ht:=(ok.t _ (List.getElem_mem hi)).2
   refine⟨(C.things[i].2).toNat,?_,by omega⟩
   simp only[List.getD_eq_getElem?_getD,List.getElem?_eq_getElem hi,Option.getD_some]
   congr 1
   omega
  rw[<-this]
  congr 1
  refine List.map_congr_left fun k _=>?_
  congr 1
  refine q3T fun i _=>?_
  unfold tP
  congr 1
  simp
 have e3:=qbf (l:=List.range 12) (f:=fun k:Nat=>(cnt (dP (dsOf C) s.op (k:Int)) C.ways.length:Int)) (g:=fun k:Nat=>(cnt (tP C s.tk (k:Int)) C.things.length:Int)) fun k hk=>by
  have hk:k<12:=List.mem_range.mp hk
  have:=h.held k (by omega) (by omega)
  unfold hold at this
  omega
 rw[e1,e2] at e3
 omega
def popc (n:Nat):Nat:=cnt (fun i=>n.testBit i) 4
def fits (d:Nat->Bool)(t o:Nat):Bool:=decide (popc o<=popc t)&&(List.range 4).all fun i=> !o.testBit i||d i
def num (d:Nat->Bool)(o:Nat):Nat:=cnt (fun i=> !d i||o.testBit i) 4
def prs (d:Nat->Bool):List (Nat×Nat):=((List.range 4).flatMap fun t=>(List.range 16).map fun o=>(t,o)).filter fun x=>fits d x.1 x.2
def mk4 (d0 d1 d2 d3:Bool)(i:Nat):Bool:=match i with|0=>d0|1=>d1|2=>d2|_=>d3
theorem qci:∀d0 d1 d2 d3:Bool,((prs (mk4 d0 d1 d2 d3)).map fun x=>4*min 5 (1+2*num (mk4 d0 d1 d2 d3) x.2)).sum<=288:=by decide +kernel
def ends (C:Cl)(i:Nat):List Int:=match C.ways[i]? with|some x=>[x.a,x.b]|none=>[0,0]
def dI (C:Cl):Nat->Bool:=mk4 (dsOf C 0).isSome (dsOf C 1).isSome (dsOf C 2).isSome (dsOf C 3).isSome
theorem dI_at {C:Cl}{i:Nat}(h:i<4):dI C i=(dsOf C i).isSome:=by
 match i,h with
 |0,_=>rfl
 |1,_=>rfl
 |2,_=>rfl
 |3,_=>rfl
def rms (C:Cl)(s0:Sd)(o:Nat):List Int:=if 1+2*num (dI C) o<=5 then s0.rm::(List.range 4).flatMap fun i=>if (!dI C i||o.testBit i)=true then ends C i else [] else(List.range 5).map fun n:Nat=>(n:Int)
theorem qb1 (C:Cl)(i:Nat):(ends C i).length=2:=by unfold ends;split<;>rfl
theorem qc5 (C:Cl)(s0:Sd)(o:Nat):(rms C s0 o).length=min 5 (1+2*num (dI C) o):=by
 unfold rms
 split
 ·rename_i h
  have e:((List.range 4).flatMap fun i=>if (!dI C i||o.testBit i)=true then ends C i else []).length=2*num (dI C) o:=by
   have:∀n,((List.range n).flatMap fun i=>if (!dI C i||o.testBit i)=true then ends C i else []).length=2*cnt (fun i=> !dI C i||o.testBit i) n:=fun n=>by
    induction n with
    |zero=>rfl
    |succ n ih=>
     rw[List.range_succ,List.flatMap_append,List.length_append,ih]
     show _=2*(cnt _ n+_)
     simp only[List.flatMap_cons,List.flatMap_nil,List.append_nil]
     split
     ·rw [qb1];omega
     ·simp
   exact this 4
  rw[List.length_cons,e]
  omega
 ·rename_i h
  simp
  omega
def bs2 (C:Cl)(s0:Sd):List Int:=[s0.b,Builtin.bitXor s0.b (C.levers.getD 0 (0,0)).2]
def ws2 (C:Cl)(s0:Sd):List Int:=[s0.wt,(C.wheels.getD 0 (0,0)).2]
def uni (C:Cl)(s0:Sd):List Sd:=(prs (dI C)).flatMap fun x=>(rms C s0 x.2).flatMap fun r=>(bs2 C s0).flatMap fun b=>(ws2 C s0).map fun w=>(⟨r,(x.1:Int),(x.2:Int),b,w⟩:Sd)
theorem qbL (C:Cl)(s0:Sd):(uni C s0).length<=288:=by
 refine Nat.le_trans (Nat.le_of_eq ?_) (qci (dsOf C 0).isSome (dsOf C 1).isSome (dsOf C 2).isSome (dsOf C 3).isSome)
 unfold uni
 rw[List.length_flatMap]
 congr 1
 refine List.map_congr_left fun x _=>?_
 rw[List.length_flatMap]
 have:∀l:List Int,(l.map fun r=>((bs2 C s0).flatMap fun b=>(ws2 C s0).map fun w=>(⟨r,(x.1:Int),(x.2:Int),b,w⟩:Sd)).length).sum=4*l.length:=fun l=>by
  induction l with
  |nil=>rfl
  |cons r l ih=>
   rw[List.map_cons,List.sum_cons,ih,List.length_cons]
   simp[bs2,ws2]
   omega
 rw[this,qc5]
 rfl
structure Bnd (C:Cl)(s0 s:Sd):Prop where
 ok:s.ok C
 rm:s.rm=s0.rm\/∃(i:Nat) (x:Way),C.ways[i]? =some x/\((dsOf C i).isSome=false\/bit s.op i=true)/\(s.rm=x.a\/s.rm=x.b)
 b:s.b∈bs2 C s0
 wt:s.wt∈ws2 C s0
theorem Bnd.step {C:Cl}{s0 s t:Sd}(ok:ClOk C)(sm:Small C)(h0:s0.ok C)(h:Bnd C s0 s)(r:NxR C s t):Bnd C s0 t:=by
 have okt:=nx_ok ok h.ok r
 obtain⟨d,i,hc,rfl⟩:=nx_of r
 cases d with
 |go=>
  obtain⟨x,hx,_,hl,_,e⟩:=go_of hc
  rw[e] at okt ⊢
  refine⟨okt,.inr ⟨i,x,hx,?_,?_⟩,h.b,h.wt⟩
  ·show (dsOf C i).isSome=false\/bit s.op i=true
   unfold dsOf
   rw[hx]
   cases eg:x.g with
   |door k=>rw[eg] at hl;exact .inr hl
   |_=>exact .inl (by show(x.g.dk).isSome=false;rw[eg];rfl)
  ·show (if s.rm=x.a then x.b else x.a)=x.a\/(if s.rm=x.a then x.b else x.a)=x.b
   split
   ·exact .inr rfl
   ·exact .inl rfl
 |pull=>
  obtain⟨x,hx,_,_,e⟩:=qch hc
  rw[e] at okt ⊢
  refine⟨okt,h.rm,?_,h.wt⟩
  have hi:i<C.levers.length:=(List.getElem?_eq_some_iff.mp hx).1
  have hi0:i=0:=by have:=sm.l;omega
  subst hi0
  have ex:C.levers.getD 0 (0,0)=x:=by rw[List.getD_eq_getElem?_getD,hx];rfl
  have hxm:=ok.lv x (List.mem_of_getElem? hx)
  show Builtin.bitXor s.b x.2∈_
  have hb:=h.b
  unfold bs2 at hb ⊢
  rw[ex] at hb ⊢
  rcases List.mem_cons.mp hb with hb|hb
  ·rw [hb];simp
  ·rw [List.mem_singleton.mp hb,q9U h0.hb.1 h0.hb.2 (by omega) (by omega)];simp
 |take=>
  obtain⟨x,hx,e⟩:=qbQ hc
  rw[e] at okt ⊢
  exact⟨okt,h.rm,h.b,h.wt⟩
 |turn=>
  obtain⟨x,hx,_,e⟩:=qbN hc
  rw[e] at okt ⊢
  refine⟨okt,h.rm,h.b,?_⟩
  have hi:i<C.wheels.length:=(List.getElem?_eq_some_iff.mp hx).1
  have hi0:i=0:=by have:=sm.v;omega
  subst hi0
  have ex:C.wheels.getD 0 (0,0)=x:=by rw[List.getD_eq_getElem?_getD,hx];rfl
  show x.2∈_
  unfold ws2
  rw[ex]
  simp
 |unlock=>
  obtain⟨hl,j,ej,hj,hcb⟩:=q0n hc
  have ej:i=j:=by omega
  subst ej
  obtain⟨x,kd,hx,hg,e⟩:=q7T hc
  rw[e] at okt ⊢
  refine⟨okt,?_,h.b,h.wt⟩
  have hb:bit s.op i=false:=by
   simp only[canB,hx,hg,Gt.dk,Bool.and_eq_true,Bool.not_eq_true'] at hcb
   exact hcb.1.2
  rcases h.rm with z|⟨k,y,hy,hz,hr⟩
  ·exact .inl z
  ·refine .inr ⟨k,y,hy,?_,hr⟩
   rcases hz with hz|hz
   ·exact .inl hz
   ·refine .inr ?_
    show bit (s.op+2 ^ i) k=true
    rw[q31 h.ok.hop.1 hb]
    by_cases e:i=k
    ·subst e;rw[hb] at hz;cases hz
    ·simp [e,hz]
theorem Bnd.come {C:Cl}{s0 s:Sd}(ok:ClOk C)(sm:Small C)(h0:s0.ok C)(r:Rch (NxR C) s0 s):Bnd C s0 s:=by
 induction r with
 |refl=>exact⟨h0,.inl rfl,by simp[bs2],by simp[ws2]⟩
 |step _ r ih=>exact ih.step ok sm h0 r
theorem cnt4 {x:Int}{n:Nat}(h0:0<=x)(h1:x<2 ^ n)(hn:n<=4):popc x.toNat=cnt (bit x) n:=by
 unfold popc
 rw[<-q7a (P:=bit x) (n:=n) (fun i hi=>q9M h0 h1 hi) hn]
 exact q3T fun i _=>(q1D h0 i).symm
theorem q8s {n m:Nat}(h:n<=m):(2:Int) ^ n<=2 ^ m:=by
 have:(2:Nat) ^ n<=2 ^ m:=Nat.pow_le_pow_right (by decide) h
 exact_mod_cast this
theorem Bnd.mem {C:Cl}{s0 s:Sd}(ok:ClOk C)(sm:Small C)(h:Bnd C s0 s):s∈uni C s0:=by
 have ho:=h.ok
 have p1:=q8s sm.t
 have p2:=q8s sm.w
 have q1:(2:Int) ^ 2=4:=rfl
 have q2:(2:Int) ^ 4=16:=rfl
 have t0:=ho.htk
 have o0:=ho.hop
 obtain⟨rm,tk,op,b,wt⟩:=s
 dsimp only at t0 o0
 have ops:=q8C ok ho
 rw[<-cnt4 t0.1 t0.2 (by have:=sm.t;omega),<-cnt4 o0.1 o0.2 sm.w] at ops
 unfold uni
 refine List.mem_flatMap.mpr ⟨(tk.toNat,op.toNat),List.mem_filter.mpr ⟨List.mem_flatMap.mpr ⟨tk.toNat,List.mem_range.mpr (by omega),List.mem_map.mpr ⟨op.toNat,List.mem_range.mpr (by omega),rfl⟩⟩,?_⟩,List.mem_flatMap.mpr ⟨rm,?_,List.mem_flatMap.mpr ⟨b,h.b,List.mem_map.mpr ⟨wt,h.wt,?_⟩⟩⟩⟩
 ·dsimp only
  unfold fits
  rw[decide_eq_true ops,Bool.true_and,List.all_eq_true]
  intro i hi
  have hi:i<4:=List.mem_range.mp hi
  rw[<-q1D o0.1,dI_at hi]
  cases hb:bit op i with
  |false=>rfl
  |true=>
   have hl:i<C.ways.length:=by
    refine Nat.lt_of_not_le fun z=>?_
    rw[q9M o0.1 o0.2 z] at hb
    cases hb
   rw[ho.dr i hl hb]
   rfl
 ·dsimp only
  unfold rms
  split
  ·rcases h.rm with z|⟨i,x,hx,hz,hr⟩
   ·exact List.mem_cons.mpr (.inl z)
   ·have hi:i<4:=by have:=(List.getElem?_eq_some_iff.mp hx).1;have:=sm.w;omega
    refine List.mem_cons_of_mem _ (List.mem_flatMap.mpr ⟨i,List.mem_range.mpr hi,?_⟩)
    rw[<-q1D o0.1,dI_at hi,if_pos ?_]
    ·unfold ends
     rw[hx]
     have hr:rm=x.a\/rm=x.b:=hr
     simpa using hr
    ·rcases hz with hz|hz
     ·rw [hz];rfl
     ·have hz:bit op i=true:=hz
      rw[hz];simp
  ·have hm:=ho.hrm
   have:=sm.r
   exact List.mem_map.mpr ⟨rm.toNat,List.mem_range.mpr (by dsimp only at hm;omega),by dsimp only at hm;omega⟩
 ·dsimp only
  rw[show((tk.toNat:Nat):Int)=tk by omega,show((op.toNat:Nat):Int)=op by omega]
theorem q6z:∀{l m:List Sd},l.Nodup->(∀x∈l,x∈m)->l.length<=m.length
 |[],_,_,_=>Nat.zero_le _
 |x::l,m,hn,h=>by
  rw[List.nodup_cons] at hn
  have hx:=h x (.head _)
  have:=q6z (m:=m.erase x) hn.2 fun y hy=>(List.mem_erase_of_ne fun e=>hn.1 (by rw[<-e];exact hy)).mpr (h y (List.mem_cons_of_mem _ hy))
  rw[List.length_erase_of_mem hx] at this
  have:0<m.length:=List.length_pos_of_mem hx
  rw[List.length_cons]
  omega
theorem few {C:Cl}{s0:Sd}{row:List Sd}(ok:ClOk C)(sm:Small C)(h0:s0.ok C)(nd:row.Nodup)(hr:∀x∈row,Rch (NxR C) s0 x):row.length<=288:=
 Nat.le_trans (q6z nd fun x hx=>(Bnd.come ok sm h0 (hr x hx)).mem ok sm) (qbL C s0)
end Ce
namespace DI
open PySem PySem.W PyProof.Rows
theorem src {prog:Program}{w:World}{d:Addr}{o:Obj}{es:Array DictEntry}{ep:Nat}(hd:(d==sysModules)=false)(hx:o.ExactDict)(hdat:o.data= .dict es ep):KdlSrc prog w "dict" d d es.size (fun i v=>∃h:i<es.size,v=es[i].key) (fun h=>h.get? d=some o) where
 type:=fun s ho=>ty ho hx
 there:=fun _ ho=>⟨Heap.lt_size ho,Heap.lt_size ho⟩
 keep:=fun _ _ ho k=>k d (.inl rfl) o ho
 notList:=by decide
 notTuple:=by decide
 hint:=fun _ _ _ _ ho hq=>kdl_hint_dict (ty ho hx) hq
 iter:=fun A s hh ho=>by
  refine⟨_,fun i h=>h.IsKeyIter s.heap.objs.size d i es.size ep/\h.get? d=some o,(fun _ _ hq=>keys hd ho hx hdat hq),⟨?_,?_,?_,?_,?_⟩,⟨_,Heap.get?_push_size _ rfl,rfl,rfl⟩,Heap.get?_push_of_some _ ho⟩
  ·intro b hb
   exact List.mem_cons.mpr (.inl (List.mem_singleton.mp hb))
  ·intro i h h' ⟨st,e⟩ k
   exact⟨st.at fun o e=>k _ (by simp) o e,k d (by simp) o e⟩
  ·intro i s' Q E hi ⟨st,e⟩ hQ
   refine q8S st e hdat hi fun h' st' sb=>?_
   have ne:d≠s.heap.objs.size:=Nat.ne_of_lt (Heap.lt_size ho)
   exact hQ _ h' s'.toks ⟨hi,rfl⟩ ⟨st',(sb.2 d ne).trans e⟩ fun b o hb q=>(sb.2 b fun z=>hb (by simp[z])).trans q
  ·intro s' Q E ⟨st,e⟩ hQ
   exact qbw hh st e hdat (Nat.le_refl _) fun h' eb=>hQ h' s'.toks fun b o hb q=>eb b o (fun z=>hb (by simp[z])) q
  ·intro i s' Q E ⟨st,e⟩ hQ
   exact wpAny_pyIter_keyiter st hQ
end DI
namespace Srt
open PySem PySem.W PyProof.Rows
section
variable {prog:Program}{w:World}{A:Around}{E:Value->Shared->Prop}{s:Shared}
theorem q5f {κ:SortKind}{d:Addr}{o:Obj}{es:Array DictEntry}{ep:Nat}{Q:Value->Shared->Prop}{O:KeyOrd}{kv:Value->O.α}{vs:List Value}(hh:A.handled=none)(hd:(d==sysModules)=false)(ho:s.heap.get? d=some o)(hx:o.ExactDict)(hdat:o.data= .dict es ep)(evs:vs=es.toList.map (·.key))(hz:vs.length<=sizeLine)
  (hk:2<=vs.length->∀(A':Around) (h':Heap) (tk:Nat),A'.units<=A.units+2->(∀b o,s.heap.get? b=some o->h'.get? b=some o)->∀(R:SortKind->Shared->Prop),R κ {s with heap:=h',toks:=tk}->wpAny (model prog w) A' (keyKind' vs.toArray) R (fun _ _=>False) {s with heap:=h',toks:=tk})
  (ha:2<=vs.length->∀(A':Around) (h':Heap) (tk:Nat),A'.units<=A.units+2->(∀b o,s.heap.get? b=some o->h'.get? b=some o)->∀(x y:Value) (C:Bool->Shared->Prop) (E:Value->Shared->Prop),x∈vs->y∈vs->C (O.blt (kv x) (kv y)) {s with heap:=h',toks:=tk}->wpAny (model prog w) A' (keyLt' κ x y) C E {s with heap:=h',toks:=tk})
  (h:∀(h1:Heap) (tk:Nat),(∀b o,s.heap.get? b=some o->h1.get? b=some o)->∀out:Array Value,(out.toList.Perm vs/\out.toList.Pairwise fun x y=>O.kle (kv x) (kv y))->Q (.ref h1.objs.size) {s with heap:=sortedHeap (h1.push (seqObj "list" vs.toArray 0)) h1.objs.size vs out,toks:=tk}):
  wpAny (model prog w) A (call (.builtin "sorted") [.ref d]) Q E s:=by
 refine Calls.call_function_entry kind_sorted plain_sorted entry_sorted (args_sorted1 _) ?_
 unfold Builtin.«sorted»
 refine wpAny_bind (m:=checkCount "sorted" 1 1 _) (wpAny_pure (wpAny_bind (kdu_collect (A:=A.in1) (DI.src hd hx hdat) hh ho (by rw[evs,List.length_map,Array.length_toList] at hz;exact hz) fun h1 tk acc k1 hacc=>?_)))
 have eacc:acc.toList=vs:=by
  rw[evs]
  refine List.ext_getElem? fun j=>?_
  rw[Array.getElem?_toList,List.getElem?_map,Array.getElem?_toList]
  by_cases hj:j<es.size
  ·have hj':j<acc.size:=by rw[hacc.1];exact hj
   obtain⟨_,e⟩:=hacc.2 j _ (Array.getElem?_eq_getElem hj')
   rw[Array.getElem?_eq_getElem hj',Array.getElem?_eq_getElem hj,e]
   rfl
  ·rw [Array.getElem?_eq_none (by rw[hacc.1];omega),Array.getElem?_eq_none (by omega)]
   rfl
 rw[eacc]
 refine wpAny_bind (wpAny_newList ?_ hz)
 have hoL:(h1.push (seqObj "list" vs.toArray 0)).get? h1.objs.size=some (seqObj "list" vs.toArray 0):=Heap.get?_push_size _ rfl
 have kp:∀b o,s.heap.get? b=some o->(h1.push (seqObj "list" vs.toArray 0)).get? b=some o:=fun b o q=>Heap.get?_push_of_some _ (k1 b o q)
 have kq:∀b o,s.heap.get? b=some o->b≠h1.objs.size:=fun b o q=>Nat.ne_of_lt (Heap.lt_size (k1 b o q))
 show wpAny _ _ _ _ _ {s with heap:=h1.push (seqObj "list" vs.toArray 0),toks:=tk}
 refine wpAny_bind (wpAny_holding (wpAny_call_entry slot_list_sort ⟨_,hoL,rfl⟩ entry_list_sort (q2V (s:={s with heap:=h1.push (seqObj "list" vs.toArray 0),toks:=tk}) hoL hz (fun h2 h' k=>hk h2 _ h' tk (Nat.le_refl _) fun b o q=>k b o (kq b o q) (kp b o q)) (fun h2 h' k=>ha h2 _ h' tk (Nat.le_refl _) fun b o q=>k b o (kq b o q) (kp b o q)) fun out ho=>⟨_,rfl,?_⟩) (args_list_sort _)))
 exact wpAny_pure ⟨_,rfl,h h1 tk k1 out ho⟩
theorem q2r {h:Heap}{a:Addr}{vs:List Value}{n:Nat}(out:Array Value)(ho:h.get? a=some (seqObj "list" vs.toArray n)):∃e,(sortedHeap h a vs out).get? a=some (seqObj "list" out e):=by
 obtain⟨e1,h1⟩:∃e1,(h.update a (Obj.mapSeq fun _=>(#[]:Array Value))).get? a=some (seqObj "list" #[] e1):=⟨_,get?_update_seq ho fun _=> #[]⟩
 exact⟨_,get?_update_seq (Heap.get?_push_of_some _ (Heap.get?_push_of_some _ h1)) fun _=>out⟩
theorem q26 {h:Heap}{a:Addr}{vs:List Value}{out:Array Value}{b:Addr}{o:Obj}(hb:b≠a)(e:h.get? b=some o):(sortedHeap h a vs out).get? b=some o:=
 ((Heap.SameBut.update _ a (Obj.mapSeq fun _=>out)).2 b hb).trans (Heap.get?_push_of_some _ (Heap.get?_push_of_some _ (((Heap.SameBut.update h a (Obj.mapSeq fun _=>(#[]:Array Value))).2 b hb).trans e)))
end
end Srt
namespace L2
open PySem PySem.Spec PyProof.Rows PySem.W
theorem Inv.dictAt {X:Cx}{pins:List (Addr×Obj)}{σ:St}{H:Hp}{s:Shared}{a:Addr}{kvs:List (List Key×V)}(I:Inv X pins σ H s)(e:H a=some (.dT kvs)):∃(o:Obj) (es:Array DictEntry) (ep:Nat) (bs:List Addr),s.heap.get? a=some o/\o.ExactDict/\o.data= .dict es ep/\(a==sysModules)=false/\kvs.length<=sizeLine/\
  es.toList.map (·.key)=bs.map Value.ref/\bs.length=kvs.length/\∀(i:Nat) (b:Addr) (p:List Key×V),bs[i]? =some b->kvs[i]? =some p->H b=some (.tup (p.1.map kV)):=by
 obtain⟨z,y,xs,r,o,es,ep,h1,h2,h3,h4,h5⟩:=(show q0a X.prog X.w H s.heap a (.dT kvs) from I.hok a _ e)
 have hl:kvs.length=xs.length:=r.length
 refine⟨o,es,ep,xs.map fun x=>x.2.1,h1,h2,h3,y,z,?_,by rw[List.length_map,hl],fun i b p hb hp=>?_⟩
 ·refine List.ext_getElem? fun i=>?_
  rw[List.getElem?_map,Array.getElem?_toList,List.getElem?_map,List.getElem?_map,entry_at h4 i]
  cases xs[i]? with
  |none=>rfl
  |some x=>rfl
 ·rw [List.getElem?_map] at hb
  cases hx:xs[i]? with
  |none=>rw[hx] at hb;cases hb
  |some x=>
   rw[hx] at hb
   cases hb
   exact(Paired.at' r hp hx).2.1
def qbl:List V->Hp->VK->Prop:=fun xs H Q=>∃(a:Addr) (kvs:List (List Key×V)) (ns:List (List Int)) (m:Nat),xs=[.ref a]/\H a=some (.dT kvs)/\kvs.map (·.1)=ns.map (fun n=>n.map Sum.inl)/\1<=m/\(∀n∈ns,n.length=m)/\
 ∀(q:Addr) (l':List (Addr×List Int)),H q=none->(l'.map (·.2)).Perm ns->l'.Pairwise (fun a b=>¬b.2<a.2)->(∀x∈l',H x.1=some (.tup (x.2.map V.int)))->Q (.ref q) (upd H q (.lst (l'.map fun x=>V.ref x.1)))
theorem sortDW {X:Cx}(hc:X.calm=true:=by rfl):q24 X (.builtin "sorted") qbl:=by
 intro pins s σ H xs us Q I r h
 obtain⟨a,kvs,ns,m,rfl,ha,hk,hm,hn,q⟩:=h
 obtain⟨u,rfl,rx⟩:=q40 r
 cases rx
 obtain⟨o,es,ep,bs,ho,hx,hd,hs,hz,hes,hbl,hb⟩:=I.dictAt ha
 have hnl:ns.length=kvs.length:=by have:=congrArg List.length hk;simpa using this.symm
 obtain⟨l,el⟩:∃l,l=bs.zip ns:=⟨_,rfl⟩
 have e1:l.map (·.1)=bs:=by rw[el];exact List.map_fst_zip (by omega)
 have e2:l.map (·.2)=ns:=by rw[el];exact List.map_snd_zip (by omega)
 have hl:∀x∈l,H x.1=some (.tup (x.2.map V.int))/\x.2.length=m:=fun x hx=>by
  refine⟨?_,hn _ (by rw[<-e2];exact List.mem_map_of_mem hx)⟩
  obtain⟨i,hi,ei⟩:=List.getElem_of_mem hx
  have g1:bs[i]? =some x.1:=by rw[<-e1,List.getElem?_map,List.getElem?_eq_getElem hi,ei];rfl
  have g2:ns[i]? =some x.2:=by rw[<-e2,List.getElem?_map,List.getElem?_eq_getElem hi,ei];rfl
  have hi2:i<kvs.length:=by have:=(List.getElem?_eq_some_iff.mp g1).1;omega
  have g3:=hb i x.1 kvs[i] g1 (List.getElem?_eq_getElem hi2)
  have g4:(kvs[i]).1=x.2.map Sum.inl:=by
   have:=congrArg (·[i]?) hk
   simp only[List.getElem?_map,List.getElem?_eq_getElem hi2,g2,Option.map_some] at this
   exact Option.some.inj this
  rw[g3,g4,List.map_map]
  rfl
 have evs:(l.map fun x=>Value.ref x.1)=es.toList.map (·.key):=by rw[hes,<-e1,List.map_map];rfl
 have hll:l.length=kvs.length:=by have:=congrArg List.length e1;rw[List.length_map] at this;omega
 obtain⟨kd,hkd⟩:=keyT hl
 refine Srt.q5f (κ:=tuples' true) (O:=Srt.LO) (kv:=kd) (I.ok.hd hc) hs ho hx hd evs (by rw[List.length_map,hll];exact hz) (fun h2 A h' tk _ kp R hR=>qcT (I.kept (t':=tk) kp) hm hl (by rw[List.length_map] at h2;exact h2) hR) (fun h2 A h' tk _ kp x y C E hx hy hC=>ltT (I.kept (t':=tk) kp) hkd hl hx hy hC) fun h1 tk k1 out ho=>?_
 obtain⟨l',hp,ho',hs⟩:=outT hkd ho.1 ho.2
 have I1:Inv X pins σ H {s with heap:=h1,toks:=tk}:=I.kept (t':=tk) k1
 obtain⟨e,he⟩:=Srt.q2r out (show(h1.push (seqObj "list" (l.map fun x=>Value.ref x.1).toArray 0)).get? h1.objs.size=some (seqObj "list" (l.map fun x=>Value.ref x.1).toArray 0) from Heap.get?_push_size _ rfl)
 have I2:=I1.laid (a:=h1.objs.size) (o:= .lst (l'.map fun x=>V.ref x.1)) (t':=tk) (h':=sortedHeap (h1.push (seqObj "list" (l.map fun x=>Value.ref x.1).toArray 0)) h1.objs.size (l.map fun x=>Value.ref x.1) out) (fun b o q=>Srt.q26 (Nat.ne_of_lt (Heap.lt_size q)) (Heap.get?_push_of_some _ q)) (Nat.le_refl _) ⟨by rw[List.length_map,hp.length_eq,hll];exact hz,out.toList,e,by rw[ho'];exact qa6 l',by simpa[seqObj] using he⟩
 refine⟨.ref h1.objs.size,_,I2,rfl,q _ _ (I1.hok.fresh (Nat.le_refl _)) (by rw[<-e2];exact hp.map _) hs fun x hx=>(hl x (hp.mem_iff.mp hx)).1⟩
def tDisp1 (tk tv:TE):TE:=fun σ H Q=>∀p,H p=none->tk σ (upd H p (.dT [])) fun x H1=>tv σ H1 fun y H2=>∃(b:Addr) (k:List Key),x= .ref b/\H2 p=some (.dT [])/\H2 b=some (.tup (k.map kV))/\Q (.ref p) (upd H2 p (.dT [(k,y)]))
theorem qal {X:Cx}{pos:Pos}{k v:Expr}{tk tv:TE}(hu:X.A.units+1<cLine)(hk:PE X k tk)(hv:PE X v tv):PE X (.Dict [some k] [v] pos) (tDisp1 tk tv):=by
 intro pins s σ H Q I q
 have hn:=I.hok.fresh (Nat.le_refl s.heap.objs.size)
 have I1:=I.laid (a:=s.heap.objs.size) (o:= .dT []) (h':=s.heap.push {cls:= .type "dict",data:= .dict #[]}) (t':=s.toks) (fun _ _ q=>Heap.get?_push_of_some _ q) (Nat.le_refl _) (q76 s.heap I.big)
 have pp:=qaf (pos:=pos) hk hv qcj pins _ σ _ (fun ps H2=>match ps with|[(x,y)]=>∃(b:Addr) (k:List Key),x= .ref b/\H2 s.heap.objs.size=some (.dT [])/\H2 b=some (.tup (k.map kV))/\Q (.ref s.heap.objs.size) (upd H2 s.heap.objs.size (.dT [(k,y)]))|_=>False) I1 (q _ hn)
 rw[arm_eval_Dict,zip_pairTrees [some k] [v] X.env pos rfl rfl,dictDisplay_pairs _ (by intro z;cases z) (by show 1<17;decide)]
 refine wpAny_bind (wpAny_standAt (wpAny_bind ?_))
 unfold subDict
 refine wpAny_bind (wpAny_alloc ?_)
 refine wpAny_bind (wpAny_holding ?_)
 rw[if_pos (by show 1<=15;decide)]
 refine wpAny_bind (wpAny_mono pp (fun ws s2 z=>?_) fun _ _ e=>e)
 obtain⟨ps,H2,I2,rel,z⟩:=z
 cases rel with
 |nil=>exact z.elim
 | @cons p0 q0 _ _ r1 rel=>
 cases rel with
 |cons _ _=>exact z.elim
 |nil=>
  obtain⟨x,y⟩:=p0
  obtain⟨w1,w2⟩:=q0
  obtain⟨b,k,rfl,e,eb,q2⟩:=z
  obtain⟨ra,rb⟩:=r1
  cases(show w1=Value.ref b from ra)
  refine wpAny_holding ?_
  rw[List.forIn_cons]
  obtain⟨z,hd,xs,rel,dd⟩:=dt_of I2.hok e
  have hx:xs=[]:=by cases rel;rfl
  subst hx
  refine wpAny_bind (wpAny_bind (wpAny_bind (wpAny_dictSet_heap (hsz:=Nat.zero_le _) (show X.A.units<cLine from Nat.lt_of_succ_lt hu) (q4d I2.hok eb) dd fun h' dd' hs=>wpAny_pure ?_)))
  dsimp only
  rw[List.forIn_nil]
  refine wpAny_pure (wpAny_pure (wpAny_pure (wpAny_pure ⟨.ref s.heap.objs.size,_,?_,rfl,q2⟩)))
  obtain⟨qo,es,ep,hq,h2,h3,h4,_,h5⟩:=dd'
  refine q6p I2 (by rw[e];exact True.intro) hs ⟨qo,hq⟩ ⟨by show 1<=sizeLine;decide,hd,_,((show KT H2 [] [] from .nil).put k eb rb).keeps fun c ys ec=>?_,qo,es,ep,hq,h2,h3,h4,h5⟩
  rw[qi (q2U ec e (fun z=>nomatch z))]
  exact ec
theorem q8p {X:Cx}{body:List Stmt}{h0:ExceptHandler}{hs:List ExceptHandler}{t:TS}{pos:Pos}(hb:PSs X.nox body t):PS X (.Try body (h0::hs) [] [] pos) t:=by
 intro pins s σ H D I h
 refine wpAny_Try_except (wpAny_mono (hb pins s σ H D (I.wish _) h) (fun f s1 z=>?_) (fun e s1 z=>False.elim z))
 have z:=SP.unwish z
 cases f with
 |next=>exact wpAny_execs_nil z
 |ret v=>exact z
 |brk=>exact z
 |cont=>exact z
end L2
namespace Tb
open PySem PySem.SetTable
def nxt (m i:Nat):Nat:=(i*5+1) % (m+1)
def itr (m:Nat):Nat->Nat->Nat
 |0,i=>i
 |n+1,i=>itr m n (nxt m i)
def orb (m:Nat):Nat->Nat->Nat->Nat
 |0,_,acc=>acc
 |n+1,i,acc=>orb m n (nxt m i) (acc ||| 1 <<< i)
theorem q4C (m:Nat):∀a b i,itr m (a+b) i=itr m b (itr m a i)
 |0,b,i=>by rw[Nat.zero_add];rfl
 |a+1,b,i=>by rw[Nat.succ_add];exact q4C m a b (nxt m i)
theorem q8B (m:Nat):∀n i acc j,(orb m n i acc).testBit j=true->acc.testBit j=true\/∃k,k<n/\itr m k i=j
 |0,i,acc,j,h=> .inl h
 |n+1,i,acc,j,h=>by
  rcases q8B m n (nxt m i) _ j h with h|⟨k,hk,e⟩
  ·rw [Nat.testBit_or,Bool.or_eq_true] at h
   rcases h with h|h
   ·exact .inl h
   ·rw [Nat.one_shiftLeft,Nat.testBit_two_pow,decide_eq_true_eq] at h
    exact .inr ⟨0,Nat.succ_pos n,h⟩
  ·exact .inr ⟨k+1,Nat.succ_lt_succ hk,e⟩
def Full (m:Nat):Prop:=orb m (m+1) 0 0=2 ^ (m+1) - 1/\itr m (m+1) 0=0
theorem Full.go {m i j:Nat}(h:Full m)(hi:i<=m)(hj:j<=m):∃n,n<=m/\itr m n i=j:=by
 have hit:∀x,x<=m->∃k,k<m+1/\itr m k 0=x:=fun x hx=>by
  have:(orb m (m+1) 0 0).testBit x=true:=by rw[h.1,Nat.testBit_two_pow_sub_one];exact decide_eq_true (by omega)
  rcases q8B m _ _ _ _ this with z|z
  ·simp at z
  ·exact z
 obtain⟨a,ha,ea⟩:=hit i hi
 obtain⟨b,hb,eb⟩:=hit j hj
 by_cases le:a<=b
 ·exact ⟨b - a,by omega,by rw[<-ea,<-q4C,show a+(b - a)=b by omega];exact eb⟩
 ·refine ⟨m+1 - a+b,by omega,?_⟩
  rw[<-ea,<-q4C,show a+(m+1 - a+b)=m+1+b by omega,q4C,h.2]
  exact eb
theorem full7:Full 7:=by constructor<;>decide +kernel
theorem full31:Full 31:=by constructor<;>decide +kernel
theorem qd2:Full 127:=by constructor<;>decide +kernel
theorem qd1:Full 511:=by constructor<;>decide +kernel
def lps (m:Nat):Nat->Nat×Nat->Nat×Nat
 |0,x=>x
 |n+1,x=>lps m n (leap m x.1 x.2)
theorem q8O (m:Nat):∀a b x,lps m (a+b) x=lps m b (lps m a x)
 |0,b,x=>by rw[Nat.zero_add];rfl
 |a+1,b,x=>by rw[Nat.succ_add];exact q8O m a b (leap m x.1 x.2)
theorem q8N (m:Nat):∀n x,(lps m n x).2=x.2 / 32 ^ n
 |0,x=>by simp[lps]
 |n+1,x=>by
  rw[lps,q8N m n]
  show x.2 / 32 / 32 ^ n=_
  rw[Nat.div_div_eq_div_mul,Nat.pow_succ,Nat.mul_comm]
theorem qbt (m:Nat):∀n x,x.1<=m->(lps m n x).1<=m
 |0,x,h=>h
 |n+1,x,_=>qbt m n _ (Nat.le_of_lt_succ (Nat.mod_lt _ (Nat.succ_pos m)))
theorem q6V (m:Nat):∀n i,lps m n (i,0)=(itr m n i,0)
 |0,i=>rfl
 |n+1,i=>by
  show lps m n ((i*5+1+0 / 32) % (m+1),0 / 32)=_
  rw[Nat.zero_div,Nat.add_zero]
  exact q6V m n (nxt m i)
theorem reach {m i q j:Nat}(h:Full m)(hi:i<=m)(hq:q<2 ^ 64)(hj:j<=m):∃n,n<=m+13/\(lps m n (i,q)).1=j:=by
 have h2:(lps m 13 (i,q)).2=0:=by rw[q8N];exact Nat.div_eq_of_lt (Nat.lt_of_lt_of_le hq (by decide))
 have h1:=qbt m 13 (i,q) hi
 obtain⟨n,hn,e⟩:=h.go h1 hj
 refine⟨13+n,by omega,?_⟩
 rw[q8O,show lps m 13 (i,q)=((lps m 13 (i,q)).1,0) from Prod.ext rfl h2,q6V]
 exact e
def adv (t:SetTable):Nat->Probe->Probe
 |0,p=>p
 |n+1,p=>adv t n (t.advance p)
theorem q9P (t:SetTable):∀a b p,adv t (a+b) p=adv t b (adv t a p)
 |0,b,p=>by rw[Nat.zero_add];rfl
 |a+1,b,p=>by rw[Nat.succ_add];exact q9P t a b (t.advance p)
def frs (m:Nat)(x:Nat×Nat):Probe:={j:=x.1,more:=runEnd m x.1 - x.1,i:=x.1,perturb:=x.2,dummy:=none}
theorem run (t:SetTable):∀(r:Nat) (p:Probe),p.more=r->p.dummy=none->adv t (r+1) p=frs t.mask (leap t.mask p.i p.perturb)
 |0,p,h,hd=>by
  show t.advance p=_
  unfold advance
  rw[if_neg (by omega)]
  cases p
  cases hd
  rfl
 |r+1,p,h,hd=>by
  show adv t (r+1) (t.advance p)=_
  have e:t.advance p={p with j:=p.j+1,more:=p.more - 1}:=by unfold advance;rw[if_pos (by omega)]
  rw[e]
  exact run t r _ (by show p.more - 1=r;omega) hd
theorem runs (t:SetTable):∀(n:Nat) (x:Nat×Nat),∃k,k<=10*n/\adv t k (frs t.mask x)=frs t.mask (lps t.mask n x)
 |0,x=>⟨0,Nat.le_refl _,rfl⟩
 |n+1,x=>by
  obtain⟨k,hk,e⟩:=runs t n (leap t.mask x.1 x.2)
  refine⟨(runEnd t.mask x.1 - x.1+1)+k,?_,?_⟩
  ·have:runEnd t.mask x.1<=x.1+9:=by unfold runEnd;split<;>omega
   omega
  ·rw [q9P,run t (runEnd t.mask x.1 - x.1) (frs t.mask x) rfl rfl]
   exact e
theorem q9K (h:Int):bits h<2 ^ 64:=by
 unfold bits
 have h1:0<=h % (2 ^ 64:Int):=Int.emod_nonneg _ (by decide)
 have h2:h % (2 ^ 64:Int)<2 ^ 64:=Int.emod_lt_of_pos _ (by decide)
 omega
theorem q5d (t:SetTable)(h:Int):t.probeStart h=frs t.mask (bits h % (t.mask+1),bits h):=rfl
theorem way (t:SetTable)(h:Int)(hF:Full t.mask){j:Nat}(hj:j<=t.mask):∃k,k<=10*(t.mask+13)/\(adv t k (t.probeStart h)).j=j/\(adv t k (t.probeStart h)).dummy=none:=by
 obtain⟨n,hn,e⟩:=reach hF (Nat.le_of_lt_succ (Nat.mod_lt (bits h) (Nat.succ_pos t.mask))) (q9K h) hj
 obtain⟨k,hk,e2⟩:=runs t n (bits h % (t.mask+1),bits h)
 refine⟨k,by omega,?_,?_⟩
 ·rw [q5d,e2];exact e
 ·rw [q5d,e2];rfl
theorem q9O (t:SetTable)(p:Probe):(t.advance p).dummy=p.dummy:=by
 unfold advance
 split<;>rfl
theorem adv_j {t:SetTable}{p:Probe}(h:p.j+p.more<=t.mask):(t.advance p).j+(t.advance p).more<=t.mask:=by
 unfold advance
 split
 ·show p.j+1+(p.more - 1)<=_;omega
 ·have:(leap t.mask p.i p.perturb).1<=t.mask:=Nat.le_of_lt_succ (Nat.mod_lt _ (Nat.succ_pos _))
  show(leap t.mask p.i p.perturb).1+(runEnd t.mask (leap t.mask p.i p.perturb).1 - (leap t.mask p.i p.perturb).1)<=_
  unfold runEnd
  split<;>omega
theorem qbU (t:SetTable)(h:Int):(t.probeStart h).j+(t.probeStart h).more<=t.mask:=by
 have:bits h % (t.mask+1)<=t.mask:=Nat.le_of_lt_succ (Nat.mod_lt _ (Nat.succ_pos _))
 show bits h % (t.mask+1)+(runEnd t.mask (bits h % (t.mask+1)) - bits h % (t.mask+1))<=_
 unfold runEnd
 split<;>omega
theorem qcF {t:SetTable}(hd:t.dummies= #[])(j:Nat):t.slot j≠ .dummy:=by
 unfold slot
 intro z
 dsimp only at z
 split at z
 ·cases z
 ·rw [hd] at z
  simp[has] at z
theorem q6N {t:SetTable}{hashAt:Nat->Int}{h:Int}(hd:t.dummies= #[]):∀(fuel k:Nat) (p:Probe),k<fuel->t.slot (adv t k p).j= .empty->p.dummy=none->p.j+p.more<=t.mask->
  (∃j,probe.go t hashAt h fuel p=some (.empty j none)/\t.slot j= .empty/\j<=t.mask)\/∃j i p',probe.go t hashAt h fuel p=some (.candidate j i p')/\t.slot j= .live i/\p'.dummy=none/\p'.j+p'.more<=t.mask/\∃k',k'<k/\t.slot (adv t k' p').j= .empty
 |0,k,p,hk,_,_,_=>absurd hk (Nat.not_lt_zero k)
 |fuel+1,k,p,hk,he,hp,hj=>by
  cases e:t.slot p.j with
  |empty=>exact .inl ⟨p.j,by unfold probe.go;rw[e,hp],e,by omega⟩
  |dummy=>exact absurd e (qcF hd p.j)
  |live i=>
   cases k with
   |zero=>rw[show(adv t 0 p).j=p.j from rfl,e] at he;cases he
   |succ k=>
    have he':t.slot (adv t k (t.advance p)).j= .empty:=he
    have hp':(t.advance p).dummy=none:=by rw[q9O];exact hp
    by_cases hh:(hashAt i==h)=true
    ·exact .inr ⟨p.j,i,t.advance p,by unfold probe.go;rw[e];dsimp only;rw[if_pos hh],e,hp',adv_j hj,k,Nat.lt_succ_self k,he'⟩
    ·have eq:probe.go t hashAt h (fuel+1) p=probe.go t hashAt h fuel (t.advance p):=by
      conv=>lhs;unfold probe.go
      rw[e];dsimp only;rw[if_neg hh]
     rw[eq]
     rcases q6N hd fuel k (t.advance p) (Nat.lt_of_succ_lt_succ hk) he' hp' (adv_j hj) with z|⟨j,i',p',z1,z2,z3,z4,k',z5,z6⟩
     ·exact .inl z
     ·exact .inr ⟨j,i',p',z1,z2,z3,z4,k',Nat.lt_succ_of_lt z5,z6⟩
abbrev Ris (xs:Array Nat):Prop:=xs.toList.Pairwise (· < ·)
theorem q6J {xs:Array Nat}(hr:Ris xs){i k:Nat}(hk:k<xs.size)(h:i<k):xs[i]'(by omega)<xs[k]:=by
 have:=List.pairwise_iff_getElem.mp hr i k (by simp;omega) (by simpa using hk) h
 simpa using this
theorem qcZ {xs:Array Nat}{i j:Nat}(h:i<xs.size):xs.getD i j=xs[i]:=by simp[Array.getD,h]
theorem q4Q {xs:Array Nat}{j:Nat}(hr:Ris xs):∀(fuel lo hi:Nat),hi - lo<=fuel->lo<=hi->hi<=xs.size->(∀i (h:i<xs.size),i<lo->xs[i]<j)->(∀i (h:i<xs.size),hi<=i->j<=xs[i])->
  below.go xs j fuel lo hi<=xs.size/\(∀i (h:i<xs.size),i<below.go xs j fuel lo hi->xs[i]<j)/\∀i (h:i<xs.size),below.go xs j fuel lo hi<=i->j<=xs[i]
 |0,lo,hi,h1,h2,h3,h4,h5=>by
  have:lo=hi:=by omega
  subst this
  exact⟨h3,h4,h5⟩
 |fuel+1,lo,hi,h1,h2,h3,h4,h5=>by
  unfold below.go
  by_cases hl:lo<hi
  ·rw [if_pos hl]
   have hm:(lo+hi) / 2<xs.size:=by omega
   dsimp only
   rw[qcZ hm]
   by_cases hx:xs[(lo+hi) / 2]<j
   ·rw [if_pos hx]
    refine q4Q hr fuel _ hi (by omega) (by omega) h3 (fun i h hi'=>?_) h5
    by_cases e:i=(lo+hi) / 2
    ·subst e;exact hx
    ·exact Nat.lt_trans (q6J hr hm (by omega)) hx
   ·rw [if_neg hx]
    refine q4Q hr fuel lo _ (by omega) (by omega) (by omega) h4 fun i h hi'=>?_
    by_cases e:i=(lo+hi) / 2
    ·subst e;omega
    ·have:=q6J hr h (show(lo+hi) / 2<i by omega)
     omega
  ·rw [if_neg hl]
   have:lo=hi:=by omega
   subst this
   exact⟨h3,h4,h5⟩
theorem q23 {xs:Array Nat}(hr:Ris xs)(j:Nat):below xs j<=xs.size/\(∀i (h:i<xs.size),i<below xs j->xs[i]<j)/\∀i (h:i<xs.size),below xs j<=i->j<=xs[i]:=
 q4Q hr _ _ _ (by omega) (Nat.zero_le _) (Nat.le_refl _) (fun i _ h=>absurd h (Nat.not_lt_zero i)) fun i h h'=>by omega
theorem q7N {xs:Array Nat}(hr:Ris xs){i:Nat}(hi:i<xs.size):below xs (xs[i]+1)=i+1:=by
 obtain⟨h1,h2,h3⟩:=q23 hr (xs[i]+1)
 have a:¬below xs (xs[i]+1)<=i:=fun z=>by have:=h3 i hi z;omega
 have b:¬i+1<below xs (xs[i]+1):=fun z=>by
  have:=h2 (i+1) (by omega) z
  have:=q6J hr (show i+1<xs.size by omega) (Nat.lt_succ_self i)
  omega
 omega
theorem q7M {xs:Array Nat}(hr:Ris xs):below xs 0=0:=by
 obtain⟨h1,h2,h3⟩:=q23 hr 0
 apply Nat.eq_zero_of_not_pos
 intro z
 have:=h2 0 (by omega) z
 omega
theorem qcN {t:SetTable}{j i:Nat}(h:t.slot j= .live i):i<t.place.size:=by
 unfold slot at h
 dsimp only at h
 split at h
 ·rename_i e
  cases h
  have e:t.place[below t.place j]? =some j:=by simpa using e
  exact(Array.getElem?_eq_some_iff.mp e).1
 ·split at h<;>cases h
theorem qb2 {t:SetTable}{j:Nat}(hd:t.dummies= #[])(h:j∉t.place.toList):t.slot j= .empty:=by
 unfold slot
 dsimp only
 have:¬(t.place[below t.place j]? ==some j)=true:=fun z=>by
  have e:t.place[below t.place j]? =some j:=by simpa using z
  exact h (by have:=Array.mem_of_getElem? e;simpa using this)
 rw[if_neg this,hd]
 simp[has]
theorem q9i {t:SetTable}{j:Nat}(hr:Ris t.place)(h:t.slot j= .empty):j∉t.place.toList:=by
 intro hm
 obtain⟨i,hi,e⟩:=List.getElem_of_mem hm
 have hi':i<t.place.size:=by simpa using hi
 have e':t.place[i]=j:=by simpa using e
 obtain⟨h1,h2,h3⟩:=q23 hr j
 have a:¬i<below t.place j:=fun z=>by have:=h2 i hi' z;omega
 have b:below t.place j=i:=by
  by_cases z:below t.place j=i
  ·exact z
  ·have q:=h3 (below t.place j) (by omega) (Nat.le_refl _)
   have:=q6J hr hi' (show below t.place j<i by omega)
   omega
 unfold slot at h
 dsimp only at h
 rw[b,if_pos (by rw[Array.getElem?_eq_getElem hi',e'];simp)] at h
 cases h
theorem sub_len {l m:List Nat}(hn:l.Nodup)(h:∀x∈l,x∈m):l.length<=m.length:=by
 induction l generalizing m with
 |nil=>exact Nat.zero_le _
 |cons x l ih=>
  rw[List.nodup_cons] at hn
  have hx:=h x (.head _)
  have:=ih (m:=m.erase x) hn.2 fun y hy=>(List.mem_erase_of_ne fun e=>hn.1 (by rw[<-e];exact hy)).mpr (h y (List.mem_cons_of_mem _ hy))
  rw[List.length_erase_of_mem hx] at this
  have:0<m.length:=List.length_pos_of_mem hx
  rw[List.length_cons]
  omega
theorem q98 {m:Nat}{l:List Nat}(h:l.length<=m):∃j,j<=m/\j∉l:=by
 apply Classical.byContradiction
 intro z
 have:=sub_len (l:=List.range (m+1)) (m:=l) List.nodup_range fun x hx=>Classical.byContradiction fun y=>z ⟨x,by have:=List.mem_range.mp hx;omega,y⟩
 rw[List.length_range] at this
 omega
structure Ok (t:SetTable)(n:Nat)(led:Bool):Prop where
 dum:t.dummies= #[]
 sz:t.place.size=n
 ris:Ris t.place
 le:∀j∈t.place.toList,j<=t.mask
 full:Full t.mask
 odd:t.mask % 2=1
 few:n<=t.mask
 pl:t.plain=true
 ld:t.led=led
theorem Ok.fits {t:SetTable}{n:Nat}{led:Bool}(h:Ok t n led):t.place.size=n/\t.fill<=t.mask:=⟨h.sz,by unfold fill;rw[h.dum,h.sz];exact h.few⟩
theorem Ok.put {t:SetTable}{n j:Nat}{led:Bool}(h:Ok t n led)(he:t.slot j= .empty)(hj:j<=t.mask)(hn:n+1<=t.mask):Ok (t.put j).1 (n+1) led/\(t.put j).2<=n:=by
 have hd:has t.dummies j=false:=by rw[h.dum];simp[has]
 obtain⟨h1,h2,h3⟩:=q23 h.ris j
 have hno:=q9i h.ris he
 have tl:(insertAt t.place (below t.place j) j).toList=t.place.toList.take (below t.place j)++j::t.place.toList.drop (below t.place j):=by simp[insertAt,List.extract_eq_take_drop,List.take_of_length_le]
 have e1:(t.put j).1={t with place:=insertAt t.place (below t.place j) j}:=by unfold SetTable.put;dsimp only;rw[hd];simp
 rw[e1]
 refine⟨⟨h.dum,?_,?_,?_,h.full,h.odd,hn,h.pl,h.ld⟩,by rw[<-h.sz];exact h1⟩
 ·show (insertAt t.place (below t.place j) j).size=n+1
  have:=h.sz
  rw[<-Array.length_toList,tl,List.length_append,List.length_cons,List.length_take,List.length_drop,Array.length_toList]
  omega
 ·show (insertAt t.place (below t.place j) j).toList.Pairwise (· < ·)
  rw[tl]
  have lo:∀x∈t.place.toList.take (below t.place j),x<j:=fun x hx=>by
   obtain⟨i,hi,e⟩:=List.getElem_of_mem hx
   rw[List.length_take] at hi
   rw[List.getElem_take] at e
   have hi':i<t.place.size:=by have:=Array.length_toList (xs:=t.place);omega
   have:=h2 i hi' (by omega)
   rw[<-e]
   simpa using this
  have hi:∀x∈t.place.toList.drop (below t.place j),j<x:=fun x hx=>by
   obtain⟨i,hi,e⟩:=List.getElem_of_mem hx
   rw[List.length_drop] at hi
   rw[List.getElem_drop] at e
   have hi':below t.place j+i<t.place.size:=by have:=Array.length_toList (xs:=t.place);omega
   have:=h3 _ hi' (Nat.le_add_right _ _)
   have ne:x≠j:=fun z=>hno (by rw[<-z];exact List.mem_of_mem_drop hx)
   have e':t.place[below t.place j+i]=x:=by simpa using e
   omega
  refine List.pairwise_append.mpr ⟨List.Pairwise.sublist (List.take_sublist _ _) h.ris,List.pairwise_cons.mpr ⟨hi,List.Pairwise.sublist (List.drop_sublist _ _) h.ris⟩,fun a ha b hb=>?_⟩
  rcases List.mem_cons.mp hb with rfl|hb
  ·exact lo a ha
  ·exact Nat.lt_trans (lo a ha) (hi b hb)
 ·show∀x∈(insertAt t.place (below t.place j) j).toList,x<=t.mask
  rw[tl]
  intro x hx
  rcases List.mem_append.mp hx with z|z
  ·exact h.le x (List.mem_of_mem_take z)
  ·rcases List.mem_cons.mp z with rfl|z
   ·exact hj
   ·exact h.le x (List.mem_of_mem_drop z)
theorem q4H {α β:Type}{f g:α->Option β}:∀{l:List α},(∀x∈l,f x=g x)->l.filterMap f=l.filterMap g
 |[],_=>rfl
 |x::l,h=>by rw[List.filterMap_cons,List.filterMap_cons,h x (.head _),q4H fun y hy=>h y (List.mem_cons_of_mem _ hy)]
theorem q97 {m:Nat}{owner:Array (Option Nat)}:∀(fuel n i q:Nat),n<fuel->owner.getD (lps m n (i,q)).1 (some 0)=none->i<=m->∃j,layClean.free m owner fuel i q=some j/\j<=m/\owner.getD j (some 0)=none
 |0,n,i,q,h,_,_=>absurd h (Nat.not_lt_zero n)
 |fuel+1,n,i,q,h,he,hi=>by
  unfold layClean.free
  cases e:(List.range (runEnd m i+1 - i)).find? (fun k=>(owner.getD (i+k) (some 0)).isNone) with
  |some k=>
   have h1:=List.mem_range.mp (List.mem_of_find?_eq_some e)
   have h2:=List.find?_some e
   refine⟨i+k,rfl,?_,by simpa using h2⟩
   unfold runEnd at h1
   split at h1<;>omega
  |none=>
   cases n with
   |zero=>
    have:=List.find?_eq_none.mp e 0 (List.mem_range.mpr (by unfold runEnd;split<;>omega))
    rw[Nat.add_zero,show owner.getD i (some 0)=none from he] at this
    exact absurd rfl this
   |succ n=>exact q97 fuel n _ _ (Nat.lt_of_succ_lt_succ h) he (Nat.le_of_lt_succ (Nat.mod_lt _ (Nat.succ_pos m)))
def lvs (m:Nat)(owner:Array (Option Nat)):List (Nat×Nat):=(List.range (m+1)).filterMap fun j=>(owner.getD j none).map (j,·)
structure Own (m:Nat)(owner:Array (Option Nat))(k:Nat):Prop where
 sz:owner.size=m+1
 pm:((lvs m owner).map (·.2)).Perm (List.range k)
theorem qbx {g:Nat->Option (Nat×Nat)}{j:Nat}{x:Nat×Nat}(hg:g j=none):∀{l:List Nat},l.Nodup->j∈l->(l.filterMap fun i=>if i=j then some x else g i).Perm (x::l.filterMap g)
 |y::l,hn,hj=>by
  rw[List.nodup_cons] at hn
  by_cases e:y=j
  ·subst e
   rw[List.filterMap_cons_some (b:=x) (by simp),List.filterMap_cons_none hg]
   have:(l.filterMap fun i=>if i=y then some x else g i)=l.filterMap g:=by
    apply q4H
    intro a ha
    rw[if_neg fun z=>hn.1 (by rw[<-z];exact ha)]
   rw[this]
  ·have ih:=qbx (x:=x) hg hn.2 ((List.mem_cons.mp hj).resolve_left fun z=>e z.symm)
   cases hy:g y with
   |none=>
    rw[List.filterMap_cons_none (by rw[if_neg e];exact hy),List.filterMap_cons_none hy]
    exact ih
   |some z=>
    rw[List.filterMap_cons_some (b:=z) (by rw[if_neg e];exact hy),List.filterMap_cons_some hy]
    exact(ih.cons z).trans (List.Perm.swap x z _)
theorem q9c (g:Nat->Option Nat):∀l:List Nat,((l.filterMap fun j=>(g j).map (j,·)).map (·.1)).Sublist l
 |[]=> .slnil
 |x::l=>by
  cases e:g x with
  |none=>rw[List.filterMap_cons_none (by rw[e];rfl)];exact(q9c g l).cons x
  |some y=>rw[List.filterMap_cons_some (b:=(x,y)) (by rw[e];rfl),List.map_cons];exact(q9c g l).cons₂ x
theorem Own.new (m:Nat):Own m (Array.replicate (m+1) none) 0:=⟨by simp,by
 have:lvs m (Array.replicate (m+1) none)=[]:=by
  unfold lvs
  rw[List.filterMap_eq_nil_iff]
  intro j _
  simp[Array.getD]
 rw[this]
 exact .refl _⟩
theorem Own.put {m k j:Nat}{owner:Array (Option Nat)}(h:Own m owner k)(hj:j<=m)(he:owner.getD j (some 0)=none):Own m (owner.setIfInBounds j (some k)) (k+1):=by
 refine⟨by simp[h.sz],?_⟩
 have hs:j<owner.size:=by rw[h.sz];omega
 have e:lvs m (owner.setIfInBounds j (some k))=(List.range (m+1)).filterMap fun i=>if i=j then some (j,k) else(owner.getD i none).map (i,·):=by
  unfold lvs
  apply q4H
  intro i hi
  have hi':i<owner.size:=by rw[h.sz];exact List.mem_range.mp hi
  by_cases z:i=j
  ·subst z
   simp[Array.getD,hi']
  ·simp [Array.getD,hi',z,Array.getElem_setIfInBounds,Ne.symm z]
 have hg:(owner.getD j none).map (j,·)=none:=by
  have:owner.getD j none=none:=by
   simp[Array.getD,hs] at he ⊢
   exact he
  rw[this];rfl
 have p:=(qbx (g:=fun i=>(owner.getD i none).map (i,·)) (x:=(j,k)) (l:=List.range (m+1)) hg List.nodup_range (List.mem_range.mpr (Nat.lt_succ_of_le hj))).map (·.2)
 rw[e]
 refine p.trans ?_
 rw[List.map_cons,List.range_succ (n:=k)]
 exact((h.pm).cons k).trans (List.perm_append_singleton k (List.range k)).symm
theorem Own.free {m k:Nat}{owner:Array (Option Nat)}(h:Own m owner k)(hk:k<=m):∃j,j<=m/\owner.getD j (some 0)=none:=by
 have hl:((lvs m owner).map (·.1)).length<=m:=by
  have:=h.pm.length_eq
  rw[List.length_map,List.length_range] at this
  rw[List.length_map]
  omega
 obtain⟨j,hj,hn⟩:=q98 hl
 refine⟨j,hj,?_⟩
 have hs:j<owner.size:=by rw[h.sz];omega
 cases e:owner.getD j (some 0) with
 |none=>rfl
 |some x=>
  exfalso
  apply hn
  refine List.mem_map.mpr ⟨(j,x),List.mem_filterMap.mpr ⟨j,List.mem_range.mpr (by omega),?_⟩,rfl⟩
  have:owner.getD j none=some x:=by
   simp[Array.getD,hs] at e ⊢
   exact e
  rw[this];rfl
theorem qbv {m:Nat}(hF:Full m):∀(hs:List Int) (owner:Array (Option Nat)) (k:Nat),Own m owner k->k+hs.length<=m->∃owner',(hs.foldl (fun acc h=>do
  let (owner,k)<-acc
  let j<-layClean.free m owner (turns m) (bits h % (m+1)) (bits h)
  pure (owner.setIfInBounds j (some k),k+1)) (some (owner,k)))=some (owner',k+hs.length)/\Own m owner' (k+hs.length)
 |[],owner,k,h,_=>⟨owner,rfl,h⟩
 |x::hs,owner,k,h,hl=>by
  rw[List.length_cons] at hl ⊢
  obtain⟨j0,hj0,e0⟩:=h.free (by omega)
  have hi:bits x % (m+1)<=m:=Nat.le_of_lt_succ (Nat.mod_lt _ (Nat.succ_pos _))
  obtain⟨n,hn,en⟩:=reach hF hi (q9K x) hj0
  obtain⟨j,e1,h1,h2⟩:=q97 (m:=m) (owner:=owner) (turns m) n (bits x % (m+1)) (bits x) (by unfold turns;omega) (by rw[en];exact e0) hi
  obtain⟨o',e2,h3⟩:=qbv hF hs _ (k+1) (h.put h1 h2) (by omega)
  rw[show k+(hs.length+1)=k+1+hs.length by omega]
  refine⟨o',?_,h3⟩
  rw[List.foldl_cons,<-e2]
  show List.foldl _ (Option.bind (layClean.free m owner (turns m) (bits x % (m+1)) (bits x)) _) hs=_
  rw[e1]
  rfl
theorem qcP {m fg mv:Nat}{led:Bool}(hF:Full m)(ho:m % 2=1)(hs:Array Int)(hl:hs.size<=m):∃t order,laid m fg mv led true hs=some (t,order)/\Ok t hs.size led/\t.mask=m/\order.toList.Perm (List.range hs.size):=by
 obtain⟨o',e,h⟩:=qbv hF hs.toList _ 0 (Own.new m) (by simpa using hl)
 have e2:layClean m hs=some o':=by
  unfold layClean
  rw[<-Array.foldl_toList]
  rw[show(hs.toList.foldl _ (some (Array.replicate (m+1) none,0)))=_ from e]
  rfl
 simp only[Nat.zero_add,Array.length_toList] at h
 have p1:(lvs m o').length=hs.size:=by have:=h.pm.length_eq;rwa [List.length_map,List.length_range] at this
 have p2:((lvs m o').map (·.1)).Pairwise (· < ·):=List.Pairwise.sublist (q9c _ _) List.pairwise_lt_range
 have p3:∀j∈(lvs m o').map (·.1),j<=m:=fun j hj=>by
  obtain⟨x,hx,rfl⟩:=List.mem_map.mp hj
  obtain⟨i,hi,ei⟩:=List.mem_filterMap.mp hx
  obtain⟨y,_,rfl⟩:=Option.map_eq_some_iff.mp ei
  have:=List.mem_range.mp hi
  show i<=m
  omega
 refine⟨_,_,by unfold laid;rw[e2];rfl,⟨rfl,by show((lvs m o').map (·.1)).toArray.size=_;simp[p1],by show((lvs m o').map (·.1)).toArray.toList.Pairwise _;exact p2,by show∀j∈((lvs m o').map (·.1)).toArray.toList,_;exact p3,hF,ho,hl,rfl,rfl⟩,rfl,?_⟩
 show((lvs m o').map (·.2)).toArray.toList.Perm _
 exact h.pm
end Tb
namespace Tb
open PySem PySem.SetTable
section
variable {prog:Program}{w:World}{A:Around}{E:Value->Shared->Prop}{s:Shared}
abbrev IsT (prog:Program)(w:World)(h:Heap)(k:List Int)(p:Addr):Prop:=IsTupleKey (intKind prog w) h k p
abbrev hsh (prog:Program)(w:World)(k:List Int):Int:=tupleKeyHash (intKind prog w) k
theorem items_int {k:List Int}{vs:List Value}(h:ItemsAre (intKind prog w) k vs):∀v∈vs,∃n t,v= .int n t:=by
 induction h with
 |nil=>exact fun v hv=>nomatch hv
 |cons h1 _ ih=>
  intro v hv
  rcases List.mem_cons.mp hv with rfl|hv
  ·obtain ⟨t,e⟩:=Value.isInt_shape h1
   exact⟨_,t,e⟩
  ·exact ih v hv
theorem hbv {k:List Int}{p:Addr}{Q:Bool->Shared->Prop}(hk:IsT prog w s.heap k p)(h:Q true s):wpAny (model prog w) A (hashByValue 8 (.ref p)) Q E s:=by
 have hT:=hk.typeIs
 obtain⟨o,items,n,ho,_,hd,hi⟩:=hk
 unfold hashByValue
 refine wpAny_bind (wpAny_specialOf hT F.slot_tuple_hash.lookup ?_)
 dsimp only
 refine wpAny_bind (wpAny_seqItems ho hd ?_)
 refine wpAny_bind ?_
 show wpAny _ _ (forIn items _ _) _ _ s
 rw[<-Array.forIn_toList]
 refine wpAny_forIn_list _ (fun rest r s'=>r.1=none/\s'=s/\∀v∈rest,∃n t,v= .int n t) _ ?_ ?_ _ _ ⟨rfl,rfl,items_int hi⟩
 ·rintro v rest r s' ⟨hr,rfl,hall⟩
  obtain⟨m,t,rfl⟩:=hall v (.head _)
  refine wpAny_bind (m:=hashByValue 7 (.int m t)) (wpAny_pure ?_)
  exact wpAny_pure ⟨rfl,rfl,fun u hu=>hall u (List.mem_cons_of_mem _ hu)⟩
 ·rintro ⟨r1,r2⟩ s' ⟨hr,rfl,_⟩
  cases hr
  exact wpAny_pure h
theorem ncs {k:List Int}{p:Addr}{Q:Bool->Shared->Prop}(hk:IsT prog w s.heap k p)(h:Q false s):wpAny (model prog w) A (ofAClassStatement 8 (.ref p)) Q E s:=by
 have hT:=hk.typeIs
 obtain⟨o,items,n,ho,_,hd,hi⟩:=hk
 unfold ofAClassStatement
 refine wpAny_bind (wpAny_typeOf hT ?_)
 dsimp only
 rw[if_pos (by decide)]
 refine wpAny_bind (wpAny_pure ?_)
 rw[if_neg (by decide)]
 refine wpAny_bind (wpAny_seqItems ho hd ?_)
 dsimp only
 refine wpAny_bind ?_
 rw[<-Array.forIn_toList]
 refine wpAny_forIn_list _ (fun rest r s'=>r.1=none/\s'=s/\∀v∈rest,∃n t,v= .int n t) _ ?_ ?_ _ _ ⟨rfl,rfl,items_int hi⟩
 ·rintro v rest r s' ⟨hr,rfl,hall⟩
  obtain⟨m,t,rfl⟩:=hall v (.head _)
  refine wpAny_bind (m:=ofAClassStatement 7 (.int m t)) (wpAny_pure ?_)
  exact wpAny_pure ⟨rfl,rfl,fun u hu=>hall u (List.mem_cons_of_mem _ hu)⟩
 ·rintro ⟨r1,r2⟩ s' ⟨hr,rfl,_⟩
  cases hr
  exact wpAny_pure h
theorem unseen {k:List Int}{p:Addr}{ys:List Value}{Q:Bool->Shared->Prop}(hk:IsT prog w s.heap k p)(hy:∀v∈ys,∃q m,v= .ref q/\IsT prog w s.heap m q)(h:Q false s):wpAny (model prog w) A (searchCouldBeSeen (.ref p) ys) Q E s:=by
 unfold searchCouldBeSeen
 refine wpAny_bind ?_
 refine wpAny_forIn_list _ (fun rest r s'=>r.1=none/\s'=s/\∀v∈rest,∃q m,v= .ref q/\IsT prog w s.heap m q) _ ?_ ?_ _ _ ⟨rfl,rfl,hy⟩
 ·rintro v rest r s' ⟨hr,rfl,hall⟩
  obtain⟨q,m,rfl,hq⟩:=hall v (.head _)
  have ok:(none:Option Bool)=none/\s'=s'/\∀v∈rest,∃q m,v= .ref q/\IsT prog w s'.heap m q:=⟨rfl,rfl,fun u hu=>hall u (List.mem_cons_of_mem _ hu)⟩
  dsimp only
  split
  ·exact wpAny_pure ok
  ·refine wpAny_bind (wpAny_eqIsQuiet_tuple hk ?_)
   rw[if_neg (by decide)]
   refine wpAny_bind (wpAny_eqIsQuiet_tuple hq ?_)
   rw[if_neg (by decide)]
   refine wpAny_bind (ncs hk ?_)
   rw[if_neg (by decide)]
   refine wpAny_bind (ncs hq ?_)
   rw[if_neg (by decide)]
   exact wpAny_pure ok
 ·rintro ⟨r1,r2⟩ s' ⟨hr,rfl,_⟩
  cases hr
  exact wpAny_pure h
theorem q5B {t:SetTable}{hashAt:Nat->Int}{h:Int}{k:Nat}{p:Probe}{r:Option Met}(hd:t.dummies= #[])(hk:k<10*turns t.mask)(he:t.slot (adv t k p).j= .empty)(hp:p.dummy=none)(hj:p.j+p.more<=t.mask)(e:t.probe hashAt h p=r):
  (∃j,r=some (.empty j none)/\t.slot j= .empty/\j<=t.mask)\/∃j i p',r=some (.candidate j i p')/\t.slot j= .live i/\p'.dummy=none/\p'.j+p'.more<=t.mask/\∃k',k'<k/\t.slot (adv t k' p').j= .empty:=by
 subst e
 exact q6N hd _ k p hk he hp hj
theorem wp_if {α:Type}{M:Model}{c:Prop}[Decidable c]{p q:Sem α}{Q:α->Shared->Prop}(hq:wpAny M A q Q E s)(hp:c->wpAny M A q Q E s->wpAny M A p Q E s):wpAny M A (if c then p else q) Q E s:=by
 split
 ·rename_i h;exact hp h hq
 ·exact hq
structure SO (prog:Program)(w:World)(h:Heap)(a:Addr)(xs:List (List Int×Addr))(led:Bool)(o:Obj)(es:Array (Int×Value))(ep:Nat)(t:SetTable):Prop where
 get:h.get? a=some o
 cls:o.cls= .type "set"
 dat:o.data= .set es ep t
 pm:es.toList.Perm (xs.map fun x=>(hsh prog w x.1,Value.ref x.2))
 ok:Ok t es.size led
 msk:t.mask=7\/t.mask=31\/t.mask=127\/t.mask=511
section
variable {a p:Addr}{xs:List (List Int×Addr)}{led:Bool}{o:Obj}{es:Array (Int×Value)}{ep:Nat}{t:SetTable}{k:List Int}
theorem SO.fits {hp:Heap}(h:SO prog w hp a xs led o es ep t):t.fits es.size=true:=by
 have:=h.ok.fits
 simp[SetTable.fits,this.1,this.2]
theorem SO.len (h:SO prog w s.heap a xs led o es ep t):es.size=xs.length:=by have:=h.pm.length_eq;simpa using this
theorem search (hS:SO prog w s.heap a xs led o es ep t)(hx:∀x∈xs,IsT prog w s.heap x.1 x.2)(hk:IsT prog w s.heap k p)(hn:k∉xs.map (·.1))(hu:A.units<cLine){ad:Bool}{Q:SetFound->Shared->Prop}(hQ:∀j,t.slot j= .empty->j<=t.mask->Q (.free j false) s):
  ∀(n fuel:Nat) (st:Option Probe),n<fuel->n<10*turns t.mask->t.slot (adv t n (st.getD (t.probeStart (hsh prog w k)))).j= .empty->(st.getD (t.probeStart (hsh prog w k))).dummy=none->(st.getD (t.probeStart (hsh prog w k))).j+(st.getD (t.probeStart (hsh prog w k))).more<=t.mask->
   wpAny (model prog w) A (setSearchFrom a (.ref p) (hsh prog w k) ad fuel st) Q E s:=by
 intro n
 induction n using Nat.strongRecOn with
 |ind n ih=>
 intro fuel st h1 h2 h3 h4 h5
 obtain⟨fuel,rfl⟩:∃f,fuel=f+1:=⟨fuel - 1,by omega⟩
 have el:∀i (hi:i<es.size),∃y q,es[i]=(hsh prog w y,.ref q)/\IsT prog w s.heap y q/\y≠k:=fun i hi=>by
  have:es[i]∈es.toList:=by simp
  obtain⟨x,hx',e⟩:=List.mem_map.mp (hS.pm.mem_iff.mp this)
  exact⟨x.1,x.2,e.symm,hx x hx',fun z=>hn (by rw[<-z];exact List.mem_map_of_mem hx')⟩
 unfold setSearchFrom
 refine wpAny_bind (wpAny_setState_of hS.get hS.dat hS.fits ?_)
 dsimp only
 have hg:t.gaveWay=false:=by unfold SetTable.gaveWay;rw[hS.ok.odd];rfl
 rw[if_neg (by rw[hg];decide)]
 refine wpAny_bind (wpAny_pure ?_)
 split
 ·rename_i met e
  rcases q5B hS.ok.dum h2 h3 h4 h5 e with⟨j,ez,e1,e2⟩|⟨j,i,p',ez,e1,e2,e3,n',e4,e5⟩
  ·cases ez
   exact wpAny_pure (hQ j e1 e2)
  ·cases ez
   have hi:i<es.size:=by have:=qcN e1;rw[hS.ok.sz] at this;exact this
   obtain⟨y,q,ey,hy,ne⟩:=el i hi
   dsimp only
   have fin:wpAny (model prog w) A (setSearchFrom a (.ref p) (hsh prog w k) ad fuel (some p')) Q E s:=ih n' e4 fuel (some p') (by omega) (by omega) e5 e2 e3
   rw[show es[i]? =some (hsh prog w y,Value.ref q) by rw[Array.getElem?_eq_getElem hi,ey]]
   dsimp only
   refine wp_if ?_ fun _ hY=>wpAny_bind (unseen hk (fun v hv=>?_) (by rw[if_neg (by decide)];exact hY))
   ·refine wpAny_bind (wpAny_holding (wpAny_eqBool_tuple hu hy hk ?_))
    rw[decide_eq_false ne]
    refine wpAny_bind (wpAny_setState_of hS.get hS.dat hS.fits ?_)
    dsimp only
    rw[if_neg (by simp),show t.sameMemory t.moves t.mask=some true by unfold SetTable.sameMemory;simp]
    dsimp only
    rw[if_pos rfl,e1]
    dsimp only
    rw[show es[i]? =some (hsh prog w y,Value.ref q) by rw[Array.getElem?_eq_getElem hi,ey]]
    exact wpAny_bind (wpAny_isSame_ref_self (wpAny_bind (wpAny_pure fin)))
   ·obtain ⟨z,hz,rfl⟩:=List.mem_map.mp hv
    have hz':z∈es:=by have q:=hz;simp at q;exact q.1
    obtain⟨i',hi',rfl⟩:=Array.getElem_of_mem hz'
    obtain⟨y',q',ey',hy',_⟩:=el i' hi'
    exact⟨q',y',by rw[ey'],hy'⟩
 ·rename_i e
  rcases q5B hS.ok.dum h2 h3 h4 h5 rfl with⟨j,ez,_⟩|⟨j,i,p',ez,_⟩
  ·exact absurd ez (e _)
  ·exact absurd ez (e _)
theorem sa20:sizeAbove 20=32:=by decide
theorem sa76:sizeAbove 76=128:=by decide
theorem sa308:sizeAbove 308=512:=by decide
theorem addNew (hS:SO prog w s.heap a xs led o es ep t)(hf:es.size*5<t.mask*3)(hx:∀x∈xs,IsT prog w s.heap x.1 x.2)(hk:IsT prog w s.heap k p)(hn:k∉xs.map (·.1))(hu:A.units<cLine)(hz:xs.length<300){Q:Bool->Shared->Prop}
  (hQ:∀h' o' es' ep' t',Heap.SameBut a s.heap h'->SO prog w h' a (xs++[(k,p)]) led o' es' ep' t'->es'.size*5<t'.mask*3->Q true {s with heap:=h'}):
  wpAny (model prog w) A (setAddHashed a (.ref p) (hsh prog w k)) Q E s:=by
 have hlen:=hS.len
 have hsz:es.size+1<=sizeLine:=by rw[sizeLine_eq];omega
 obtain⟨j0,hj0,e0⟩:=q98 (m:=t.mask) (l:=t.place.toList) (by rw[Array.length_toList,hS.ok.sz];exact hS.ok.few)
 obtain⟨n,hn',e1,e2⟩:=way t (hsh prog w k) hS.ok.full hj0
 have h3:t.slot (adv t n (t.probeStart (hsh prog w k))).j= .empty:=by rw[e1];exact qb2 hS.ok.dum e0
 have hm2:t.mask<2048:=by rcases hS.msk with e|e|e|e<;>omega
 unfold setAddHashed setAddHashedIn
 refine wpAny_holding (wpAny_bind (wpAny_setState_of hS.get hS.dat hS.fits ?_))
 dsimp only
 rw[if_neg (by simp[byScan,Value.scannable])]
 unfold setSearch
 refine wpAny_bind (search hS hx hk hn hu (fun j hj1 hj2=>?_) n 100000 none (by omega) (by unfold turns;omega) h3 rfl (qbU t _))
 dsimp only
 refine wpAny_bind (wpAny_setState_of hS.get hS.dat hS.fits ?_)
 dsimp only
 obtain⟨ok1,hp⟩:=hS.ok.put hj1 hj2 (by rcases hS.msk with e|e|e|e<;>rw[e] at hf ⊢ <;>omega)
 have em:(t.put j).1.mask=t.mask:=rfl
 generalize ht1:(t.put j).1=t1 at ok1 em
 generalize (t.put j).2=pl at hp
 rw[if_pos ok1.pl]
 refine wpAny_bind (hbv hk ?_)
 rw[if_pos rfl]
 have hpm:(SetTable.insertAt es pl (hsh prog w k,Value.ref p)).toList.Perm ((xs++[(k,p)]).map fun x=>(hsh prog w x.1,Value.ref x.2)):=by
  refine(SetTable.insertAt_perm es pl _).trans ?_
  rw[Array.toList_push,List.map_append]
  exact hS.pm.append_right _
 have hs1:(SetTable.insertAt es pl (hsh prog w k,Value.ref p)).size=es.size+1:=by
  have:=hpm.length_eq
  rw[Array.length_toList,List.length_map,List.length_append] at this
  rw[this,<-hlen]
  rfl
 generalize SetTable.insertAt es pl (hsh prog w k,Value.ref p)=es1 at hpm hs1
 refine wpAny_bind (wpAny_storeSet_of hS.get hS.dat ?_ (by omega))
 have hg:=Heap.get?_update_self (Obj.putSet es1 t1) hS.get (by rw[putSet_of es1 t1 hS.dat];rfl)
 rw[putSet_of es1 t1 hS.dat] at hg
 have sb:=Heap.SameBut.update s.heap a (Obj.putSet es1 t1)
 have S1:SO prog w (s.heap.update a (Obj.putSet es1 t1)) a (xs++[(k,p)]) led _ es1 _ t1:=⟨hg,hS.cls,rfl,hpm,by rw[hs1];exact ok1,by rw[em];exact hS.msk⟩
 by_cases hfull:(!false&&t1.tooFull)=true
 ·rw [if_pos hfull]
  have hfl:t1.mask*3<=(es.size+1)*5:=by
   have:t1.tooFull=true:=by simpa using hfull
   unfold SetTable.tooFull SetTable.fill at this
   rw[ok1.dum,ok1.sz] at this
   simpa using this
  rw[em] at hfl
  unfold setRelay
  refine wpAny_bind (wpAny_bind (wpAny_setState_of (s:={s with heap:=s.heap.update a (Obj.putSet es1 t1)}) hg rfl S1.fits ?_))
  dsimp only
  have hw:∃m,SetTable.sizeAbove (SetTable.grown (es.size+1))=m+1/\Full m/\m % 2=1/\(m=7\/m=31\/m=127\/m=511)/\(es.size+1)*5<m*3:=by
   have hgr:SetTable.grown (es.size+1)=(es.size+1)*4:=by unfold SetTable.grown;rw[if_neg (by omega)]
   rw[hgr]
   rcases hS.msk with e|e|e|e<;>rw[e] at hf hfl
   ·rw [show es.size+1=5 by omega];exact⟨31,sa20,full31,rfl,by decide,by decide⟩
   ·rw [show es.size+1=19 by omega];exact⟨127,sa76,qd2,rfl,by decide,by decide⟩
   ·rw [show es.size+1=77 by omega];exact⟨511,sa308,qd1,rfl,by decide,by decide⟩
   ·omega
  obtain⟨m,em',hF,hodd,hmm,hfw⟩:=hw
  have hml:m+1<=sizeLine:=by rw[sizeLine_eq];omega
  rw[em',if_neg (by omega)]
  obtain⟨t2,order,el,ok2,em2,po⟩:=qcP (fg:=t1.finger) (mv:=t1.movedTo m) (led:=led) hF hodd (es1.map (·.1)) (by rw[Array.size_map,hs1];omega)
  have er:t1.relaid (es1.map (·.1)) (SetTable.grown (es.size+1))=some (t2,order):=by
   unfold SetTable.relaid
   rw[em',show m+1 - 1=m from rfl,ok1.pl,ok1.ld]
   exact el
  rw[er]
  rw[Array.size_map] at ok2 po
  have p2:(order.filterMap (es1[·]?)).toList.Perm es1.toList:=by
   rw[Array.toList_filterMap]
   exact(po.filterMap _).trans (by rw[filterMap_getElem?_range])
  have s2:(order.filterMap (es1[·]?)).size=es1.size:=by have:=p2.length_eq;rwa [Array.length_toList,Array.length_toList] at this
  refine wpAny_bind ?_
  show wpAny _ _ (if (order.filterMap (es1[·]?)).size != es1.size then _ else _) _ _ _
  rw[if_neg (by rw[s2];simp)]
  generalize order.filterMap (es1[·]?)=es2 at p2 s2
  refine wpAny_pure (wpAny_storeSet_of (s:={s with heap:=s.heap.update a (Obj.putSet es1 t1)}) hg rfl ?_ (by show es2.size<=sizeLine;omega))
  have hg2:=Heap.get?_update_self (Obj.putSet es2 t2) hg (by rw[putSet_of es2 t2 rfl];rfl)
  rw[putSet_of es2 t2 rfl] at hg2
  exact wpAny_pure (hQ _ _ es2 _ t2 (sb.trans (Heap.SameBut.update _ a _)) ⟨hg2,hS.cls,rfl,p2.trans hpm,by rw[s2];exact ok2,by rw[em2];exact hmm⟩ (by rw[s2,em2,hs1];exact hfw))
 ·rw [if_neg hfull]
  refine wpAny_pure (hQ _ _ es1 _ t1 sb S1 ?_)
  have hfl:t1.tooFull=false:=by simpa using hfull
  unfold SetTable.tooFull SetTable.fill at hfl
  rw[ok1.dum,ok1.sz] at hfl
  rw[hs1]
  simpa using hfl
end
end
end Tb
set_option maxRecDepth 1000000
namespace Tb
open PySem PySem.SetTable PySem.Spec PyProof.Rows
section
variable {prog:Program}{w:World}{A:Around}{E:Value->Shared->Prop}{s:Shared}
def byT (prog:Program)(w:World):Bool:=(model prog w).w.params.followText "set-order"
abbrev newO (prog:Program)(w:World):Obj:={cls:= .type "set",dict:=none,data:= .set #[] 0 (.fresh 0 0 (!byT prog w))}
theorem qde (v:Value){C:Value->Shared->Prop}(h:C (.ref s.heap.objs.size) {s with heap:=s.heap.push (newO prog w)}):codeAny (model prog w) A (.call (.builtin "set.__new__") ⟨[.type "set",v],[]⟩) (wants C E) s:=by
 refine codeAny_of_tree ?_
 show wpAny _ A.in1 (do checkBuiltinCall "set.__new__" ⟨[.type "set",v],[]⟩;again (.builtin "set.__new__" ⟨[.type "set",v],[]⟩)) _ _ s
 refine wpAny_bind (wpAny_of_eq (F.newCall_set_1 v) (wpAny_pure ⟨plainId_quiet F.plain_set_new _,codeAny_builtin F.entry_set_new ?_⟩));rw[Around.under_plainId F.plain_set_new _]
 unfold Builtin.«set.__new__» Builtin.Frozenset.newClass
 have z:=sub_set_self
 obtain⟨hp,g,d,tk,os⟩:=s
 dsimp only
 wp_walk
 refine wpAny_askSetting (wpAny_pure ?_)
 dsimp only
 simp only[newObj]
 exact wpAny_bind (wpAny_alloc (wpAny_pure (wpAny_pure h)))
def SH (prog:Program)(w:World)(h:Heap)(a:Addr)(xs:List (List Int×Addr))(led:Bool):Prop:=∃o es ep t,SO prog w h a xs led o es ep t/\es.size*5<t.mask*3
theorem SH.at' {h h':Heap}{a:Addr}{xs:List (List Int×Addr)}{led:Bool}(x:SH prog w h a xs led)(e:∀o,h.get? a=some o->h'.get? a=some o):SH prog w h' a xs led:=let ⟨o,es,ep,t,q,r⟩:=x;⟨o,es,ep,t,⟨e _ q.get,q.cls,q.dat,q.pm,q.ok,q.msk⟩,r⟩
theorem q6Y {h h':Heap}{k:List Int}{p:Addr}(x:IsT prog w h k p)(e:∀b o,h.get? b=some o->h'.get? b=some o):IsT prog w h' k p:=let ⟨o,it,m,g,r⟩:=x;⟨o,it,m,e _ _ g,r⟩
variable {R:Result->Shared->Prop}{h0:Heap}{D I L:Addr}{items:Array Value}{xs:List (List Int×Addr)}{led:Bool}
theorem qc0 (hh:A.handled=none)(hu:A.in1.units<cLine)(hD:h0.get? D=none)(hI:h0.get? I=none)(hDI:D≠I)(hL:h0.IsList L items)(hn:items.size=xs.length)(hz:xs.length<300)
  (hit:∀(i:Nat) (x:List Int×Addr),xs[i]? =some x->items[i]? =some (.ref x.2))(hkp:∀x∈xs,IsT prog w h0 x.1 x.2)(nd:(xs.map (·.1)).Nodup):
  ∀(k i:Nat) (s:Shared),xs.length - i=k->i<=xs.length->(∀b o,h0.get? b=some o->s.heap.get? b=some o)->s.heap.IsListIter I L i->SH prog w s.heap D (xs.take i) led->
   (∀h' tk,(∀b o,h0.get? b=some o->h'.get? b=some o)->SH prog w h' D xs led->R (.ok (.ret .none)) {s with heap:=h',toks:=tk})->codeAny (model prog w) A (.builtin "set.update.loop" ⟨[.ref D,.ref I],[]⟩) R s:=by
 have hLI:L≠I:=fun z=>by
  obtain⟨_,e,_⟩:=hL
  rw[z,hI] at e
  cases e
 have W:=Walks.list (prog:=prog) (w:=w) (A:=A.in1) (by simpa using hh) I L hLI items
 intro k
 induction k with
 |zero=>
  intro i s hk hi kp st hd hR
  obtain rfl:i=xs.length:=by omega
  refine codeAny_builtin F.entry_set_update_loop ?_;rw[Around.under_plainId F.plain_set_update_loop _]
  show wpAny _ A.in1 (pyNext (.ref I) >>= _) _ _ s
  have hLs:s.heap.IsList L items:=let ⟨o,e,r⟩:=hL;⟨o,kp _ _ e,r⟩
  refine wpAny_bind (W.done s _ _ ⟨by rw[hn];exact st,hLs⟩ fun h' tk hm=>?_)
  rw[List.take_length] at hd
  exact wpAny_pure (hR h' tk (fun b o e=>hm b o (fun z=>by rw[List.mem_singleton.mp z,hI] at e;cases e) (kp b o e)) (hd.at' fun o e=>hm D o (fun z=>hDI (List.mem_singleton.mp z)) e))
 |succ k ih=>
  intro i s hk hi kp st hd hR
  have hlt:i<xs.length:=by omega
  refine codeAny_builtin F.entry_set_update_loop ?_;rw[Around.under_plainId F.plain_set_update_loop _]
  show wpAny _ A.in1 (pyNext (.ref I) >>= _) _ _ s
  have hLs:s.heap.IsList L items:=let ⟨o,e,r⟩:=hL;⟨o,kp _ _ e,r⟩
  refine wpAny_bind (W.item i s _ _ (by omega) ⟨st,hLs⟩ fun v h' tk hv st' hm=>?_)
  have hx:=hit i _ (List.getElem?_eq_getElem hlt)
  rw[show items[i]? =some v from hv] at hx
  cases hx
  have kp':∀b o,h0.get? b=some o->h'.get? b=some o:=fun b o e=>hm b o (fun z=>by rw[List.mem_singleton.mp z,hI] at e;cases e) (kp b o e)
  obtain⟨o,es,ep,t,hS,hf⟩:SH prog w h' D (xs.take i) led:=hd.at' fun o e=>hm D o (fun z=>hDI (List.mem_singleton.mp z)) e
  have hk':IsT prog w h' xs[i].1 xs[i].2:=q6Y (hkp _ (List.getElem_mem hlt)) kp'
  have et:xs.take (i+1)=xs.take i++[xs[i]]:=List.take_succ_eq_append_getElem hlt
  have hno:xs[i].1∉(xs.take i).map (·.1):=fun z=>by
   have:=nd.sublist ((List.take_sublist (i+1) xs).map _)
   rw[et,List.map_append,List.nodup_append] at this
   exact this.2.2 _ z _ (by simp) rfl
  show wpAny _ A.in1 (holding [Value.ref xs[i].2] (setAdd D (.ref xs[i].2)) >>= _) _ _ _
  refine wpAny_bind (wpAny_holding ?_)
  unfold setAdd
  refine wpAny_holding (wpAny_bind (wpAny_pyHash_tuple hu hk' ?_))
  refine addNew (prog:=prog) (w:=w) (k:=xs[i].1) (s:={s with heap:=h',toks:=tk+(xs[i].1.length+1)}) hS hf (fun x hx=>q6Y (hkp x (List.mem_of_mem_take hx)) kp') hk' hno hu (by rw[List.length_take];omega) fun h2 o' es' ep' t' sb hS' hf'=>?_
  have kp2:∀b o,h0.get? b=some o->h2.get? b=some o:=fun b o e=>(sb.2 b fun z=>by rw[z,hD] at e;cases e).trans (kp' b o e)
  refine wpAny_pure ⟨plainId_quiet F.plain_set_update_loop _,ih (i+1) _ (by omega) hlt kp2 ?_ ⟨o',es',ep',t',by rw[et];exact hS',hf'⟩ fun h3 tk3 kp3 hd3=>hR h3 tk3 kp3 hd3⟩
  obtain⟨oi,eI,r⟩:=st'.1
  exact⟨oi,(sb.2 I fun z=>hDI z.symm).trans eI,r⟩
theorem qdi {B:Value->Shared->Prop}(hh:A.handled=none)(hu:A.in1.in1.in1.units<cLine)(hl:s.heap.IsList L items)(hn:items.size=xs.length)(hz:xs.length<300)
  (hit:∀(i:Nat) (x:List Int×Addr),xs[i]? =some x->items[i]? =some (.ref x.2))(hkp:∀x∈xs,IsT prog w s.heap x.1 x.2)(nd:(xs.map (·.1)).Nodup)
  (h:∀h' tk,(∀b o,s.heap.get? b=some o->h'.get? b=some o)->SH prog w h' s.heap.objs.size xs (!byT prog w)->B (.ref s.heap.objs.size) {s with heap:=h',toks:=tk}):wpAny (model prog w) A (call (.type "set") [.ref L]) B E s:=by
 have ft:=F.called_set
 obtain⟨c0,t0,m0⟩:=ft.mro
 have m1:=ft.made
 have m2:=ft.sub
 refine wpAny_call (codeAny_of_tree ?_)
 show wpAny _ _ (callAny (.type "set") _) _ _ _
 refine wpAny_pure ⟨Code.quiet_builtin _ (by decide +kernel),codeAny_builtin F.entry_type_call ?_⟩;rw[Around.under_plain (weight_type_call_type "set" [.ref L] []) rfl]
 have m3:=ft.notType
 have m4:=ft.canCreate
 have m5:=F.typeCall_set_1 (.ref L)
 repeat (any_goals (first|assumption|wp_step))
 refine codeAny_mono (qde (.ref L) (E:=E) (C:=fun ob s1=>ob= .ref s.heap.objs.size/\s1={s with heap:=s.heap.push (newO prog w)}) ⟨rfl,rfl⟩) fun r s1 hr=>?_
 cases r with
 |error e=>exact hr
 |ok fl=>
  cases fl with
  |ret ob=>
   obtain⟨rfl,rfl⟩:=hr
   have hS:(s.heap.push (newO prog w)).get? s.heap.objs.size=some (newO prog w):=Heap.get?_push_size _ rfl
   have hT:Shared.TypeIs {s with heap:=s.heap.push (newO prog w)} (.ref s.heap.objs.size) "set":=⟨_,hS,rfl⟩
   have m6:=ft.init.lookup
   have m7:=ft.init.bind (.ref s.heap.objs.size)
   repeat (any_goals (first|assumption|wp_step))
   refine codeAny_mono (codeAny_call_builtin (R:=wants (fun r s2=>r= .none/\∃h' tk,s2={s with heap:=h',toks:=tk}/\(∀b o,s.heap.get? b=some o->h'.get? b=some o)/\SH prog w h' s.heap.objs.size xs (!byT prog w)) E) ft.init.plain F.entry_set_init (check_set_init_1 hT ?_)) fun r2 s2 hr2=>?_
   ·obtain ⟨ol,hol,hcl,nl,hdl⟩:=id hl
    obtain⟨oc,od,odt,osl⟩:=ol
    simp only at hcl hdl
    subst hcl hdl
    have hol':=Heap.get?_push_of_some (newO prog w) hol
    have g1:=F.sub_list_set
    have g2:=F.sub_list_frozenset
    have g3:(Value.type "list"==Value.type "dict")=false:=by decide
    have hl1:(s.heap.push (newO prog w)).IsList L items:=⟨_,hol',rfl,nl,rfl⟩
    unfold Builtin.«set.__init__» noKeywords Builtin.Frozenset.updateFrom
    generalize ePI:pyIter=PI
    wp_walk
    subst ePI
    refine wpAny_pyIter_list hl1 (wpAny_bind (wpAny_runValue ?_))
    have kp1:∀b o,s.heap.get? b=some o->((s.heap.push (newO prog w)).push {cls:= .type "list_iterator",data:= .fields #[.ref L,.int 0 0]}).get? b=some o:=fun b o e=>Heap.get?_push_of_some _ (Heap.get?_push_of_some _ e)
    have y1:(s.heap.push (newO prog w)).objs.size=s.heap.objs.size+1:=Heap.size_push _ _
    refine qc0 (h0:=s.heap) (items:=items) (xs:=xs) (led:= !byT prog w) (by simp[hh]) hu (Heap.get?_none_of_le (Nat.le_refl _)) (Heap.get?_none_of_le (by rw[y1];exact Nat.le_succ _)) (by rw[y1];exact Nat.ne_of_lt (Nat.lt_succ_self _)) hl hn hz hit hkp nd _ 0 _ rfl (Nat.zero_le _) kp1 ⟨_,Heap.get?_push_size _ rfl,rfl,rfl⟩ ?_ fun h' tk kp hd=>?_
    ·refine ⟨newO prog w,#[],0,.fresh 0 0 (!byT prog w),⟨Heap.get?_push_of_some _ hS,rfl,rfl,.refl _,⟨rfl,rfl,List.Pairwise.nil,(fun j hj=>nomatch hj),full7,show(7:Nat) % 2=1 by decide,Nat.zero_le _,rfl,rfl⟩,.inl rfl⟩,show(0:Nat)*5<7*3 by decide⟩
    ·refine wpAny_pure ?_
     show wpAny _ _ (ret Value.none) _ _ _
     exact wpAny_pure ⟨rfl,h',tk,rfl,kp,hd⟩
   ·cases r2 with
    |error e=>exact hr2
    |ok f2=>
     cases f2 with
     |ret r=>
      obtain⟨rfl,h',tk,rfl,kp,hd⟩:=hr2
      repeat (any_goals (first|assumption|wp_step))
      exact h _ _ kp hd
     |_=>exact hr2.elim
  |_=>exact hr.elim
end
end Tb
namespace Tb
open PySem PySem.SetTable PySem.Spec PyProof.Rows
theorem q3w:Slot "set_iterator" "__next__" "set_iterator.__next__":= .of (owner:="set_iterator") (n:="__next__") (by rw[typeLookup_type,builtinLookup_eq_fast];kernel_rfl) (by decide +kernel) (by decide +kernel) (by decide +kernel) (by first|exact .inl (by decide +kernel)|exact .inr (by decide +kernel)) (by rw[isSubtype_type];kernel_rfl)
theorem q75:entryFor table "set_iterator.__next__"=some Builtin.«set_iterator.__next__» :=entryFor_of_tree (by kernel_rfl)
theorem qan:Manifest.owners.lookup (String.ofList ['r','o','t','a','r','e','t','i','_','t','e','s'].reverse)=some Manifest.sig_set_iterator:=by kernel_rfl
theorem q9N (v:Value):argsOk "set_iterator.__next__" ⟨[v],[]⟩:=by
 unfold argsOk;rw[signature?_of (id:="set_iterator.__next__") (n:=['_','_','t','x','e','n','_','_']) (o:=['r','o','t','a','r','e','t','i','_','t','e','s']) (by kernel_rfl) qan];kernel_rfl
theorem qb0:entryFor table "set.__iter__"=some Builtin.«frozenset.__iter__» :=entryFor_alias (id':="frozenset.__iter__") (by kernel_rfl) rfl (by decide +kernel) (by kernel_rfl)
theorem q9g {α:Type}:∀(l:List α) (i:Nat) (h:i<l.length),(l[i]::l.eraseIdx i).Perm l
 |x::l,0,_=> .refl _
 |x::l,i+1,h=>by
  rw[List.getElem_cons_succ,List.eraseIdx_cons_succ]
  exact(List.Perm.swap _ _ _).trans ((q9g l i (Nat.lt_of_succ_lt_succ h)).cons x)
theorem q8v {α:Type}(nx:Nat->Nat):∀(fuel k:Nat) (l:List α) (out:Array α),l.length<=fuel->(pickOrder.go nx fuel k l out).toList.Perm (out.toList++l)
 |0,k,l,out,h=>by
  have:l=[]:=List.length_eq_zero_iff.mp (by omega)
  subst this
  unfold pickOrder.go
  rw[List.append_nil]
 |fuel+1,k,l,out,h=>by
  unfold pickOrder.go
  cases e:l[nx k % l.length]? with
  |none=>
   have:l=[]:=by
    cases l with
    |nil=>rfl
    |cons x l=>exact absurd (Nat.mod_lt _ (by simp)) (Nat.not_lt.mpr (List.getElem?_eq_none_iff.mp e))
   subst this
   dsimp only
   rw[List.append_nil]
  |some x=>
   dsimp only
   obtain⟨hi,ex⟩:=List.getElem?_eq_some_iff.mp e
   refine(q8v nx fuel (k+1) _ _ (by rw[List.length_eraseIdx_of_lt hi];omega)).trans ?_
   rw[Array.toList_push,List.append_assoc]
   refine List.Perm.append_left _ ?_
   rw[<-ex]
   exact q9g l _ hi
theorem q8u {α:Type}(nx:Nat->Nat)(xs:Array α):(pickOrder nx xs).toList.Perm xs.toList:=by
 have:=q8v nx xs.size 0 xs.toList #[] (by simp)
 simpa[pickOrder] using this
section
variable {prog:Program}{w:World}{A:Around}{E:Value->Shared->Prop}{s:Shared}{a it:Addr}{xs:List (List Int×Addr)}{o:Obj}{es:Array (Int×Value)}{ep i:Nat}{t:SetTable}
def ord (prog:Program)(w:World)(a:Addr)(es:Array (Int×Value))(ep:Nat):Array (Int×Value):=if byT prog w then pickOrder ((model prog w).w.params.setOrder a ep) es else es
theorem q6Q:(ord prog w a es ep).toList.Perm es.toList:=by
 unfold ord
 split
 ·exact q8u _ _
 ·exact .refl _
theorem qao:(ord prog w a es ep).size=es.size:=by have:=(q6Q (prog:=prog) (w:=w) (a:=a) (es:=es) (ep:=ep)).length_eq;rwa [Array.length_toList,Array.length_toList] at this
abbrev ItR (h:Heap)(it a:Addr)(sl i n ep:Nat):Prop:=h.get? it=some {cls:= .type "set_iterator",data:= .fields #[.int sl 0,.int i 0,.ref a,.int n 0,.int ep 0]}
def ItS (prog:Program)(w:World)(h:Heap)(it a:Addr)(i n ep:Nat)(t:SetTable):Prop:=∃sl,ItR h it a sl i n ep/\(byT prog w=true\/below t.place sl=i)
theorem nextOf {sl:Nat}{Q:Option (Value×Nat)->Shared->Prop}(hS:SO prog w s.heap a xs (!byT prog w) o es ep t)(hb:byT prog w=true\/below t.place sl=i)
  (h1:∀(hi:i<(ord prog w a es ep).size) sl',(byT prog w=true\/below t.place sl'=i+1)->Q (some ((ord prog w a es ep)[i].2,sl')) s)(h2:(ord prog w a es ep).size<=i->Q none s):wpAny (model prog w) A (setNext a sl i ep) Q E s:=by
 unfold setNext
 refine wpAny_bind (wpAny_setState_of hS.get hS.dat hS.fits ?_)
 dsimp only
 unfold setsByText
 refine wpAny_bind (wpAny_bind (wpAny_askSetting (wpAny_pure ?_)))
 unfold ord at h1 h2
 cases hbt:byT prog w
 ·rw [if_neg (by show¬byT prog w=true;rw[hbt];decide)]
  simp only[hbt,Bool.false_eq_true,if_false] at h1 h2
  rw[if_neg (by show¬(!t.plain&&decide (es.size>1))=true;rw[hS.ok.pl];simp)]
  refine wpAny_bind ?_
  show wpAny _ _ (if (!t.led&& !es.isEmpty)=true then _ else _) _ _ _
  rw[if_neg (by rw[hS.ok.ld,hbt];simp)]
  refine wpAny_pure ?_
  have hb':below t.place sl=i:=hb.resolve_left (by rw[hbt];decide)
  rw[hb']
  by_cases hi:i<es.size
  ·have hi':i<t.place.size:=by rw[hS.ok.sz];exact hi
   rw[Array.getElem?_eq_getElem hi,Array.getElem?_eq_getElem hi']
   exact wpAny_pure (h1 hi _ (.inr (q7N hS.ok.ris hi')))
  ·rw [Array.getElem?_eq_none (by omega)]
   exact wpAny_pure (h2 (by omega))
 ·rw [if_pos (by show byT prog w=true;exact hbt)]
  simp only[hbt,if_true] at h1 h2
  rw[if_neg (by simp)]
  unfold setWalk
  refine wpAny_bind (wpAny_bind (wpAny_setState_of hS.get hS.dat hS.fits ?_))
  unfold setsByText
  refine wpAny_bind (wpAny_bind (wpAny_askSetting (wpAny_pure ?_)))
  rw[if_pos (by show byT prog w=true;exact hbt)]
  refine wpAny_bind (wpAny_askSetting (wpAny_pure ?_))
  by_cases hi:i<(pickOrder ((model prog w).w.params.setOrder a ep) es).size
  ·refine wpAny_pure ?_
   rw[Array.getElem?_eq_getElem hi]
   exact h1 hi sl (.inl trivial)
  ·refine wpAny_pure ?_
   rw[Array.getElem?_eq_none (show(pickOrder ((model prog w).w.params.setOrder a ep) es).size<=i by omega)]
   exact h2 (by omega)
theorem q8I {Q:Option Value->Shared->Prop}(hS:SO prog w s.heap a xs (!byT prog w) o es ep t)(hit:ItS prog w s.heap it a i es.size ep t)(hi:i<(ord prog w a es ep).size)
  (hQ:∀h',ItS prog w h' it a (i+1) es.size ep t->(∀b o,b≠it->s.heap.get? b=some o->h'.get? b=some o)->Q (some (ord prog w a es ep)[i].2) {s with heap:=h'}):wpAny (model prog w) A (pyNext (.ref it)) Q E s:=by
 obtain⟨sl,hr,hb⟩:=hit
 have hT:s.TypeIs (.ref it) "set_iterator":=⟨_,hr,rfl⟩
 unfold pyNext
 refine wpAny_bind (wpAny_attempt (wpAny_callSpecial?_slot (name:=Str.ofString "__next__") hT q3w (wpAny_call_entry q3w hT q75 ?_ (q9N _))))
 unfold Builtin.«set_iterator.__next__»
 refine wpAny_bind (wpAny_pure (wpAny_bind (wpAny_fieldsOf hr rfl ?_)))
 dsimp only
 refine wpAny_bind (wpAny_setEntries_of hS.get hS.dat hS.fits ?_)
 rw[if_neg (by simp)]
 rw[Int.toNat_natCast,Int.toNat_natCast,Int.toNat_natCast]
 refine wpAny_bind (nextOf hS hb (fun hi' sl' hb'=>?_) fun h2=>absurd hi (by omega))
 dsimp only
 refine wpAny_bind (wpAny_setField_rec hr (by simp) fun h1 e1 b1=>?_)
 refine wpAny_bind (wpAny_setField_rec (s:={s with heap:=h1}) e1 (by simp) fun h2 e2 b2=>?_)
 refine wpAny_pure ⟨_,rfl,wpAny_pure (hQ h2 ⟨sl',?_,hb'⟩ fun b ob hb e=>(b2.2 b hb).trans ((b1.2 b hb).trans e))⟩
 show h2.get? it=_
 rw[show((i+1:Nat):Int)=(i:Int)+1 by omega]
 simpa[rawInt] using e2
theorem qaD {Q:Option Value->Shared->Prop}(hh:A.handled=none)(hS:SO prog w s.heap a xs (!byT prog w) o es ep t)(hit:ItS prog w s.heap it a i es.size ep t)(hi:(ord prog w a es ep).size<=i)
  (hQ:∀h',(∀b o,b≠it->s.heap.get? b=some o->h'.get? b=some o)->Q none {s with heap:=h'}):wpAny (model prog w) A (pyNext (.ref it)) Q E s:=by
 obtain⟨sl,hr,hb⟩:=hit
 have hT:s.TypeIs (.ref it) "set_iterator":=⟨_,hr,rfl⟩
 unfold pyNext
 refine wpAny_bind (wpAny_attempt (wpAny_callSpecial?_slot (name:=Str.ofString "__next__") hT q3w (wpAny_call_entry q3w hT q75 ?_ (q9N _))))
 unfold Builtin.«set_iterator.__next__»
 refine wpAny_bind (wpAny_pure (wpAny_bind (wpAny_fieldsOf hr rfl ?_)))
 dsimp only
 refine wpAny_bind (wpAny_setEntries_of hS.get hS.dat hS.fits ?_)
 rw[if_neg (by simp)]
 rw[Int.toNat_natCast,Int.toNat_natCast,Int.toNat_natCast]
 refine wpAny_bind (nextOf hS hb (fun hi' sl' hb'=>absurd hi (by omega)) fun h2=>?_)
 dsimp only
 refine wpAny_bind (wpAny_setField_rec hr (by simp) fun h1 e1 b1=>wpAny_bind ?_)
 simp only[newExc,newTuple]
 refine wpAny_bind (wpAny_newObj_type ?_ (by size_fits));refine wpAny_bind (m:=firstArgMember _ _) (wpAny_of_eq (a:=Value.none) (by first|rfl|(simp only[firstArgMember];rfl)) ?_);refine wpAny_newObj_type ?_ (by size_fits)
 simp only[raiseNew]
 refine wpAny_bind (wpAny_handled ?_)
 rw[show A.in1.handled=none from hh]
 refine wpAny_bind (wpAny_pure (wpAny_throw ?_));refine wpAny_bind (wpAny_isInstance (T:="StopIteration") (b:=true) ⟨_,Heap.get?_push_size _ rfl,rfl⟩ isSubtype_stop ?_)
 exact wpAny_pure (hQ _ fun b ob hb e=>Heap.get?_push_of_some _ (Heap.get?_push_of_some _ ((b1.2 b hb).trans e)))
theorem SO.at' {h h':Heap}{led:Bool}(q:SO prog w h a xs led o es ep t)(e:∀o,h.get? a=some o->h'.get? a=some o):SO prog w h' a xs led o es ep t:=⟨e _ q.get,q.cls,q.dat,q.pm,q.ok,q.msk⟩
theorem iterOf {Q:Value->Shared->Prop}(hS:SO prog w s.heap a xs (!byT prog w) o es ep t)(hQ:Q (.ref s.heap.objs.size) {s with heap:=s.heap.push {cls:= .type "set_iterator",data:= .fields #[.int (0:Nat) 0,.int (0:Nat) 0,.ref a,.int es.size 0,.int ep 0]}}):wpAny (model prog w) A (pyIter (.ref a)) Q E s:=by
 have hT:s.TypeIs (.ref a) "set":=⟨_,hS.get,hS.cls⟩
 refine wpAny_pyIter_slot hT F.slot_set_iter (wpAny_call_entry F.slot_set_iter hT qb0 ?_ (F.args_set_iter_1 _))
 unfold Builtin.«frozenset.__iter__»
 refine wpAny_bind (wpAny_pure ?_)
 unfold Builtin.Frozenset.sizeOf
 refine wpAny_bind (wpAny_bind (wpAny_setEntries_of hS.get hS.dat hS.fits (wpAny_pure ?_)))
 unfold setDrawn
 refine wpAny_bind (wpAny_bind (wpAny_setState_of hS.get hS.dat hS.fits ?_))
 unfold setsByText
 refine wpAny_bind (wpAny_bind (wpAny_askSetting (wpAny_pure (wpAny_pure ?_))))
 rw[if_neg (by show¬(!(byT prog w)&&(!t.plain&&decide (es.size>1)))=true;rw[hS.ok.pl];simp)]
 refine wpAny_bind (wpAny_pure (wpAny_bind (wpAny_setEpoch_of hS.get hS.dat hS.fits ?_)))
 unfold newFields
 exact wpAny_bind (wpAny_newObj_type (wpAny_pure ⟨_,rfl,"set_iterator",_,⟨_,Heap.get?_push_size _ rfl,rfl⟩,q3w.lookup,hQ⟩))
theorem hintOf (hT:s.TypeIs (.ref a) "set"){Q:Bool->Shared->Prop}(h:Q false s):wpAny (model prog w) A (Builtin.List.listLengthHint (.ref a)) Q E s:=by
 unfold Builtin.List.listLengthHint
 refine wpAny_bind (wpAny_specialOf hT F.slot_set_len.lookup ?_)
 generalize e0:("set.__len__":String)=id0
 wp_delta
 rw[show splitId id0=some ("set","__len__") from by subst e0;decide +kernel]
 subst e0
 refine wpAny_bind (wpAny_isInstance (T:="set") (b:=true) hT sub_set_self ?_);refine wpAny_ite_split (fun z=>absurd z (by decide)) (fun _=>?_)
 refine wpAny_ite_split (fun _=>?_) (fun z=>absurd (by decide +kernel) z)
 exact wpAny_bind (wpAny_typeOf hT (wpAny_pure h))
theorem extSet {R:Result->Shared->Prop}{S I:Addr}(hh:A.handled=none)(hSI:S≠I)(hSa:a≠S)(hIa:a≠I)(hn:es.size<=sizeLine)(res:Value){h1:Heap}
  (hR:∀(h':Heap) (tk c:Nat) (acc:Array Value),(∀b o,b≠S->b≠I->h1.get? b=some o->h'.get? b=some o)->h'.get? S=some {cls:= .type "list",data:= .seq acc c}->acc.toList=(ord prog w a es ep).toList.map (·.2)->R (.ok (.ret res)) {s with heap:=h',toks:=tk}):
  ∀(k i:Nat) (h:Heap) (tk c:Nat) (acc:Array Value),es.size - i=k->i<=es.size->SO prog w h a xs (!byT prog w) o es ep t->ItS prog w h I a i es.size ep t->(∀b o,b≠S->b≠I->h1.get? b=some o->h.get? b=some o)->h.get? S=some {cls:= .type "list",data:= .seq acc c}->acc.toList=((ord prog w a es ep).toList.take i).map (·.2)->
   codeAny (model prog w) A (.builtin "list.extend.loop" ⟨[.ref S,.ref I,res],[]⟩) R {s with heap:=h,toks:=tk}:=by
 have os:=qao (prog:=prog) (w:=w) (a:=a) (es:=es) (ep:=ep)
 intro k
 induction k with
 |zero=>
  intro i h tk c acc hk hi hS hit kp hL hacc
  refine codeAny_builtin F.entry_extend_loop ?_;rw[Around.under_plainId F.plain_extend_loop]
  show wpAny (model prog w) A.in1 (pyNext (.ref I) >>= _) _ _ _
  refine wpAny_bind (qaD (s:={s with heap:=h,toks:=tk}) hh hS hit (by omega) fun h' e=>?_)
  refine wpAny_pure (hR h' tk c acc (fun b o h1 h2 z=>e b o h2 (kp b o h1 h2 z)) (e S _ hSI hL) ?_)
  rw[hacc,List.take_of_length_le (by rw[Array.length_toList];omega)]
 |succ k ih=>
  intro i h tk c acc hk hi hS hit kp hL hacc
  have hlt:i<(ord prog w a es ep).size:=by omega
  have hsz:acc.size=i:=by rw[<-Array.length_toList,hacc,List.length_map,List.length_take,Array.length_toList];omega
  refine codeAny_builtin F.entry_extend_loop ?_;rw[Around.under_plainId F.plain_extend_loop]
  show wpAny (model prog w) A.in1 (pyNext (.ref I) >>= _) _ _ _
  refine wpAny_bind (q8I (s:={s with heap:=h,toks:=tk}) hS hit hlt fun h' hit' e=>?_)
  have hL':=e S _ hSI hL
  generalize hv:(ord prog w a es ep)[i].2=v
  have up:∀b ob,b≠S->h'.get? b=some ob->(h'.update S (Obj.mapSeq fun x=>x.push v)).get? b=some ob:=fun b ob hb e=>(Heap.get?_update_other h' _ hb.symm).trans e
  show wpAny (model prog w) A.in1 (Builtin.List.listUpdate (.ref S) (fun x=>x.push v) >>= _) _ _ {s with heap:=h',toks:=tk}
  refine wpAny_bind (listUpdate_at (s:={s with heap:=h',toks:=tk}) hL' rfl ?_ (by show acc.size<=sizeLine;omega) (by show(acc.push _).size<=sizeLine+1;rw[Array.size_push];omega))
  refine wpAny_pure ⟨plainId_quiet F.plain_extend_loop _,ih (i+1) _ tk _ (acc.push v) (by omega) (by omega) ((hS.at' fun o z=>e a o hIa z).at' fun o z=>up a o hSa z) ?_ (fun b ob h1 h2 z=>up b ob h1 (e b ob h2 (kp b ob h1 h2 z))) (Heap.get?_update_self (Obj.mapSeq fun x=>x.push v) hL' rfl) ?_⟩
  ·obtain ⟨sl,q1,q2⟩:=hit'
   exact⟨sl,up I _ hSI.symm q1,q2⟩
  ·rw [Array.toList_push,hacc,List.take_succ_eq_append_getElem (by rw[Array.length_toList];exact hlt),List.map_append,<-hv]
   simp
theorem extOf {R:Result->Shared->Prop}{S:Addr}(hh:A.handled=none)(hS:SO prog w s.heap a xs (!byT prog w) o es ep t)(hSa:a≠S)(res:Value){c0:Nat}(hL:s.heap.get? S=some {cls:= .type "list",data:= .seq #[] c0})(hn:es.size<=sizeLine)
  (hR:∀(h':Heap) (tk c:Nat) (acc:Array Value),(∀b o,b≠S->s.heap.get? b=some o->h'.get? b=some o)->h'.get? S=some {cls:= .type "list",data:= .seq acc c}->acc.toList=(ord prog w a es ep).toList.map (·.2)->R (.ok (.ret res)) {s with heap:=h',toks:=tk}):
  wpAny (model prog w) A.in1 (Builtin.List.listExtendWith (.ref S) (.ref a) res) (fun fin s'=>match fin with| .done f=>R (.ok f) s'| .again c'=>c'.quiet=true/\codeAny (model prog w) A c' R s') (fun e s'=>R (.error e) s') s:=by
 have lS:=Heap.lt_size hL
 have la:=Heap.lt_size hS.get
 obtain⟨ob,eob⟩:∃ob:Obj,ob={cls:= .type "set_iterator",data:= .fields #[.int (0:Nat) 0,.int (0:Nat) 0,.ref a,.int es.size 0,.int ep 0]}:=⟨_,rfl⟩
 have key:∀(h:Heap) (c1 tk:Nat),(∀b o,b≠S->(s.heap.push ob).get? b=some o->h.get? b=some o)->h.get? S=some {cls:= .type "list",data:= .seq #[] c1}->codeAny (model prog w) A (.builtin "list.extend.loop" ⟨[.ref S,.ref s.heap.objs.size,res],[]⟩) R {s with heap:=h,toks:=tk}:=fun h c1 tk hk hS1=>by
  have hI:=hk s.heap.objs.size _ (Nat.ne_of_gt lS) (Heap.get?_push_size s.heap (by rw[eob];rfl))
  rw[eob] at hI
  exact extSet hh (Nat.ne_of_lt lS) hSa (Nat.ne_of_lt la) hn res (fun h' tk' c acc kp' hL' hacc=>hR h' tk' c acc (fun b o hb e=>kp' b o hb (Nat.ne_of_lt (Heap.lt_size e)) e) hL' hacc) es.size 0 h tk c1 #[] (Nat.sub_zero _) (Nat.zero_le _) (hS.at' fun o e=>hk a o hSa (Heap.get?_push_of_some _ e)) ⟨0,hI,.inr (q7M hS.ok.ris)⟩ (fun b o hb _ e=>hk b o hb (Heap.get?_push_of_some _ e)) hS1 (by simp)
 have hT:s.TypeIs (.ref a) "set":=⟨_,hS.get,hS.cls⟩
 have hL1:=Heap.get?_push_of_some ob hL
 unfold Builtin.List.listExtendWith
 refine wpAny_bind (wpAny_typeOf hT ?_)
 rw[if_neg (by
  have q:Builtin.List.listSameRef (.ref S) (.ref a)=false:=by simpa[Builtin.List.listSameRef] using hSa.symm
  rw[q]
  decide)]
 refine wpAny_bind (iterOf hS ?_)
 rw[<-eob]
 have hT1:Shared.TypeIs {s with heap:=s.heap.push ob} (.ref a) "set":=⟨o,Heap.get?_push_of_some _ hS.get,hS.cls⟩
 refine wpAny_bind (wpAny_holding (hintOf hT1 (wpAny_ite_split (fun _=>?_) fun _=>?_)))
 ·refine wpAny_bind (wpAny_rule (wpAny_bind ?_))
  unfold Builtin.List.listTouch
  refine wpAny_bind (wpAny_updateSeq hL1 rfl ?_)
  have hL2:=Heap.get?_update_self (Obj.mapSeq fun x=>x.push Value.none) hL1 rfl
  refine wpAny_updateSeq hL2 rfl (wpAny_pure ⟨plainId_quiet F.plain_extend_loop _,key _ _ s.toks (fun b o hb e=>?_) (Heap.get?_update_self (Obj.mapSeq fun x=>x.pop) hL2 rfl)⟩)
  exact(Heap.get?_update_other _ _ hb.symm).trans ((Heap.get?_update_other _ _ hb.symm).trans e)
 ·exact wpAny_pure ⟨plainId_quiet F.plain_extend_loop _,key _ _ s.toks (fun b o _ e=>e) hL1⟩
theorem q7K {R:List Value->Shared->Prop}(hh:A.handled=none)(hS:SO prog w s.heap a xs (!byT prog w) o es ep t)(hn:es.size<=sizeLine)
  (h:∀(h':Heap) (tk:Nat) (vs:List Value),(∀b o,s.heap.get? b=some o->h'.get? b=some o)->vs.Perm (xs.map fun x=>Value.ref x.2)->R vs {s with heap:=h',toks:=tk}):wpAny (model prog w) A (collect (.ref a)) R E s:=by
 have la:=Heap.lt_size hS.get
 unfold collect
 refine wpAny_bind (wpAny_runValue (codeAny_builtin PyProof.Rows.entry_proto_collect' ?_));rw[Around.under_plainId F.plain_proto_collect]
 unfold Builtin.«proto.collect»
 refine wpAny_bind (wpAny_newObj_type (wpAny_pure ⟨plainId_quiet F.plain_list_iadd _,codeAny_builtin PyProof.Rows.entry_list_iadd' ?_⟩));rw[Around.under_plainId F.plain_list_iadd]
 have pm:((ord prog w a es ep).toList.map (·.2)).Perm (xs.map fun x=>Value.ref x.2):=by
  have:=((q6Q (prog:=prog) (w:=w) (a:=a) (es:=es) (ep:=ep)).trans hS.pm).map (·.2)
  rwa [List.map_map] at this
 have key:=extOf (s:={s with heap:=s.heap.push {cls:= .type "list",data:= .seq #[]}}) (prog:=prog) (w:=w) (A:=A) (R:=fun res s'=>∃(h':Heap) (tk c:Nat) (acc:Array Value),res= .ok (.ret (.ref s.heap.objs.size))/\s'={s with heap:=h',toks:=tk}/\(∀b o,s.heap.get? b=some o->h'.get? b=some o)/\h'.get? s.heap.objs.size=some {cls:= .type "list",data:= .seq acc c}/\acc.toList=(ord prog w a es ep).toList.map (·.2))
  hh (hS.at' fun o e=>Heap.get?_push_of_some _ e) (Nat.ne_of_lt la) (.ref s.heap.objs.size) (Heap.get?_push_size (o:={cls:= .type "list",data:= .seq #[]}) s.heap rfl) hn fun h' tk c acc kp hL hacc=>⟨h',tk,c,acc,rfl,rfl,fun b o e=>kp b o (Nat.ne_of_lt (Heap.lt_size e)) (Heap.get?_push_of_some _ e),hL,hacc⟩
 refine wpAny_mono (show wpAny (model prog w) A.in1 (Builtin.«list.__iadd__» ⟨[.ref s.heap.objs.size,.ref a],[]⟩) _ _ _ from key) (fun fi s' x=>?_) fun e s' x=>?_
 ·cases fi with
  |done f=>
   obtain⟨h',tk,c,acc,ev,rfl,kp,hL,hacc⟩:=x
   cases ev
   exact wpAny_bind (wpAny_load hL (wpAny_pure (by rw[hacc];exact h h' tk _ kp pm)))
  |again c'=>
   refine⟨x.1,codeAny_mono x.2 fun res s'' z=>?_⟩
   obtain⟨h',tk,c,acc,ev,rfl,kp,hL,hacc⟩:=z
   cases ev
   exact wpAny_bind (wpAny_load hL (wpAny_pure (by rw[hacc];exact h h' tk _ kp pm)))
 ·obtain ⟨_,_,_,_,z,_⟩:=x
  cases z
end
end Tb
namespace L2
open PySem PySem.Spec PyProof.Rows PySem.W
theorem bt_set:bootBuiltins "set"=some (.type "set"):=by decide +kernel
theorem q6X {prog:Program}{w:World}:∀{us:List Value} {ns:List Int},IntsAre us ns->ItemsAre (intKind prog w) ns us
 |_,_,.nil=> .nil
 |_,_,.cons n t h=> .cons (intKind_is _ _ _ _) (q6X h)
theorem qcm {α β:Type}{f:α->β}:∀{vs ws:List β},vs.Perm ws->∀l:List α,ws=l.map f->∃l0:List α,l0.Perm l/\vs=l0.map f:=by
 intro vs ws h
 induction h with
 |nil=>exact fun l e=>⟨l,.refl _,e⟩
 |cons x _ ih=>
  intro l e
  cases l with
  |nil=>cases e
  |cons y l=>
   obtain⟨e1,e2⟩:=List.cons.inj e
   obtain⟨l0,h1,e3⟩:=ih l e2
   exact⟨y::l0,h1.cons y,by rw[e1,e3];rfl⟩
 |swap x y l'=>
  intro l e
  match l,e with
  |a::b::l,e=>
   obtain⟨e1,e⟩:=List.cons.inj e
   obtain⟨e2,e3⟩:=List.cons.inj e
   exact⟨b::a::l,.swap a b l,by rw[e1,e2,e3];rfl⟩
 |trans _ _ ih1 ih2=>
  intro l e
  obtain⟨l1,p1,e1⟩:=ih2 l e
  obtain⟨l0,p0,e0⟩:=ih1 l1 e1
  exact⟨l0,p0.trans p1,e0⟩
section
variable {X:Cx}{e:Expr}{te:TE}
def q6y (K:PySem.W.Frag)(te:TE):TE:=fun σ H Q=>te σ H fun v H1=>∃(p:Addr) (l:List (Addr×List Int)) (m:Nat),v= .ref p/\SqL K H1 p (l.map fun x=>V.ref x.1)/\1<=m/\(∀x∈l,H1 x.1=some (.tup (x.2.map V.int))/\x.2.length=m)/\(l.map (·.2)).Nodup/\l.length<300/\
 ∀(q:Addr) (l':List (Addr×List Int)),H1 q=none->l'.Perm l->l'.Pairwise (fun a b=>¬b.2<a.2)->Q (.ref q) (upd H1 q (.lst (l'.map fun x=>V.ref x.1)))
theorem q7w {p1 p2 pos1 pos2:Pos}(K:PySem.W.Frag)(hu:X.A.units+4<cLine)(hc:X.calm=true)(hg1:Gl X "sorted")(hm1:X.mg "sorted"=none)(hg2:Gl X "set")(hm2:X.mg "set"=none)(he:PE X e te)(hs:starEach [e] X.env=[(false,eval e X.env)]:=by rfl)(hK:X.K=K:=by rfl):
  PE X (.Call (.Name "sorted" p1) [.Call (.Name "set" p2) [e] [] pos2] [] pos1) (q6y K te):=by
 subst hK
 intro pins s σ H Q I h
 refine wpAny_Call_Name_kw (q2G I hg1 hm1 q3W ?_ (by decide) (by decide))
 refine PyProof.Rows.callWith_builtin1 ?_ rfl rfl
 show wpAny _ _ (spliced [(false,eval (.Call (.Name "set" p2) [e] [] pos2) X.env)]) _ _ s
 refine Calls.spliced_cons (wpAny_Call_Name_kw (q2G I hg2 hm2 bt_set ?_ (by decide) (by decide)))
 refine PyProof.Rows.callWith_type1 ?_ hs rfl
 rw[hs]
 show wpAny _ _ (spliced [(false,eval e X.env)]) _ _ s
 refine Calls.spliced_cons (thn (he pins s σ H _ I h) fun u s1 z=>?_)
 obtain⟨x,H1,I1,r1,p,l,m,hx,hq,hm,hl,nd,h3,q⟩:=z
 subst hx
 cases r1
 refine Calls.spliced_nil ?_
 obtain⟨its,rv,pl,hz⟩:=I1.list hq
 have ei:its=l.map fun x=>Value.ref x.1:=by
  have:=q2p (ps:=l.map (·.1)) (by rw[List.map_map];exact rv)
  rw[this,List.map_map]
  rfl
 subst ei
 have hh:=I1.ok.hd hc
 refine Tb.qdi (xs:=l.map fun x=>(x.2,x.1)) hh (by show X.A.units+1+1+1<cLine;omega) pl.isList (by simp) (by rw[List.length_map];exact h3) (fun i x ex=>?_) (fun x hx=>?_) (by rw[List.map_map];exact nd) fun h' tk kp hS=>?_
 ·rw [List.getElem?_map] at ex
  obtain⟨y,ey,rfl⟩:=Option.map_eq_some_iff.mp ex
  rw[List.getElem?_toArray,List.getElem?_map,ey]
  rfl
 ·obtain ⟨y,hy,rfl⟩:=List.mem_map.mp hx
  obtain⟨o,us,n,g1,g2,g3,g4⟩:=q3g I1 (hl y hy).1
  exact⟨o,_,n,g1,g2,g3,q6X (by simpa using g4)⟩
 obtain⟨o,es,ep,t,hS,_⟩:=hS
 refine Calls.spliced_nil ?_
 refine Calls.call_function_entry kind_sorted plain_sorted entry_sorted (args_sorted1 _) ?_
 unfold Builtin.«sorted»
 have hlen:=Tb.SO.len (s:={s1 with heap:=h'}) hS
 rw[List.length_map] at hlen
 refine wpAny_bind (m:=checkCount "sorted" 1 1 _) (wpAny_pure (wpAny_bind (Tb.q7K (s:={s1 with heap:=h',toks:=tk}) (A:=X.A.in1) hh hS (by rw[sizeLine_eq];omega) fun h1 tk1 vs kp1 pm=>?_)))
 rw[List.map_map] at pm
 obtain⟨M,pM,rfl⟩:=qcm pm l rfl
 have hM:∀x∈M,H1 x.1=some (.tup (x.2.map V.int))/\x.2.length=m:=fun x hx=>hl x (pM.mem_iff.mp hx)
 have hML:=pM.length_eq
 have kp2:∀b o,s1.heap.get? b=some o->h1.get? b=some o:=fun b o z=>kp1 b o (kp b o z)
 show wpAny _ _ (newList (M.map fun x=>Value.ref x.1) >>= _) _ _ {s1 with heap:=h1,toks:=tk1}
 have hz:(M.map fun x=>Value.ref x.1).length<=sizeLine:=by rw[List.length_map,sizeLine_eq];omega
 refine wpAny_bind (wpAny_newList ?_ hz)
 have hoL:(h1.push (seqObj "list" (M.map fun x=>Value.ref x.1).toArray 0)).get? h1.objs.size=some (seqObj "list" (M.map fun x=>Value.ref x.1).toArray 0):=Heap.get?_push_size _ rfl
 have kq:∀(h2:Heap),(∀b o,b≠h1.objs.size->(h1.push (seqObj "list" (M.map fun x=>Value.ref x.1).toArray 0)).get? b=some o->h2.get? b=some o)->∀b o,s1.heap.get? b=some o->h2.get? b=some o:=fun h2 k b o z=>k b o (Nat.ne_of_lt (Heap.lt_size (kp2 b o z))) (Heap.get?_push_of_some _ (kp2 b o z))
 obtain⟨kd,hkd⟩:=keyT hM
 show wpAny _ _ _ _ _ {s1 with heap:=h1.push (seqObj "list" (M.map fun x=>Value.ref x.1).toArray 0),toks:=tk1}
 refine wpAny_bind (wpAny_holding (wpAny_call_entry slot_list_sort ⟨_,hoL,rfl⟩ entry_list_sort (Srt.q2V (s:={s1 with heap:=h1.push (seqObj "list" (M.map fun x=>Value.ref x.1).toArray 0),toks:=tk1}) (κ:=tuples' true) (O:=Srt.LO) (kv:=kd) hoL hz (fun h2 h' k R hR=>qcT (I1.kept (t':=tk1) (kq h' k)) hm hM (by rw[List.length_map] at h2;exact h2) hR) (fun h2 h' k x y C E hx hy hC=>ltT (I1.kept (t':=tk1) (kq h' k)) hkd hM hx hy hC) fun out ho=>⟨_,rfl,?_⟩) (args_list_sort _)))
 obtain⟨l',hp,ho',hs⟩:=outT hkd ho.1 ho.2
 obtain⟨en,he⟩:=Srt.q2r out hoL
 have fr:s1.heap.objs.size<=h1.objs.size:=Nat.le_of_lt (Heap.lt_size (kp1 _ _ hS.get))
 refine wpAny_pure ⟨_,rfl,.ref h1.objs.size,upd H1 h1.objs.size (.lst (l'.map fun x=>V.ref x.1)),I1.laid (t':=tk1) (fun b o z=>Srt.q26 (Nat.ne_of_lt (Heap.lt_size (kp2 b o z))) (Heap.get?_push_of_some _ (kp2 b o z))) fr ⟨by rw[List.length_map,hp.length_eq,sizeLine_eq];omega,out.toList,en,by rw[ho'];exact qa6 l',by simpa[seqObj] using he⟩,rfl,q _ _ (I1.hok.fresh fr) (hp.trans pM) hs⟩
end
end L2
namespace Mine
open PySem L2
theorem bl0 {P:List Value->Prop}(h:P []):∀us:List Value,us.length=0->P us:=fun us e=>by cases us with|nil=>exact h|cons=>cases e
theorem blS {n:Nat}{P:List Value->Prop}(h:∀a (us:List Value),us.length=n->P (a::us)):∀us:List Value,us.length=n+1->P us:=fun us e=>by cases us with|nil=>cases e|cons a us=>exact h a us (Nat.succ.inj e)
def top (i:Nat):Stmt:=PySem.Challenge.pw_delve_k25_folds.main.body.getD i (.Pass ⟨0,0,0,0⟩)
abbrev q8h:Stmt:=top 0
abbrev q3i:Stmt:=top 10
abbrev q2v:Stmt:=top 11
abbrev q2x:Stmt:=top 12
abbrev q2w:Stmt:=top 21
abbrev q1K:Stmt:=top 22
abbrev q2u:Stmt:=top 23
abbrev q0U:Stmt:=top 45
abbrev q0u:Stmt:=top 46
abbrev q1f:Stmt:=top 47
abbrev q0T:Stmt:=top 48
abbrev q0f:Stmt:=top 49
abbrev q4t:Stmt:=top 56
abbrev q6F:Stmt:=top 57
abbrev q0y:Stmt:=top 58
abbrev q1g:Stmt:=top 66
abbrev q3A:Stmt:=top 67
abbrev q0d:Stmt:=top 68
abbrev q0N:Stmt:=top 69
abbrev q17:Stmt:=top 70
abbrev q03:Stmt:=top 71
abbrev q3B:Stmt:=top 74
abbrev q1T:Stmt:=top 75
abbrev q1e:Stmt:=top 76
abbrev q0D:Stmt:=top 77
abbrev q0t:Stmt:=top 78
abbrev q16:Stmt:=top 80
abbrev q6G:Stmt:=top 81
abbrev q4u:Stmt:=top 82
abbrev q1S:Stmt:=top 83
abbrev q0v:Stmt:=top 85
abbrev q1h:Stmt:=top 86
abbrev qQ:Stmt:=top 87
abbrev q0E:Stmt:=top 88
abbrev qc3:Stmt:=top 89
abbrev q1v:Stmt:=qC (top 14) 0
abbrev qH:Stmt:=qC (top 14) 1
abbrev q0W:Stmt:=qC (top 15) 0
abbrev q0V:Stmt:=qC (top 15) 1
abbrev q1x:Stmt:=qC (top 16) 0
abbrev q1w:Stmt:=qC (top 16) 1
abbrev q1u:Stmt:=qC (top 17) 0
abbrev q1t:Stmt:=qC (top 17) 1
abbrev q1V:Stmt:=qC (top 18) 0
abbrev q1U:Stmt:=qC (top 18) 1
abbrev q1j:Stmt:=qC (top 19) 0
abbrev q1i:Stmt:=qC (top 19) 1
abbrev q0Y:Stmt:=qC (top 20) 0
abbrev q0X:Stmt:=qC (top 20) 1
abbrev q1y:Stmt:=qC (top 60) 0
abbrev qO:Stmt:=qC (top 60) 1
abbrev qI:Stmt:=qC (top 60) 2
abbrev qy:Stmt:=qC (top 60) 4
abbrev q2y:Stmt:=qC (top 61) 0
abbrev q2z:Stmt:=qC (top 61) 1
abbrev q2A:Stmt:=qC (top 61) 2
abbrev q1q:Stmt:=qC (top 62) 0
abbrev q1r:Stmt:=qC (top 62) 1
abbrev q1s:Stmt:=qC (top 62) 2
abbrev q1n:Stmt:=qC (top 63) 0
abbrev q1o:Stmt:=qC (top 63) 1
abbrev q1p:Stmt:=qC (top 63) 2
abbrev q1k:Stmt:=qC (top 64) 0
abbrev q1l:Stmt:=qC (top 64) 1
abbrev q1m:Stmt:=qC (top 64) 2
abbrev q0F:Stmt:=qC (top 65) 0
abbrev q0G:Stmt:=qC (top 65) 1
abbrev q0H:Stmt:=qC (top 65) 2
theorem q8f:FnScope ["number","least","most"] ["number","least","most"] (qd q3i):=⟨rfl,rfl,rfl,by decide +kernel,rfl,by decide +kernel,by decide +kernel⟩
theorem q7q:FnScope ["bits","place"] ["bits","place"] (qd q2v):=⟨rfl,rfl,rfl,by decide +kernel,rfl,by decide +kernel,by decide +kernel⟩
theorem q7r:FnScope ["parts","place","part"] ["parts","place","part"] (qd q2x):=⟨rfl,rfl,rfl,by decide +kernel,rfl,by decide +kernel,by decide +kernel⟩
theorem q4b:FnScope ["gate","word"] ["gate"] (qd q2w):=⟨rfl,rfl,rfl,by decide +kernel,rfl,by decide +kernel,by decide +kernel⟩
theorem q2Q:FnScope ["thing","tops","numbers"] ["thing"] (qd q1K):=⟨rfl,rfl,rfl,by decide +kernel,rfl,by decide +kernel,by decide +kernel⟩
theorem q7p:FnScope ["word"] ["word"] (qd q2u):=⟨rfl,rfl,rfl,by decide +kernel,rfl,by decide +kernel,by decide +kernel⟩
theorem q8g:FnScope ["rooms","first","last","ways","things","levers","wheels","bars","water"] ["rooms","first","last","ways","things","levers","wheels","bars","water"] (qd q0U):=⟨rfl,rfl,rfl,by decide +kernel,rfl,by decide +kernel,by decide +kernel⟩
theorem q3y:FnScope ["name","number","least","most"] ["name","number","least","most"] (qd q0u):=⟨rfl,rfl,rfl,by decide +kernel,rfl,by decide +kernel,by decide +kernel⟩
theorem q0g:FnScope ["rooms","ways","made","a","b","gate","back"] ["rooms","ways"] (qd q1f):=⟨rfl,rfl,rfl,by decide +kernel,rfl,by decide +kernel,by decide +kernel⟩
theorem q0C:FnScope ["name","rooms","pairs","most_pairs","least","most","made","room","number"] ["name","rooms","pairs","most_pairs","least","most"] (qd q0T):=⟨rfl,rfl,rfl,by decide +kernel,rfl,by decide +kernel,by decide +kernel⟩
theorem q0S:FnScope ["name","rows","most","made"] ["name","rows","most"] (qd q0f):=⟨rfl,rfl,rfl,by decide +kernel,rfl,by decide +kernel,by decide +kernel⟩
theorem qa3:FnScope ["cellar"] ["cellar"] (qd q4t):=⟨rfl,rfl,rfl,by decide +kernel,rfl,by decide +kernel,by decide +kernel⟩
theorem q2R:FnScope ["cellar","stand","counts","number","thing","kind"] ["cellar","stand"] (qd q6F):=⟨rfl,rfl,rfl,by decide +kernel,rfl,by decide +kernel,by decide +kernel⟩
theorem q4o:FnScope ["cellar"] ["cellar"] (qd q0y):=⟨rfl,rfl,rfl,by decide +kernel,rfl,by decide +kernel,by decide +kernel⟩
theorem q5i:FnScope ["way","room"] ["way","room"] (qd q1g):=⟨rfl,rfl,rfl,by decide +kernel,rfl,by decide +kernel,by decide +kernel⟩
theorem qa4:FnScope ["cellar","stand"] ["cellar","stand"] (qd q3A):=⟨rfl,rfl,rfl,by decide +kernel,rfl,by decide +kernel,by decide +kernel⟩
theorem q3x:FnScope ["cellar","stand"] ["cellar","stand"] (qd q0d):=⟨rfl,rfl,rfl,by decide +kernel,rfl,by decide +kernel,by decide +kernel⟩
theorem q5h:FnScope ["cellar","stand"] ["cellar","stand"] (qd q0N):=⟨rfl,rfl,rfl,by decide +kernel,rfl,by decide +kernel,by decide +kernel⟩
theorem q67:FnScope ["cellar"] ["cellar"] (qd q17):=⟨rfl,rfl,rfl,by decide +kernel,rfl,by decide +kernel,by decide +kernel⟩
theorem q0x:FnScope ["cellar","pulls","takes","turns","unlocks"] ["cellar"] (qd q03):=⟨rfl,rfl,rfl,by decide +kernel,rfl,by decide +kernel,by decide +kernel⟩
theorem qc2:FnScope ["cellar","stand"] ["cellar","stand"] (qd q3B):=⟨rfl,rfl,rfl,by decide +kernel,rfl,by decide +kernel,by decide +kernel⟩
theorem q66:FnScope ["cellar","stand"] ["cellar","stand"] (qd q1T):=⟨rfl,rfl,rfl,by decide +kernel,rfl,by decide +kernel,by decide +kernel⟩
theorem qP:FnScope ["cellar","begin","walk","row","place","here","pairs","deed","other"] ["cellar","begin"] (qd q1e):=⟨rfl,rfl,rfl,by decide +kernel,rfl,by decide +kernel,by decide +kernel⟩
theorem qL:FnScope ["begins","links","row","counts","begin","place","here","other"] ["begins","links"] (qd q0D):=⟨rfl,rfl,rfl,by decide +kernel,rfl,by decide +kernel,by decide +kernel⟩
theorem qT:FnScope ["links","turned","stand","others","other"] ["links"] (qd q0t):=⟨rfl,rfl,rfl,by decide +kernel,rfl,by decide +kernel,by decide +kernel⟩
theorem q1c:FnScope ["cellar","stand","links","gone_to","gone_from"] ["cellar","stand"] (qd q16):=⟨rfl,rfl,rfl,by decide +kernel,rfl,by decide +kernel,by decide +kernel⟩
theorem qc1:FnScope ["cellar","stand"] ["cellar","stand"] (qd q6G):=⟨rfl,rfl,rfl,by decide +kernel,rfl,by decide +kernel,by decide +kernel⟩
theorem q2t:FnScope ["cellar","least","folded","stand","other"] ["cellar"] (qd q4u):=⟨rfl,rfl,rfl,by decide +kernel,rfl,by decide +kernel,by decide +kernel⟩
theorem q1d:FnScope ["cellar","stand","links","room","here"] ["cellar","stand"] (qd q1S):=⟨rfl,rfl,rfl,by decide +kernel,rfl,by decide +kernel,by decide +kernel⟩
theorem q3z:FnScope ["_law_script","_law_k"] ["_law_script","_law_k"] (qd q0v):=⟨rfl,rfl,rfl,by decide +kernel,rfl,by decide +kernel,by decide +kernel⟩
theorem q1J:FnScope ["_law_cell","_law_way"] ["_law_cell"] (qd q1h):=⟨rfl,rfl,rfl,by decide +kernel,rfl,by decide +kernel,by decide +kernel⟩
theorem qr:FnScope ["_law_script","_law_first","_law_rooms","_law_ways","_law_k","_law_cell","_law_a","_law_b","_law_some","_law_things","_law_levers","_law_wheels","_law_last","_law_more"] ["_law_script"] (qd qQ):=⟨rfl,rfl,rfl,by decide +kernel,rfl,by decide +kernel,by decide +kernel⟩
theorem q28:FnScope ["_law_place","_law_stand","_law_told"] ["_law_place","_law_stand"] (qd q0E):=⟨rfl,rfl,rfl,by decide +kernel,rfl,by decide +kernel,by decide +kernel⟩
theorem q27:FnScope ["_law_script","_law_place","_law_some","_law_told","_law_at","_law_stand","_law_kept"] ["_law_script"] (qd qc3):=⟨rfl,rfl,rfl,by decide +kernel,rfl,by decide +kernel,by decide +kernel⟩
theorem q5v:FnScope ["self","word","numbers"] ["self","word","numbers"] (qd q1v):=⟨rfl,rfl,rfl,by decide +kernel,rfl,by decide +kernel,by decide +kernel⟩
theorem q4q:FnScope ["self"] ["self"] (qd q0W):=⟨rfl,rfl,rfl,by decide +kernel,rfl,by decide +kernel,by decide +kernel⟩
theorem q4p:FnScope ["self","held","opened","bars","water"] ["self","held","opened","bars","water"] (qd q0V):=⟨rfl,rfl,rfl,by decide +kernel,rfl,by decide +kernel,by decide +kernel⟩
theorem q5x:FnScope ["self","kind"] ["self","kind"] (qd q1x):=⟨rfl,rfl,rfl,by decide +kernel,rfl,by decide +kernel,by decide +kernel⟩
theorem q5w:FnScope ["self","held","opened","bars","water"] ["self","held","opened","bars","water"] (qd q1w):=⟨rfl,rfl,rfl,by decide +kernel,rfl,by decide +kernel,by decide +kernel⟩
theorem q5u:FnScope ["self","kind"] ["self","kind"] (qd q1u):=⟨rfl,rfl,rfl,by decide +kernel,rfl,by decide +kernel,by decide +kernel⟩
theorem q5t:FnScope ["self","held","opened","bars","water"] ["self","held","opened","bars","water"] (qd q1t):=⟨rfl,rfl,rfl,by decide +kernel,rfl,by decide +kernel,by decide +kernel⟩
theorem q6a:FnScope ["self","bar"] ["self","bar"] (qd q1V):=⟨rfl,rfl,rfl,by decide +kernel,rfl,by decide +kernel,by decide +kernel⟩
theorem q69:FnScope ["self","held","opened","bars","water"] ["self","held","opened","bars","water"] (qd q1U):=⟨rfl,rfl,rfl,by decide +kernel,rfl,by decide +kernel,by decide +kernel⟩
theorem q5k:FnScope ["self","height","kind"] ["self","height","kind"] (qd q1j):=⟨rfl,rfl,rfl,by decide +kernel,rfl,by decide +kernel,by decide +kernel⟩
theorem q5j:FnScope ["self","held","opened","bars","water"] ["self","held","opened","bars","water"] (qd q1i):=⟨rfl,rfl,rfl,by decide +kernel,rfl,by decide +kernel,by decide +kernel⟩
theorem q4s:FnScope ["self","height"] ["self","height"] (qd q0Y):=⟨rfl,rfl,rfl,by decide +kernel,rfl,by decide +kernel,by decide +kernel⟩
theorem q4r:FnScope ["self","held","opened","bars","water"] ["self","held","opened","bars","water"] (qd q0X):=⟨rfl,rfl,rfl,by decide +kernel,rfl,by decide +kernel,by decide +kernel⟩
theorem q5z:FnScope ["self","word","number","part"] ["self","word","number","part"] (qd q1y):=⟨rfl,rfl,rfl,by decide +kernel,rfl,by decide +kernel,by decide +kernel⟩
theorem q68:FnScope ["self","cellar","stand"] ["self","cellar","stand"] (qd qO):=⟨rfl,rfl,rfl,by decide +kernel,rfl,by decide +kernel,by decide +kernel⟩
theorem q5y:FnScope ["self"] ["self"] (qd qI):=⟨rfl,rfl,rfl,by decide +kernel,rfl,by decide +kernel,by decide +kernel⟩
theorem q3a:FnScope ["self","cellar"] ["self","cellar"] (qd qy):=⟨rfl,rfl,rfl,by decide +kernel,rfl,by decide +kernel,by decide +kernel⟩
theorem q7s:FnScope ["self","number"] ["self","number"] (qd q2y):=⟨rfl,rfl,rfl,by decide +kernel,rfl,by decide +kernel,by decide +kernel⟩
theorem q2S:FnScope ["self","cellar","stand","way","opened"] ["self","cellar","stand"] (qd q2z):=⟨rfl,rfl,rfl,by decide +kernel,rfl,by decide +kernel,by decide +kernel⟩
theorem q2T:FnScope ["self","cellar","stand","way","other_end"] ["self","cellar","stand"] (qd q2A):=⟨rfl,rfl,rfl,by decide +kernel,rfl,by decide +kernel,by decide +kernel⟩
theorem q5q:FnScope ["self","number"] ["self","number"] (qd q1q):=⟨rfl,rfl,rfl,by decide +kernel,rfl,by decide +kernel,by decide +kernel⟩
theorem q5r:FnScope ["self","cellar","stand"] ["self","cellar","stand"] (qd q1r):=⟨rfl,rfl,rfl,by decide +kernel,rfl,by decide +kernel,by decide +kernel⟩
theorem q5s:FnScope ["self","cellar","stand"] ["self","cellar","stand"] (qd q1s):=⟨rfl,rfl,rfl,by decide +kernel,rfl,by decide +kernel,by decide +kernel⟩
theorem q5n:FnScope ["self","number"] ["self","number"] (qd q1n):=⟨rfl,rfl,rfl,by decide +kernel,rfl,by decide +kernel,by decide +kernel⟩
theorem q5o:FnScope ["self","cellar","stand"] ["self","cellar","stand"] (qd q1o):=⟨rfl,rfl,rfl,by decide +kernel,rfl,by decide +kernel,by decide +kernel⟩
theorem q5p:FnScope ["self","cellar","stand"] ["self","cellar","stand"] (qd q1p):=⟨rfl,rfl,rfl,by decide +kernel,rfl,by decide +kernel,by decide +kernel⟩
theorem q5l:FnScope ["self","number"] ["self","number"] (qd q1k):=⟨rfl,rfl,rfl,by decide +kernel,rfl,by decide +kernel,by decide +kernel⟩
theorem q36:FnScope ["self","cellar","stand","wheel"] ["self","cellar","stand"] (qd q1l):=⟨rfl,rfl,rfl,by decide +kernel,rfl,by decide +kernel,by decide +kernel⟩
theorem q5m:FnScope ["self","cellar","stand"] ["self","cellar","stand"] (qd q1m):=⟨rfl,rfl,rfl,by decide +kernel,rfl,by decide +kernel,by decide +kernel⟩
theorem q43:FnScope ["self","number"] ["self","number"] (qd q0F):=⟨rfl,rfl,rfl,by decide +kernel,rfl,by decide +kernel,by decide +kernel⟩
theorem q14:FnScope ["self","cellar","stand","way","gate"] ["self","cellar","stand"] (qd q0G):=⟨rfl,rfl,rfl,by decide +kernel,rfl,by decide +kernel,by decide +kernel⟩
theorem q44:FnScope ["self","cellar","stand"] ["self","cellar","stand"] (qd q0H):=⟨rfl,rfl,rfl,by decide +kernel,rfl,by decide +kernel,by decide +kernel⟩
structure Cs where
 Gate:Addr
 Plain:Addr
 Door:Addr
 Need:Addr
 Bar:Addr
 Wade:Addr
 Float:Addr
 Deed:Addr
 Go:Addr
 Pull:Addr
 Take:Addr
 Turn:Addr
 Unlock:Addr
structure TxtR (a:Str->Value->Prop)(n:Str->Prop)(cs:Cs):Prop where
 n_all:n "all"
 n_bool:n "bool"
 n_enumerate:n "enumerate"
 n_int:n "int"
 n_isinstance:n "isinstance"
 n_len:n "len"
 n_list:n "list"
 n_range:n "range"
 n_set:n "set"
 n_sorted:n "sorted"
 n_tuple:n "tuple"
 n_zip:n "zip"
 e_ALL_BARS:∃t,a "ALL_BARS" (.int 255 t)
 e_BARS:∃t,a "BARS" (.int 3 t)
 e_FIRST:∃t,a "FIRST" (.int 1 t)
 e_FIRST_BARS:∃t,a "FIRST_BARS" (.int 7 t)
 e_FIRST_WATER:∃t,a "FIRST_WATER" (.int 8 t)
 e_LAST:∃t,a "LAST" (.int 2 t)
 e_LAST_BAR:∃t,a "LAST_BAR" (.int 7 t)
 e_LAST_KIND:∃t,a "LAST_KIND" (.int 11 t)
 e_LEVERS:∃t,a "LEVERS" (.int 5 t)
 e_MOST_LEVERS:∃t,a "MOST_LEVERS" (.int 4 t)
 e_MOST_ROOMS:∃t,a "MOST_ROOMS" (.int 14 t)
 e_MOST_STANDS:∃t,a "MOST_STANDS" (.int 300 t)
 e_MOST_THINGS:∃t,a "MOST_THINGS" (.int 8 t)
 e_MOST_WAYS:∃t,a "MOST_WAYS" (.int 20 t)
 e_MOST_WHEELS:∃t,a "MOST_WHEELS" (.int 4 t)
 e_OPENED:∃t,a "OPENED" (.int 2 t)
 e_PAIR_NUMBER:∃t,a "PAIR_NUMBER" (.int 1 t)
 e_PAIR_ROOM:∃t,a "PAIR_ROOM" (.int 0 t)
 e_ROOM:∃t,a "ROOM" (.int 0 t)
 e_ROOMS:∃t,a "ROOMS" (.int 0 t)
 e_TAKEN:∃t,a "TAKEN" (.int 1 t)
 e_THINGS:∃t,a "THINGS" (.int 4 t)
 e_TOP_HEIGHT:∃t,a "TOP_HEIGHT" (.int 9 t)
 e_WATER:∃t,a "WATER" (.int 4 t)
 e_WAYS:∃t,a "WAYS" (.int 3 t)
 e_WAY_A:∃t,a "WAY_A" (.int 0 t)
 e_WAY_B:∃t,a "WAY_B" (.int 1 t)
 e_WAY_BACK:∃t,a "WAY_BACK" (.int 3 t)
 e_WAY_GATE:∃t,a "WAY_GATE" (.int 2 t)
 e_WHEELS:∃t,a "WHEELS" (.int 6 t)
 c_Gate:a "Gate" (.ref cs.Gate)
 c_Plain:a "Plain" (.ref cs.Plain)
 c_Door:a "Door" (.ref cs.Door)
 c_Need:a "Need" (.ref cs.Need)
 c_Bar:a "Bar" (.ref cs.Bar)
 c_Wade:a "Wade" (.ref cs.Wade)
 c_Float:a "Float" (.ref cs.Float)
 c_Deed:a "Deed" (.ref cs.Deed)
 c_Go:a "Go" (.ref cs.Go)
 c_Pull:a "Pull" (.ref cs.Pull)
 c_Take:a "Take" (.ref cs.Take)
 c_Turn:a "Turn" (.ref cs.Turn)
 c_Unlock:a "Unlock" (.ref cs.Unlock)
abbrev Txt (mg:Str->Option Value)(cs:Cs):Prop:=TxtR (fun x v=>mg x=some v) (fun x=>mg x=none) cs
theorem TxtR.up {a a':Str->Value->Prop}{n n':Str->Prop}{cs:Cs}(h1:∀x v,a x v->a' x v)(h2:∀x,n x->n' x)(t:TxtR a n cs):TxtR a' n' cs:=⟨h2 _ t.n_all,h2 _ t.n_bool,h2 _ t.n_enumerate,h2 _ t.n_int,h2 _ t.n_isinstance,h2 _ t.n_len,h2 _ t.n_list,h2 _ t.n_range,h2 _ t.n_set,h2 _ t.n_sorted,h2 _ t.n_tuple,h2 _ t.n_zip,t.e_ALL_BARS.imp fun _=>h1 _ _,t.e_BARS.imp fun _=>h1 _ _,t.e_FIRST.imp fun _=>h1 _ _,t.e_FIRST_BARS.imp fun _=>h1 _ _,t.e_FIRST_WATER.imp fun _=>h1 _ _,t.e_LAST.imp fun _=>h1 _ _,t.e_LAST_BAR.imp fun _=>h1 _ _,t.e_LAST_KIND.imp fun _=>h1 _ _,t.e_LEVERS.imp fun _=>h1 _ _,t.e_MOST_LEVERS.imp fun _=>h1 _ _,t.e_MOST_ROOMS.imp fun _=>h1 _ _,t.e_MOST_STANDS.imp fun _=>h1 _ _,t.e_MOST_THINGS.imp fun _=>h1 _ _,t.e_MOST_WAYS.imp fun _=>h1 _ _,t.e_MOST_WHEELS.imp fun _=>h1 _ _,t.e_OPENED.imp fun _=>h1 _ _,t.e_PAIR_NUMBER.imp fun _=>h1 _ _,t.e_PAIR_ROOM.imp fun _=>h1 _ _,t.e_ROOM.imp fun _=>h1 _ _,t.e_ROOMS.imp fun _=>h1 _ _,t.e_TAKEN.imp fun _=>h1 _ _,t.e_THINGS.imp fun _=>h1 _ _,t.e_TOP_HEIGHT.imp fun _=>h1 _ _,t.e_WATER.imp fun _=>h1 _ _,t.e_WAYS.imp fun _=>h1 _ _,t.e_WAY_A.imp fun _=>h1 _ _,t.e_WAY_B.imp fun _=>h1 _ _,t.e_WAY_BACK.imp fun _=>h1 _ _,t.e_WAY_GATE.imp fun _=>h1 _ _,t.e_WHEELS.imp fun _=>h1 _ _,h1 _ _ t.c_Gate,h1 _ _ t.c_Plain,h1 _ _ t.c_Door,h1 _ _ t.c_Need,h1 _ _ t.c_Bar,h1 _ _ t.c_Wade,h1 _ _ t.c_Float,h1 _ _ t.c_Deed,h1 _ _ t.c_Go,h1 _ _ t.c_Pull,h1 _ _ t.c_Take,h1 _ _ t.c_Turn,h1 _ _ t.c_Unlock⟩
structure Tcl (K:W.Frag)(cs:Cs):Prop where
 cl_Plain:Cls K cs.Plain
 no_Plain_numbers:qz K cs.Plain "numbers"
 no_Plain_word:qz K cs.Plain "word"
 cl_Door:Cls K cs.Door
 no_Door_numbers:qz K cs.Door "numbers"
 no_Door_word:qz K cs.Door "word"
 cl_Need:Cls K cs.Need
 no_Need_kind:qz K cs.Need "kind"
 no_Need_numbers:qz K cs.Need "numbers"
 no_Need_word:qz K cs.Need "word"
 cl_Bar:Cls K cs.Bar
 no_Bar_bar:qz K cs.Bar "bar"
 no_Bar_numbers:qz K cs.Bar "numbers"
 no_Bar_word:qz K cs.Bar "word"
 cl_Wade:Cls K cs.Wade
 no_Wade_height:qz K cs.Wade "height"
 no_Wade_kind:qz K cs.Wade "kind"
 no_Wade_numbers:qz K cs.Wade "numbers"
 no_Wade_word:qz K cs.Wade "word"
 cl_Float:Cls K cs.Float
 no_Float_height:qz K cs.Float "height"
 no_Float_numbers:qz K cs.Float "numbers"
 no_Float_word:qz K cs.Float "word"
 cl_Go:Cls K cs.Go
 no_Go_number:qz K cs.Go "number"
 no_Go_part:qz K cs.Go "part"
 no_Go_word:qz K cs.Go "word"
 cl_Pull:Cls K cs.Pull
 no_Pull_number:qz K cs.Pull "number"
 no_Pull_part:qz K cs.Pull "part"
 no_Pull_word:qz K cs.Pull "word"
 cl_Take:Cls K cs.Take
 no_Take_number:qz K cs.Take "number"
 no_Take_part:qz K cs.Take "part"
 no_Take_word:qz K cs.Take "word"
 cl_Turn:Cls K cs.Turn
 no_Turn_number:qz K cs.Turn "number"
 no_Turn_part:qz K cs.Turn "part"
 no_Turn_word:qz K cs.Turn "word"
 cl_Unlock:Cls K cs.Unlock
 no_Unlock_number:qz K cs.Unlock "number"
 no_Unlock_part:qz K cs.Unlock "part"
 no_Unlock_word:qz K cs.Unlock "word"
-- ROOM 13
-- SLIM
-- DROP ok_deed_of
-- DROP ok_behind
-- DROP ok_deedsAt
-- PATCHED
-- DROP ok_cell
-- DROP ok_gate
-- DROP ok_heldL
-- DROP ok_cellar
-- DROP stand_b
-- DROP ok_stand
-- DROP vm_dtext
-- DROP vm_told
-- DROP vm_text
local macro_rules| `(tactic| walk_at "ne")=> `(tactic| refine ifd (fun h=>absurd h (by decide +kernel)) (fun _=>?_))
local macro_rules| `(tactic| walk_at "eq")=> `(tactic| refine ifd (fun _=>?_) (fun h=>absurd rfl h))
local macro_rules| `(tactic| walk_at "at")=> `(tactic| first|rfl|exact atI0|exact qdl (by assumption)|exact q0R (by assumption)|assumption)
local macro_rules| `(tactic| walk_at "hp")=> `(tactic| first|with_reducible assumption|with_reducible exact qb|((with_reducible apply q0e);(rotate_left;(with_reducible assumption));walk_at "hp")|exact qb)
local macro_rules| `(tactic| walk_at "sq")=> `(tactic| first|with_reducible assumption|((with_reducible apply SqT.of);walk_at "hp")|((with_reducible apply SqL.of);walk_at "hp")|((with_reducible refine' Same.seq ?s ?h);(case h=>with_reducible assumption);(case s=>walk_at "sm"))|((with_reducible refine' Same.tup ?s ?h);(case h=>with_reducible assumption);(case s=>walk_at "sm")))
local macro_rules| `(tactic| walk_at "sm")=> `(tactic| first|with_reducible assumption|with_reducible exact Same.refl _|((with_reducible refine Same.trans ?_ (Same.upd (by assumption)));walk_at "sm"))
local macro_rules| `(tactic| walk_at "side")=> `(tactic| first|assumption|omega|(exact⟨by omega,by omega⟩)|(exact Or.inl ⟨by omega,by omega⟩)|(exact Or.inr ⟨by omega,by omega⟩)|(exact⟨by omega,by omega,by omega⟩)|(exact⟨by omega,by omega,by decide⟩)|(exact⟨⟨by omega,by omega⟩,by omega,by omega⟩))
local macro_rules| `(tactic| walk_at "rd1")=> `(tactic| first|((with_reducible refine' r_var ?h ?_);(case h=>rfl))|with_reducible refine' r_op ?_|with_reducible refine' r_c ?_|with_reducible refine' r_cons ?_|with_reducible refine' r_nil ?_|with_reducible refine' r_seq ?_|with_reducible refine' r_asg ?_|with_reducible refine' r_name ?_|with_reducible refine' r_call ?_|with_reducible refine' r_cb ?_|with_reducible refine' r_I0 ?_|with_reducible refine' r_test ?_|with_reducible refine' r_bl ?_|with_reducible refine' r_B ?_|with_reducible refine' r_ifS ?_|with_reducible refine' r_ret ?_|with_reducible refine' r_eqI ?_|with_reducible refine' r_eqS ?_|with_reducible refine' r_eqB ?_|with_reducible refine' r_neI ?_|with_reducible refine' r_neS ?_|with_reducible refine' r_neB ?_|with_reducible refine' r_and ?_|with_reducible refine' r_or ?_|with_reducible refine' r_not ?_|with_reducible refine' r_un ?_|with_reducible refine' r_U ?_|with_reducible refine' r_isN ?_|with_reducible refine' r_notN ?_|with_reducible refine' r_andV ?_|with_reducible refine' r_orV ?_|with_reducible refine' r_notV ?_|with_reducible refine' r_if ?_|with_reducible refine' r_tup ?_|with_reducible refine' r_lst ?_|with_reducible refine' r_sl ?_|with_reducible refine' r_np ?_|with_reducible refine' r_pt ?_|with_reducible refine' r_int ?_|with_reducible refine' r_fld0 ?_|with_reducible refine' qc6 ?_|with_reducible refine' r_vm0 ?_|with_reducible refine' r_make ?_|with_reducible refine' qca ?_|with_reducible refine' r_max2 ?_|with_reducible refine' r_min2 ?_|with_reducible refine' r_inti ?_|with_reducible refine' r_intb ?_|with_reducible refine' r_strs ?_|with_reducible refine' r_next ?_|with_reducible refine' r_drop ?_|with_reducible refine' r_sub ?_|with_reducible refine' r_augS ?_|with_reducible refine' r_ipI ?_|with_reducible refine' r_gc ?_|with_reducible refine' r_gn ?_|with_reducible refine' r_retN ?_|with_reducible refine' r_bm ?_|with_reducible refine' r_bm0 ?_|with_reducible refine' r_for ?_|with_reducible refine' r_rng1 ?_|with_reducible refine' r_rng2 ?_|with_reducible refine' r_comp ?_|with_reducible refine' r_yes ?_|with_reducible refine' r_iL ?_|with_reducible refine' r_iT ?_|with_reducible refine' r_eL ?_|with_reducible refine' r_eT ?_|with_reducible refine' iteT ?_|with_reducible refine' iteF ?_|with_reducible refine' ifnT ?_|with_reducible refine' ifnF ?_|with_reducible refine' r_fs ?_|with_reducible refine' r_fv ?_|with_reducible refine' qcd ?_|with_reducible refine' r_callK ?_|with_reducible refine' qad ?_|with_reducible refine' qae ?_|with_reducible refine' r_isi_bb ?_|with_reducible refine' r_isi_bi ?_|with_reducible refine' r_isi_ss ?_|with_reducible refine' r_isi_sb ?_|with_reducible refine' r_isi_si ?_|with_reducible refine' qaa ?_|with_reducible refine' r_isi_it ?_|with_reducible refine' r_isi_bt ?_|with_reducible refine' r_isi_is ?_|with_reducible refine' r_isi_bs ?_|with_reducible refine' qab ?_|with_reducible refine' r_notT0 ?_|with_reducible refine' r_dnew ?_|with_reducible refine' r_dget ?_|with_reducible refine' r_din ?_|with_reducible refine' r_dnin ?_|with_reducible refine' r_dput ?_|with_reducible refine' r_hold ?_|with_reducible refine' r_dk ?_|with_reducible refine' r_dp ?_|((with_reducible refine' r_I ?h ?_);(case h=>walk_at "side"))|((with_reducible refine' r_al ?h ?_);(case h=>rfl))|((with_reducible refine' r_aug ?h ?_);(case h=>rfl))|((with_reducible refine' r_augN ?h ?_);(case h=>rfl))|((with_reducible refine' q3b ?h ?e ?_);(case h=>walk_at "sq");(case e=>walk_at "at"))|((with_reducible refine' q6b ?h ?e ?_);(case h=>walk_at "sq");(case e=>walk_at "at"))|((with_reducible refine' r_ixU ?h ?e ?_);(case h=>assumption);(case e=>walk_at "at"))|((with_reducible refine' r_lenT ?h ?_);(case h=>walk_at "sq"))|((with_reducible refine' r_lenL ?h ?_);(case h=>walk_at "sq"))|((with_reducible refine' r_lenU ?h ?_);(case h=>assumption))|((with_reducible refine' r_refT ?h ?_);(case h=>walk_at "sq"))|((with_reducible refine' r_refL ?h ?_);(case h=>walk_at "sq"))|((with_reducible refine' qc7 ?h ?_);(case h=>walk_at "sq"))|((with_reducible refine' qc8 ?h ?_);(case h=>walk_at "sq"))|((with_reducible refine' r_tyL ?h ?_);(case h=>walk_at "hp"))|((with_reducible refine' qa9 ?h ?_);(case h=>walk_at "hp"))|((with_reducible refine' r_isi_tl ?h ?_);(case h=>walk_at "hp"))|((with_reducible refine' qac ?h ?_);(case h=>walk_at "hp"))|((with_reducible refine' r_isi_lt ?h ?_);(case h=>walk_at "hp"))|((with_reducible refine' r_gT ?h ?e ?_);(case h=>walk_at "sq");(case e=>rfl))|((with_reducible refine' r_gL ?h ?e ?_);(case h=>walk_at "sq");(case e=>rfl))|((with_reducible refine' r_rg ?h ?_);(case h=>walk_at "side"))|((with_reducible refine' r_rg2 ?h ?_);(case h=>walk_at "side")))
local macro_rules| `(tactic| walk_at "rd")=> `(tactic| repeat (walk_at "rd1"))
open Ce
def q64:Sp:=fun vs H Q _=>∃x t,vs=[.int x,.int t]/\0<=t/\Q (.bl (bit x t.toNat)) H
def qbi:Sp:=fun vs H Q _=>∃c:Int,vs=[.int c]/\∀(p:Addr) (g:Gt) (H':Hp),Same H H'->g.ok->H' p=some (.tup g.vs)->Q (.ref p) H'
def q62:Sp:=fun vs H Q _=>∃(p:Addr) (C:Cl),vs=[.ref p]/\ClAt H p C/\∀(q:Addr) (H':Hp),Same H H'->H' q=some (.tup [.int C.fst,.int 0,.int 0,.int C.bars,.int C.water])->Q (.ref q) H'
def dkV (g:Gt):V:=match g.dk with
 |some k=> .int k
 |none=> .non
def spDk:Sp:=fun vs H Q _=>∃(p:Addr) (C:Cl),vs=[.ref p]/\ClAt H p C/\ClOk C/\∀(q:Addr) (H':Hp),Same H H'->H q=none->H' q=some (.lst (C.ways.map fun x=>dkV x.g))->Q (.ref q) H'
def q6B:Sp:=fun vs H Q _=>∃(p q:Addr) (C:Cl) (rm tk op b wt:Int),vs=[.ref p,.ref q]/\ClAt H p C/\ClOk C/\H q=some (.tup [.int rm,.int tk,.int op,.int b,.int wt])/\(∀i,i<C.ways.length->bit op i=true->(dsOf C i).isSome=true)/\
 ∀(r:Addr) (H':Hp),Same H H'->H r=none->H' r=some (.lst (cl (hold C tk op)))->Q (.ref r) H'
theorem qb7 {xs:List Int}{j:Nat}(h:j<xs.length):atI (xs.map V.int) (j:Int)=some (.int (xs.getD j 0)):=q0R (by simp[List.getD,h])
theorem qbB {C:Cl}{tk k:Int}{i:Nat}(hi:i<C.things.length):(cnt (tP C tk k) (i+1):Int)=(cnt (tP C tk k) i:Int)+(if bit tk i=true then(if k=C.things[i].2 then 1 else 0) else 0):=by
 show((cnt _ i+_:Nat):Int)=_
 have e:C.things.getD i (0,0)=C.things[i]:=by simp[List.getD,hi]
 unfold tP
 rw[e]
 by_cases h1:bit tk i=true
 ·by_cases h2:C.things[i].2=k
  ·simp [h1,h2]
  ·have:¬k=C.things[i].2:=fun z=>h2 z.symm
   simp[h1,h2,this]
 ·simp [h1]
theorem qbC {C:Cl}{op k:Int}{i:Nat}(hi:i<C.ways.length):(cnt (dP (dsOf C) op k) (i+1):Int)=(cnt (dP (dsOf C) op k) i:Int)+(if bit op i=true then(if C.ways[i].g.dk=some k then 1 else 0) else 0):=by
 show((cnt _ i+_:Nat):Int)=_
 have e:dsOf C i=C.ways[i].g.dk:=by simp[dsOf,hi]
 unfold dP
 rw[e]
 by_cases h1:bit op i=true
 ·by_cases h2:C.ways[i].g.dk=some k
  ·simp [h1,h2]
  ·simp [h1,h2]
 ·simp [h1]
section
variable {P:Program}{w:World}{K:W.Frag}{mg:Str->Option Value}{base:Heap}{cs:Cs}
theorem q7z (T:Txt mg cs)(L:Laid K mg "has_bit" q2v ["bits","place"]):Cal P w K mg base 1 "has_bit" ["bits","place"] q64:=by
 refine L.cal (k:=0) q7q (fun vs H Q E h=>?_) (fun f cdv A outer s H vs Q E hr h=>?_)
 ·obtain ⟨x,t,rfl,_⟩:=h
  rfl
 ·obtain ⟨x,t,rfl,h0,k⟩:=h
  refine⟨_,(qf (ql (q05 q0l (qx op_and (qx op_shr (pv 0) (pv 1)) qg) qg (qt _)))),?_⟩
  walk_at "rd"
  rw[q7L]
  exact k
theorem qaq (T:Txt mg cs)(L:Laid K mg "start" q4t ["cellar"]):Cal P w K mg base 1 "start" ["cellar"] q62:=by
 obtain⟨t1,e_FIRST⟩:=T.e_FIRST
 obtain⟨t2,e_FIRST_BARS⟩:=T.e_FIRST_BARS
 obtain⟨t3,e_FIRST_WATER⟩:=T.e_FIRST_WATER
 refine L.cal (k:=0) qa3 (fun vs H Q E h=>?_) (fun f cdv A outer s H vs Q E hr h=>?_)
 ·obtain ⟨p,C,rfl,_⟩:=h
  rfl
 ·obtain ⟨p,C,rfl,hC,k⟩:=h
  obtain⟨pw,pt,pl,pv',h0,_⟩:=hC.ex
  refine⟨_,(qf (ql (qR (qa (qA (qk K) (pv 0) (qh (v:= .int 1) rfl e_FIRST ⟨_,rfl⟩) (fun _ _=>rfl)) (qa qg (qa qg (qa (qA (qk K) (pv 0) (qh (v:= .int 7) rfl e_FIRST_BARS ⟨_,rfl⟩) (fun _ _=>rfl)) (qa (qA (qk K) (pv 0) (qh (v:= .int 8) rfl e_FIRST_WATER ⟨_,rfl⟩) (fun _ _=>rfl)) qe)))))))),?_⟩
  walk_at "rd"
  intro q hq
  exact k q _ (Same.upd hq) qb
theorem ok_dk (T:Txt mg cs)(L:Laid K mg "door_kinds" q0y ["cellar"]):Cal P w K mg base 1 "door_kinds" ["cellar"] spDk:=by
 obtain⟨t1,e_WAYS⟩:=T.e_WAYS
 refine L.cal (k:=0) q4o (fun vs H Q E h=>?_) (fun f cdv A outer s H vs Q E hr h=>?_)
 ·obtain ⟨p,C,rfl,_⟩:=h
  rfl
 ·obtain ⟨p,C,rfl,hC,ok,k⟩:=h
  obtain⟨pw,pt,pl,pv',h0,h1,_⟩:=hC.ex
  obtain⟨wv,hw,hwl,hwg⟩:=h1.get
  have big:=qM
  refine⟨_,(qf (ql (q0P (q0q (N:=["a","b","gate","back"]) (own:=4) (caps:=[]) ["cellar"] (qd q0y) (by decide +kernel)) rfl (q4w K (qA (qk K) (pv 0) (qh (v:= .int 3) rfl e_WAYS ⟨_,rfl⟩) (fun _ _=>rfl))) (fun _ _ _ _=>(q1O (n:=4) K rfl (qG (qq (i:=0) (show List.Nodup (["a","b","gate","back"]:List Str) by decide +kernel) rfl (Or.inl rfl)) (qG (qq (i:=1) (show List.Nodup (["a","b","gate","back"]:List Str) by decide +kernel) rfl (Or.inl rfl)) (qG (qq (i:=2) (show List.Nodup (["a","b","gate","back"]:List Str) by decide +kernel) rfl (Or.inl rfl)) (qG (qq (i:=3) (show List.Nodup (["a","b","gate","back"]:List Str) by decide +kernel) rfl (Or.inl rfl)) q1N)))))) (fun _ _ _ _=>q0O) (fun _ _ _ _=>(q1X (qv q0l (qA (qk K) (pv 2) qg (fun _ _=>rfl)) qD (qt _)) (qA (qk K) (pv 2) qg (fun _ _=>rfl)) q6P))))),?_⟩
  walk_at "rd"
  intro D hD
  refine q78 wv (fun i σ H'=>∃v0 v1 v2 v3,σ=[v0,v1,v2,v3]/\Same H H'/\H' D=some (.lst ((C.ways.take i).map fun x=>dkV x.g))) ⟨none,none,none,none,rfl,Same.upd hD,by rw[qb];rfl⟩ ?_ ?_ ?_
  ·rintro i σ H' ⟨_,_,_,_,rfl,s1,_⟩
   exact SqT.of (s1 _ _ hw)
  ·rintro i x σ H' hx ⟨v0,v1,v2,v3,rfl,s1,hD1⟩
   have hi:i<C.ways.length:=by rw[<-hwl];exact(List.getElem?_eq_some_iff.mp hx).1
   obtain⟨p1,e,g,hp1,hg⟩:=hwg i hi
   rw[hx] at e
   cases e
   have hp2:=s1 _ _ hp1
   have hg2:=s1 _ _ hg
   have hl:=ok.wl
   rw[Gt.vs_eq] at hg2
   have fin:∀v,v=dkV C.ways[i].g->∃ys,H' D=some (.lst ys)/\ys.length<sizeLine/\∃v0 v1 v2 v3,([some (.int C.ways[i].a),some (.int C.ways[i].b),some (.ref g),some (.bl C.ways[i].back)]:St)=[v0,v1,v2,v3]/\Same H (upd H' D (.lst (ys++[v])))/\(upd H' D (.lst (ys++[v]))) D=some (.lst ((C.ways.take (i+1)).map fun x=>dkV x.g)):=by
    intro v ev
    subst ev
    refine⟨_,hD1,by simp;omega,_,_,_,_,rfl,s1.put hD,?_⟩
    rw[qb,q7X (fun x:Way=>dkV x.g) C.ways hi]
   walk_at "rd"
   refine ifd (fun hd=>?_) (fun hd=>?_)
   ·obtain ⟨k1,ek⟩:=q9l hd
    rw[ek] at hg2
    walk_at "rd"
    exact fin _ (by rw[ek];rfl)
   ·walk_at "rd"
    refine fin _ ?_
    cases eg:C.ways[i].g with
    |door k1=>rw[eg] at hd;exact absurd rfl hd
    |_=>rfl
  ·rintro σ H' ⟨_,_,_,_,rfl,s1,hD1⟩
   rw[show wv.length=C.ways.length from hwl,List.take_length] at hD1
   exact k D H' s1 hD hD1
theorem qcw (T:Txt mg cs)(L:Laid K mg "held" q6F ["cellar","stand"])(C_has_bit:Cal P w K mg base 1 "has_bit" ["bits","place"] q64)(C_door_kinds:Cal P w K mg base 1 "door_kinds" ["cellar"] spDk):Cal P w K mg base 2 "held" ["cellar","stand"] q6B:=by
 obtain⟨t1,e_LAST_KIND⟩:=T.e_LAST_KIND
 obtain⟨t2,e_OPENED⟩:=T.e_OPENED
 obtain⟨t3,e_TAKEN⟩:=T.e_TAKEN
 obtain⟨t4,e_THINGS⟩:=T.e_THINGS
 refine L.cal (k:=1) q2R (fun vs H Q E h=>?_) (fun f cdv A outer s H vs Q E hr h=>?_)
 ·obtain ⟨p,q,C,_,_,_,_,_,rfl,_⟩:=h
  rfl
 ·obtain ⟨p,q,C,rm,tk,op,b,wt,rfl,hC,ok,hq,hdr,k⟩:=h
  obtain⟨pw,pt,pl,pv',h0,h1,h2,_⟩:=hC.ex
  obtain⟨tv,ht,htl,htg⟩:=h2.get
  have big:=qM
  refine⟨_,(qc (qw (i:=2) q2R.nd rfl (Or.inl rfl) (qx op_rep (q2D (qa qg qe)) (qx q1P (qh (v:= .int 11) rfl e_LAST_KIND ⟨_,rfl⟩) qg)))
   (qc (q0B PassesOwn.never rfl (q8w K rfl T.n_enumerate (qa (qA (qk K) (pv 0) (qh (v:= .int 4) rfl e_THINGS ⟨_,rfl⟩) (fun _ _=>rfl)) qe)) (q1O (n:=2) K rfl (qG (qq (i:=3) q2R.nd rfl (Or.inl rfl)) (qG (qq (i:=4) q2R.nd rfl (Or.inl rfl)) q1N))) (qf (qV (q0A (qp C_has_bit hr (by decide) rfl (qa (qA (qk K) (pv 1) (qh (v:= .int 1) rfl e_TAKEN ⟨_,rfl⟩) (fun _ _=>rfl)) (qa (pv 3) qe)))) (qf (q8r (pv 2) (qA (qk K) (pv 4) qg (fun _ _=>rfl)) (q5J K) qg q8Y q6D)) qu)))
   (qc (q0B PassesOwn.never rfl (q8x K rfl T.n_enumerate (qa (qp C_door_kinds hr (by decide) rfl (qa (pv 0) qe)) qe)) (q1O (n:=2) K rfl (qG (qq (i:=3) q2R.nd rfl (Or.inl rfl)) (qG (qq (i:=5) q2R.nd rfl (Or.inl rfl)) q1N))) (qf (qV (q0A (qp C_has_bit hr (by decide) rfl (qa (qA (qk K) (pv 1) (qh (v:= .int 2) rfl e_OPENED ⟨_,rfl⟩) (fun _ _=>rfl)) (qa (pv 3) qe)))) (qf (q8r (pv 2) (pv 5) (q5J K) qg ip_sub q6D)) qu)))
   (qf (ql (pv 2)))))),?_⟩
  walk_at "rd"
  intro p1 hp1
  walk_at "rd"
  refine⟨p1,_,_,rfl,rfl,qb,by decide,by decide,by show 1*12<=sizeLine;decide,fun cs hcs=>?_⟩
  have hcs0:H cs=none:=(Same.upd hp1).free hcs
  have s0:Same H (upd (upd H p1 (.lst [.int 0])) cs (.lst (List.replicate (11+1:Int).toNat [V.int 0]).flatten)):=(Same.upd hp1).trans (Same.upd hcs)
  have h0':=s0 _ _ h0
  have ht':=s0 _ _ ht
  walk_at "rd"
  refine q9b tv (fun i σ H'=>∃v3 v4 v5,σ=[some (.ref p),some (.ref q),some (.ref cs),v3,v4,v5]/\Same H H'/\H' cs=some (.lst (cl fun k=>(cnt (tP C tk k) i:Int)))) ⟨none,none,none,rfl,s0,by rw[qb];rfl⟩ ?_ ?_ ?_
  ·rintro i σ H' ⟨_,_,_,rfl,s1,_⟩
   exact SqT.of (s1 _ _ ht)
  ·rintro i x σ H' T1 hx ⟨v3,v4,v5,rfl,s1,hc⟩ hT1
   have hi:i<C.things.length:=by rw[<-htl];exact(List.getElem?_eq_some_iff.mp hx).1
   obtain⟨p2,e,hp2⟩:=htg i hi
   rw[hx] at e
   cases e
   have hp3:H' p2=_:=s1 _ _ hp2
   have hq3:=s1 _ _ hq
   obtain⟨_,k0,k1⟩:=ok.t _ (List.getElem_mem hi)
   have sT:Same H (upd H' T1 (.tup [.int (i:Nat),.ref p2])):=s1.trans (Same.upd hT1)
   have hcT:(upd H' T1 (.tup [.int (i:Nat),.ref p2])) cs=some (.lst (cl fun k=>(cnt (tP C tk k) i:Int))):=q0e hc hT1
   walk_at "rd"
   refine⟨tk,i,rfl,by omega,?_⟩
   rw[Int.toNat_natCast]
   walk_at "rd"
   refine ite2 (fun hb=>?_) (fun hb=>?_)
   ·walk_at "rd"
    refine q6b (SqL.of hcT) (q9D k0 k1) ?_
    walk_at "rd"
    refine qbk hcT (cl_ix k0 k1) ?_
    refine⟨_,_,_,rfl,sT.put hcs0,?_⟩
    rw[qb,qbD k0 k1]
    congr 2
    refine q2L fun k _ _=>?_
    rw[qbB hi,if_pos hb]
    by_cases ek:k=C.things[i].2
    ·rw [if_pos ek,if_pos ek,ek]
    ·rw [if_neg ek,if_neg ek];omega
   ·walk_at "rd"
    refine⟨_,_,_,rfl,sT,?_⟩
    rw[hcT]
    congr 2
    refine q2L fun k _ _=>?_
    rw[qbB hi,if_neg hb];omega
  ·rintro σ H' ⟨v3,v4,v5,rfl,s1,hc⟩
   rw[show tv.length=C.things.length from htl] at hc
   walk_at "rd"
   refine⟨p,C,rfl,hC.mono s1.ts,ok,fun dk H2 s2 hdk hdk2=>?_⟩
   have s12:=s1.trans s2
   have hc2:=s2 _ _ hc
   walk_at "rd"
   refine q9b (C.ways.map fun x=>dkV x.g) (fun i σ H'=>∃v3 v4 v5,σ=[some (.ref p),some (.ref q),some (.ref cs),v3,v4,v5]/\Same H H'/\H' dk=some (.lst (C.ways.map fun x=>dkV x.g))/\H' cs=some (.lst (cl fun k=>(cnt (tP C tk k) C.things.length:Int) - (cnt (dP (dsOf C) op k) i:Int)))) ⟨v3,v4,v5,rfl,s12,hdk2,?_⟩ ?_ ?_ ?_
   ·rw [hc2]
    refine congrArg (fun l=>some (HO.lst l)) (q2L fun k _ _=>?_)
    show _=_ - ((0:Nat):Int)
    omega
   ·rintro i σ H' ⟨_,_,_,rfl,s3,h3,_⟩
    exact SqL.of h3
   ·rintro i x σ H' T1 hx ⟨v3,v4,v5,rfl,s3,hd3,hc3⟩ hT1
    have hi:i<C.ways.length:=by have:=(List.getElem?_eq_some_iff.mp hx).1;simpa using this
    have ex:x=dkV C.ways[i].g:=by simpa[hi] using hx.symm
    subst ex
    have hq3:=s3 _ _ hq
    have hne:dk≠cs:=fun z=>by rw[z] at hdk;rw[hdk] at hc;cases hc
    have sT:Same H (upd H' T1 (.tup [.int (i:Nat),dkV C.ways[i].g])):=s3.trans (Same.upd hT1)
    have hcT:(upd H' T1 (.tup [.int (i:Nat),dkV C.ways[i].g])) cs=_:=q0e hc3 hT1
    have hdT:(upd H' T1 (.tup [.int (i:Nat),dkV C.ways[i].g])) dk=_:=q0e hd3 hT1
    walk_at "rd"
    refine⟨op,i,rfl,by omega,?_⟩
    rw[Int.toNat_natCast]
    walk_at "rd"
    refine ite2 (fun hb=>?_) (fun hb=>?_)
    ·have hsome:=hdr i hi hb
     have eds:dsOf C i=C.ways[i].g.dk:=by simp[dsOf,hi]
     rw[eds] at hsome
     obtain⟨k2,ek2⟩:=Option.isSome_iff_exists.mp hsome
     have hgok:=(ok.w _ (List.getElem_mem hi)).2.2.2
     have hk2:0<=k2/\k2<12:=by
      cases eg:C.ways[i].g with
      |door j=>rw[eg] at ek2 hgok;cases ek2;exact hgok
      |_=>rw[eg] at ek2;cases ek2
     have ev:dkV C.ways[i].g= .int k2:=by unfold dkV;rw[ek2]
     rw[ev] at hcT hdT sT ⊢
     walk_at "rd"
     refine q6b (SqL.of hcT) (q9D hk2.1 hk2.2) ?_
     walk_at "rd"
     refine qbk hcT (cl_ix hk2.1 hk2.2) ?_
     refine⟨_,_,_,rfl,sT.put hcs0,up_oth hdT hne,?_⟩
     rw[qb,qbD hk2.1 hk2.2]
     congr 2
     refine q2L fun k _ _=>?_
     rw[qbC hi,if_pos hb,ek2]
     by_cases ek:k=k2
     ·rw [if_pos ek,if_pos (by rw[ek]),ek];omega
     ·rw [if_neg ek,if_neg (by intro z;exact ek (Option.some.inj z).symm)];omega
    ·walk_at "rd"
     refine⟨_,_,_,rfl,sT,hdT,?_⟩
     rw[hcT]
     congr 2
     refine q2L fun k _ _=>?_
     rw[qbC hi,if_neg hb];omega
   ·rintro σ H' ⟨v3,v4,v5,rfl,s3,hd3,hc3⟩
    walk_at "rd"
    rw[List.length_map] at hc3
    exact k cs H' s3 hcs0 hc3
end
def q9B (cs:Cs):Gt->Addr
 | .plain=>cs.Plain
 | .door _=>cs.Door
 | .need _=>cs.Need
 | .bar _=>cs.Bar
 | .wade _ _=>cs.Wade
 | .float _=>cs.Float
def fldB (q:Addr)(g:Gt):List (Str×V):=putF "numbers" (.ref q) (putF "word" (.str g.word) [])
def flds (q:Addr):Gt->List (Str×V)
 | .need k=>putF "kind" (.int k) (fldB q (.need k))
 | .bar b=>putF "bar" (.int b) (fldB q (.bar b))
 | .wade h k=>putF "kind" (.int k) (putF "height" (.int h) (fldB q (.wade h k)))
 | .float h=>putF "height" (.int h) (fldB q (.float h))
 |g=>fldB q g
theorem qd3 (q:Addr)(g:Gt):(flds q g).lookup ("lets":Str)=none:=by
 cases g<;>(unfold flds;first|unfold fldB|skip)<;>simp only[fldB,qE]<;>repeat (first|rfl|rw[if_neg (by decide +kernel)])
theorem qaZ (q:Addr)(k:Int):(flds q (.need k)).lookup ("kind":Str)=some (.int k):=by
 unfold flds;rw[qE,if_pos rfl]
theorem qd4 (q:Addr)(k:Int):(flds q (.bar k)).lookup ("bar":Str)=some (.int k):=by
 unfold flds;rw[qE,if_pos rfl]
theorem qaX (q:Addr)(h k:Int):(flds q (.wade h k)).lookup ("kind":Str)=some (.int k):=by
 unfold flds;rw[qE,if_pos rfl]
theorem qaY (q:Addr)(h k:Int):(flds q (.wade h k)).lookup ("height":Str)=some (.int h):=by
 unfold flds;rw[qE,if_neg (by decide +kernel),qE,if_pos rfl]
theorem q9d (q:Addr)(h:Int):(flds q (.float h)).lookup ("height":Str)=some (.int h):=by
 unfold flds;rw[qE,if_pos rfl]
structure GObj (cs:Cs)(H:Hp)(p:Addr)(g:Gt):Prop where
 ex:∃dx q,H p=some (.ins (q9B cs g) dx (flds q g))/\H q=some (.tup (g.ns.map V.int))
theorem GObj.mono {cs:Cs}{H H':Hp}{p:Addr}{g:Gt}(s:Same H H')(h:GObj cs H p g):GObj cs H' p g:=let ⟨dx,q,h1,h2⟩:=h.ex;⟨dx,q,s _ _ h1,s _ _ h2⟩
def q1I (K:W.Frag):Sp:=fun vs H Q _=>∃(p C dx q:Addr) (z:Str),vs=[.ref p,.str z,.ref q]/\H p=some (.ins C dx [])/\Cls K C/\qz K C "word"/\qz K C "numbers"/\Q .non (upd H p (.ins C dx (putF "numbers" (.ref q) (putF "word" (.str z) []))))
def spMk (cs:Cs)(wd:Str):Sp:=fun vs H Q _=>∃(p dx:Addr) (g:Gt),vs= .ref p::g.ns.map V.int/\g.word=wd/\H p=some (.ins (q9B cs g) dx [])/\∀H',(∀b o,H b=some o->b≠p->H' b=some o)->GObj cs H' p g->Q .non H'
def qbV (cs:Cs):Sp:=fun vs H Q _=>∃(p:Addr) (g:Gt),vs=[.ref p]/\H p=some (.tup g.vs)/\∀(x:Addr) (H':Hp),Same H H'->H x=none->GObj cs H' x g->Q (.ref x) H'
def q34 (cs:Cs)(wd:Str):Sp:=fun vs H Q _=>∃(p hl:Addr) (g:Gt) (f:Int->Int) (op:Bool) (bars wt:Int),vs=[.ref p,.ref hl,.bl op,.int bars,.int wt]/\g.word=wd/\GObj cs H p g/\g.ok/\H hl=some (.lst (cl f))/\Q (.bl (qaM g f op bars wt)) H
section
variable {P:Program}{w:World}{K:W.Frag}{mg:Str->Option Value}{base:Heap}{cs:Cs}
theorem qat (T:Txt mg cs)(L:LaidC K mg "Gate" "__init__" "Gate.__init__" q1v ["self","word","numbers"]):CCal P w K mg base 1 "Gate" "__init__" ["self","word","numbers"] (q1I K):=by
 refine L.cc (k:=0) q5v (fun vs H Q E h=>?_) (fun f cdv A outer s H vs Q E hr h=>?_)
 ·obtain ⟨p,C,dx,q,z,rfl,_⟩:=h
  rfl
 ·obtain ⟨p,C,dx,q,z,rfl,hp,cl,nw,nn,k⟩:=h
  refine⟨_,(qc (q15 K (pv 0) (pv 1) rfl)
   (qf (q15 K (pv 0) (pv 2) rfl))),?_⟩
  walk_at "rd"
  refine q2a hp cl nw (by decide) ?_
  walk_at "rd"
  refine q2a qb cl nn (by show 1<1000;decide) ?_
  rw[q1G]
  exact k
theorem qaF (T:Txt mg cs)(TC:Tcl K cs)(L:LaidI K mg "Plain" cs.Plain "Plain.__init__" q0W ["self"])(C_Gate_init:CCal P w K mg base 1 "Gate" "__init__" ["self","word","numbers"] (q1I K)):Makes P w K mg base 2 "Plain" cs.Plain ["self"] (spMk cs "plain"):=by
 refine L.makes (k:=1) q4q (fun vs H Q E h=>?_) (fun f cdv A outer s H vs Q E hr h=>?_)
 ·obtain ⟨p,dx,g,rfl,hw,_⟩:=h
  cases g<;>first|rfl|exact absurd hw (by simp only[Gt.word];decide +kernel)
 ·obtain ⟨p,dx,g,rfl,hw,hp,k⟩:=h
  cases g<;>first|exact absurd hw (by simp only[Gt.word];decide +kernel)|skip
  refine⟨_,(qf (qF (q3E C_Gate_init hr (by decide) rfl (qa (pv 0) (qa qD (qa (qR qe) qe)))))),?_⟩
  walk_at "rd"
  intro t ht
  refine⟨p,cs.Plain,dx,t,_,rfl,q0e hp ht,TC.cl_Plain,TC.no_Plain_word,TC.no_Plain_numbers,?_⟩
  walk_at "rd"
  have hpt:p≠t:=qj hp ht
  refine k _ (fun b o hb hbp=>?_) ⟨dx,t,qb,by rw[qi hpt.symm];exact qb⟩
  rw[qi hbp,qi (qj hb ht)]
  exact hb
theorem qcM (T:Txt mg cs)(TC:Tcl K cs)(L:LaidI K mg "Door" cs.Door "Door.__init__" q1x ["self","kind"])(C_Gate_init:CCal P w K mg base 1 "Gate" "__init__" ["self","word","numbers"] (q1I K)):Makes P w K mg base 2 "Door" cs.Door ["self","kind"] (spMk cs "door"):=by
 refine L.makes (k:=1) q5x (fun vs H Q E h=>?_) (fun f cdv A outer s H vs Q E hr h=>?_)
 ·obtain ⟨p,dx,g,rfl,hw,_⟩:=h
  cases g<;>first|rfl|exact absurd hw (by simp only[Gt.word];decide +kernel)
 ·obtain ⟨p,dx,g,rfl,hw,hp,k⟩:=h
  cases g<;>first|exact absurd hw (by simp only[Gt.word];decide +kernel)|skip
  rename_i n
  refine⟨_,(qf (qF (q3E C_Gate_init hr (by decide) rfl (qa (pv 0) (qa qD (qa (qR (qa (pv 1) qe)) qe)))))),?_⟩
  walk_at "rd"
  intro t ht
  refine⟨p,cs.Door,dx,t,_,rfl,q0e hp ht,TC.cl_Door,TC.no_Door_word,TC.no_Door_numbers,?_⟩
  walk_at "rd"
  have hpt:p≠t:=qj hp ht
  refine k _ (fun b o hb hbp=>?_) ⟨dx,t,qb,by rw[qi hpt.symm];exact qb⟩
  rw[qi hbp,qi (qj hb ht)]
  exact hb
theorem qcL (T:Txt mg cs)(TC:Tcl K cs)(L:LaidI K mg "Need" cs.Need "Need.__init__" q1u ["self","kind"])(C_Gate_init:CCal P w K mg base 1 "Gate" "__init__" ["self","word","numbers"] (q1I K)):Makes P w K mg base 2 "Need" cs.Need ["self","kind"] (spMk cs "need"):=by
 refine L.makes (k:=1) q5u (fun vs H Q E h=>?_) (fun f cdv A outer s H vs Q E hr h=>?_)
 ·obtain ⟨p,dx,g,rfl,hw,_⟩:=h
  cases g<;>first|rfl|exact absurd hw (by simp only[Gt.word];decide +kernel)
 ·obtain ⟨p,dx,g,rfl,hw,hp,k⟩:=h
  cases g<;>first|exact absurd hw (by simp only[Gt.word];decide +kernel)|skip
  rename_i n
  refine⟨_,(qc (qF (q3E C_Gate_init hr (by decide) rfl (qa (pv 0) (qa qD (qa (qR (qa (pv 1) qe)) qe)))))
   (qf (q15 K (pv 0) (pv 1) rfl))),?_⟩
  walk_at "rd"
  intro t ht
  refine⟨p,cs.Need,dx,t,_,rfl,q0e hp ht,TC.cl_Need,TC.no_Need_word,TC.no_Need_numbers,?_⟩
  walk_at "rd"
  refine q2a qb TC.cl_Need TC.no_Need_kind (by show 2<1000;decide) ?_
  rw[q1G]
  have hpt:p≠t:=qj hp ht
  refine k _ (fun b o hb hbp=>?_) ⟨dx,t,qb,by rw[qi hpt.symm];exact qb⟩
  rw[qi hbp,qi (qj hb ht)]
  exact hb
theorem mk_bar (T:Txt mg cs)(TC:Tcl K cs)(L:LaidI K mg "Bar" cs.Bar "Bar.__init__" q1V ["self","bar"])(C_Gate_init:CCal P w K mg base 1 "Gate" "__init__" ["self","word","numbers"] (q1I K)):Makes P w K mg base 2 "Bar" cs.Bar ["self","bar"] (spMk cs "bar"):=by
 refine L.makes (k:=1) q6a (fun vs H Q E h=>?_) (fun f cdv A outer s H vs Q E hr h=>?_)
 ·obtain ⟨p,dx,g,rfl,hw,_⟩:=h
  cases g<;>first|rfl|exact absurd hw (by simp only[Gt.word];decide +kernel)
 ·obtain ⟨p,dx,g,rfl,hw,hp,k⟩:=h
  cases g<;>first|exact absurd hw (by simp only[Gt.word];decide +kernel)|skip
  rename_i n
  refine⟨_,(qc (qF (q3E C_Gate_init hr (by decide) rfl (qa (pv 0) (qa qD (qa (qR (qa (pv 1) qe)) qe)))))
   (qf (q15 K (pv 0) (pv 1) rfl))),?_⟩
  walk_at "rd"
  intro t ht
  refine⟨p,cs.Bar,dx,t,_,rfl,q0e hp ht,TC.cl_Bar,TC.no_Bar_word,TC.no_Bar_numbers,?_⟩
  walk_at "rd"
  refine q2a qb TC.cl_Bar TC.no_Bar_bar (by show 2<1000;decide) ?_
  rw[q1G]
  have hpt:p≠t:=qj hp ht
  refine k _ (fun b o hb hbp=>?_) ⟨dx,t,qb,by rw[qi hpt.symm];exact qb⟩
  rw[qi hbp,qi (qj hb ht)]
  exact hb
theorem qaG (T:Txt mg cs)(TC:Tcl K cs)(L:LaidI K mg "Float" cs.Float "Float.__init__" q0Y ["self","height"])(C_Gate_init:CCal P w K mg base 1 "Gate" "__init__" ["self","word","numbers"] (q1I K)):Makes P w K mg base 2 "Float" cs.Float ["self","height"] (spMk cs "float"):=by
 refine L.makes (k:=1) q4s (fun vs H Q E h=>?_) (fun f cdv A outer s H vs Q E hr h=>?_)
 ·obtain ⟨p,dx,g,rfl,hw,_⟩:=h
  cases g<;>first|rfl|exact absurd hw (by simp only[Gt.word];decide +kernel)
 ·obtain ⟨p,dx,g,rfl,hw,hp,k⟩:=h
  cases g<;>first|exact absurd hw (by simp only[Gt.word];decide +kernel)|skip
  rename_i n
  refine⟨_,(qc (qF (q3E C_Gate_init hr (by decide) rfl (qa (pv 0) (qa qD (qa (qR (qa (pv 1) qe)) qe)))))
   (qf (q15 K (pv 0) (pv 1) rfl))),?_⟩
  walk_at "rd"
  intro t ht
  refine⟨p,cs.Float,dx,t,_,rfl,q0e hp ht,TC.cl_Float,TC.no_Float_word,TC.no_Float_numbers,?_⟩
  walk_at "rd"
  refine q2a qb TC.cl_Float TC.no_Float_height (by show 2<1000;decide) ?_
  rw[q1G]
  have hpt:p≠t:=qj hp ht
  refine k _ (fun b o hb hbp=>?_) ⟨dx,t,qb,by rw[qi hpt.symm];exact qb⟩
  rw[qi hbp,qi (qj hb ht)]
  exact hb
theorem qcH (T:Txt mg cs)(TC:Tcl K cs)(L:LaidI K mg "Wade" cs.Wade "Wade.__init__" q1j ["self","height","kind"])(C_Gate_init:CCal P w K mg base 1 "Gate" "__init__" ["self","word","numbers"] (q1I K)):Makes P w K mg base 2 "Wade" cs.Wade ["self","height","kind"] (spMk cs "wade"):=by
 refine L.makes (k:=1) q5k (fun vs H Q E h=>?_) (fun f cdv A outer s H vs Q E hr h=>?_)
 ·obtain ⟨p,dx,g,rfl,hw,_⟩:=h
  cases g<;>first|rfl|exact absurd hw (by simp only[Gt.word];decide +kernel)
 ·obtain ⟨p,dx,g,rfl,hw,hp,k⟩:=h
  cases g<;>first|exact absurd hw (by simp only[Gt.word];decide +kernel)|skip
  rename_i n1 n2
  refine⟨_,(qc (qF (q3E C_Gate_init hr (by decide) rfl (qa (pv 0) (qa qD (qa (qR (qa (pv 1) (qa (pv 2) qe))) qe)))))
   (qc (q15 K (pv 0) (pv 1) rfl)
   (qf (q15 K (pv 0) (pv 2) rfl)))),?_⟩
  walk_at "rd"
  intro t ht
  refine⟨p,cs.Wade,dx,t,_,rfl,q0e hp ht,TC.cl_Wade,TC.no_Wade_word,TC.no_Wade_numbers,?_⟩
  walk_at "rd"
  refine q2a qb TC.cl_Wade TC.no_Wade_height (by show 2<1000;decide) ?_
  walk_at "rd"
  refine q2a qb TC.cl_Wade TC.no_Wade_kind (by show 3<1000;decide) ?_
  rw[q1G,q1G]
  have hpt:p≠t:=qj hp ht
  refine k _ (fun b o hb hbp=>?_) ⟨dx,t,qb,by rw[qi hpt.symm];exact qb⟩
  rw[qi hbp,qi (qj hb ht)]
  exact hb
theorem q20 {H:Hp}{Q:VK}{g:Gt}{x dx:Addr}(hx:H x=none)(hdx:H dx=none)(ne:dx≠x)(k:∀(x:Addr) (H':Hp),Same H H'->H x=none->GObj cs H' x g->Q (.ref x) H'):spMk cs g.word (.ref x::(g.ns.map V.int++[])) (upd (upd H dx (.own x)) x (.ins (q9B cs g) dx [])) (fun v H2=>v= .non/\Q (.ref x) H2) E0:=by
 refine⟨x,dx,g,by rw[List.append_nil],rfl,qb,fun H' hk ho=>⟨rfl,k x H' (fun b o hb=>?_) hx ho⟩⟩
 refine hk b o ?_ (qj hb hx)
 rw[qi (qj hb hx),qi (qj hb hdx)]
 exact hb
theorem q7A (T:Txt mg cs)(L:Laid K mg "gate_of" q2w ["gate"])(C_Plain:Makes P w K mg base 2 "Plain" cs.Plain ["self"] (spMk cs "plain"))(C_Door:Makes P w K mg base 2 "Door" cs.Door ["self","kind"] (spMk cs "door"))(C_Need:Makes P w K mg base 2 "Need" cs.Need ["self","kind"] (spMk cs "need"))
  (C_Bar:Makes P w K mg base 2 "Bar" cs.Bar ["self","bar"] (spMk cs "bar"))(C_Wade:Makes P w K mg base 2 "Wade" cs.Wade ["self","height","kind"] (spMk cs "wade"))(C_Float:Makes P w K mg base 2 "Float" cs.Float ["self","height"] (spMk cs "float")):Cal P w K mg base 4 "gate_of" ["gate"] (qbV cs):=by
 refine L.cal (k:=3) q4b (fun vs H Q E h=>?_) (fun f cdv A outer s H vs Q E hr h=>?_)
 ·obtain ⟨p,g,rfl,_⟩:=h
  rfl
 ·obtain ⟨p,g,rfl,hp,k⟩:=h
  refine⟨_,(qc (qw (i:=1) q4b.nd rfl (Or.inl rfl) (qA (qk K) (pv 0) qg (fun _ _=>rfl)))
   (qc (qV (qv q0l (pv 1) qD (qt _)) (qf (ql (qcp C_Plain hr (by decide) rfl))) qu)
   (qc (qV (qv q0l (pv 1) qD (qt _)) (qf (ql (q2c C_Door hr (by decide) rfl (qa (qA (qk K) (pv 0) qg (fun _ _=>rfl)) qe)))) qu)
   (qc (qV (qv q0l (pv 1) qD (qt _)) (qf (ql (q2c C_Need hr (by decide) rfl (qa (qA (qk K) (pv 0) qg (fun _ _=>rfl)) qe)))) qu)
   (qc (qV (qv q0l (pv 1) qD (qt _)) (qf (ql (q2c C_Bar hr (by decide) rfl (qa (qA (qk K) (pv 0) qg (fun _ _=>rfl)) qe)))) qu)
   (qc (qV (qv q0l (pv 1) qD (qt _)) (qf (ql (q2c C_Wade hr (by decide) rfl (qa (qA (qk K) (pv 0) qg (fun _ _=>rfl)) (qa (qA (qk K) (pv 0) qg (fun _ _=>rfl)) qe))))) qu)
   (qc (qV (qv q0l (pv 1) qD (qt _)) (qf (ql (q2c C_Float hr (by decide) rfl (qa (qA (qk K) (pv 0) qg (fun _ _=>rfl)) qe)))) qu)
   (qf q0Z)))))))),?_⟩
  have hp':=hp
  rw[Gt.vs_eq] at hp'
  walk_at "rd"
  refine ifd (fun h1=>?_) (fun h1=>?_)
  ·cases g<;>first|exact absurd h1 (by simp only[Gt.word];decide +kernel)|skip
   walk_at "rd"
   exact fun x dx hx hdx ne=>q20 hx hdx ne k
  walk_at "rd"
  refine ifd (fun h2=>?_) (fun h2=>?_)
  ·cases g<;>first|exact absurd h2 (by simp only[Gt.word];decide +kernel)|skip
   walk_at "rd"
   exact fun x dx hx hdx ne=>q20 hx hdx ne k
  walk_at "rd"
  refine ifd (fun h3=>?_) (fun h3=>?_)
  ·cases g<;>first|exact absurd h3 (by simp only[Gt.word];decide +kernel)|skip
   walk_at "rd"
   exact fun x dx hx hdx ne=>q20 hx hdx ne k
  walk_at "rd"
  refine ifd (fun h4=>?_) (fun h4=>?_)
  ·cases g<;>first|exact absurd h4 (by simp only[Gt.word];decide +kernel)|skip
   walk_at "rd"
   exact fun x dx hx hdx ne=>q20 hx hdx ne k
  walk_at "rd"
  refine ifd (fun h5=>?_) (fun h5=>?_)
  ·cases g<;>first|exact absurd h5 (by simp only[Gt.word];decide +kernel)|skip
   walk_at "rd"
   exact fun x dx hx hdx ne=>q20 hx hdx ne k
  walk_at "rd"
  refine ifd (fun h6=>?_) (fun h6=>?_)
  ·cases g<;>first|exact absurd h6 (by simp only[Gt.word];decide +kernel)|skip
   walk_at "rd"
   exact fun x dx hx hdx ne=>q20 hx hdx ne k
  cases g
  ·exact absurd rfl h1
  ·exact absurd rfl h2
  ·exact absurd rfl h3
  ·exact absurd rfl h4
  ·exact absurd rfl h5
  ·exact absurd rfl h6
theorem q4h (T:Txt mg cs)(TC:Tcl K cs)(L:LaidM K cs.Plain "lets" "Plain.lets" q0V ["self","held","opened","bars","water"]):VMeth P w K mg base 2 cs.Plain "lets" ["self","held","opened","bars","water"] (q34 cs "plain"):=by
 refine L.vm (k:=1) TC.cl_Plain q4p (fun vs H Q E h=>?_) (fun f cdv A outer s H vs Q E hr h=>?_)
 ·obtain ⟨p,hl,g,fn,op,bars,wt,rfl,_⟩:=h
  rfl
 ·obtain ⟨p,hl,g,fn,op,bars,wt,rfl,hw,ho,ok,hh,k⟩:=h
  obtain⟨dx,q,hp,hq⟩:=ho.ex
  cases g<;>first|exact absurd hw (by simp only[Gt.word];decide +kernel)|skip
  refine⟨_,(qf (ql q3c)),?_⟩
  walk_at "rd"
  exact k
theorem q52 (T:Txt mg cs)(TC:Tcl K cs)(L:LaidM K cs.Door "lets" "Door.lets" q1w ["self","held","opened","bars","water"]):VMeth P w K mg base 2 cs.Door "lets" ["self","held","opened","bars","water"] (q34 cs "door"):=by
 refine L.vm (k:=1) TC.cl_Door q5w (fun vs H Q E h=>?_) (fun f cdv A outer s H vs Q E hr h=>?_)
 ·obtain ⟨p,hl,g,fn,op,bars,wt,rfl,_⟩:=h
  rfl
 ·obtain ⟨p,hl,g,fn,op,bars,wt,rfl,hw,ho,ok,hh,k⟩:=h
  obtain⟨dx,q,hp,hq⟩:=ho.ex
  cases g<;>first|exact absurd hw (by simp only[Gt.word];decide +kernel)|skip
  rename_i n
  refine⟨_,(qf (ql (pv 2))),?_⟩
  walk_at "rd"
  exact k
theorem q51 (T:Txt mg cs)(TC:Tcl K cs)(L:LaidM K cs.Need "lets" "Need.lets" q1t ["self","held","opened","bars","water"]):VMeth P w K mg base 2 cs.Need "lets" ["self","held","opened","bars","water"] (q34 cs "need"):=by
 refine L.vm (k:=1) TC.cl_Need q5t (fun vs H Q E h=>?_) (fun f cdv A outer s H vs Q E hr h=>?_)
 ·obtain ⟨p,hl,g,fn,op,bars,wt,rfl,_⟩:=h
  rfl
 ·obtain ⟨p,hl,g,fn,op,bars,wt,rfl,hw,ho,ok,hh,k⟩:=h
  obtain⟨dx,q,hp,hq⟩:=ho.ex
  cases g<;>first|exact absurd hw (by simp only[Gt.word];decide +kernel)|skip
  rename_i n
  refine⟨_,(qf (ql (q05 q45 (qA (q01 K) (pv 1) (q0c K (pv 0) rfl) (fun _ _=>rfl)) qg (qt _)))),?_⟩
  have ok':0<=n/\n<12:=ok
  walk_at "rd"
  refine q18 hp TC.cl_Need TC.no_Need_kind (qaZ q n) ?_
  refine q6b (SqL.of hh) (q9D ok'.1 ok'.2) ?_
  walk_at "rd"
  exact k
theorem q60 (T:Txt mg cs)(TC:Tcl K cs)(L:LaidM K cs.Bar "lets" "Bar.lets" q1U ["self","held","opened","bars","water"])(C_has_bit:Cal P w K mg base 1 "has_bit" ["bits","place"] q64):VMeth P w K mg base 2 cs.Bar "lets" ["self","held","opened","bars","water"] (q34 cs "bar"):=by
 refine L.vm (k:=1) TC.cl_Bar q69 (fun vs H Q E h=>?_) (fun f cdv A outer s H vs Q E hr h=>?_)
 ·obtain ⟨p,hl,g,fn,op,bars,wt,rfl,_⟩:=h
  rfl
 ·obtain ⟨p,hl,g,fn,op,bars,wt,rfl,hw,ho,ok,hh,k⟩:=h
  obtain⟨dx,q,hp,hq⟩:=ho.ex
  cases g<;>first|exact absurd hw (by simp only[Gt.word];decide +kernel)|skip
  rename_i n
  refine⟨_,(qf (ql (qp C_has_bit hr (by decide) rfl (qa (pv 3) (qa (q0c K (pv 0) rfl) qe))))),?_⟩
  have ok':0<=n/\n<8:=ok
  walk_at "rd"
  refine q18 hp TC.cl_Bar TC.no_Bar_bar (qd4 q n) ?_
  walk_at "rd"
  exact⟨bars,n,rfl,ok'.1,k⟩
theorem q50 (T:Txt mg cs)(TC:Tcl K cs)(L:LaidM K cs.Wade "lets" "Wade.lets" q1i ["self","held","opened","bars","water"]):VMeth P w K mg base 2 cs.Wade "lets" ["self","held","opened","bars","water"] (q34 cs "wade"):=by
 refine L.vm (k:=1) TC.cl_Wade q5j (fun vs H Q E h=>?_) (fun f cdv A outer s H vs Q E hr h=>?_)
 ·obtain ⟨p,hl,g,fn,op,bars,wt,rfl,_⟩:=h
  rfl
 ·obtain ⟨p,hl,g,fn,op,bars,wt,rfl,hw,ho,ok,hh,k⟩:=h
  obtain⟨dx,q,hp,hq⟩:=ho.ex
  cases g<;>first|exact absurd hw (by simp only[Gt.word];decide +kernel)|skip
  rename_i n1 n2
  refine⟨_,(qf (ql (pe_or (q05 qap (pv 4) (q0c K (pv 0) rfl) (qt _)) (q3D (q05 q45 (qA (q01 K) (pv 1) (q0c K (pv 0) rfl) (fun _ _=>rfl)) qg (qt _)))))),?_⟩
  have ok':(0<=n1/\n1<10)/\0<=n2/\n2<12:=ok
  walk_at "rd"
  refine q18 hp TC.cl_Wade TC.no_Wade_height (qaY q n1 n2) ?_
  walk_at "rd"
  have k':Q (.bl (decide (wt<=n1)||decide (0<fn n2))) H:=k
  refine ifd (fun h1=>?_) (fun h1=>?_)
  ·rw [decide_eq_true h1,Bool.true_or] at k'
   exact k'
  ·rw [decide_eq_false h1,Bool.false_or] at k'
   walk_at "rd"
   refine q18 hp TC.cl_Wade TC.no_Wade_kind (qaX q n1 n2) ?_
   refine q6b (SqL.of hh) (q9D ok'.2.1 ok'.2.2) ?_
   walk_at "rd"
   exact k'
theorem q4i (T:Txt mg cs)(TC:Tcl K cs)(L:LaidM K cs.Float "lets" "Float.lets" q0X ["self","held","opened","bars","water"]):VMeth P w K mg base 2 cs.Float "lets" ["self","held","opened","bars","water"] (q34 cs "float"):=by
 refine L.vm (k:=1) TC.cl_Float q4r (fun vs H Q E h=>?_) (fun f cdv A outer s H vs Q E hr h=>?_)
 ·obtain ⟨p,hl,g,fn,op,bars,wt,rfl,_⟩:=h
  rfl
 ·obtain ⟨p,hl,g,fn,op,bars,wt,rfl,hw,ho,ok,hh,k⟩:=h
  obtain⟨dx,q,hp,hq⟩:=ho.ex
  cases g<;>first|exact absurd hw (by simp only[Gt.word];decide +kernel)|skip
  rename_i n
  refine⟨_,(qf (ql (q05 op_ge (pv 4) (q0c K (pv 0) rfl) (qt _)))),?_⟩
  walk_at "rd"
  refine q18 hp TC.cl_Float TC.no_Float_height (q9d q n) ?_
  walk_at "rd"
  exact k
end
def dcls (cs:Cs):Wd->Addr
 | .go=>cs.Go
 | .pull=>cs.Pull
 | .take=>cs.Take
 | .turn=>cs.Turn
 | .unlock=>cs.Unlock
def dfl (d:Wd)(n:Int):List (Str×V):=putF "part" (.int d.part) (putF "number" (.int n) (putF "word" (.str d.str) []))
theorem qd8 (d:Wd)(n:Int):(dfl d n).lookup ("word":Str)=some (.str d.str):=by
 unfold dfl;simp only[qE];repeat (first|rw[if_pos rfl]|rw[if_pos trivial]|rw[if_neg (by decide +kernel)])
theorem qY (d:Wd)(n:Int):(dfl d n).lookup ("number":Str)=some (.int n):=by
 unfold dfl;simp only[qE];repeat (first|rw[if_pos rfl]|rw[if_pos trivial]|rw[if_neg (by decide +kernel)])
theorem q9q (d:Wd)(n:Int):(dfl d n).lookup ("part":Str)=some (.int d.part):=by
 unfold dfl;simp only[qE];repeat (first|rw[if_pos rfl]|rw[if_pos trivial]|rw[if_neg (by decide +kernel)])
theorem q3R (d:Wd)(n:Int){m:Str}(h1:m≠"part")(h2:m≠"number")(h3:m≠"word"):(dfl d n).lookup m=none:=by
 unfold dfl;simp only[qE];rw[if_neg h1,if_neg h2,if_neg h3];rfl
theorem qby (d:Wd)(n:Int):(dfl d n).lookup ("can":Str)=none:=q3R d n (by decide +kernel) (by decide +kernel) (by decide +kernel)
theorem qda (d:Wd)(n:Int):(dfl d n).lookup ("fits":Str)=none:=q3R d n (by decide +kernel) (by decide +kernel) (by decide +kernel)
theorem q9r (d:Wd)(n:Int):(dfl d n).lookup ("done":Str)=none:=q3R d n (by decide +kernel) (by decide +kernel) (by decide +kernel)
theorem qd9 (d:Wd)(n:Int):(dfl d n).lookup ("told":Str)=none:=q3R d n (by decide +kernel) (by decide +kernel) (by decide +kernel)
theorem q38 (d:Wd)(n:Int):(dfl d n).lookup ("own_part":Str)=none:=q3R d n (by decide +kernel) (by decide +kernel) (by decide +kernel)
structure DObj (cs:Cs)(H:Hp)(p:Addr)(d:Wd)(n:Int):Prop where
 ex:∃dx,H p=some (.ins (dcls cs d) dx (dfl d n))
theorem DObj.mono {cs:Cs}{H H':Hp}{p:Addr}{d:Wd}{n:Int}(s:Same H H')(h:DObj cs H p d n):DObj cs H' p d n:=let ⟨dx,h1⟩:=h.ex;⟨dx,s _ _ h1⟩
structure DCl (K:W.Frag)(cs:Cs)(d:Wd):Prop where
 cl:Cls K (dcls cs d)
 nw:qz K (dcls cs d) "word"
 nn:qz K (dcls cs d) "number"
 np:qz K (dcls cs d) "part"
theorem q2f {K:W.Frag}{cs:Cs}(TC:Tcl K cs)(d:Wd):DCl K cs d:=by
 cases d
 ·exact ⟨TC.cl_Go,TC.no_Go_word,TC.no_Go_number,TC.no_Go_part⟩
 ·exact ⟨TC.cl_Pull,TC.no_Pull_word,TC.no_Pull_number,TC.no_Pull_part⟩
 ·exact ⟨TC.cl_Take,TC.no_Take_word,TC.no_Take_number,TC.no_Take_part⟩
 ·exact ⟨TC.cl_Turn,TC.no_Turn_word,TC.no_Turn_number,TC.no_Turn_part⟩
 ·exact ⟨TC.cl_Unlock,TC.no_Unlock_word,TC.no_Unlock_number,TC.no_Unlock_part⟩
def RowAt (H:Hp)(C:Cl)(i:Nat)(r:Addr):Wd->Prop
 | .go=>∃x,C.ways[i]? =some x/\q4S H r x
 | .pull=>∃x,C.levers[i]? =some x/\q1b H r x
 | .take=>∃x,C.things[i]? =some x/\q1b H r x
 | .turn=>∃x,C.wheels[i]? =some x/\q1b H r x
 | .unlock=>∃x,C.ways[i]? =some x/\q4S H r x
def q2q:Sp:=fun vs H Q _=>∃n a b:Int,vs=[.int n,.int a,.int b]/\Q (.bl (decide (a<=n)&&decide (n<=b))) H
def q4l:Sp:=fun vs H Q _=>∃(r:Addr) (x:Way) (rm:Int),vs=[.ref r,.int rm]/\q4S H r x/\Q (.bl (q2K x rm)) H
def q5e:Sp:=fun vs H Q _=>∃(q:Addr) (s:Sd) (j:Nat) (n:Int),vs=[.ref q,.int j,.int n]/\j<5/\H q=some (.tup s.vs)/\∀(r:Addr) (H':Hp),Same H H'->H' r=some (.tup (s.vs.set j (.int n)))->Q (.ref r) H'
def q2h (K:W.Frag):Sp:=fun vs H Q _=>∃(p C dx:Addr) (z:Str) (n t:Int),vs=[.ref p,.str z,.int n,.int t]/\H p=some (.ins C dx [])/\Cls K C/\qz K C "word"/\qz K C "number"/\qz K C "part"/\Q .non (upd H p (.ins C dx (putF "part" (.int t) (putF "number" (.int n) (putF "word" (.str z) [])))))
def q1H (cs:Cs)(d:Wd):Sp:=fun vs H Q _=>∃(p dx:Addr) (n:Int),vs=[.ref p,.int n]/\H p=some (.ins (dcls cs d) dx [])/\∀H',(∀b o,H b=some o->b≠p->H' b=some o)->DObj cs H' p d n->Q .non H'
def q41 (cs:Cs)(d:Wd):Sp:=fun vs H Q _=>∃(p c:Addr) (C:Cl) (i:Nat),vs=[.ref p,.ref c]/\DObj cs H p d i/\ClAt H c C/\i<C.num d/\∀r,RowAt H C i r d->Q (.ref r) H
def q3v (cs:Cs)(d:Wd):Sp:=fun vs H Q _=>∃(p c q:Addr) (C:Cl) (s:Sd) (i:Nat),vs=[.ref p,.ref c,.ref q]/\DObj cs H p d i/\ClAt H c C/\ClOk C/\H q=some (.tup s.vs)/\s.ok C/\i<C.num d/\∀H',Same H H'->Q (.bl (canB C s i d)) H'
def qa2 (cs:Cs)(d:Wd):Sp:=fun vs H Q _=>∃(p c q:Addr) (C:Cl) (s:Sd) (n:Int),vs=[.ref p,.ref c,.ref q]/\DObj cs H p d n/\ClAt H c C/\ClOk C/\H q=some (.tup s.vs)/\s.ok C/\∀H',Same H H'->Q (.bl (canD C s d n)) H'
def q35 (cs:Cs)(d:Wd):Sp:=fun vs H Q _=>∃(p c q:Addr) (C:Cl) (s:Sd) (n:Int),vs=[.ref p,.ref c,.ref q]/\DObj cs H p d n/\ClAt H c C/\ClOk C/\H q=some (.tup s.vs)/\s.ok C/\canD C s d n=true/\∀(r:Addr) (H':Hp),Same H H'->H' r=some (.tup (q0m C s d n).vs)->Q (.ref r) H'
def q63 (cs:Cs)(d:Wd):Sp:=fun vs H Q _=>∃(p:Addr) (n:Int),vs=[.ref p]/\DObj cs H p d n/\∀(r:Addr) (H':Hp),Same H H'->H' r=some (.tup [.str d.str,.int n])->Q (.ref r) H'
section
variable {P:Program}{w:World}{K:W.Frag}{mg:Str->Option Value}{base:Heap}{cs:Cs}
theorem q8D (T:Txt mg cs)(L:Laid K mg "within" q3i ["number","least","most"]):Cal P w K mg base 1 "within" ["number","least","most"] q2q:=by
 refine L.cal (k:=0) q8f (fun vs H Q E h=>?_) (fun f cdv A outer s H vs Q E hr h=>?_)
 ·obtain ⟨n,a,b,rfl,_⟩:=h
  rfl
 ·obtain ⟨n,a,b,rfl,k⟩:=h
  refine⟨_,(qc (qV (PW.pt (q2i (q0A (qB q1R rfl T.n_isinstance q0p (qa (pv 0) (qa (q3F (v:= .ty "bool") rfl T.n_bool qdj rfl) qe)))) (q1F (q2b (q0A (qB q1R rfl T.n_isinstance q0p (qa (pv 0) (qa (q3F (v:= .ty "int") rfl T.n_int qbE rfl) qe)))))))) (qf (ql q3c)) qu)
   (qf (ql (qam qap qap (pv 1) (pv 0) (pv 2))))),?_⟩
  walk_at "rd"
  refine ifd (fun h=>?_) (fun h=>?_)
  ·walk_at "rd"
   rw[decide_eq_true h,Bool.true_and] at k
   exact k
  ·rw [decide_eq_false h,Bool.false_and] at k
   exact k
theorem qaw (T:Txt mg cs)(L:Laid K mg "can_enter" q1g ["way","room"]):Cal P w K mg base 1 "can_enter" ["way","room"] q4l:=by
 obtain⟨t1,e_WAY_A⟩:=T.e_WAY_A
 obtain⟨t2,e_WAY_B⟩:=T.e_WAY_B
 obtain⟨t3,e_WAY_BACK⟩:=T.e_WAY_BACK
 refine L.cal (k:=0) q5i (fun vs H Q E h=>?_) (fun f cdv A outer s H vs Q E hr h=>?_)
 ·obtain ⟨r,x,rm,rfl,_⟩:=h
  rfl
 ·obtain ⟨r,x,rm,rfl,hW,k⟩:=h
  obtain⟨g,hr1,hg⟩:=hW
  unfold q2K at k
  refine⟨_,(qf (ql (pe_or (q05 q0l (pv 1) (qA (qk K) (pv 0) (qh (v:= .int 0) rfl e_WAY_A ⟨_,rfl⟩) (fun _ _=>rfl)) (qt _)) (q3D (q5D (q05 q0l (pv 1) (qA (qk K) (pv 0) (qh (v:= .int 1) rfl e_WAY_B ⟨_,rfl⟩) (fun _ _=>rfl)) (qt _)) (q3D (qA (qk K) (pv 0) (qh (v:= .int 3) rfl e_WAY_BACK ⟨_,rfl⟩) (fun _ _=>rfl)))))))),?_⟩
  walk_at "rd"
  refine ifd (fun h=>?_) (fun h=>?_)
  ·rw [decide_eq_true h,Bool.true_or] at k
   exact k
  ·rw [decide_eq_false h,Bool.false_or] at k
   walk_at "rd"
   refine ifd (fun h=>?_) (fun h=>?_)
   ·rw [decide_eq_true h,Bool.true_and] at k
    walk_at "rd"
    exact k
   ·rw [decide_eq_false h,Bool.false_and] at k
    exact k
theorem q7B (T:Txt mg cs)(L:Laid K mg "changed" q2x ["parts","place","part"]):Cal P w K mg base 1 "changed" ["parts","place","part"] q5e:=by
 refine L.cal (k:=0) q7r (fun vs H Q E h=>?_) (fun f cdv A outer s H vs Q E hr h=>?_)
 ·obtain ⟨q,s,j,n,rfl,_⟩:=h
  rfl
 ·obtain ⟨q,st,j,n,rfl,hj,hq,k⟩:=h
  have big:=qM
  refine⟨_,(qf (ql (qx (q6R K) (qx (q6R K) (q0I (q2s K) (pv 0) q1A (q1z (pv 1))) (qR (qa (pv 2) qe))) (q0I (q2s K) (pv 0) (q1z (qx q1P (pv 1) qg)) q1A)))),?_⟩
  obtain rfl|rfl|rfl|rfl|rfl:j=0\/j=1\/j=2\/j=3\/j=4:=by omega
  ·walk_at "rd"
   refine⟨q,_,rfl,SqT.of hq,fun e=>absurd (show(0:Nat)=5 from congrArg List.length e) (by decide),fun t1 ht1=>?_⟩
   have s1:=Same.upd (o:= .tup (cutV st.vs none (some ((0:Nat):Int)))) ht1
   have h1:(upd H t1 (.tup (cutV st.vs none (some ((0:Nat):Int))))) t1=some (.tup []):=qb
   generalize upd H t1 (.tup (cutV st.vs none (some ((0:Nat):Int))))=H1 at s1 h1 ⊢
   walk_at "rd"
   intro t2 ht2
   have s2:=Same.upd (o:= .tup [.int n]) ht2
   have h2:=qb (H:=H1) (a:=t2) (o:= .tup [.int n])
   have h12:=s2 _ _ h1
   generalize upd H1 t2 (.tup [.int n])=H2 at s2 h2 h12 ⊢
   refine qcc (SqT.of h12) (SqT.of h2) (by show 1<=sizeLine;omega) ?_
   have hq2:=s2 _ _ (s1 _ _ hq)
   walk_at "rd"
   refine⟨q,_,rfl,SqT.of hq2,fun e=>absurd (show(4:Nat)=5 from congrArg List.length e) (by decide),fun t3 ht3=>?_⟩
   have s3:=Same.upd (o:= .tup (cutV st.vs (some (((0:Nat):Int)+1)) none)) ht3
   have h3:(upd H2 t3 (.tup (cutV st.vs (some (((0:Nat):Int)+1)) none))) t3=some (.tup [.int st.tk,.int st.op,.int st.b,.int st.wt]):=qb
   generalize upd H2 t3 (.tup (cutV st.vs (some (((0:Nat):Int)+1)) none))=H3 at s3 h3 ⊢
   refine q1L (SqT.of (s3 _ _ h2)) (SqT.of h3) rfl fun t4 ht4=>?_
   exact k t4 _ (((s1.trans s2).trans s3).trans (Same.upd ht4)) qb
  ·walk_at "rd"
   refine⟨q,_,rfl,SqT.of hq,fun e=>absurd (show(1:Nat)=5 from congrArg List.length e) (by decide),fun t1 ht1=>?_⟩
   have s1:=Same.upd (o:= .tup (cutV st.vs none (some ((1:Nat):Int)))) ht1
   have h1:(upd H t1 (.tup (cutV st.vs none (some ((1:Nat):Int))))) t1=some (.tup [.int st.rm]):=qb
   generalize upd H t1 (.tup (cutV st.vs none (some ((1:Nat):Int))))=H1 at s1 h1 ⊢
   walk_at "rd"
   intro t2 ht2
   have s2:=Same.upd (o:= .tup [.int n]) ht2
   have h2:=qb (H:=H1) (a:=t2) (o:= .tup [.int n])
   have h12:=s2 _ _ h1
   generalize upd H1 t2 (.tup [.int n])=H2 at s2 h2 h12 ⊢
   refine q1L (SqT.of h12) (SqT.of h2) rfl fun t5 ht5=>?_
   have s5:=Same.upd (o:= .tup [.int st.rm,.int n]) ht5
   have h5:=qb (H:=H2) (a:=t5) (o:= .tup [.int st.rm,.int n])
   have hq2:=s5 _ _ (s2 _ _ (s1 _ _ hq))
   show(tSl _ _ _ _) _ (upd H2 t5 (.tup [.int st.rm,.int n])) _
   generalize upd H2 t5 (.tup [.int st.rm,.int n])=H5 at s5 h5 hq2 ⊢
   walk_at "rd"
   refine⟨q,_,rfl,SqT.of hq2,fun e=>absurd (show(3:Nat)=5 from congrArg List.length e) (by decide),fun t3 ht3=>?_⟩
   have s3:=Same.upd (o:= .tup (cutV st.vs (some (((1:Nat):Int)+1)) none)) ht3
   have h3:(upd H5 t3 (.tup (cutV st.vs (some (((1:Nat):Int)+1)) none))) t3=some (.tup [.int st.op,.int st.b,.int st.wt]):=qb
   generalize upd H5 t3 (.tup (cutV st.vs (some (((1:Nat):Int)+1)) none))=H3 at s3 h3 ⊢
   refine q1L (SqT.of (s3 _ _ h5)) (SqT.of h3) rfl fun t4 ht4=>?_
   exact k t4 _ ((((s1.trans s2).trans s5).trans s3).trans (Same.upd ht4)) qb
  ·walk_at "rd"
   refine⟨q,_,rfl,SqT.of hq,fun e=>absurd (show(2:Nat)=5 from congrArg List.length e) (by decide),fun t1 ht1=>?_⟩
   have s1:=Same.upd (o:= .tup (cutV st.vs none (some ((2:Nat):Int)))) ht1
   have h1:(upd H t1 (.tup (cutV st.vs none (some ((2:Nat):Int))))) t1=some (.tup [.int st.rm,.int st.tk]):=qb
   generalize upd H t1 (.tup (cutV st.vs none (some ((2:Nat):Int))))=H1 at s1 h1 ⊢
   walk_at "rd"
   intro t2 ht2
   have s2:=Same.upd (o:= .tup [.int n]) ht2
   have h2:=qb (H:=H1) (a:=t2) (o:= .tup [.int n])
   have h12:=s2 _ _ h1
   generalize upd H1 t2 (.tup [.int n])=H2 at s2 h2 h12 ⊢
   refine q1L (SqT.of h12) (SqT.of h2) rfl fun t5 ht5=>?_
   have s5:=Same.upd (o:= .tup [.int st.rm,.int st.tk,.int n]) ht5
   have h5:=qb (H:=H2) (a:=t5) (o:= .tup [.int st.rm,.int st.tk,.int n])
   have hq2:=s5 _ _ (s2 _ _ (s1 _ _ hq))
   show(tSl _ _ _ _) _ (upd H2 t5 (.tup [.int st.rm,.int st.tk,.int n])) _
   generalize upd H2 t5 (.tup [.int st.rm,.int st.tk,.int n])=H5 at s5 h5 hq2 ⊢
   walk_at "rd"
   refine⟨q,_,rfl,SqT.of hq2,fun e=>absurd (show(2:Nat)=5 from congrArg List.length e) (by decide),fun t3 ht3=>?_⟩
   have s3:=Same.upd (o:= .tup (cutV st.vs (some (((2:Nat):Int)+1)) none)) ht3
   have h3:(upd H5 t3 (.tup (cutV st.vs (some (((2:Nat):Int)+1)) none))) t3=some (.tup [.int st.b,.int st.wt]):=qb
   generalize upd H5 t3 (.tup (cutV st.vs (some (((2:Nat):Int)+1)) none))=H3 at s3 h3 ⊢
   refine q1L (SqT.of (s3 _ _ h5)) (SqT.of h3) rfl fun t4 ht4=>?_
   exact k t4 _ ((((s1.trans s2).trans s5).trans s3).trans (Same.upd ht4)) qb
  ·walk_at "rd"
   refine⟨q,_,rfl,SqT.of hq,fun e=>absurd (show(3:Nat)=5 from congrArg List.length e) (by decide),fun t1 ht1=>?_⟩
   have s1:=Same.upd (o:= .tup (cutV st.vs none (some ((3:Nat):Int)))) ht1
   have h1:(upd H t1 (.tup (cutV st.vs none (some ((3:Nat):Int))))) t1=some (.tup [.int st.rm,.int st.tk,.int st.op]):=qb
   generalize upd H t1 (.tup (cutV st.vs none (some ((3:Nat):Int))))=H1 at s1 h1 ⊢
   walk_at "rd"
   intro t2 ht2
   have s2:=Same.upd (o:= .tup [.int n]) ht2
   have h2:=qb (H:=H1) (a:=t2) (o:= .tup [.int n])
   have h12:=s2 _ _ h1
   generalize upd H1 t2 (.tup [.int n])=H2 at s2 h2 h12 ⊢
   refine q1L (SqT.of h12) (SqT.of h2) rfl fun t5 ht5=>?_
   have s5:=Same.upd (o:= .tup [.int st.rm,.int st.tk,.int st.op,.int n]) ht5
   have h5:=qb (H:=H2) (a:=t5) (o:= .tup [.int st.rm,.int st.tk,.int st.op,.int n])
   have hq2:=s5 _ _ (s2 _ _ (s1 _ _ hq))
   show(tSl _ _ _ _) _ (upd H2 t5 (.tup [.int st.rm,.int st.tk,.int st.op,.int n])) _
   generalize upd H2 t5 (.tup [.int st.rm,.int st.tk,.int st.op,.int n])=H5 at s5 h5 hq2 ⊢
   walk_at "rd"
   refine⟨q,_,rfl,SqT.of hq2,fun e=>absurd (show(1:Nat)=5 from congrArg List.length e) (by decide),fun t3 ht3=>?_⟩
   have s3:=Same.upd (o:= .tup (cutV st.vs (some (((3:Nat):Int)+1)) none)) ht3
   have h3:(upd H5 t3 (.tup (cutV st.vs (some (((3:Nat):Int)+1)) none))) t3=some (.tup [.int st.wt]):=qb
   generalize upd H5 t3 (.tup (cutV st.vs (some (((3:Nat):Int)+1)) none))=H3 at s3 h3 ⊢
   refine q1L (SqT.of (s3 _ _ h5)) (SqT.of h3) rfl fun t4 ht4=>?_
   exact k t4 _ ((((s1.trans s2).trans s5).trans s3).trans (Same.upd ht4)) qb
  ·walk_at "rd"
   refine⟨q,_,rfl,SqT.of hq,fun e=>absurd (show(4:Nat)=5 from congrArg List.length e) (by decide),fun t1 ht1=>?_⟩
   have s1:=Same.upd (o:= .tup (cutV st.vs none (some ((4:Nat):Int)))) ht1
   have h1:(upd H t1 (.tup (cutV st.vs none (some ((4:Nat):Int))))) t1=some (.tup [.int st.rm,.int st.tk,.int st.op,.int st.b]):=qb
   generalize upd H t1 (.tup (cutV st.vs none (some ((4:Nat):Int))))=H1 at s1 h1 ⊢
   walk_at "rd"
   intro t2 ht2
   have s2:=Same.upd (o:= .tup [.int n]) ht2
   have h2:=qb (H:=H1) (a:=t2) (o:= .tup [.int n])
   have h12:=s2 _ _ h1
   generalize upd H1 t2 (.tup [.int n])=H2 at s2 h2 h12 ⊢
   refine q1L (SqT.of h12) (SqT.of h2) rfl fun t5 ht5=>?_
   have s5:=Same.upd (o:= .tup [.int st.rm,.int st.tk,.int st.op,.int st.b,.int n]) ht5
   have h5:=qb (H:=H2) (a:=t5) (o:= .tup [.int st.rm,.int st.tk,.int st.op,.int st.b,.int n])
   have hq2:=s5 _ _ (s2 _ _ (s1 _ _ hq))
   show(tSl _ _ _ _) _ (upd H2 t5 (.tup [.int st.rm,.int st.tk,.int st.op,.int st.b,.int n])) _
   generalize upd H2 t5 (.tup [.int st.rm,.int st.tk,.int st.op,.int st.b,.int n])=H5 at s5 h5 hq2 ⊢
   walk_at "rd"
   refine⟨q,_,rfl,SqT.of hq2,fun e=>absurd (show(0:Nat)=5 from congrArg List.length e) (by decide),fun t3 ht3=>?_⟩
   have s3:=Same.upd (o:= .tup (cutV st.vs (some (((4:Nat):Int)+1)) none)) ht3
   have h3:(upd H5 t3 (.tup (cutV st.vs (some (((4:Nat):Int)+1)) none))) t3=some (.tup []):=qb
   generalize upd H5 t3 (.tup (cutV st.vs (some (((4:Nat):Int)+1)) none))=H3 at s3 h3 ⊢
   refine qcb (SqT.of (s3 _ _ h5)) (SqT.of h3) (by show 5<=sizeLine;omega) ?_
   exact k t5 _ (((s1.trans s2).trans s5).trans s3) (s3 _ _ h5)
theorem qax (T:Txt mg cs)(L:LaidC K mg "Deed" "__init__" "Deed.__init__" q1y ["self","word","number","part"]):CCal P w K mg base 1 "Deed" "__init__" ["self","word","number","part"] (q2h K):=by
 refine L.cc (k:=0) q5z (fun vs H Q E h=>?_) (fun f cdv A outer s H vs Q E hr h=>?_)
 ·obtain ⟨p,C,dx,z,n,t,rfl,_⟩:=h
  rfl
 ·obtain ⟨p,C,dx,z,n,t,rfl,hp,cl,nw,nn,np,k⟩:=h
  refine⟨_,(qc (q15 K (pv 0) (pv 1) rfl)
   (qc (q15 K (pv 0) (pv 2) rfl)
   (qf (q15 K (pv 0) (pv 3) rfl)))),?_⟩
  walk_at "rd"
  refine q2a hp cl nw (by decide) ?_
  walk_at "rd"
  refine q2a qb cl nn (by show 1<1000;decide) ?_
  walk_at "rd"
  refine q2a qb cl np (by show 2<1000;decide) ?_
  rw[q1G,q1G]
  exact k
theorem q5G {H:Hp}{Q:VK}{p dx:Addr}{d:Wd}{n:Int}(k:∀H',(∀b o,H b=some o->b≠p->H' b=some o)->DObj cs H' p d n->Q .non H'):Q .non (upd H p (.ins (dcls cs d) dx (putF "part" (.int d.part) (putF "number" (.int n) (putF "word" (.str d.str) []))))):=
 k _ (fun b o hb hbp=>by rw[qi hbp];exact hb) ⟨dx,qb⟩
theorem mk_go (T:Txt mg cs)(TC:Tcl K cs)(L:LaidI K mg "Go" cs.Go "Go.__init__" q2y ["self","number"])(C_Deed_init:CCal P w K mg base 1 "Deed" "__init__" ["self","word","number","part"] (q2h K)):Makes P w K mg base 2 "Go" cs.Go ["self","number"] (q1H cs .go):=by
 obtain⟨t1,e_WAYS⟩:=T.e_WAYS
 have D:=q2f TC .go
 refine L.makes (k:=1) q7s (fun vs H Q E h=>?_) (fun f cdv A outer s H vs Q E hr h=>?_)
 ·obtain ⟨p,dx,n,rfl,_⟩:=h
  rfl
 ·obtain ⟨p,dx,n,rfl,hp,k⟩:=h
  refine⟨_,(qf (qF (q3E C_Deed_init hr (by decide) rfl (qa (pv 0) (qa qD (qa (pv 1) (qa (qh (v:= .int 3) rfl e_WAYS ⟨_,rfl⟩) qe))))))),?_⟩
  walk_at "rd"
  refine⟨p,_,dx,_,n,_,rfl,hp,D.cl,D.nw,D.nn,D.np,?_⟩
  walk_at "rd"
  exact q5G k
theorem qcK (T:Txt mg cs)(TC:Tcl K cs)(L:LaidI K mg "Pull" cs.Pull "Pull.__init__" q1q ["self","number"])(C_Deed_init:CCal P w K mg base 1 "Deed" "__init__" ["self","word","number","part"] (q2h K)):Makes P w K mg base 2 "Pull" cs.Pull ["self","number"] (q1H cs .pull):=by
 obtain⟨t1,e_LEVERS⟩:=T.e_LEVERS
 have D:=q2f TC .pull
 refine L.makes (k:=1) q5q (fun vs H Q E h=>?_) (fun f cdv A outer s H vs Q E hr h=>?_)
 ·obtain ⟨p,dx,n,rfl,_⟩:=h
  rfl
 ·obtain ⟨p,dx,n,rfl,hp,k⟩:=h
  refine⟨_,(qf (qF (q3E C_Deed_init hr (by decide) rfl (qa (pv 0) (qa qD (qa (pv 1) (qa (qh (v:= .int 5) rfl e_LEVERS ⟨_,rfl⟩) qe))))))),?_⟩
  walk_at "rd"
  refine⟨p,_,dx,_,n,_,rfl,hp,D.cl,D.nw,D.nn,D.np,?_⟩
  walk_at "rd"
  exact q5G k
theorem qcJ (T:Txt mg cs)(TC:Tcl K cs)(L:LaidI K mg "Take" cs.Take "Take.__init__" q1n ["self","number"])(C_Deed_init:CCal P w K mg base 1 "Deed" "__init__" ["self","word","number","part"] (q2h K)):Makes P w K mg base 2 "Take" cs.Take ["self","number"] (q1H cs .take):=by
 obtain⟨t1,e_THINGS⟩:=T.e_THINGS
 have D:=q2f TC .take
 refine L.makes (k:=1) q5n (fun vs H Q E h=>?_) (fun f cdv A outer s H vs Q E hr h=>?_)
 ·obtain ⟨p,dx,n,rfl,_⟩:=h
  rfl
 ·obtain ⟨p,dx,n,rfl,hp,k⟩:=h
  refine⟨_,(qf (qF (q3E C_Deed_init hr (by decide) rfl (qa (pv 0) (qa qD (qa (pv 1) (qa (qh (v:= .int 4) rfl e_THINGS ⟨_,rfl⟩) qe))))))),?_⟩
  walk_at "rd"
  refine⟨p,_,dx,_,n,_,rfl,hp,D.cl,D.nw,D.nn,D.np,?_⟩
  walk_at "rd"
  exact q5G k
theorem qcI (T:Txt mg cs)(TC:Tcl K cs)(L:LaidI K mg "Turn" cs.Turn "Turn.__init__" q1k ["self","number"])(C_Deed_init:CCal P w K mg base 1 "Deed" "__init__" ["self","word","number","part"] (q2h K)):Makes P w K mg base 2 "Turn" cs.Turn ["self","number"] (q1H cs .turn):=by
 obtain⟨t1,e_WHEELS⟩:=T.e_WHEELS
 have D:=q2f TC .turn
 refine L.makes (k:=1) q5l (fun vs H Q E h=>?_) (fun f cdv A outer s H vs Q E hr h=>?_)
 ·obtain ⟨p,dx,n,rfl,_⟩:=h
  rfl
 ·obtain ⟨p,dx,n,rfl,hp,k⟩:=h
  refine⟨_,(qf (qF (q3E C_Deed_init hr (by decide) rfl (qa (pv 0) (qa qD (qa (pv 1) (qa (qh (v:= .int 6) rfl e_WHEELS ⟨_,rfl⟩) qe))))))),?_⟩
  walk_at "rd"
  refine⟨p,_,dx,_,n,_,rfl,hp,D.cl,D.nw,D.nn,D.np,?_⟩
  walk_at "rd"
  exact q5G k
theorem q8J (T:Txt mg cs)(TC:Tcl K cs)(L:LaidI K mg "Unlock" cs.Unlock "Unlock.__init__" q0F ["self","number"])(C_Deed_init:CCal P w K mg base 1 "Deed" "__init__" ["self","word","number","part"] (q2h K)):Makes P w K mg base 2 "Unlock" cs.Unlock ["self","number"] (q1H cs .unlock):=by
 obtain⟨t1,e_WAYS⟩:=T.e_WAYS
 have D:=q2f TC .unlock
 refine L.makes (k:=1) q43 (fun vs H Q E h=>?_) (fun f cdv A outer s H vs Q E hr h=>?_)
 ·obtain ⟨p,dx,n,rfl,_⟩:=h
  rfl
 ·obtain ⟨p,dx,n,rfl,hp,k⟩:=h
  refine⟨_,(qf (qF (q3E C_Deed_init hr (by decide) rfl (qa (pv 0) (qa qD (qa (pv 1) (qa (qh (v:= .int 3) rfl e_WAYS ⟨_,rfl⟩) qe))))))),?_⟩
  walk_at "rd"
  refine⟨p,_,dx,_,n,_,rfl,hp,D.cl,D.nw,D.nn,D.np,?_⟩
  walk_at "rd"
  exact q5G k
theorem q8M {H:Hp}{Q:VK}{d:Wd}{n:Int}{x dx:Addr}(hx:H x=none)(hdx:H dx=none)(ne:dx≠x)(k:∀(x:Addr) (H':Hp),Same H H'->H x=none->DObj cs H' x d n->Q (.ref x) H'):q1H cs d (.ref x::([.int n]++[])) (upd (upd H dx (.own x)) x (.ins (dcls cs d) dx [])) (fun v H2=>v= .non/\Q (.ref x) H2) E0:=by
 refine⟨x,dx,n,rfl,qb,fun H' hk ho=>⟨rfl,k x H' (fun b o hb=>?_) hx ho⟩⟩
 refine hk b o ?_ (qj hb hx)
 rw[qi (qj hb hx),qi (qj hb hdx)]
 exact hb
theorem q4Z {d:Wd}(L:LaidM K (dcls cs d) "own_part" "Deed.own_part" qy ["self","cellar"])(D:DCl K cs d):VMeth P w K mg base 1 (dcls cs d) "own_part" ["self","cellar"] (q41 cs d):=by
 refine L.vm (k:=0) D.cl q3a (fun vs H Q E h=>?_) (fun f cdv A outer s H vs Q E hr h=>?_)
 ·obtain ⟨p,c,C,i,rfl,_⟩:=h
  rfl
 ·obtain ⟨p,c,C,i,rfl,ho,hC,hi,k⟩:=h
  obtain⟨dx,hp⟩:=ho.ex
  obtain⟨pw,pt,pl,pv',h0,hw,ht,hl,hv⟩:=hC.ex
  refine⟨_,(qf (ql (qA (qk K) (qA (qk K) (pv 1) (q0c K (pv 0) rfl) (fun _ _=>rfl)) (q0c K (pv 0) rfl) (fun _ _=>rfl)))),?_⟩
  walk_at "rd"
  refine q18 hp D.cl D.np (q9q d i) ?_
  cases d
  ·obtain ⟨xs,hx,hxl,hxg⟩:=hw.get
   obtain⟨r,e,hr1⟩:=hxg i hi
   refine q3b (SqT.of h0) (v:= .ref pw) rfl ?_
   walk_at "rd"
   refine q18 hp D.cl D.nn (qY _ i) ?_
   refine q3b (SqT.of hx) (q0R e) ?_
   exact k r ⟨_,List.getElem?_eq_getElem hi,hr1⟩
  ·obtain ⟨xs,hx,hxl,hxg⟩:=hl.get
   obtain⟨r,e,hr1⟩:=hxg i hi
   refine q3b (SqT.of h0) (v:= .ref pl) rfl ?_
   walk_at "rd"
   refine q18 hp D.cl D.nn (qY _ i) ?_
   refine q3b (SqT.of hx) (q0R e) ?_
   exact k r ⟨_,List.getElem?_eq_getElem hi,hr1⟩
  ·obtain ⟨xs,hx,hxl,hxg⟩:=ht.get
   obtain⟨r,e,hr1⟩:=hxg i hi
   refine q3b (SqT.of h0) (v:= .ref pt) rfl ?_
   walk_at "rd"
   refine q18 hp D.cl D.nn (qY _ i) ?_
   refine q3b (SqT.of hx) (q0R e) ?_
   exact k r ⟨_,List.getElem?_eq_getElem hi,hr1⟩
  ·obtain ⟨xs,hx,hxl,hxg⟩:=hv.get
   obtain⟨r,e,hr1⟩:=hxg i hi
   refine q3b (SqT.of h0) (v:= .ref pv') rfl ?_
   walk_at "rd"
   refine q18 hp D.cl D.nn (qY _ i) ?_
   refine q3b (SqT.of hx) (q0R e) ?_
   exact k r ⟨_,List.getElem?_eq_getElem hi,hr1⟩
  ·obtain ⟨xs,hx,hxl,hxg⟩:=hw.get
   obtain⟨r,e,hr1⟩:=hxg i hi
   refine q3b (SqT.of h0) (v:= .ref pw) rfl ?_
   walk_at "rd"
   refine q18 hp D.cl D.nn (qY _ i) ?_
   refine q3b (SqT.of hx) (q0R e) ?_
   exact k r ⟨_,List.getElem?_eq_getElem hi,hr1⟩
theorem num_at {H:Hp}{c:Addr}{C:Cl}(hC:ClAt H c C)(d:Wd):∃(vs:List V) (p:Addr) (xs:List V),H c=some (.tup vs)/\atI vs d.part=some (.ref p)/\H p=some (.tup xs)/\xs.length=C.num d/\atI vs 2=some (.int C.lst):=by
 obtain⟨pw,pt,pl,pv',h0,hw,ht,hl,hv⟩:=hC.ex
 cases d
 ·obtain ⟨xs,hx,hxl,_⟩:=hw.get
  exact⟨_,pw,xs,h0,rfl,hx,hxl,rfl⟩
 ·obtain ⟨xs,hx,hxl,_⟩:=hl.get
  exact⟨_,pl,xs,h0,rfl,hx,hxl,rfl⟩
 ·obtain ⟨xs,hx,hxl,_⟩:=ht.get
  exact⟨_,pt,xs,h0,rfl,hx,hxl,rfl⟩
 ·obtain ⟨xs,hx,hxl,_⟩:=hv.get
  exact⟨_,pv',xs,h0,rfl,hx,hxl,rfl⟩
 ·obtain ⟨xs,hx,hxl,_⟩:=hw.get
  exact⟨_,pw,xs,h0,rfl,hx,hxl,rfl⟩
theorem q59 {d:Wd}(T:Txt mg cs)(L:LaidM K (dcls cs d) "can" "Deed.can" qO ["self","cellar","stand"])(D:DCl K cs d)(C_within:Cal P w K mg base 1 "within" ["number","least","most"] q2q)(vf:VMeth P w K mg base 5 (dcls cs d) "fits" ["self","cellar","stand"] (q3v cs d)):VMeth P w K mg base 6 (dcls cs d) "can" ["self","cellar","stand"] (qa2 cs d):=by
 obtain⟨t1,e_ROOM⟩:=T.e_ROOM
 obtain⟨t2,e_LAST⟩:=T.e_LAST
 refine L.vm (k:=5) D.cl q68 (fun vs H Q E h=>?_) (fun f cdv A outer s H vs Q E hr h=>?_)
 ·obtain ⟨p,c,q,C,st,n,rfl,_⟩:=h
  rfl
 ·obtain ⟨p,c,q,C,st,n,rfl,ho,hC,ok,hq,sok,k⟩:=h
  obtain⟨dx,hp⟩:=ho.ex
  obtain⟨vs,pp,xs,h0,hpp,hx,hxl,hlast⟩:=num_at hC d
  have hq':H q=some (.tup [.int st.rm,.int st.tk,.int st.op,.int st.b,.int st.wt]):=hq
  refine⟨_,(qc (qV (PW.pt (q2i (qv q0l (qA (qk K) (pv 2) (qh (v:= .int 0) rfl e_ROOM ⟨_,rfl⟩) (fun _ _=>rfl)) (qA (qk K) (pv 1) (qh (v:= .int 2) rfl e_LAST ⟨_,rfl⟩) (fun _ _=>rfl)) (qt _)) (q1F (q2b (q0A (qp C_within hr (by decide) rfl (qa (q0c K (pv 0) rfl) (qa qg (qa (qx q3H (qB (lenK K) rfl T.n_len q0o (qa (qA (qk K) (pv 1) (q0c K (pv 0) rfl) (fun _ _=>rfl)) qe)) qg) qe))))))))) (qf (ql q3c)) qu)
   (qf (ql (q3C (k:=5) (hr.mono (by decide)) (pv 0) (qa (pv 1) (qa (pv 2) qe)))))),?_⟩
  walk_at "rd"
  refine ifd (fun h1=>?_) (fun h1=>?_)
  ·walk_at "rd"
   have:=k H (Same.refl _)
   rw[q9E h1] at this
   exact this
  walk_at "rd"
  refine q18 hp D.cl D.nn (qY d n) ?_
  walk_at "rd"
  refine q18 hp D.cl D.np (q9q d n) ?_
  refine q3b (SqT.of h0) hpp ?_
  walk_at "rd"
  refine⟨n,0,_,rfl,?_⟩
  walk_at "rd"
  by_cases hin:0<=n/\n<(C.num d:Int)
  ·have e:(decide (0<=n)&&decide (n<=(xs.length:Int) - 1))=true:=by
    rw[decide_eq_true (p:=0<=n) hin.1,decide_eq_true (p:=n<=(xs.length:Int) - 1) (by rw[hxl];omega)]
    rfl
   rw[e]
   walk_at "rd"
   obtain⟨i,rfl⟩:∃i:Nat,n=(i:Int):=⟨n.toNat,by omega⟩
   refine r_vm hp vf (qda d _) ?_
   walk_at "rd"
   refine⟨p,c,q,C,st,i,rfl,ho,hC,ok,hq,sok,by omega,fun H' s'=>?_⟩
   have:=k H' s'
   rw[qdh h1] at this
   exact this
  ·have e:(decide (0<=n)&&decide (n<=(xs.length:Int) - 1))=false:=by
    rw[Bool.and_eq_false_iff]
    by_cases h3:0<=n
    ·right;rw[hxl];exact decide_eq_false (by omega)
    ·left;exact decide_eq_false h3
   rw[e]
   walk_at "rd"
   have:=k H (Same.refl _)
   rw[show canD C st d n=false from by
    by_cases h3:0<=n
    ·exact q6s (by omega)
    ·exact q7e (by omega)] at this
   exact this
theorem q2o {d:Wd}(L:LaidM K (dcls cs d) "told" "Deed.told" qI ["self"])(D:DCl K cs d):VMeth P w K mg base 1 (dcls cs d) "told" ["self"] (q63 cs d):=by
 refine L.vm (k:=0) D.cl q5y (fun vs H Q E h=>?_) (fun f cdv A outer s H vs Q E hr h=>?_)
 ·obtain ⟨p,n,rfl,_⟩:=h
  rfl
 ·obtain ⟨p,n,rfl,ho,k⟩:=h
  obtain⟨dx,hp⟩:=ho.ex
  refine⟨_,(qf (ql (qR (qa (q0c K (pv 0) rfl) (qa (q0c K (pv 0) rfl) qe))))),?_⟩
  walk_at "rd"
  refine q18 hp D.cl D.nw (qd8 d n) ?_
  walk_at "rd"
  refine q18 hp D.cl D.nn (qY d n) ?_
  walk_at "rd"
  intro r hr1
  exact k r _ (Same.upd hr1) qb
theorem q7h (T:Txt mg cs)(D:DCl K cs .go)(L:LaidM K cs.Go "fits" "Go.fits" q2z ["self","cellar","stand"])(vo:VMeth P w K mg base 1 (dcls cs .go) "own_part" ["self","cellar"] (q41 cs .go))(C_can_enter:Cal P w K mg base 1 "can_enter" ["way","room"] q4l)(C_has_bit:Cal P w K mg base 1 "has_bit" ["bits","place"] q64)
  (C_gate_of:Cal P w K mg base 4 "gate_of" ["gate"] (qbV cs))(vl:∀g:Gt,VMeth P w K mg base 2 (q9B cs g) "lets" ["self","held","opened","bars","water"] (q34 cs g.word))(C_held:Cal P w K mg base 2 "held" ["cellar","stand"] q6B):VMeth P w K mg base 5 (dcls cs .go) "fits" ["self","cellar","stand"] (q3v cs .go):=by
 obtain⟨t1,e_ROOM⟩:=T.e_ROOM
 obtain⟨t2,e_OPENED⟩:=T.e_OPENED
 obtain⟨t3,e_WAY_GATE⟩:=T.e_WAY_GATE
 obtain⟨t4,e_BARS⟩:=T.e_BARS
 obtain⟨t5,e_WATER⟩:=T.e_WATER
 refine LaidM.vm (k:=4) L D.cl q2S (fun vs H Q E h=>?_) (fun f cdv A outer s H vs Q E hr h=>?_)
 ·obtain ⟨p,c,q,C,st,i,rfl,_⟩:=h
  rfl
 ·obtain ⟨p,c,q,C,st,i,rfl,ho,hC,ok,hq,sok,hi,k⟩:=h
  obtain⟨dx,hp⟩:=ho.ex
  replace hq:H q=some (.tup [.int st.rm,.int st.tk,.int st.op,.int st.b,.int st.wt]):=hq
  refine⟨_,(qc (qw (i:=3) q2S.nd rfl (Or.inl rfl) (q3C (k:=1) (hr.mono (by decide)) (pv 0) (qa (pv 1) qe)))
   (qc (qV (q2b (q0A (qp C_can_enter hr (by decide) rfl (qa (pv 3) (qa (qA (qk K) (pv 2) (qh (v:= .int 0) rfl e_ROOM ⟨_,rfl⟩) (fun _ _=>rfl)) qe))))) (qf (ql q3c)) qu)
   (qc (qw (i:=4) q2S.nd rfl (Or.inl rfl) (qp C_has_bit hr (by decide) rfl (qa (qA (qk K) (pv 2) (qh (v:= .int 2) rfl e_OPENED ⟨_,rfl⟩) (fun _ _=>rfl)) (qa (q0c K (pv 0) rfl) qe))))
   (qf (ql (q3C (k:=2) (hr.mono (by decide)) (qp C_gate_of hr (by decide) rfl (qa (qA (qk K) (pv 3) (qh (v:= .int 2) rfl e_WAY_GATE ⟨_,rfl⟩) (fun _ _=>rfl)) qe)) (qa (qp C_held hr (by decide) rfl (qa (pv 1) (qa (pv 2) qe))) (qa (pv 4) (qa (qA (qk K) (pv 2) (qh (v:= .int 3) rfl e_BARS ⟨_,rfl⟩) (fun _ _=>rfl)) (qa (qA (qk K) (pv 2) (qh (v:= .int 4) rfl e_WATER ⟨_,rfl⟩) (fun _ _=>rfl)) qe)))))))))),?_⟩
  walk_at "rd"
  refine r_vm hp vo (q38 _ _) ?_
  walk_at "rd"
  refine⟨p,c,C,i,rfl,ho,hC,hi,fun r hrow=>?_⟩
  obtain⟨x,hx,hW⟩:=hrow
  have xok:=ok.w x (List.mem_of_getElem? hx)
  have ecan:canB C st i .go=(q2K x st.rm&&qaM x.g (hold C st.tk st.op) (bit st.op i) st.b st.wt):=by simp[canB,hx]
  obtain⟨g,hr1,hg⟩:=id hW
  walk_at "rd"
  refine⟨r,x,st.rm,rfl,hW,?_⟩
  walk_at "rd"
  cases he:q2K x st.rm with
  |false=>
   walk_at "rd"
   have:=k H (Same.refl _)
   rw[ecan,he] at this
   exact this
  |true=>
   walk_at "rd"
   refine q18 hp D.cl D.nn (qY _ _) ?_
   walk_at "rd"
   refine⟨st.op,i,rfl,by omega,?_⟩
   rw[Int.toNat_natCast]
   walk_at "rd"
   refine⟨g,x.g,rfl,hg,fun o H1 s1 ho0 hob=>?_⟩
   obtain⟨dxo,qo,hpo,hqo⟩:=hob.ex
   have hq1:=s1 _ _ hq
   refine r_vm hpo (vl x.g) (qd3 qo x.g) ?_
   walk_at "rd"
   refine⟨c,q,C,st.rm,st.tk,st.op,st.b,st.wt,rfl,hC.mono s1.ts,ok,hq1,sok.dr,fun hl H2 s2 hl0 hl2=>?_⟩
   have hq2:=s2 _ _ hq1
   walk_at "rd"
   refine⟨o,hl,x.g,hold C st.tk st.op,_,_,_,rfl,rfl,hob.mono s2,xok.2.2.2,hl2,?_⟩
   have:=k H2 (s1.trans s2)
   rw[ecan,he,Bool.true_and] at this
   exact this
theorem q55 (T:Txt mg cs)(D:DCl K cs .pull)(L:LaidM K cs.Pull "fits" "Pull.fits" q1r ["self","cellar","stand"])(vo:VMeth P w K mg base 1 (dcls cs .pull) "own_part" ["self","cellar"] (q41 cs .pull)):VMeth P w K mg base 5 (dcls cs .pull) "fits" ["self","cellar","stand"] (q3v cs .pull):=by
 obtain⟨t1,e_ROOM⟩:=T.e_ROOM
 obtain⟨t2,e_PAIR_ROOM⟩:=T.e_PAIR_ROOM
 refine LaidM.vm (k:=4) L D.cl q5r (fun vs H Q E h=>?_) (fun f cdv A outer s H vs Q E hr h=>?_)
 ·obtain ⟨p,c,q,C,st,i,rfl,_⟩:=h
  rfl
 ·obtain ⟨p,c,q,C,st,i,rfl,ho,hC,ok,hq,sok,hi,k⟩:=h
  obtain⟨dx,hp⟩:=ho.ex
  replace hq:H q=some (.tup [.int st.rm,.int st.tk,.int st.op,.int st.b,.int st.wt]):=hq
  refine⟨_,(qf (ql (q05 q0l (qA (qk K) (pv 2) (qh (v:= .int 0) rfl e_ROOM ⟨_,rfl⟩) (fun _ _=>rfl)) (qA (qk K) (q3C (k:=1) (hr.mono (by decide)) (pv 0) (qa (pv 1) qe)) (qh (v:= .int 0) rfl e_PAIR_ROOM ⟨_,rfl⟩) (fun _ _=>rfl)) (qt _)))),?_⟩
  walk_at "rd"
  refine r_vm hp vo (q38 _ _) ?_
  walk_at "rd"
  refine⟨p,c,C,i,rfl,ho,hC,hi,fun r hrow=>?_⟩
  obtain⟨x,hx,hP⟩:=hrow
  have ecan:canB C st i .pull=decide (st.rm=x.1):=by simp[canB,hx]
  replace hP:H r=some (.tup [.int x.1,.int x.2]):=hP
  walk_at "rd"
  have:=k H (Same.refl _)
  rw[ecan] at this
  exact this
theorem q54 (T:Txt mg cs)(D:DCl K cs .take)(L:LaidM K cs.Take "fits" "Take.fits" q1o ["self","cellar","stand"])(vo:VMeth P w K mg base 1 (dcls cs .take) "own_part" ["self","cellar"] (q41 cs .take))(C_has_bit:Cal P w K mg base 1 "has_bit" ["bits","place"] q64):VMeth P w K mg base 5 (dcls cs .take) "fits" ["self","cellar","stand"] (q3v cs .take):=by
 obtain⟨t1,e_ROOM⟩:=T.e_ROOM
 obtain⟨t2,e_PAIR_ROOM⟩:=T.e_PAIR_ROOM
 obtain⟨t3,e_TAKEN⟩:=T.e_TAKEN
 refine LaidM.vm (k:=4) L D.cl q5o (fun vs H Q E h=>?_) (fun f cdv A outer s H vs Q E hr h=>?_)
 ·obtain ⟨p,c,q,C,st,i,rfl,_⟩:=h
  rfl
 ·obtain ⟨p,c,q,C,st,i,rfl,ho,hC,ok,hq,sok,hi,k⟩:=h
  obtain⟨dx,hp⟩:=ho.ex
  replace hq:H q=some (.tup [.int st.rm,.int st.tk,.int st.op,.int st.b,.int st.wt]):=hq
  refine⟨_,(qf (ql (q5D (q05 q0l (qA (qk K) (pv 2) (qh (v:= .int 0) rfl e_ROOM ⟨_,rfl⟩) (fun _ _=>rfl)) (qA (qk K) (q3C (k:=1) (hr.mono (by decide)) (pv 0) (qa (pv 1) qe)) (qh (v:= .int 0) rfl e_PAIR_ROOM ⟨_,rfl⟩) (fun _ _=>rfl)) (qt _)) (q3D (pe_not (qp C_has_bit hr (by decide) rfl (qa (qA (qk K) (pv 2) (qh (v:= .int 1) rfl e_TAKEN ⟨_,rfl⟩) (fun _ _=>rfl)) (qa (q0c K (pv 0) rfl) qe)))))))),?_⟩
  walk_at "rd"
  refine r_vm hp vo (q38 _ _) ?_
  walk_at "rd"
  refine⟨p,c,C,i,rfl,ho,hC,hi,fun r hrow=>?_⟩
  obtain⟨x,hx,hP⟩:=hrow
  have ecan:canB C st i .take=(decide (st.rm=x.1)&& !bit st.tk i):=by simp[canB,hx]
  replace hP:H r=some (.tup [.int x.1,.int x.2]):=hP
  have k':=k H (Same.refl _)
  rw[ecan] at k'
  walk_at "rd"
  refine ifd (fun h1=>?_) (fun h1=>?_)
  ·rw [decide_eq_true h1,Bool.true_and] at k'
   walk_at "rd"
   refine q18 hp D.cl D.nn (qY _ _) ?_
   walk_at "rd"
   refine⟨st.tk,i,rfl,by omega,?_⟩
   rw[Int.toNat_natCast]
   walk_at "rd"
   exact k'
  ·rw [decide_eq_false h1,Bool.false_and] at k'
   exact k'
theorem q53 (T:Txt mg cs)(D:DCl K cs .turn)(L:LaidM K cs.Turn "fits" "Turn.fits" q1l ["self","cellar","stand"])(vo:VMeth P w K mg base 1 (dcls cs .turn) "own_part" ["self","cellar"] (q41 cs .turn)):VMeth P w K mg base 5 (dcls cs .turn) "fits" ["self","cellar","stand"] (q3v cs .turn):=by
 obtain⟨t1,e_ROOM⟩:=T.e_ROOM
 obtain⟨t2,e_PAIR_ROOM⟩:=T.e_PAIR_ROOM
 obtain⟨t3,e_WATER⟩:=T.e_WATER
 obtain⟨t4,e_PAIR_NUMBER⟩:=T.e_PAIR_NUMBER
 refine LaidM.vm (k:=4) L D.cl q36 (fun vs H Q E h=>?_) (fun f cdv A outer s H vs Q E hr h=>?_)
 ·obtain ⟨p,c,q,C,st,i,rfl,_⟩:=h
  rfl
 ·obtain ⟨p,c,q,C,st,i,rfl,ho,hC,ok,hq,sok,hi,k⟩:=h
  obtain⟨dx,hp⟩:=ho.ex
  replace hq:H q=some (.tup [.int st.rm,.int st.tk,.int st.op,.int st.b,.int st.wt]):=hq
  refine⟨_,(qc (qw (i:=3) q36.nd rfl (Or.inl rfl) (q3C (k:=1) (hr.mono (by decide)) (pv 0) (qa (pv 1) qe)))
   (qf (ql (q5D (q05 q0l (qA (qk K) (pv 2) (qh (v:= .int 0) rfl e_ROOM ⟨_,rfl⟩) (fun _ _=>rfl)) (qA (qk K) (pv 3) (qh (v:= .int 0) rfl e_PAIR_ROOM ⟨_,rfl⟩) (fun _ _=>rfl)) (qt _)) (q3D (q05 qcq (qA (qk K) (pv 2) (qh (v:= .int 4) rfl e_WATER ⟨_,rfl⟩) (fun _ _=>rfl)) (qA (qk K) (pv 3) (qh (v:= .int 1) rfl e_PAIR_NUMBER ⟨_,rfl⟩) (fun _ _=>rfl)) (qt _))))))),?_⟩
  walk_at "rd"
  refine r_vm hp vo (q38 _ _) ?_
  walk_at "rd"
  refine⟨p,c,C,i,rfl,ho,hC,hi,fun r hrow=>?_⟩
  obtain⟨x,hx,hP⟩:=hrow
  have ecan:canB C st i .turn=(decide (st.rm=x.1)&& !decide (st.wt=x.2)):=by simp[canB,hx]
  replace hP:H r=some (.tup [.int x.1,.int x.2]):=hP
  have k':=k H (Same.refl _)
  rw[ecan] at k'
  walk_at "rd"
  refine ifd (fun h1=>?_) (fun h1=>?_)
  ·rw [decide_eq_true h1,Bool.true_and] at k'
   walk_at "rd"
   exact k'
  ·rw [decide_eq_false h1,Bool.false_and] at k'
   exact k'
theorem q3Y (T:Txt mg cs)(D:DCl K cs .unlock)(L:LaidM K cs.Unlock "fits" "Unlock.fits" q0G ["self","cellar","stand"])(vo:VMeth P w K mg base 1 (dcls cs .unlock) "own_part" ["self","cellar"] (q41 cs .unlock))(C_can_enter:Cal P w K mg base 1 "can_enter" ["way","room"] q4l)(C_has_bit:Cal P w K mg base 1 "has_bit" ["bits","place"] q64)
  (C_held:Cal P w K mg base 2 "held" ["cellar","stand"] q6B):VMeth P w K mg base 5 (dcls cs .unlock) "fits" ["self","cellar","stand"] (q3v cs .unlock):=by
 obtain⟨t1,e_ROOM⟩:=T.e_ROOM
 obtain⟨t2,e_OPENED⟩:=T.e_OPENED
 obtain⟨t3,e_WAY_GATE⟩:=T.e_WAY_GATE
 refine LaidM.vm (k:=4) L D.cl q14 (fun vs H Q E h=>?_) (fun f cdv A outer s H vs Q E hr h=>?_)
 ·obtain ⟨p,c,q,C,st,i,rfl,_⟩:=h
  rfl
 ·obtain ⟨p,c,q,C,st,i,rfl,ho,hC,ok,hq,sok,hi,k⟩:=h
  obtain⟨dx,hp⟩:=ho.ex
  replace hq:H q=some (.tup [.int st.rm,.int st.tk,.int st.op,.int st.b,.int st.wt]):=hq
  refine⟨_,(qc (qw (i:=3) q14.nd rfl (Or.inl rfl) (q3C (k:=1) (hr.mono (by decide)) (pv 0) (qa (pv 1) qe)))
   (qc (qw (i:=4) q14.nd rfl (Or.inl rfl) (qA (qk K) (pv 3) (qh (v:= .int 2) rfl e_WAY_GATE ⟨_,rfl⟩) (fun _ _=>rfl)))
   (qc (qV (PW.pt (q2i (qv qcq (qA (qk K) (pv 4) qg (fun _ _=>rfl)) qD (qt _)) (q2i (q2b (q0A (qp C_can_enter hr (by decide) rfl (qa (pv 3) (qa (qA (qk K) (pv 2) (qh (v:= .int 0) rfl e_ROOM ⟨_,rfl⟩) (fun _ _=>rfl)) qe))))) (q1F (q0A (qp C_has_bit hr (by decide) rfl (qa (qA (qk K) (pv 2) (qh (v:= .int 2) rfl e_OPENED ⟨_,rfl⟩) (fun _ _=>rfl)) (qa (q0c K (pv 0) rfl) qe)))))))) (qf (ql q3c)) qu)
   (qf (ql (q05 q45 (qA (q01 K) (qp C_held hr (by decide) rfl (qa (pv 1) (qa (pv 2) qe))) (qA (qk K) (pv 4) qg (fun _ _=>rfl)) (fun _ _=>rfl)) qg (qt _))))))),?_⟩
  walk_at "rd"
  refine r_vm hp vo (q38 _ _) ?_
  walk_at "rd"
  refine⟨p,c,C,i,rfl,ho,hC,hi,fun r hrow=>?_⟩
  obtain⟨x,hx,hW⟩:=hrow
  have xok:=ok.w x (List.mem_of_getElem? hx)
  obtain⟨g,hr1,hg⟩:=id hW
  have hg':=hg
  rw[Gt.vs_eq] at hg'
  walk_at "rd"
  refine ifn (fun hn=>?_) (fun hn=>?_)
  ·walk_at "rd"
   have hdk:x.g.dk=none:=by
    have:=q4W x.g
    rw[decide_eq_false hn] at this
    cases e:x.g.dk with
    |none=>rfl
    |some k=>rw[e] at this;cases this
   have:=k H (Same.refl _)
   rw[show canB C st i .unlock=false by simp[canB,hx,hdk]] at this
   exact this
  obtain⟨kd,ekd⟩:=q9l hn
  have hk:0<=kd/\kd<12:=by have:=xok.2.2.2;rw[ekd] at this;exact this
  have edk:x.g.dk=some kd:=by rw[ekd];rfl
  have ecan:canB C st i .unlock=((q2K x st.rm&& !bit st.op i)&&decide (0<hold C st.tk st.op kd)):=by simp[canB,hx,edk]
  have hg2:H g=some (.tup [.str "door",.int kd]):=by rw[ekd] at hg;exact hg
  walk_at "rd"
  refine⟨r,x,st.rm,rfl,hW,?_⟩
  walk_at "rd"
  cases he:q2K x st.rm with
  |false=>
   walk_at "rd"
   have:=k H (Same.refl _)
   rw[ecan,he] at this
   exact this
  |true=>
   walk_at "rd"
   refine q18 hp D.cl D.nn (qY _ _) ?_
   walk_at "rd"
   refine⟨st.op,i,rfl,by omega,?_⟩
   rw[Int.toNat_natCast]
   walk_at "rd"
   cases hb:bit st.op i with
   |true=>
    walk_at "rd"
    have:=k H (Same.refl _)
    rw[ecan,he,hb] at this
    exact this
   |false=>
    walk_at "rd"
    refine⟨c,q,C,st.rm,st.tk,st.op,st.b,st.wt,rfl,hC,ok,hq,sok.dr,fun hl H2 s2 hl0 hl2=>?_⟩
    have hg3:=s2 _ _ hg2
    walk_at "rd"
    refine q6b (SqL.of hl2) (q9D hk.1 hk.2) ?_
    walk_at "rd"
    have:=k H2 s2
    rw[ecan,he,hb] at this
    exact this
theorem q7i (T:Txt mg cs)(D:DCl K cs .go)(L:LaidM K cs.Go "done" "Go.done" q2A ["self","cellar","stand"])(vo:VMeth P w K mg base 1 (dcls cs .go) "own_part" ["self","cellar"] (q41 cs .go))(C_changed:Cal P w K mg base 1 "changed" ["parts","place","part"] q5e):VMeth P w K mg base 2 (dcls cs .go) "done" ["self","cellar","stand"] (q35 cs .go):=by
 obtain⟨t1,e_ROOM⟩:=T.e_ROOM
 obtain⟨t2,e_WAY_A⟩:=T.e_WAY_A
 obtain⟨t3,e_WAY_B⟩:=T.e_WAY_B
 refine LaidM.vm (k:=1) L D.cl q2T (fun vs H Q E h=>?_) (fun f cdv A outer s H vs Q E hr h=>?_)
 ·obtain ⟨p,c,q,C,st,n,rfl,_⟩:=h
  rfl
 ·obtain ⟨p,c,q,C,st,n,rfl,ho,hC,ok,hq,sok,hcan,k⟩:=h
  obtain⟨hl,i,rfl,hi,hcb⟩:=q0n hcan
  obtain⟨dx,hp⟩:=ho.ex
  have hq':H q=some (.tup [.int st.rm,.int st.tk,.int st.op,.int st.b,.int st.wt]):=hq
  refine⟨_,(qc (qw (i:=3) q2T.nd rfl (Or.inl rfl) (q3C (k:=1) (hr.mono (by decide)) (pv 0) (qa (pv 1) qe)))
   (qc (qw (i:=4) q2T.nd rfl (Or.inl rfl) (q1X (qv q0l (qA (qk K) (pv 2) (qh (v:= .int 0) rfl e_ROOM ⟨_,rfl⟩) (fun _ _=>rfl)) (qA (qk K) (pv 3) (qh (v:= .int 0) rfl e_WAY_A ⟨_,rfl⟩) (fun _ _=>rfl)) (qt _)) (qA (qk K) (pv 3) (qh (v:= .int 1) rfl e_WAY_B ⟨_,rfl⟩) (fun _ _=>rfl)) (qA (qk K) (pv 3) (qh (v:= .int 0) rfl e_WAY_A ⟨_,rfl⟩) (fun _ _=>rfl))))
   (qf (ql (qp C_changed hr (by decide) rfl (qa (pv 2) (qa (qh (v:= .int 0) rfl e_ROOM ⟨_,rfl⟩) (qa (pv 4) qe)))))))),?_⟩
  walk_at "rd"
  refine r_vm hp vo (q38 _ _) ?_
  walk_at "rd"
  refine⟨p,c,C,i,rfl,ho,hC,hi,fun r hrow=>?_⟩
  obtain⟨x,hx,hW⟩:=hrow
  obtain⟨g,hr1,hg⟩:=id hW
  have edone:q0m C st .go (i:Int)={st with rm:=if st.rm=x.a then x.b else x.a}:=by
   show q2m C st ((i:Int)).toNat .go=_
   rw[Int.toNat_natCast];simp[q2m,hx]
  rw[edone] at k
  walk_at "rd"
  refine ifd (fun h1=>?_) (fun h1=>?_)
  ·rw [if_pos h1] at k
   walk_at "rd"
   exact⟨q,st,0,_,rfl,by decide,hq,fun r H' s' hr'=>k r H' s' hr'⟩
  ·rw [if_neg h1] at k
   walk_at "rd"
   exact⟨q,st,0,_,rfl,by decide,hq,fun r H' s' hr'=>k r H' s' hr'⟩
theorem q58 (T:Txt mg cs)(D:DCl K cs .pull)(L:LaidM K cs.Pull "done" "Pull.done" q1s ["self","cellar","stand"])(vo:VMeth P w K mg base 1 (dcls cs .pull) "own_part" ["self","cellar"] (q41 cs .pull))(C_changed:Cal P w K mg base 1 "changed" ["parts","place","part"] q5e):VMeth P w K mg base 2 (dcls cs .pull) "done" ["self","cellar","stand"] (q35 cs .pull):=by
 obtain⟨t1,e_BARS⟩:=T.e_BARS
 obtain⟨t2,e_PAIR_NUMBER⟩:=T.e_PAIR_NUMBER
 refine LaidM.vm (k:=1) L D.cl q5s (fun vs H Q E h=>?_) (fun f cdv A outer s H vs Q E hr h=>?_)
 ·obtain ⟨p,c,q,C,st,n,rfl,_⟩:=h
  rfl
 ·obtain ⟨p,c,q,C,st,n,rfl,ho,hC,ok,hq,sok,hcan,k⟩:=h
  obtain⟨hl,i,rfl,hi,hcb⟩:=q0n hcan
  obtain⟨dx,hp⟩:=ho.ex
  have hq':H q=some (.tup [.int st.rm,.int st.tk,.int st.op,.int st.b,.int st.wt]):=hq
  refine⟨_,(qf (ql (qp C_changed hr (by decide) rfl (qa (pv 2) (qa (qh (v:= .int 3) rfl e_BARS ⟨_,rfl⟩) (qa (qx op_xor (qA (qk K) (pv 2) (qh (v:= .int 3) rfl e_BARS ⟨_,rfl⟩) (fun _ _=>rfl)) (qA (qk K) (q3C (k:=1) (hr.mono (by decide)) (pv 0) (qa (pv 1) qe)) (qh (v:= .int 1) rfl e_PAIR_NUMBER ⟨_,rfl⟩) (fun _ _=>rfl))) qe)))))),?_⟩
  walk_at "rd"
  refine r_vm hp vo (q38 _ _) ?_
  walk_at "rd"
  refine⟨p,c,C,i,rfl,ho,hC,hi,fun r hrow=>?_⟩
  obtain⟨x,hx,hP⟩:=hrow
  replace hP:H r=some (.tup [.int x.1,.int x.2]):=hP
  have edone:q0m C st .pull (i:Int)={st with b:=Builtin.bitXor st.b x.2}:=by
   show q2m C st ((i:Int)).toNat .pull=_
   rw[Int.toNat_natCast];simp[q2m,hx]
  rw[edone] at k
  walk_at "rd"
  exact⟨q,st,3,_,rfl,by decide,hq,fun r H' s' hr'=>k r H' s' hr'⟩
theorem q57 (T:Txt mg cs)(D:DCl K cs .take)(L:LaidM K cs.Take "done" "Take.done" q1p ["self","cellar","stand"])(C_changed:Cal P w K mg base 1 "changed" ["parts","place","part"] q5e):VMeth P w K mg base 2 (dcls cs .take) "done" ["self","cellar","stand"] (q35 cs .take):=by
 obtain⟨t1,e_TAKEN⟩:=T.e_TAKEN
 refine LaidM.vm (k:=1) L D.cl q5p (fun vs H Q E h=>?_) (fun f cdv A outer s H vs Q E hr h=>?_)
 ·obtain ⟨p,c,q,C,st,n,rfl,_⟩:=h
  rfl
 ·obtain ⟨p,c,q,C,st,n,rfl,ho,hC,ok,hq,sok,hcan,k⟩:=h
  obtain⟨hl,i,rfl,hi,hcb⟩:=q0n hcan
  obtain⟨dx,hp⟩:=ho.ex
  have hq':H q=some (.tup [.int st.rm,.int st.tk,.int st.op,.int st.b,.int st.wt]):=hq
  have hi8:(i:Int)<8:=by have h2:i<C.things.length:=hi;have:=ok.tl;omega
  have hb:bit st.tk i=false:=by
   have h2:i<C.things.length:=hi
   simp only[canB,List.getElem?_eq_getElem h2,Bool.and_eq_true,Bool.not_eq_true'] at hcb
   exact hcb.2
  have edone:q0m C st .take (i:Int)={st with tk:=st.tk+2 ^ i}:=by
   show q2m C st ((i:Int)).toNat .take=_
   rw[Int.toNat_natCast];rfl
  rw[edone] at k
  refine⟨_,(qf (ql (qp C_changed hr (by decide) rfl (qa (pv 2) (qa (qh (v:= .int 1) rfl e_TAKEN ⟨_,rfl⟩) (qa (qx op_or (qA (qk K) (pv 2) (qh (v:= .int 1) rfl e_TAKEN ⟨_,rfl⟩) (fun _ _=>rfl)) (qx qbq qg (q0c K (pv 0) rfl))) qe)))))),?_⟩
  walk_at "rd"
  refine q18 hp D.cl D.nn (qY _ _) ?_
  walk_at "rd"
  rw[Int.toNat_natCast,Int.one_mul,q9L hb]
  exact⟨q,st,1,_,rfl,by decide,hq,fun r H' s' hr'=>k r H' s' hr'⟩
theorem q56 (T:Txt mg cs)(D:DCl K cs .turn)(L:LaidM K cs.Turn "done" "Turn.done" q1m ["self","cellar","stand"])(vo:VMeth P w K mg base 1 (dcls cs .turn) "own_part" ["self","cellar"] (q41 cs .turn))(C_changed:Cal P w K mg base 1 "changed" ["parts","place","part"] q5e):VMeth P w K mg base 2 (dcls cs .turn) "done" ["self","cellar","stand"] (q35 cs .turn):=by
 obtain⟨t1,e_WATER⟩:=T.e_WATER
 obtain⟨t2,e_PAIR_NUMBER⟩:=T.e_PAIR_NUMBER
 refine LaidM.vm (k:=1) L D.cl q5m (fun vs H Q E h=>?_) (fun f cdv A outer s H vs Q E hr h=>?_)
 ·obtain ⟨p,c,q,C,st,n,rfl,_⟩:=h
  rfl
 ·obtain ⟨p,c,q,C,st,n,rfl,ho,hC,ok,hq,sok,hcan,k⟩:=h
  obtain⟨hl,i,rfl,hi,hcb⟩:=q0n hcan
  obtain⟨dx,hp⟩:=ho.ex
  refine⟨_,(qf (ql (qp C_changed hr (by decide) rfl (qa (pv 2) (qa (qh (v:= .int 4) rfl e_WATER ⟨_,rfl⟩) (qa (qA (qk K) (q3C (k:=1) (hr.mono (by decide)) (pv 0) (qa (pv 1) qe)) (qh (v:= .int 1) rfl e_PAIR_NUMBER ⟨_,rfl⟩) (fun _ _=>rfl)) qe)))))),?_⟩
  walk_at "rd"
  refine r_vm hp vo (q38 _ _) ?_
  walk_at "rd"
  refine⟨p,c,C,i,rfl,ho,hC,hi,fun r hrow=>?_⟩
  obtain⟨x,hx,hP⟩:=hrow
  replace hP:H r=some (.tup [.int x.1,.int x.2]):=hP
  have edone:q0m C st .turn (i:Int)={st with wt:=x.2}:=by
   show q2m C st ((i:Int)).toNat .turn=_
   rw[Int.toNat_natCast];simp[q2m,hx]
  rw[edone] at k
  walk_at "rd"
  exact⟨q,st,4,_,rfl,by decide,hq,fun r H' s' hr'=>k r H' s' hr'⟩
theorem q3Z (T:Txt mg cs)(D:DCl K cs .unlock)(L:LaidM K cs.Unlock "done" "Unlock.done" q0H ["self","cellar","stand"])(C_changed:Cal P w K mg base 1 "changed" ["parts","place","part"] q5e):VMeth P w K mg base 2 (dcls cs .unlock) "done" ["self","cellar","stand"] (q35 cs .unlock):=by
 obtain⟨t1,e_OPENED⟩:=T.e_OPENED
 refine LaidM.vm (k:=1) L D.cl q44 (fun vs H Q E h=>?_) (fun f cdv A outer s H vs Q E hr h=>?_)
 ·obtain ⟨p,c,q,C,st,n,rfl,_⟩:=h
  rfl
 ·obtain ⟨p,c,q,C,st,n,rfl,ho,hC,ok,hq,sok,hcan,k⟩:=h
  obtain⟨hl,i,rfl,hi,hcb⟩:=q0n hcan
  obtain⟨dx,hp⟩:=ho.ex
  have hq':H q=some (.tup [.int st.rm,.int st.tk,.int st.op,.int st.b,.int st.wt]):=hq
  have hi20:(i:Int)<20:=by have h2:i<C.ways.length:=hi;have:=ok.wl;omega
  have hb:bit st.op i=false:=by
   have h2:i<C.ways.length:=hi
   cases hk:C.ways[i].g.dk with
   |none=>simp[canB,h2,hk] at hcb
   |some kd=>
    simp only[canB,List.getElem?_eq_getElem h2,hk,Bool.and_eq_true,Bool.not_eq_true'] at hcb
    exact hcb.1.2
  have edone:q0m C st .unlock (i:Int)={st with op:=st.op+2 ^ i}:=by
   show q2m C st ((i:Int)).toNat .unlock=_
   rw[Int.toNat_natCast];rfl
  rw[edone] at k
  refine⟨_,(qf (ql (qp C_changed hr (by decide) rfl (qa (pv 2) (qa (qh (v:= .int 2) rfl e_OPENED ⟨_,rfl⟩) (qa (qx op_or (qA (qk K) (pv 2) (qh (v:= .int 2) rfl e_OPENED ⟨_,rfl⟩) (fun _ _=>rfl)) (qx qbq qg (q0c K (pv 0) rfl))) qe)))))),?_⟩
  walk_at "rd"
  refine q18 hp D.cl D.nn (qY _ _) ?_
  walk_at "rd"
  rw[Int.toNat_natCast,Int.one_mul,q9L hb]
  exact⟨q,st,2,_,rfl,by decide,hq,fun r H' s' hr'=>k r H' s' hr'⟩
end
def DAt (cs:Cs)(H:Hp)(p:Addr)(x:Wd×Nat):Prop:=DObj cs H p x.1 ((x.2:Nat):Int)
def TAt (H:Hp)(p:Addr)(x:Wd×Nat):Prop:=H p=some (.tup [.str x.1.str,.int ((x.2:Nat):Int)])
theorem DAt.mono {cs:Cs}{H H':Hp}(s:Same H H'){p:Addr}{x:Wd×Nat}(h:DAt cs H p x):DAt cs H' p x:=DObj.mono s h
theorem DAt.put {cs:Cs}{H:Hp}{D:Addr}{xs:List V}{o:HO}(hD:H D=some (.lst xs)){p:Addr}{x:Wd×Nat}(h:DAt cs H p x):DAt cs (upd H D o) p x:=by
 obtain⟨dx,hp⟩:=h.ex
 exact⟨dx,by rw[qi (q2U hp hD (by intro z;cases z))];exact hp⟩
theorem q0J {α:Type}{At:Hp->Addr->α->Prop}{H:Hp}{D x:Addr}{ps:List Addr}{xs:List α}{y:α}(mo:∀q z,At H q z->At (upd H D (.lst (ps.map V.ref++[.ref x]))) q z)(hr:Rows At H ps xs)(hx:At H x y):qJ At (upd H D (.lst (ps.map V.ref++[.ref x]))) D (xs++[y]):=
 ⟨ps++[x],by rw[qb,List.map_append];rfl,(hr.mono mo).snoc (mo _ _ hx)⟩
theorem q3j {α:Type}{At:Hp->Addr->α->Prop}{H:Hp}{ps qs:List Addr}{xs ys:List α}(a:Rows At H ps xs)(b:Rows At H qs ys):Rows At H (ps++qs) (xs++ys):=by
 refine⟨by rw[List.length_append,List.length_append,a.1,b.1],fun i p x h1 h2=>?_⟩
 by_cases hi:i<ps.length
 ·rw [List.getElem?_append_left hi] at h1
  rw[List.getElem?_append_left (by rw[<-a.1];exact hi)] at h2
  exact a.2 i p x h1 h2
 ·rw [List.getElem?_append_right (by omega)] at h1
  rw[List.getElem?_append_right (by rw[<-a.1];omega),<-a.1] at h2
  exact b.2 _ p x h1 h2
def q6C (cs:Cs):Sp:=fun vs H Q _=>∃(c:Addr) (C:Cl),vs=[.ref c]/\ClAt H c C/\ClOk C/\∀(l:Addr) (H':Hp),Same H H'->H l=none->qJ (DAt cs) H' l (rowD .go C.ways.length)->Q (.ref l) H'
def q89 (cs:Cs):Sp:=fun vs H Q _=>∃(c:Addr) (C:Cl),vs=[.ref c]/\ClAt H c C/\ClOk C/\∀(l:Addr) (H':Hp),Same H H'->H l=none->qJ (DAt cs) H' l (allD C)->Q (.ref l) H'
def q86 (cs:Cs):Sp:=fun vs H Q _=>∃(c q:Addr) (C:Cl) (s:Sd),vs=[.ref c,.ref q]/\ClAt H c C/\ClOk C/\H q=some (.tup s.vs)/\s.ok C/\∀(l:Addr) (H':Hp),Same H H'->H l=none->qJ (DAt cs) H' l (fitD C s)->Q (.ref l) H'
section
variable {P:Program}{w:World}{K:W.Frag}{mg:Str->Option Value}{base:Heap}{cs:Cs}
theorem q2B {H0 H':Hp}{D:Addr}{d:Wd}{i:Nat}{v:Option V}{ps:List Addr}{x dx:Addr}(hD:H0 D=none)(s2:Same H0 H')(hi:i<100)(hps:H' D=some (.lst (ps.map V.ref)))(hrw:Rows (DAt cs) H' ps (rowD d i))(hx:H' x=none)(hdx:H' dx=none)(ne:dx≠x):
  q1H cs d (.ref x::([.int (0+((i:Nat):Int))]++[])) (upd (upd H' dx (.own x)) x (.ins (dcls cs d) dx [])) (fun w H2=>w= .non/\∃ys,H2 D=some (.lst ys)/\ys.length<sizeLine/\∃v0,([v]:St)=[v0]/\Same H0 (upd H2 D (.lst (ys++[.ref x])))/\qJ (DAt cs) (upd H2 D (.lst (ys++[.ref x]))) D (rowD d (i+1))) E0:=by
 have big:=qM
 rw[Int.zero_add]
 refine q8M (Q:=fun y H2=>∃ys,H2 D=some (.lst ys)/\ys.length<sizeLine/\∃v0,([v]:St)=[v0]/\Same H0 (upd H2 D (.lst (ys++[y])))/\qJ (DAt cs) (upd H2 D (.lst (ys++[y]))) D (rowD d (i+1))) hx hdx ne fun x H3 s3 hx0 hob=>?_
 have hp3:=s3 _ _ hps
 refine⟨_,hp3,by rw[List.length_map,hrw.1,q2C];omega,_,rfl,(s2.trans s3).put hD,?_⟩
 rw[q8j]
 exact q0J (fun _ _=>DAt.put hp3) (hrw.mono fun _ _=>DAt.mono s3) hob
theorem qcx (T:Txt mg cs)(L:Laid K mg "all_goes" q17 ["cellar"])(C_Go:Makes P w K mg base 2 "Go" cs.Go ["self","number"] (q1H cs .go)):Cal P w K mg base 4 "all_goes" ["cellar"] (q6C cs):=by
 obtain⟨t1,e_WAYS⟩:=T.e_WAYS
 refine L.cal (k:=3) q67 (fun vs H Q E h=>?_) (fun f cdv A outer s H vs Q E hr h=>?_)
 ·obtain ⟨c,C,rfl,_⟩:=h
  rfl
 ·obtain ⟨c,C,rfl,hC,ok,k⟩:=h
  obtain⟨pw,pt,pl,pv',h0,hw,ht,hl,hv⟩:=hC.ex
  obtain⟨wv,hwv,hwl,hwg⟩:=hw.get
  have okw:=ok.wl
  have hwl2:(wv.length:Int)<=20:=by omega
  refine⟨_,(qf (ql (q0P (q0q (N:=["number"]) (own:=1) (caps:=[]) ["cellar"] (qd q17) (by decide +kernel)) rfl (q04 rfl T.n_range (qa (qB (lenK K) rfl T.n_len q0o (qa (qA (qk K) (pv 0) (qh (v:= .int 3) rfl e_WAYS ⟨_,rfl⟩) (fun _ _=>rfl)) qe)) qe)) (fun _ _ _ _=>(qq (i:=0) (show List.Nodup (["number"]:List Str) by decide +kernel) rfl (Or.inl rfl))) (fun _ _ _ _=>q0O) (fun _ _ _ _=>(q2c C_Go hr (by decide) rfl (qa (pv 0) qe)))))),?_⟩
  walk_at "rd"
  intro D hD
  refine q0K (fun i σ H'=>∃v0,σ=[v0]/\Same H H'/\qJ (DAt cs) H' D (rowD .go i)) ⟨none,rfl,Same.upd hD,⟨[],qb,Rows.nil⟩⟩ ?_ ?_
  ·rintro i σ H' hi ⟨v0,rfl,s2,ps,hps,hrw⟩
   walk_at "rd"
   exact fun x dx hx hdx ne => q2B hD s2 (by have:i<wv.length:=by simpa using hi
                                             omega) hps hrw hx hdx ne
  ·rintro σ H' ⟨v0,rfl,s2,hlst⟩
   rw[Int.toNat_natCast,hwl] at hlst
   exact k D H' s2 hD hlst
theorem qcD (T:Txt mg cs)(L:Laid K mg "all_deeds" q03 ["cellar"])(C_all_goes:Cal P w K mg base 4 "all_goes" ["cellar"] (q6C cs))(C_Pull:Makes P w K mg base 2 "Pull" cs.Pull ["self","number"] (q1H cs .pull))(C_Take:Makes P w K mg base 2 "Take" cs.Take ["self","number"] (q1H cs .take))
  (C_Turn:Makes P w K mg base 2 "Turn" cs.Turn ["self","number"] (q1H cs .turn))(C_Unlock:Makes P w K mg base 2 "Unlock" cs.Unlock ["self","number"] (q1H cs .unlock)):Cal P w K mg base 5 "all_deeds" ["cellar"] (q89 cs):=by
 obtain⟨t1,e_WAYS⟩:=T.e_WAYS
 obtain⟨t2,e_LEVERS⟩:=T.e_LEVERS
 obtain⟨t3,e_THINGS⟩:=T.e_THINGS
 obtain⟨t4,e_WHEELS⟩:=T.e_WHEELS
 refine L.cal (k:=4) q0x (fun vs H Q E h=>?_) (fun f cdv A outer s H vs Q E hr h=>?_)
 ·obtain ⟨c,C,rfl,_⟩:=h
  rfl
 ·obtain ⟨c,C,rfl,hC,ok,k⟩:=h
  have big:=qM
  obtain⟨pw,pt,pl,pv',h0,hw,ht,hl,hv⟩:=hC.ex
  obtain⟨wv,hwv,hwl,hwg⟩:=hw.get
  obtain⟨tv,htv,htl,htg⟩:=ht.get
  obtain⟨lv,hlv,hll,hlg⟩:=hl.get
  obtain⟨vv,hvv,hvl,hvg⟩:=hv.get
  have okw:=ok.wl
  have okt:=ok.tl
  have okl:=ok.ll
  have okv:=ok.vl
  have hwl2:(wv.length:Int)<=20:=by omega
  have htl2:(tv.length:Int)<=8:=by omega
  have hll2:(lv.length:Int)<=4:=by omega
  have hvl2:(vv.length:Int)<=4:=by omega
  refine⟨_,(qc (q2k (i:=1) q0x.nd rfl rfl (q0q (N:=["number"]) (own:=1) (caps:=[]) ["cellar","pulls","takes","turns","unlocks"] (qd q03) (by decide +kernel)) rfl (q04 rfl T.n_range (qa (qB (lenK K) rfl T.n_len q0o (qa (qA (qk K) (pv 0) (qh (v:= .int 5) rfl e_LEVERS ⟨_,rfl⟩) (fun _ _=>rfl)) qe)) qe)) (fun _ _ _ _=>(qq (i:=0) (show List.Nodup (["number"]:List Str) by decide +kernel) rfl (Or.inl rfl))) (fun _ _ _ _=>q0O) (fun _ _ _ _=>(q2c C_Pull hr (by decide) rfl (qa (pv 0) qe))))
   (qc (q2k (i:=2) q0x.nd rfl rfl (q0q (N:=["number"]) (own:=1) (caps:=[]) ["cellar","pulls","takes","turns","unlocks"] (qd q03) (by decide +kernel)) rfl (q04 rfl T.n_range (qa (qB (lenK K) rfl T.n_len q0o (qa (qA (qk K) (pv 0) (qh (v:= .int 4) rfl e_THINGS ⟨_,rfl⟩) (fun _ _=>rfl)) qe)) qe)) (fun _ _ _ _=>(qq (i:=0) (show List.Nodup (["number"]:List Str) by decide +kernel) rfl (Or.inl rfl))) (fun _ _ _ _=>q0O) (fun _ _ _ _=>(q2c C_Take hr (by decide) rfl (qa (pv 0) qe))))
   (qc (q2k (i:=3) q0x.nd rfl rfl (q0q (N:=["number"]) (own:=1) (caps:=[]) ["cellar","pulls","takes","turns","unlocks"] (qd q03) (by decide +kernel)) rfl (q04 rfl T.n_range (qa (qB (lenK K) rfl T.n_len q0o (qa (qA (qk K) (pv 0) (qh (v:= .int 6) rfl e_WHEELS ⟨_,rfl⟩) (fun _ _=>rfl)) qe)) qe)) (fun _ _ _ _=>(qq (i:=0) (show List.Nodup (["number"]:List Str) by decide +kernel) rfl (Or.inl rfl))) (fun _ _ _ _=>q0O) (fun _ _ _ _=>(q2c C_Turn hr (by decide) rfl (qa (pv 0) qe))))
   (qc (q2k (i:=4) q0x.nd rfl rfl (q0q (N:=["number"]) (own:=1) (caps:=[]) ["cellar","pulls","takes","turns","unlocks"] (qd q03) (by decide +kernel)) rfl (q04 rfl T.n_range (qa (qB (lenK K) rfl T.n_len q0o (qa (qA (qk K) (pv 0) (qh (v:= .int 3) rfl e_WAYS ⟨_,rfl⟩) (fun _ _=>rfl)) qe)) qe)) (fun _ _ _ _=>(qq (i:=0) (show List.Nodup (["number"]:List Str) by decide +kernel) rfl (Or.inl rfl))) (fun _ _ _ _=>q0O) (fun _ _ _ _=>(q2c C_Unlock hr (by decide) rfl (qa (pv 0) qe))))
   (qf (ql (qx q5F (qx q5F (qx q5F (qx q5F (qp C_all_goes hr (by decide) rfl (qa (pv 0) qe)) (pv 1)) (pv 2)) (pv 3)) (pv 4)))))))),?_⟩
  walk_at "rd"
  intro D1 hD1
  refine q0K (fun i σ H'=>∃v0,σ=[v0]/\Same H H'/\qJ (DAt cs) H' D1 (rowD .pull i)) ⟨none,rfl,Same.upd hD1,⟨[],qb,Rows.nil⟩⟩ ?_ ?_
  ·rintro i σ H' hi ⟨v0,rfl,s2,ps,hps,hrw⟩
   walk_at "rd"
   exact fun x dx hx hdx ne => q2B hD1 s2 (by have:i<lv.length:=by simpa using hi
                                              omega) hps hrw hx hdx ne
  rintro σ H1 ⟨v0,rfl,s1,m1⟩
  rw[Int.toNat_natCast,hll] at m1
  have h01:=s1 _ _ h0
  have htv1:=s1 _ _ htv
  walk_at "rd"
  intro D2 hD2
  refine q0K (fun i σ H'=>∃v0,σ=[v0]/\Same H1 H'/\qJ (DAt cs) H' D2 (rowD .take i)) ⟨none,rfl,Same.upd hD2,⟨[],qb,Rows.nil⟩⟩ ?_ ?_
  ·rintro i σ H' hi ⟨v0,rfl,s2,ps,hps,hrw⟩
   walk_at "rd"
   exact fun x dx hx hdx ne => q2B hD2 s2 (by have:i<tv.length:=by simpa using hi
                                              omega) hps hrw hx hdx ne
  rintro σ H2 ⟨v0,rfl,s2,m2⟩
  rw[Int.toNat_natCast,htl] at m2
  have s02:=s1.trans s2
  have h02:=s02 _ _ h0
  have hvv2:=s02 _ _ hvv
  walk_at "rd"
  intro D3 hD3
  refine q0K (fun i σ H'=>∃v0,σ=[v0]/\Same H2 H'/\qJ (DAt cs) H' D3 (rowD .turn i)) ⟨none,rfl,Same.upd hD3,⟨[],qb,Rows.nil⟩⟩ ?_ ?_
  ·rintro i σ H' hi ⟨v0,rfl,s2,ps,hps,hrw⟩
   walk_at "rd"
   exact fun x dx hx hdx ne => q2B hD3 s2 (by have:i<vv.length:=by simpa using hi
                                              omega) hps hrw hx hdx ne
  rintro σ H3 ⟨v0,rfl,s3,m3⟩
  rw[Int.toNat_natCast,hvl] at m3
  have s03:=s02.trans s3
  have h03:=s03 _ _ h0
  have hwv3:=s03 _ _ hwv
  walk_at "rd"
  intro D4 hD4
  refine q0K (fun i σ H'=>∃v0,σ=[v0]/\Same H3 H'/\qJ (DAt cs) H' D4 (rowD .unlock i)) ⟨none,rfl,Same.upd hD4,⟨[],qb,Rows.nil⟩⟩ ?_ ?_
  ·rintro i σ H' hi ⟨v0,rfl,s2,ps,hps,hrw⟩
   walk_at "rd"
   exact fun x dx hx hdx ne => q2B hD4 s2 (by have:i<wv.length:=by simpa using hi
                                              omega) hps hrw hx hdx ne
  rintro σ H4 ⟨v0,rfl,s4,m4⟩
  rw[Int.toNat_natCast,hwl] at m4
  have s04:=s03.trans s4
  walk_at "rd"
  refine⟨c,C,rfl,hC.mono s04.ts,ok,fun l5 H5 s5 hl5 m5=>?_⟩
  obtain⟨p1,e1,r1⟩:=m1
  obtain⟨p2,e2,r2⟩:=m2
  obtain⟨p3,e3,r3⟩:=m3
  obtain⟨p4,e4,r4⟩:=m4
  obtain⟨p5,e5,r5⟩:=m5
  have n1:=r1.1
  have n2:=r2.1
  have n3:=r3.1
  have n4:=r4.1
  have n5:=r5.1
  rw[q2C] at n1 n2 n3 n4 n5
  have s45:=s4.trans s5
  have s35:=s3.trans s45
  have s25:=s2.trans s35
  walk_at "rd"
  refine⟨l5,D1,_,_,rfl,rfl,e5,s25 _ _ e1,by simp;omega,fun l6 hl6=>?_⟩
  rw[<-List.map_append]
  have s6:=Same.upd (o:= .lst ((p5++p1).map V.ref)) hl6
  have e6:=qb (H:=H5) (a:=l6) (o:= .lst ((p5++p1).map V.ref))
  generalize upd H5 l6 (.lst ((p5++p1).map V.ref))=H6 at s6 e6 ⊢
  walk_at "rd"
  refine⟨l6,D2,_,_,rfl,rfl,e6,s6 _ _ (s35 _ _ e2),by simp;omega,fun l7 hl7=>?_⟩
  rw[<-List.map_append]
  have s7:=Same.upd (o:= .lst ((p5++p1++p2).map V.ref)) hl7
  have e7:=qb (H:=H6) (a:=l7) (o:= .lst ((p5++p1++p2).map V.ref))
  generalize upd H6 l7 (.lst ((p5++p1++p2).map V.ref))=H7 at s7 e7 ⊢
  have s67:=s6.trans s7
  walk_at "rd"
  refine⟨l7,D3,_,_,rfl,rfl,e7,s67 _ _ (s45 _ _ e3),by simp;omega,fun l8 hl8=>?_⟩
  rw[<-List.map_append]
  have s8:=Same.upd (o:= .lst ((p5++p1++p2++p3).map V.ref)) hl8
  have e8:=qb (H:=H7) (a:=l8) (o:= .lst ((p5++p1++p2++p3).map V.ref))
  generalize upd H7 l8 (.lst ((p5++p1++p2++p3).map V.ref))=H8 at s8 e8 ⊢
  have s68:=s67.trans s8
  walk_at "rd"
  refine⟨l8,D4,_,_,rfl,rfl,e8,s68 _ _ (s5 _ _ e4),by simp;omega,fun l9 hl9=>?_⟩
  rw[<-List.map_append]
  have s9:=Same.upd (o:= .lst ((p5++p1++p2++p3++p4).map V.ref)) hl9
  have e9:=qb (H:=H8) (a:=l9) (o:= .lst ((p5++p1++p2++p3++p4).map V.ref))
  generalize upd H8 l9 (.lst ((p5++p1++p2++p3++p4).map V.ref))=H9 at s9 e9 ⊢
  have s69:=s68.trans s9
  have s09:=(s04.trans s5).trans s69
  refine k l9 H9 s09 ?_ ⟨_,e9,?_⟩
  ·exact (((s04.trans s5).trans s68).free hl9)
  ·exact q3j (q3j (q3j (q3j (r5.mono fun _ _=>DAt.mono s69) (r1.mono fun _ _=>DAt.mono (s25.trans s69))) (r2.mono fun _ _=>DAt.mono (s35.trans s69))) (r3.mono fun _ _=>DAt.mono (s45.trans s69))) (r4.mono fun _ _=>DAt.mono (s5.trans s69))
theorem qcz (T:Txt mg cs)(L:Laid K mg "fit_deeds" q0N ["cellar","stand"])(C_all_deeds:Cal P w K mg base 5 "all_deeds" ["cellar"] (q89 cs))(vc:∀d,VMeth P w K mg base 6 (dcls cs d) "can" ["self","cellar","stand"] (qa2 cs d)):Cal P w K mg base 7 "fit_deeds" ["cellar","stand"] (q86 cs):=by
 refine L.cal (k:=6) q5h (fun vs H Q E h=>?_) (fun f cdv A outer s H vs Q E hr h=>?_)
 ·obtain ⟨c,q,C,st,rfl,_⟩:=h
  rfl
 ·obtain ⟨c,q,C,st,rfl,hC,ok,hq,sok,k⟩:=h
  have big:=qM
  have hal:=q7f ok
  refine⟨_,(qf (ql (q0P (q0q (N:=["deed","cellar","stand"]) (own:=1) (caps:=[0,1]) ["cellar","stand"] (qd q0N) (by decide +kernel)) rfl (q09 K (qp C_all_deeds hr (by decide) rfl (qa (pv 0) qe))) (fun _ _ _ _=>(qq (i:=0) (show List.Nodup (["deed","cellar","stand"]:List Str) by decide +kernel) rfl (Or.inl rfl))) (fun _ _ _ _=>(q8y (q0A (q6O (k:=6) P w K mg base hr (by decide) (pv 0) (qa (pv 1) (qa (pv 2) qe)))))) (fun _ _ _ _=>(pv 0))))),?_⟩
  walk_at "rd"
  refine⟨c,C,rfl,hC,ok,fun l H1 s1 hl0 m1=>?_⟩
  obtain⟨ps,e1,r1⟩:=m1
  walk_at "rd"
  intro D hD
  refine q3r (ps.map V.ref) (fun i σ H'=>∃v0,σ=[v0,some (.ref c),some (.ref q)]/\Same H1 H'/\qJ (DAt cs) H' D (((allD C).take i).filter fun x=>canD C st x.1 (x.2:Int))) ⟨none,rfl,Same.upd hD,⟨[],qb,Rows.nil⟩⟩ ?_ ?_ ?_
  ·rintro i σ H' ⟨_,rfl,s2,_⟩
   exact SqL.of (s2 _ _ e1)
  ·rintro i x σ H' hx ⟨v0,rfl,s2,qs,hqs,hrw⟩
   have hi:i<(allD C).length:=by have:=(List.getElem?_eq_some_iff.mp hx).1;rw[List.length_map,r1.1] at this;exact this
   obtain⟨p,ep,hob⟩:=r1.get hi
   rw[hx] at ep
   cases ep
   have hob2:=DAt.mono s2 hob
   obtain⟨dx,hp⟩:=hob2.ex
   have s12:=s1.trans s2
   have hqlen:qs.length<=100:=by
    rw[hrw.1]
    refine Nat.le_trans (List.length_filter_le _ _) ?_
    rw[List.length_take];omega
   walk_at "rd"
   refine r_vm hp (vc _) (qby _ _) ?_
   walk_at "rd"
   refine⟨p,c,q,C,st,_,rfl,hob2,hC.mono s12.ts,ok,s12 _ _ hq,sok,fun H3 s3=>?_⟩
   have hq3:=s3 _ _ hqs
   walk_at "rd"
   rw[List.take_succ_eq_append_getElem hi,List.filter_append]
   refine ite2 (fun hc=>?_) (fun hc=>?_)
   ·walk_at "rd"
    refine⟨_,hq3,by rw[List.length_map];omega,_,rfl,(s2.trans s3).put hD,?_⟩
    rw[show([(allD C)[i]].filter fun x=>canD C st x.1 (x.2:Int))=[(allD C)[i]] by simp[hc]]
    exact q0J (fun _ _=>DAt.put hq3) (hrw.mono fun _ _=>DAt.mono s3) (DAt.mono s3 hob2)
   ·refine ⟨_,rfl,s2.trans s3,qs,hq3,?_⟩
    rw[show([(allD C)[i]].filter fun x=>canD C st x.1 (x.2:Int))=[] by simp[hc],List.append_nil]
    exact hrw.mono fun _ _=>DAt.mono s3
  ·rintro σ H' ⟨v0,rfl,s2,m2⟩
   rw[List.length_map,r1.1,List.take_length] at m2
   exact k D H' (s1.trans s2) (s1.free hD) m2
end
seal L2.PA L2.PE L2.PI L2.PS L2.PSs L2.PG L2.PT
def q0L (z:Str):Option (List Int):=
 if z="plain" then some [] else if z="door" then some [11] else if z="need" then some [11] else if z="bar" then some [7] else if z="wade" then some [9,11] else if z="float" then some [9] else none
theorem q32:q0L "plain"=some []:=by decide +kernel
theorem q3u:q0L "door"=some [11]:=by decide +kernel
theorem q3t:q0L "need"=some [11]:=by decide +kernel
theorem q49:q0L "bar"=some [7]:=by decide +kernel
theorem q3s:q0L "wade"=some [9,11]:=by decide +kernel
theorem q33:q0L "float"=some [9]:=by decide +kernel
theorem q61 {z:Str}(h1:¬z="plain")(h2:¬z="door")(h3:¬z="need")(h4:¬z="bar")(h5:¬z="wade")(h6:¬z="float"):q0L z=none:=by
 unfold q0L
 rw[if_neg h1,if_neg h2,if_neg h3,if_neg h4,if_neg h5,if_neg h6]
def chk (n t:Int):Bool:=decide (0<=n)&&decide (n<=t)
def q37 (z:Str)(ns:List Int):Bool:=match q0L z with
 |none=>false
 |some ts=>decide (ns.length=ts.length)&&(List.zipWith chk ns ts).all id
theorem q6l {z:Str}{ns:List Int}(h:q0L z=none):q37 z ns=false:=by unfold q37;rw[h]
theorem q7I {z:Str}{ns ts:List Int}(h:q0L z=some ts)(hl:¬ns.length=ts.length):q37 z ns=false:=by unfold q37;rw[h];simp[hl]
theorem q0s {z:Str}{ns ts:List Int}(h:q0L z=some ts)(hl:ns.length=ts.length):q37 z ns=(List.zipWith chk ns ts).all id:=by unfold q37;rw[h];simp[hl]
theorem qbR:subS "tuple" "tuple"=true:=by decide +kernel
theorem q5Q (x:V)(l:List V):cutV (x::l) (some 1) none=l:=by
 unfold cutV
 have e1:HT.sIx (x::l).length 0 (some 1)=1:=by rw[show(1:Int)=((1:Nat):Int) from rfl,HT.qc4];simp
 have e2:HT.sIx (x::l).length (x::l).length none=l.length+1:=by rw[HT.qa5];rfl
 rw[e1,e2]
 simp
theorem q96 {g:Gt}(h:g.ok):q37 g.word g.ns=true:=by
 cases g with
 |plain=>rw[q0s (z:=Gt.plain.word) (ns:=Gt.plain.ns) q32 rfl];rfl
 |door k=>have h':0<=k/\k<12:=h;rw[q0s (z:=(Gt.door k).word) (ns:=(Gt.door k).ns) q3u rfl];simp[Gt.ns,chk];omega
 |need k=>have h':0<=k/\k<12:=h;rw[q0s (z:=(Gt.need k).word) (ns:=(Gt.need k).ns) q3t rfl];simp[Gt.ns,chk];omega
 |bar k=>have h':0<=k/\k<8:=h;rw[q0s (z:=(Gt.bar k).word) (ns:=(Gt.bar k).ns) q49 rfl];simp[Gt.ns,chk];omega
 |wade a k=>have h':(0<=a/\a<10)/\0<=k/\k<12:=h;rw[q0s (z:=(Gt.wade a k).word) (ns:=(Gt.wade a k).ns) q3s rfl];simp[Gt.ns,chk];omega
 |float k=>have h':0<=k/\k<10:=h;rw[q0s (z:=(Gt.float k).word) (ns:=(Gt.float k).ns) q33 rfl];simp[Gt.ns,chk];omega
def q47 (H:Hp)(v:V)(xs:List V):Prop:=(v= .non/\xs=[])\/(∃p,v= .ref p/\H p=some (.lst xs))\/∃p,v= .ref p/\H p=some (.tup xs)
theorem q47.mono {H H':Hp}{v:V}{xs:List V}(s:Same H H')(h:q47 H v xs):q47 H' v xs:=by
 rcases h with h|⟨p,e,h⟩|⟨p,e,h⟩
 ·exact .inl h
 ·exact .inr (.inl ⟨p,e,s _ _ h⟩)
 ·exact .inr (.inr ⟨p,e,s _ _ h⟩)
def qdn (H:Hp)(x:V):Prop:=∃p ys,x= .ref p/\H p=some (.tup ys)
def q2N (r:Int)(H:Hp)(x:V):Prop:=∃(p g:Addr) (a b:Int) (bk:Bool) (gt:Gt),x= .ref p/\H p=some (.tup [.int a,.int b,.ref g,.bl bk])/\H g=some (.tup gt.vs)/\gt.ok/\(0<=a/\a<r)/\(0<=b/\b<r)/\a≠b
def qW (r lo hi:Int)(H:Hp)(x:V):Prop:=∃(p:Addr) (a n:Int),x= .ref p/\H p=some (.tup [.int a,.int n])/\(0<=a/\a<r)/\lo<=n/\n<=hi
theorem q2N.mono {r:Int}{H H':Hp}{x:V}(s:q00 H H')(h:q2N r H x):q2N r H' x:=by
 obtain⟨p,g,a,b,bk,gt,e,h1,h2,h3⟩:=h
 exact⟨p,g,a,b,bk,gt,e,s _ _ h1,s _ _ h2,h3⟩
theorem qW.mono {r lo hi:Int}{H H':Hp}{x:V}(s:q00 H H')(h:qW r lo hi H x):qW r lo hi H' x:=by
 obtain⟨p,a,n,e,h1,h3⟩:=h
 exact⟨p,a,n,e,s _ _ h1,h3⟩
theorem q2N.row {r:Int}{H:Hp}{x:V}(h:q2N r H x):qdn H x:=by
 obtain⟨p,g,a,b,bk,gt,e,h1,h2,h3⟩:=h
 exact⟨p,_,e,h1⟩
theorem qW.row {r lo hi:Int}{H:Hp}{x:V}(h:qW r lo hi H x):qdn H x:=by
 obtain⟨p,a,n,e,h1,h3⟩:=h
 exact⟨p,_,e,h1⟩
def TupO (H:Hp)(v:V):Option (List Int)->Prop
 |none=>v= .non
 |some l=>∃p,v= .ref p/\H p=some (.tup (l.map V.int))
def qbh:Sp:=fun vs H Q _=>∃z,vs=[.str z]/\∀v H',Same H H'->TupO H' v (q0L z)->Q v H'
def q6A:Sp:=fun vs H Q _=>∃(p:Addr) (z:Str) (ns:List Int),vs=[.ref p]/\H p=some (.tup (.str z::ns.map V.int))/\ns.length<=10/\∀H',Same H H'->Q (.bl (q37 z ns)) H'
def q4m:Sp:=fun vs H Q _=>∃(z:Str) (n a b:Int),vs=[.str z,.int n,.int a,.int b]/\a<=n/\n<=b/\Q .non H
def q84:Sp:=fun vs H Q _=>∃(z:Str) (v:V) (m:Int) (xs:List V),vs=[.str z,v,.int m]/\q47 H v xs/\(∀x∈xs,qdn H x)/\xs.length<=m/\m<=20/\∀(p:Addr) (H':Hp),Same H H'->H' p=some (.tup xs)->Q (.ref p) H'
def spMW:Sp:=fun vs H Q _=>∃(r:Int) (v:V) (xs:List V),vs=[.int r,v]/\q47 H v xs/\(∀x∈xs,q2N r H x)/\xs.length<=20/\∀(p:Addr) (H':Hp),Same H H'->H' p=some (.tup xs)->Q (.ref p) H'
def spMP:Sp:=fun vs H Q _=>∃(z:Str) (r:Int) (v:V) (m lo hi:Int) (xs:List V),vs=[.str z,.int r,v,.int m,.int lo,.int hi]/\z.length<=100/\q47 H v xs/\(∀x∈xs,qW r lo hi H x)/\xs.length<=m/\m<=20/\∀(p:Addr) (H':Hp),Same H H'->H' p=some (.tup xs)->Q (.ref p) H'
def qbW:Sp:=fun vs H Q _=>∃(r f l b wt:Int) (v1 v2 v3 v4:V) (x1 x2 x3 x4:List V),vs=[.int r,.int f,.int l,v1,v2,v3,v4,.int b,.int wt]/\(1<=r/\r<=14)/\(0<=f/\f<r)/\(0<=l/\l<r)/\(0<=b/\b<256)/\(0<=wt/\wt<10)/\
 q47 H v1 x1/\q47 H v2 x2/\q47 H v3 x3/\q47 H v4 x4/\(∀x∈x1,q2N r H x)/\(∀x∈x2,qW r 0 11 H x)/\(∀x∈x3,qW r 1 255 H x)/\(∀x∈x4,qW r 0 9 H x)/\x1.length<=20/\x2.length<=8/\x3.length<=4/\x4.length<=4/\
 ∀(p p1 p2 p3 p4:Addr) (H':Hp),Same H H'->H' p=some (.tup [.int r,.int f,.int l,.ref p1,.ref p2,.ref p3,.ref p4,.int b,.int wt])->H' p1=some (.tup x1)->H' p2=some (.tup x2)->H' p3=some (.tup x3)->H' p4=some (.tup x4)->Q (.ref p) H'
def q87 (K:W.Frag):Sp:=fun vs H Q _=>∃(a:Addr) (ns:List Int) (i:Int),vs=[.ref a,.int i]/\SqL K H a (ns.map V.int)/\ns.length<=63/\0<=i/\Q (.int (ns.getD i.toNat 0)) H
section
variable {P:Program}{w:World}{K:W.Frag}{mg:Str->Option Value}{base:Heap}{cs:Cs}
theorem q7x (T:Txt mg cs)(L:Laid K mg "tops_of" q2u ["word"]):Cal P w K mg base 1 "tops_of" ["word"] qbh:=by
 obtain⟨t1,e_LAST_KIND⟩:=T.e_LAST_KIND
 obtain⟨t2,e_LAST_BAR⟩:=T.e_LAST_BAR
 obtain⟨t3,e_TOP_HEIGHT⟩:=T.e_TOP_HEIGHT
 refine L.cal (k:=0) q7p (fun vs H Q E h=>?_) (fun f cdv A outer s H vs Q E hr h=>?_)
 ·obtain ⟨z,rfl,_⟩:=h
  rfl
 ·obtain ⟨z,rfl,k⟩:=h
  refine⟨_,(qc (qV (qv q0l (pv 0) qD (qt _)) (qf (ql (qR qe))) qu)
   (qc (qV (PW.pt (q2i (qv q0l (pv 0) qD (qt _)) (q1F (qv q0l (pv 0) qD (qt _))))) (qf (ql (qR (qa (qh (v:= .int 11) rfl e_LAST_KIND ⟨_,rfl⟩) qe)))) qu)
   (qc (qV (qv q0l (pv 0) qD (qt _)) (qf (ql (qR (qa (qh (v:= .int 7) rfl e_LAST_BAR ⟨_,rfl⟩) qe)))) qu)
   (qc (qV (qv q0l (pv 0) qD (qt _)) (qf (ql (qR (qa (qh (v:= .int 9) rfl e_TOP_HEIGHT ⟨_,rfl⟩) (qa (qh (v:= .int 11) rfl e_LAST_KIND ⟨_,rfl⟩) qe))))) qu)
   (qc (qV (qv q0l (pv 0) qD (qt _)) (qf (ql (qR (qa (qh (v:= .int 9) rfl e_TOP_HEIGHT ⟨_,rfl⟩) qe)))) qu)
   (qf (ql q6P))))))),?_⟩
  have fin:∀l:List Int,q0L z=some l->∀p,H p=none->Q (.ref p) (upd H p (.tup (l.map V.int))):=fun l e p hp=>k _ _ (Same.upd hp) (by rw[e];exact⟨p,rfl,qb⟩)
  have S:∀{y:Str},decide (V.str z=V.str y)=true->z=y:=fun h=>by have:=of_decide_eq_true h;cases this;rfl
  have N:∀{y:Str},¬decide (V.str z=V.str y)=true->¬z=y:=fun h e=>h (by rw[e];exact decide_eq_true rfl)
  refine⟨_,rfl,rfl,_,rfl,ite2 (fun h1=>?_) (fun h1=>?_)⟩
  ·exact ⟨by decide,fun p hp=>fin [] (by rw[S h1];exact q32) p hp⟩
  refine⟨_,rfl,rfl,_,rfl,?_⟩
  refine ite2 (fun h2=>?_) (fun h2=>?_)
  ·refine iteT ?_
   exact⟨by decide,fun p hp=>fin [11] (by rw[S h2];exact q3u) p hp⟩
  refine⟨_,rfl,rfl,_,rfl,ite2 (fun h3=>?_) (fun h3=>?_)⟩
  ·exact ⟨by decide,fun p hp=>fin [11] (by rw[S h3];exact q3t) p hp⟩
  refine⟨_,rfl,rfl,_,rfl,ite2 (fun h4=>?_) (fun h4=>?_)⟩
  ·exact ⟨by decide,fun p hp=>fin [7] (by rw[S h4];exact q49) p hp⟩
  refine⟨_,rfl,rfl,_,rfl,ite2 (fun h5=>?_) (fun h5=>?_)⟩
  ·exact ⟨by decide,fun p hp=>fin [9,11] (by rw[S h5];exact q3s) p hp⟩
  refine⟨_,rfl,rfl,_,rfl,ite2 (fun h6=>?_) (fun h6=>?_)⟩
  ·exact ⟨by decide,fun p hp=>fin [9] (by rw[S h6];exact q33) p hp⟩
  exact k _ _ (Same.refl _) (by rw[q61 (N h1) (N h2) (N h3) (N h4) (N h5) (N h6)];rfl)
theorem q7y (T:Txt mg cs)(L:Laid K mg "is_gate" q1K ["thing"])(C_tops_of:Cal P w K mg base 1 "tops_of" ["word"] qbh)(C_within:Cal P w K mg base 1 "within" ["number","least","most"] q2q):Cal P w K mg base 2 "is_gate" ["thing"] q6A:=by
 refine L.cal (k:=1) q2Q (fun vs H Q E h=>?_) (fun f cdv A outer s H vs Q E hr h=>?_)
 ·obtain ⟨p,z,ns,rfl,_⟩:=h
  rfl
 ·obtain ⟨p,z,ns,rfl,hp,hl,k⟩:=h
  refine⟨_,(qc (qV (PW.pt (q2i (q2b (q0A (qB q1R rfl T.n_isinstance q0p (qa (pv 0) (qa (q3F (v:= .ty "tuple") rfl T.n_tuple q13 rfl) qe))))) (q1F (qv q0l (qB (lenK K) rfl T.n_len q0o (qa (pv 0) qe)) qg (qt _))))) (qf (ql q3c)) qu)
   (qc (qw (i:=1) q2Q.nd rfl (Or.inl rfl) (qp C_tops_of hr (by decide) rfl (qa (qA (qk K) (pv 0) qg (fun _ _=>rfl)) qe)))
   (qc (qw (i:=2) q2Q.nd rfl (Or.inl rfl) (q0I (q2s K) (pv 0) (q1z qg) q1A))
   (qc (qV (PW.pt (q2i (q1M (q2E (pv 1))) (q1F (qv qcq (qB (lenK K) rfl T.n_len q0o (qa (pv 2) qe)) (qB (lenK K) rfl T.n_len q0o (qa (pv 1) qe)) (qt _))))) (qf (ql q3c)) qu)
   (qf (ql (qB (q9J K rfl) rfl T.n_all bt_all (qa (q0P (q0q (N:=["number","top"]) (own:=2) (caps:=[]) ["thing","tops","numbers"] (qd q1K) (by decide +kernel)) rfl (qah K rfl T.n_zip (qa (pv 2) (qa (pv 1) qe))) (fun _ _ _ _=>(q1O (n:=2) K rfl (qG (qq (i:=0) (show List.Nodup (["number","top"]:List Str) by decide +kernel) rfl (Or.inl rfl)) (qG (qq (i:=1) (show List.Nodup (["number","top"]:List Str) by decide +kernel) rfl (Or.inl rfl)) q1N)))) (fun _ _ _ _=>q0O) (fun _ _ _ _=>(qp C_within hr (by decide) rfl (qa (pv 0) (qa qg (qa (pv 1) qe)))))) qe)))))))),?_⟩
  refine⟨_,rfl,_,"tuple","tuple",rfl,q7U hp,by decide,_,rfl,?_⟩
  rw[qbR]
  refine iteF ?_
  refine⟨_,rfl,p,_,rfl,.inr (SqT.of hp),rfl,_,rfl,ite2 (fun h1=>?_) (fun _=>?_)⟩
  ·have:=of_decide_eq_true h1
   simp at this
   omega
  refine⟨_,rfl,p,_,_,_,rfl,rfl,SqT.of hp,q0R (j:=0) rfl,z,rfl,fun v H1 s1 tv=>?_⟩
  have hp1:=s1 _ _ hp
  refine⟨_,rfl,_,rfl,p,_,rfl,SqT.of hp1,fun e=>?_,fun q hq=>?_⟩
  ·rw [q5Q] at e
   have:=congrArg List.length e
   simp at this
  rw[q5Q]
  have s2:Same H (upd H1 q (.tup (ns.map V.int))):=s1.trans (Same.upd hq)
  cases ht:q0L z with
  |none=>
   rw[ht] at tv
   obtain rfl:v= .non:=tv
   refine⟨_,rfl,_,rfl,iteT (iteT ?_)⟩
   have:=k _ s2
   rw[q6l ht] at this
   exact this
  |some ts=>
   rw[ht] at tv
   obtain⟨r,rfl,hr0⟩:=tv
   have hr1:(upd H1 q (.tup (ns.map V.int))) r=some (.tup (ts.map V.int)):=by rw[qi (qj hr0 hq)];exact hr0
   refine⟨_,rfl,_,rfl,iteF ?_⟩
   refine⟨_,rfl,q,_,rfl,.inr (SqT.of qb),_,rfl,r,_,rfl,.inr (SqT.of hr1),rfl,_,rfl,ite2 (fun h1=>?_) (fun h1=>?_)⟩
   ·have hne:¬ns.length=ts.length:=fun e=>by simp[e] at h1
    have:=k _ s2
    rw[q7I ht hne] at this
    exact this
   ·have hlen:ns.length=ts.length:=by
     simp at h1
     omega
    refine⟨_,rfl,_,rfl,q,r,rfl,⟨_,SqT.of qb⟩,⟨_,SqT.of hr1⟩,fun D hD=>?_⟩
    refine q3S ns.length (fun i σ H'=>∃v0 v1,σ=[v0,v1]/\Same (upd H1 q (.tup (ns.map V.int))) H'/\H' D=some (.lst (((List.zipWith chk ns ts).take i).map V.bl))) ⟨none,none,rfl,Same.upd hD,qb⟩ ?_ ?_
    ·rintro i σ H' hi ⟨v0,v1,rfl,s3,hD3⟩
     have hq3:=s3 _ _ (qb (H:=H1) (a:=q) (o:= .tup (ns.map V.int)))
     have hr3:=s3 _ _ hr1
     refine⟨⟨_,_,V.int (ns.getD i 0),V.int (ts.getD i 0),SqT.of hq3,SqT.of hr3,by simp[List.getD,hi],by simp[List.getD,show i<ts.length by omega]⟩,?_⟩
     rintro x H4 ⟨t,ht0,rfl,hy⟩
     have e4:=hy _ _ (V.int (ns.getD i 0)) (V.int (ts.getD i 0)) (SqT.of hq3) (SqT.of hr3) (by simp[List.getD,hi]) (by simp[List.getD,show i<ts.length by omega])
     subst e4
     refine⟨t,_,rfl,SqT.of qb,rfl,_,_,rfl,_,_,rfl,rfl,?_⟩
     have nD:D≠t:=qj hD3 ht0
     refine⟨_,rfl,_,rfl,_,_,_,rfl,_,(by rw[qi nD];exact hD3),?_,_,_,rfl,?_,?_⟩
     ·rw [List.length_map,List.length_take]
      exact Nat.lt_of_le_of_lt (Nat.min_le_left _ _) (Nat.lt_trans hi (Nat.lt_of_le_of_lt hl (by decide)))
     ·intro b o e
      have nb:b≠D:=qj e hD
      rw[qi nb,qi (qj (s3 b o e) ht0)]
      exact s3 b o e
     ·rw [qb,List.take_add_one]
      have e5:(List.zipWith chk ns ts)[i]? =some (chk (ns.getD i 0) (ts.getD i 0)):=by
       rw[List.getElem?_zipWith]
       simp[List.getD,hi,show i<ts.length by omega]
      rw[e5]
      simp[chk]
    ·rintro σ H' ⟨v0,v1,rfl,s3,hD3⟩
     have hq3:=s3 _ _ (qb (H:=H1) (a:=q) (o:= .tup (ns.map V.int)))
     have hr3:=s3 _ _ hr1
     refine⟨⟨_,_,SqT.of hq3,SqT.of hr3,.inl (by simp)⟩,D,List.zipWith chk ns ts,rfl,SqL.of ?_,?_⟩
     ·rw [hD3,List.take_of_length_le (by rw[List.length_zipWith];omega)]
     ·have:=k _ (s2.trans s3)
      rw[q0s ht hlen] at this
      exact this
theorem qaA (T:Txt mg cs)(L:Laid K mg "_law_cell_at" q0v ["_law_script","_law_k"]):Cal P w K mg base 1 "_law_cell_at" ["_law_script","_law_k"] (q87 K):=by
 refine L.cal (k:=0) q3z (fun vs H Q E h=>?_) (fun f cdv A outer s H vs Q E hr h=>?_)
 ·obtain ⟨a,ns,i,rfl,_⟩:=h
  rfl
 ·obtain ⟨a,ns,i,rfl,hS,hl,h0,k⟩:=h
  refine⟨_,(qc (qV (qv qcr (pv 1) (qB (lenK K) rfl T.n_len q0o (qa (pv 0) qe)) (qt _)) (qf (ql (qA (q01 K) (pv 0) (pv 1) (fun _ _=>rfl)))) qu)
   (qf (ql qg))),?_⟩
  walk_at "rd"
  refine ifd (fun h=>?_) (fun h=>?_)
  ·rw [List.length_map] at h
   obtain⟨j,rfl⟩:∃j:Nat,i=(j:Int):=⟨i.toNat,by omega⟩
   walk_at "rd"
   refine q6b hS (qb7 (by omega)) ?_
   rw[Int.toNat_natCast] at k
   exact k
  ·rw [List.length_map] at h
   walk_at "rd"
   rw[show ns.getD i.toNat 0=0 by simp[List.getD,show ns.length<=i.toNat by omega]] at k
   exact k
theorem qay (T:Txt mg cs)(L:Laid K mg "check_number" q0u ["name","number","least","most"])(C_within:Cal P w K mg base 1 "within" ["number","least","most"] q2q):Cal P w K mg base 2 "check_number" ["name","number","least","most"] q4m:=by
 refine L.cal (k:=1) q3y (fun vs H Q E h=>?_) (fun f cdv A outer s H vs Q E hr h=>?_)
 ·obtain ⟨z,n,a,b,rfl,_⟩:=h
  rfl
 ·obtain ⟨z,n,a,b,rfl,h1,h2,k⟩:=h
  refine⟨_,(qf (qV (q2b (q0A (qp C_within hr (by decide) rfl (qa (pv 1) (qa (pv 2) (qa (pv 3) qe)))))) (qf q0Z) qu)),?_⟩
  walk_at "rd"
  refine⟨n,a,b,rfl,?_⟩
  rw[show(decide (a<=n)&&decide (n<=b))=true by simp[h1,h2]]
  walk_at "rd"
  exact k
theorem qcv (T:Txt mg cs)(L:Laid K mg "made_rows" q0f ["name","rows","most"]):Cal P w K mg base 1 "made_rows" ["name","rows","most"] q84:=by
 refine L.cal (k:=0) q0S (fun vs H Q E h=>?_) (fun f cdv A outer s H vs Q E hr h=>?_)
 ·obtain ⟨z,v,m,xs,rfl,_⟩:=h
  rfl
 ·obtain ⟨z,v,m,xs,rfl,hv,ok,h1,h2,k⟩:=h
  have big:=qM
  have step:∀(D:Addr) (H':Hp) (i:Nat) (x:V),H D=none->xs[i]? =some x->Same H H'->H' D=some (.lst (xs.take i))->∃ys,H' D=some (.lst ys)/\ys.length<sizeLine/\∃v0,([some x]:St)=[v0]/\Same H (upd H' D (.lst (ys++[x])))/\(upd H' D (.lst (ys++[x]))) D=some (.lst (xs.take (i+1))):=by
   intro D H' i x hD hx s1 hd
   refine⟨_,hd,by rw[List.length_take];omega,_,rfl,s1.put hD,?_⟩
   rw[qb,List.take_add_one,hx]
   rfl
  have gt:∀n:Nat,n=xs.length->((n:Int)>m)->False:=fun n e h=>by omega
  rcases hv with⟨rfl,rfl⟩|⟨p,rfl,hp⟩|⟨p,rfl,hp⟩
  ·refine ⟨_,(qc (qw (i:=3) q0S.nd rfl (Or.inl rfl) (q1X (q1M (q2E (pv 1))) (qR qe) (q0k (q48 K) rfl T.n_tuple q13 (qa (q0P (q0q (N:=["row"]) (own:=1) (caps:=[]) ["name","rows","most","made"] (qd q0f) (by decide +kernel)) rfl (q09 K (pv 1)) (fun _ _ _ _=>(qq (i:=0) (show List.Nodup (["row"]:List Str) by decide +kernel) rfl (Or.inl rfl))) (fun _ _ _ _=>q0O) (fun _ _ _ _=>(q0k (q48 K) rfl T.n_tuple q13 (qa (pv 0) qe)))) qe))))
   (qc (qV (qv q45 (qB (lenK K) rfl T.n_len q0o (qa (pv 3) qe)) (pv 2) (qt _)) (qf q0Z) qu)
   (qf (ql (pv 3))))),?_⟩
   walk_at "rd"
   walk_at "eq"
   walk_at "rd"
   intro q hq
   walk_at "rd"
   refine ifd (fun h=>(gt 0 rfl h).elim) (fun _=>?_)
   walk_at "rd"
   exact k q _ (Same.upd hq) qb
  ·refine ⟨_,(qc (qw (i:=3) q0S.nd rfl (Or.inl rfl) (q1X (q1M (q2E (pv 1))) (qR qe) (q0k (q48 K) rfl T.n_tuple q13 (qa (q0P (q0q (N:=["row"]) (own:=1) (caps:=[]) ["name","rows","most","made"] (qd q0f) (by decide +kernel)) rfl (q09 K (pv 1)) (fun _ _ _ _=>(qq (i:=0) (show List.Nodup (["row"]:List Str) by decide +kernel) rfl (Or.inl rfl))) (fun _ _ _ _=>q0O) (fun _ _ _ _=>(q0k (q48 K) rfl T.n_tuple q13 (qa (pv 0) qe)))) qe))))
   (qc (qV (qv q45 (qB (lenK K) rfl T.n_len q0o (qa (pv 3) qe)) (pv 2) (qt _)) (qf q0Z) qu)
   (qf (ql (pv 3))))),?_⟩
   walk_at "rd"
   refine ifd (fun h=>nomatch h) (fun _=>?_)
   walk_at "rd"
   intro D hD
   refine q3r xs (fun i σ H'=>∃v0,σ=[v0]/\Same H H'/\H' D=some (.lst (xs.take i))) ⟨none,rfl,Same.upd hD,by rw[qb];rfl⟩ ?_ ?_ ?_
   ·rintro i σ H' ⟨_,rfl,s1,_⟩
    exact SqL.of (s1 _ _ hp)
   ·rintro i x σ H' hx ⟨v0,rfl,s1,hd⟩
    obtain⟨a,ys,rfl,ha⟩:=ok x (List.mem_of_getElem? hx)
    have ha1:=s1 _ _ ha
    walk_at "rd"
    exact r_tot (SqT.of ha1) (step D H' i _ hD hx s1 hd)
   ·rintro σ H' ⟨v0,rfl,s1,hd⟩
    rw[List.take_length] at hd
    walk_at "rd"
    refine r_tol (SqL.of hd) fun q hq=>?_
    walk_at "rd"
    refine ifd (fun h=>(gt _ rfl h).elim) (fun _=>?_)
    walk_at "rd"
    exact k q _ (s1.trans (Same.upd hq)) qb
  ·refine ⟨_,(qc (qw (i:=3) q0S.nd rfl (Or.inl rfl) (q1X (q1M (q2E (pv 1))) (qR qe) (q0k (q48 K) rfl T.n_tuple q13 (qa (q0P (q0q (N:=["row"]) (own:=1) (caps:=[]) ["name","rows","most","made"] (qd q0f) (by decide +kernel)) rfl (q4w K (pv 1)) (fun _ _ _ _=>(qq (i:=0) (show List.Nodup (["row"]:List Str) by decide +kernel) rfl (Or.inl rfl))) (fun _ _ _ _=>q0O) (fun _ _ _ _=>(q0k (q48 K) rfl T.n_tuple q13 (qa (pv 0) qe)))) qe))))
   (qc (qV (qv q45 (qB (lenK K) rfl T.n_len q0o (qa (pv 3) qe)) (pv 2) (qt _)) (qf q0Z) qu)
   (qf (ql (pv 3))))),?_⟩
   walk_at "rd"
   refine ifd (fun h=>nomatch h) (fun _=>?_)
   walk_at "rd"
   intro D hD
   refine q78 xs (fun i σ H'=>∃v0,σ=[v0]/\Same H H'/\H' D=some (.lst (xs.take i))) ⟨none,rfl,Same.upd hD,by rw[qb];rfl⟩ ?_ ?_ ?_
   ·rintro i σ H' ⟨_,rfl,s1,_⟩
    exact SqT.of (s1 _ _ hp)
   ·rintro i x σ H' hx ⟨v0,rfl,s1,hd⟩
    obtain⟨a,ys,rfl,ha⟩:=ok x (List.mem_of_getElem? hx)
    have ha1:=s1 _ _ ha
    walk_at "rd"
    exact r_tot (SqT.of ha1) (step D H' i _ hD hx s1 hd)
   ·rintro σ H' ⟨v0,rfl,s1,hd⟩
    rw[List.take_length] at hd
    walk_at "rd"
    refine r_tol (SqL.of hd) fun q hq=>?_
    walk_at "rd"
    refine ifd (fun h=>(gt _ rfl h).elim) (fun _=>?_)
    walk_at "rd"
    exact k q _ (s1.trans (Same.upd hq)) qb
theorem ok_mw (T:Txt mg cs)(L:Laid K mg "made_ways" q1f ["rooms","ways"])(C_check_number:Cal P w K mg base 2 "check_number" ["name","number","least","most"] q4m)(C_made_rows:Cal P w K mg base 1 "made_rows" ["name","rows","most"] q84)(C_is_gate:Cal P w K mg base 2 "is_gate" ["thing"] q6A):Cal P w K mg base 3 "made_ways" ["rooms","ways"] spMW:=by
 obtain⟨t1,e_MOST_WAYS⟩:=T.e_MOST_WAYS
 refine L.cal (k:=2) q0g (fun vs H Q E h=>?_) (fun f cdv A outer s H vs Q E hr h=>?_)
 ·obtain ⟨r,v,xs,rfl,_⟩:=h
  rfl
 ·obtain ⟨r,v,xs,rfl,hv,ok,h1,k⟩:=h
  refine⟨_,(qc (qw (i:=2) q0g.nd rfl (Or.inl rfl) (qp C_made_rows hr (by decide) rfl (qa qD (qa (pv 1) (qa (qh (v:= .int 20) rfl e_MOST_WAYS ⟨_,rfl⟩) qe)))))
   (qc (q0B PassesOwn.never rfl (q4w K (pv 2)) (q1O (n:=4) K rfl (qG (qq (i:=3) q0g.nd rfl (Or.inl rfl)) (qG (qq (i:=4) q0g.nd rfl (Or.inl rfl)) (qG (qq (i:=5) q0g.nd rfl (Or.inl rfl)) (qG (qq (i:=6) q0g.nd rfl (Or.inl rfl)) q1N))))) (qc (qF (qp C_check_number hr (by decide) rfl (qa qD (qa (pv 3) (qa qg (qa (qx q3H (pv 0) qg) qe))))))
   (qc (qF (qp C_check_number hr (by decide) rfl (qa qD (qa (pv 4) (qa qg (qa (qx q3H (pv 0) qg) qe))))))
   (qc (qV (qv q0l (pv 3) (pv 4) (qt _)) (qf q0Z) qu)
   (qf (qV (q2b (q0A (qp C_is_gate hr (by decide) rfl (qa (pv 5) qe)))) (qf q0Z) qu))))))
   (qf (ql (pv 2))))),?_⟩
  walk_at "rd"
  refine⟨_,v,20,xs,rfl,hv,fun x hx=>(ok x hx).row,by omega,by omega,fun p H1 s1 hp=>?_⟩
  walk_at "rd"
  refine q99 xs (fun i σ H'=>∃v3 v4 v5 v6,σ=[some (.int r),some v,some (.ref p),v3,v4,v5,v6]/\Same H1 H') ⟨none,none,none,none,rfl,Same.refl _⟩ ?_ ?_ ?_
  ·rintro i σ H' ⟨_,_,_,_,rfl,s2⟩
   exact SqT.of (s2 _ _ hp)
  ·rintro i x σ H' hx ⟨v3,v4,v5,v6,rfl,s2⟩
   obtain⟨p1,g,a,b,bk,gt,rfl,hp1,hg,gok,ha,hb,hab⟩:=(ok x (List.mem_of_getElem? hx)).mono (s1.trans s2).ts
   walk_at "rd"
   refine⟨_,a,0,r - 1,rfl,by omega,by omega,?_⟩
   walk_at "rd"
   refine⟨_,b,0,r - 1,rfl,by omega,by omega,?_⟩
   walk_at "rd"
   refine ifd (fun h=>absurd h hab) (fun _=>?_)
   walk_at "rd"
   refine⟨g,gt.word,gt.ns,rfl,by rw[<-Gt.vs_eq];exact hg,by have:=gt.ns_len;omega,fun H2 s3=>?_⟩
   rw[q96 gok]
   walk_at "rd"
   exact⟨_,_,_,_,rfl,s2.trans s3⟩
  ·rintro σ H' ⟨v3,v4,v5,v6,rfl,s2⟩
   walk_at "rd"
   exact k p H' (s1.trans s2) (s2 _ _ hp)
theorem ok_mp (T:Txt mg cs)(L:Laid K mg "made_pairs" q0T ["name","rooms","pairs","most_pairs","least","most"])(C_check_number:Cal P w K mg base 2 "check_number" ["name","number","least","most"] q4m)(C_made_rows:Cal P w K mg base 1 "made_rows" ["name","rows","most"] q84):Cal P w K mg base 3 "made_pairs" ["name","rooms","pairs","most_pairs","least","most"] spMP:=by
 refine L.cal (k:=2) q0C (fun vs H Q E h=>?_) (fun f cdv A outer s H vs Q E hr h=>?_)
 ·obtain ⟨z,r,v,m,lo,hi,xs,rfl,_⟩:=h
  rfl
 ·obtain ⟨z,r,v,m,lo,hi,xs,rfl,hz,hv,ok,h1,h2,k⟩:=h
  have big:=qM
  have l1:(", a room":Str).length=8:=by decide +kernel
  have l2:(", a number":Str).length=10:=by decide +kernel
  have lz:z.length<=sizeLine:=by omega
  refine⟨_,(qc (qw (i:=6) q0C.nd rfl (Or.inl rfl) (qp C_made_rows hr (by decide) rfl (qa (pv 0) (qa (pv 2) (qa (pv 3) qe)))))
   (qc (q0B PassesOwn.never rfl (q4w K (pv 6)) (q1O (n:=2) K rfl (qG (qq (i:=7) q0C.nd rfl (Or.inl rfl)) (qG (qq (i:=8) q0C.nd rfl (Or.inl rfl)) q1N))) (qc (qF (qp C_check_number hr (by decide) rfl (qa (pe_fs (pe_fv (pv 0)) qD) (qa (pv 7) (qa qg (qa (qx q3H (pv 1) qg) qe))))))
   (qf (qF (qp C_check_number hr (by decide) rfl (qa (pe_fs (pe_fv (pv 0)) qD) (qa (pv 8) (qa (pv 4) (qa (pv 5) qe)))))))))
   (qf (ql (pv 6))))),?_⟩
  walk_at "rd"
  refine⟨z,v,m,xs,rfl,hv,fun x hx=>(ok x hx).row,by omega,by omega,fun p H1 s1 hp=>?_⟩
  walk_at "rd"
  refine q99 xs (fun i σ H'=>∃v7 v8,σ=[some (.str z),some (.int r),some v,some (.int m),some (.int lo),some (.int hi),some (.ref p),v7,v8]/\Same H1 H') ⟨none,none,rfl,Same.refl _⟩ ?_ ?_ ?_
  ·rintro i σ H' ⟨_,_,rfl,s2⟩
   exact SqT.of (s2 _ _ hp)
  ·rintro i x σ H' hx ⟨v7,v8,rfl,s2⟩
   obtain⟨p1,a,n,rfl,hp1,ha,hn⟩:=(ok x (List.mem_of_getElem? hx)).mono (s1.trans s2).ts
   walk_at "rd"
   refine⟨z,rfl,lz,z,rfl,lz,?_⟩
   walk_at "rd"
   refine⟨_,rfl,by rw[l1];omega,fun z1 _=>?_⟩
   walk_at "rd"
   refine⟨z1,a,0,r - 1,rfl,by omega,by omega,?_⟩
   walk_at "rd"
   refine⟨z,rfl,lz,z,rfl,lz,?_⟩
   walk_at "rd"
   refine⟨_,rfl,by rw[l2];omega,fun z2 _=>?_⟩
   walk_at "rd"
   refine⟨z2,n,lo,hi,rfl,by omega,by omega,?_⟩
   walk_at "rd"
   exact⟨_,_,rfl,s2⟩
  ·rintro σ H' ⟨v7,v8,rfl,s2⟩
   walk_at "rd"
   exact k p H' (s1.trans s2) (s2 _ _ hp)
theorem ok_mkc {d1 d2:Tok}(T:Txt mg cs)(L:LaidD K mg "cellar" q0U [.none,.none,.none,.int 0 d1,.int 0 d2])(C_check_number:Cal P w K mg base 2 "check_number" ["name","number","least","most"] q4m)(C_made_ways:Cal P w K mg base 3 "made_ways" ["rooms","ways"] spMW)
  (C_made_pairs:Cal P w K mg base 3 "made_pairs" ["name","rooms","pairs","most_pairs","least","most"] spMP):CalD P w K mg base 4 "cellar" ["rooms","first","last","ways","things","levers","wheels","bars","water"] qbW q0U [.none,.none,.none,.int 0 d1,.int 0 d2]:=by
 obtain⟨t1,e_MOST_ROOMS⟩:=T.e_MOST_ROOMS
 obtain⟨t2,e_ALL_BARS⟩:=T.e_ALL_BARS
 obtain⟨t3,e_TOP_HEIGHT⟩:=T.e_TOP_HEIGHT
 obtain⟨t4,e_MOST_THINGS⟩:=T.e_MOST_THINGS
 obtain⟨t5,e_MOST_LEVERS⟩:=T.e_MOST_LEVERS
 obtain⟨t6,e_MOST_WHEELS⟩:=T.e_MOST_WHEELS
 obtain⟨t7,e_LAST_KIND⟩:=T.e_LAST_KIND
 refine L.cal (k:=3) q8g (fun vs H Q E h=>?_) (fun f cdv A outer s H vs Q E hr h=>?_)
 ·obtain ⟨r,f,l,b,wt,v1,v2,v3,v4,x1,x2,x3,x4,rfl,_⟩:=h
  rfl
 ·obtain ⟨r,f,l,b,wt,v1,v2,v3,v4,x1,x2,x3,x4,rfl,hr0,hf,hl,hb,hw,i1,i2,i3,i4,o1,o2,o3,o4,l1,l2,l3,l4,k⟩:=h
  have n1:("things":Str).length<=100:=by decide +kernel
  have n2:("levers":Str).length<=100:=by decide +kernel
  have n3:("wheels":Str).length<=100:=by decide +kernel
  refine⟨_,(qc (qF (qp C_check_number hr (by decide) rfl (qa qD (qa (pv 0) (qa qg (qa (qh (v:= .int 14) rfl e_MOST_ROOMS ⟨_,rfl⟩) qe))))))
   (qc (qF (qp C_check_number hr (by decide) rfl (qa qD (qa (pv 1) (qa qg (qa (qx q3H (pv 0) qg) qe))))))
   (qc (qF (qp C_check_number hr (by decide) rfl (qa qD (qa (pv 2) (qa qg (qa (qx q3H (pv 0) qg) qe))))))
   (qc (qF (qp C_check_number hr (by decide) rfl (qa qD (qa (pv 7) (qa qg (qa (qh (v:= .int 255) rfl e_ALL_BARS ⟨_,rfl⟩) qe))))))
   (qc (qF (qp C_check_number hr (by decide) rfl (qa qD (qa (pv 8) (qa qg (qa (qh (v:= .int 9) rfl e_TOP_HEIGHT ⟨_,rfl⟩) qe))))))
   (qf (ql (qR (qa (pv 0) (qa (pv 1) (qa (pv 2) (qa (qp C_made_ways hr (by decide) rfl (qa (pv 0) (qa (pv 3) qe))) (qa (qp C_made_pairs hr (by decide) rfl (qa qD (qa (pv 0) (qa (pv 4) (qa (qh (v:= .int 8) rfl e_MOST_THINGS ⟨_,rfl⟩) (qa qg (qa (qh (v:= .int 11) rfl e_LAST_KIND ⟨_,rfl⟩) qe))))))) (qa (qp C_made_pairs hr (by decide) rfl (qa qD (qa (pv 0) (qa (pv 5) (qa (qh (v:= .int 4) rfl e_MOST_LEVERS ⟨_,rfl⟩) (qa qg (qa (qh (v:= .int 255) rfl e_ALL_BARS ⟨_,rfl⟩) qe))))))) (qa (qp C_made_pairs hr (by decide) rfl (qa qD (qa (pv 0) (qa (pv 6) (qa (qh (v:= .int 4) rfl e_MOST_WHEELS ⟨_,rfl⟩) (qa qg (qa (qh (v:= .int 9) rfl e_TOP_HEIGHT ⟨_,rfl⟩) qe))))))) (qa (pv 7) (qa (pv 8) qe))))))))))))))))),?_⟩
  walk_at "rd"
  refine⟨_,r,1,14,rfl,by omega,by omega,?_⟩
  walk_at "rd"
  refine⟨_,f,0,r - 1,rfl,by omega,by omega,?_⟩
  walk_at "rd"
  refine⟨_,l,0,r - 1,rfl,by omega,by omega,?_⟩
  walk_at "rd"
  refine⟨_,b,0,255,rfl,by omega,by omega,?_⟩
  walk_at "rd"
  refine⟨_,wt,0,9,rfl,by omega,by omega,?_⟩
  walk_at "rd"
  refine⟨r,v1,x1,rfl,i1,o1,l1,fun p1 H1 s1 h1=>?_⟩
  walk_at "rd"
  refine⟨_,r,v2,8,0,11,x2,rfl,n1,i2.mono s1,fun x hx=>(o2 x hx).mono s1.ts,by omega,by omega,fun p2 H2 s2 h2=>?_⟩
  have s12:=s1.trans s2
  walk_at "rd"
  refine⟨_,r,v3,4,1,255,x3,rfl,n2,i3.mono s12,fun x hx=>(o3 x hx).mono s12.ts,by omega,by omega,fun p3 H3 s3 h3=>?_⟩
  have s13:=s12.trans s3
  walk_at "rd"
  refine⟨_,r,v4,4,0,9,x4,rfl,n3,i4.mono s13,fun x hx=>(o4 x hx).mono s13.ts,by omega,by omega,fun p4 H4 s4 h4=>?_⟩
  have s14:=s13.trans s4
  walk_at "rd"
  intro p hp
  have s5:=Same.upd (o:= .tup [.int r,.int f,.int l,.ref p1,.ref p2,.ref p3,.ref p4,.int b,.int wt]) hp
  exact k p p1 p2 p3 p4 _ (s14.trans s5) qb (s5 _ _ (s4 _ _ (s3 _ _ (s2 _ _ h1)))) (s5 _ _ (s4 _ _ (s3 _ _ h2))) (s5 _ _ (s4 _ _ h3)) (s5 _ _ h4)
abbrev psC:List Str:=["rooms","first","last","ways","things","levers","wheels","bars","water"]
abbrev dsC (d1 d2:Tok):List Value:=[.none,.none,.none,.int 0 d1,.int 0 d2]
theorem q6u (d1 d2:Tok)(us:List Value)(hl:(us++[]).length=psC.length):BnD "cellar" q0U (dsC d1 d2) ⟨us,[]⟩ (psC.zip (us++[])):=by
 have hl2:us.length=9:=by simpa using hl
 clear hl;revert us;exact blS fun _=>blS fun _=>blS fun _=>blS fun _=>blS fun _=>blS fun _=>blS fun _=>blS fun _=>blS fun _=>bl0 (fun _ _ _ _ _ _ _=>⟨_,rfl,rfl⟩)
theorem q6n (d1 d2:Tok):Vals [] []:= .nil
theorem off_ne {a d r:Int}(h0:0<=a)(h1:a<r)(d0:1<=d)(d1:d<r):(a+d) % r≠a:=by
 by_cases h:a+d<r
 ·rw [Int.emod_eq_of_lt (by omega) h];omega
 ·have e:a+d=(a+d - r)+r*1:=by omega
  rw[e,Int.add_mul_emod_self_left,Int.emod_eq_of_lt (by omega) (by omega)]
  omega
end
def goL (C:Cl)(s:Sd):List Sd:=((rowD .go C.ways.length).filter fun x=>canD C s x.1 (x.2:Int)).map fun x=>q0m C s x.1 (x.2:Int)
def GoR (C:Cl)(s t:Sd):Prop:=t∈goL C s
def spBG:Sp:=fun vs H Q _=>∃(c q:Addr) (C:Cl) (s:Sd),vs=[.ref c,.ref q]/\ClAt H c C/\ClOk C/\SAt H q s/\s.ok C/\∀(l:Addr) (H':Hp),Same H H'->H l=none->qJ SAt H' l (goL C s)->Q (.ref l) H'
theorem q6Z {A:Around}{k:Nat}(hr:Room k A):A.units+1+1<cLine:=by have:=hr.un;omega
section
variable {P:Program}{w:World}{K:W.Frag}{mg:Str->Option Value}{base:Heap}{cs:Cs}
theorem qcC (T:Txt mg cs)(L:Laid K mg "stands_by_go" q0d ["cellar","stand"])(C_all_goes:Cal P w K mg base 4 "all_goes" ["cellar"] (q6C cs))(vc:∀d,VMeth P w K mg base 6 (dcls cs d) "can" ["self","cellar","stand"] (qa2 cs d))(vd:∀d,VMeth P w K mg base 2 (dcls cs d) "done" ["self","cellar","stand"] (q35 cs d)):Cal P w K mg base 7 "stands_by_go" ["cellar","stand"] spBG:=by
 refine L.cal (k:=6) q3x (fun vs H Q E h=>?_) (fun f cdv A outer s H vs Q E hr h=>?_)
 ·obtain ⟨c,q,C,st,rfl,_⟩:=h
  rfl
 ·obtain ⟨c,q,C,st,rfl,hC,ok,hq,sok,k⟩:=h
  have big:=qM
  have okw:=ok.wl
  refine⟨_,(qf (ql (q0P (q0q (N:=["go","cellar","stand"]) (own:=1) (caps:=[0,1]) ["cellar","stand"] (qd q0d) (by decide +kernel)) rfl (q09 K (qp C_all_goes hr (by decide) rfl (qa (pv 0) qe))) (fun _ _ _ _=>(qq (i:=0) (show List.Nodup (["go","cellar","stand"]:List Str) by decide +kernel) rfl (Or.inl rfl))) (fun _ _ _ _=>(q8y (q0A (q6O (k:=6) P w K mg base hr (by decide) (pv 0) (qa (pv 1) (qa (pv 2) qe)))))) (fun _ _ _ _=>(q6O (k:=2) P w K mg base hr (by decide) (pv 0) (qa (pv 1) (qa (pv 2) qe))))))),?_⟩
  walk_at "rd"
  refine⟨c,C,rfl,hC,ok,fun l H1 s1 hl0 m1=>?_⟩
  obtain⟨ps,e1,r1⟩:=m1
  walk_at "rd"
  intro D hD
  refine q3r (ps.map V.ref) (fun i σ H'=>∃v0,σ=[v0,some (.ref c),some (.ref q)]/\Same H1 H'/\qJ SAt H' D ((((rowD .go C.ways.length).take i).filter fun x=>canD C st x.1 (x.2:Int)).map fun x=>q0m C st x.1 (x.2:Int))) ⟨none,rfl,Same.upd hD,⟨[],qb,Rows.nil⟩⟩ ?_ ?_ ?_
  ·rintro i σ H' ⟨_,rfl,s2,_⟩
   exact SqL.of (s2 _ _ e1)
  ·rintro i x σ H' hx ⟨v0,rfl,s2,qs,hqs,hrw⟩
   have hi:i<(rowD .go C.ways.length).length:=by have:=(List.getElem?_eq_some_iff.mp hx).1;rw[List.length_map,r1.1] at this;exact this
   obtain⟨p,ep,hob⟩:=r1.get hi
   rw[hx] at ep
   cases ep
   have hob2:=DAt.mono s2 hob
   obtain⟨dx,hp⟩:=hob2.ex
   have s12:=s1.trans s2
   have hqlen:qs.length<=100:=by
    rw[hrw.1,List.length_map]
    refine Nat.le_trans (List.length_filter_le _ _) ?_
    rw[List.length_take,q2C];omega
   walk_at "rd"
   refine r_vm hp (vc _) (qby _ _) ?_
   walk_at "rd"
   refine⟨p,c,q,C,st,_,rfl,hob2,hC.mono s12.ts,ok,s12 _ _ hq,sok,fun H3 s3=>?_⟩
   have hq3:=s3 _ _ hqs
   walk_at "rd"
   rw[List.take_succ_eq_append_getElem hi,List.filter_append,List.map_append]
   refine ite2 (fun hc=>?_) (fun hc=>?_)
   ·have hob3:=DAt.mono s3 hob2
    obtain⟨dx3,hp3⟩:=hob3.ex
    have s13:=s12.trans s3
    walk_at "rd"
    refine r_vm hp3 (vd _) (q9r _ _) ?_
    walk_at "rd"
    refine⟨p,c,q,C,st,_,rfl,hob3,hC.mono s13.ts,ok,s13 _ _ hq,sok,hc,fun r H4 s4 hr4=>?_⟩
    have hq4:=s4 _ _ hq3
    refine⟨_,hq4,by rw[List.length_map];omega,_,rfl,((s2.trans s3).trans s4).put hD,?_⟩
    rw[show(([(rowD .go C.ways.length)[i]].filter fun x=>canD C st x.1 (x.2:Int)).map fun x=>q0m C st x.1 (x.2:Int))=[q0m C st (rowD .go C.ways.length)[i].1 ((rowD .go C.ways.length)[i].2:Int)] by simp[hc]]
    exact q0J (fun _ _=>SAt.put hq4) (hrw.mono fun _ _=>SAt.mono (s3.trans s4).ts) hr4
   ·refine ⟨_,rfl,s2.trans s3,qs,hq3,?_⟩
    rw[show(([(rowD .go C.ways.length)[i]].filter fun x=>canD C st x.1 (x.2:Int)).map fun x=>q0m C st x.1 (x.2:Int))=[] by simp[hc],List.append_nil]
    exact hrw.mono fun _ _=>SAt.mono s3.ts
  ·rintro σ H' ⟨v0,rfl,s2,m2⟩
   rw[List.length_map,r1.1,List.take_length] at m2
   exact k D H' (s1.trans s2) (s1.free hD) m2
end
def q42 (s:Sd)(r:Int):Sd:={s with rm:=r}
def domS (C:Cl)(s:Sd):List Sd:=(List.range C.rooms.toNat).map fun r:Nat=>q42 s r
def LAt (f:Sd->List Sd)(H:Hp)(p:Addr)(x:Sd):Prop:=qJ SAt H p (f x)
theorem LAt.mono {f:Sd->List Sd}{H H':Hp}(s:Same H H'){p:Addr}{x:Sd}(h:LAt f H p x):LAt f H' p x:=by
 obtain⟨ps,h1,h2⟩:=h
 exact⟨ps,s _ _ h1,h2.mono fun _ _=>SAt.mono s.ts⟩
theorem q6q {H:Hp}{D:Addr}{kvs:List (List Key×V)}{o:HO}(hD:H D=some (.dT kvs)):q00 H (upd H D o):=fun p xs h=>by rw[qi (q2U h hD (by intro z;cases z))];exact h
theorem LAt.dput {f:Sd->List Sd}{H:Hp}{D:Addr}{kvs:List (List Key×V)}{o:HO}(hD:H D=some (.dT kvs)){p:Addr}{x:Sd}(h:LAt f H p x):LAt f (upd H D o) p x:=by
 obtain⟨ps,h1,h2⟩:=h
 exact⟨ps,by rw[qi (q2U h1 hD (by intro z;cases z))];exact h1,h2.mono fun _ _=>SAt.mono (q6q hD)⟩
def lkD (ss:List Sd)(ls:List Addr):Dk:=List.zipWith (fun s l=>(s,V.ref l)) ss ls
theorem q2F:∀{ss:List Sd} {ls:List Addr},ls.length=ss.length->(lkD ss ls).map (·.1)=ss
 |[],[],_=>rfl
 |[],_::_,h=>by simp at h
 |_::_,[],h=>by simp at h
 |s::ss,l::ls,h=>by
  show s::(lkD ss ls).map (·.1)=_
  rw[q2F (by simpa using h)]
theorem q4B {ss:List Sd}{ls:List Addr}(h:ls.length=ss.length):(lkD ss ls).length=ss.length:=by have:=congrArg List.length (q2F h);simpa using this
theorem q6W {ss:List Sd}{ls:List Addr}{s:Sd}{l:Addr}(h:ls.length=ss.length):lkD (ss++[s]) (ls++[l])=lkD ss ls++[(s,.ref l)]:=by
 unfold lkD
 rw[List.zipWith_append h.symm]
 rfl
theorem qbu {ss:List Sd}{ls:List Addr}{i:Nat}{s:Sd}{l:Addr}(h:ls.length=ss.length)(hn:ss.Nodup)(hs:ss[i]? =some s)(hl:ls[i]? =some l):dat (lkD ss ls) s=some (.ref l):=by
 refine q77 (by rw[q2F h];exact hn) ?_
 have:(lkD ss ls)[i]? =some (s,.ref l):=by unfold lkD;rw[List.getElem?_zipWith,hs,hl]
 exact List.mem_of_getElem? this
theorem q3P (C:Cl)(s:Sd):(domS C s).Nodup:=by
 unfold domS
 refine List.Pairwise.map _ (fun a b h e=>h ?_) List.nodup_range
 have:((a:Nat):Int)=b:=congrArg Sd.rm e
 omega
theorem q4J {C:Cl}{s:Sd}{i:Nat}(hi:i<C.rooms.toNat):(domS C s).take (i+1)=(domS C s).take i++[q42 s i]:=by
 rw[List.take_succ_eq_append_getElem (by simpa[domS] using hi)]
 simp[domS]
theorem qd5 {C:Cl}{s:Sd}{i:Nat}(hi:i<C.rooms.toNat):q42 s i∉(domS C s).take i:=fun h=>by
 have nd:=q3P C s
 have e:=q4J (s:=s) hi
 have:((domS C s).take (i+1)).Nodup:=nd.sublist (List.take_sublist _ _)
 rw[e,List.nodup_append] at this
 exact this.2.2 _ h _ (by simp) rfl
theorem q4A {C:Cl}{s t:Sd}:t∈domS C s↔∃r:Int,(0<=r/\r<C.rooms)/\t=q42 s r:=by
 unfold domS
 simp only[List.mem_map,List.mem_range]
 constructor
 ·rintro ⟨r,h,rfl⟩
  exact⟨r,⟨by omega,by omega⟩,rfl⟩
 ·rintro ⟨r,h,rfl⟩
  exact⟨r.toNat,by omega,by rw[Int.toNat_of_nonneg h.1]⟩
theorem set_ok {C:Cl}{s:Sd}{r:Int}(h:s.ok C)(h0:0<=r)(h1:r<C.rooms):(q42 s r).ok C:=⟨⟨h0,h1⟩,h.htk,h.hop,h.dr,h.hb,h.hwt,h.held⟩
def spGL:Sp:=fun vs H Q _=>∃(c q:Addr) (C:Cl) (s:Sd),vs=[.ref c,.ref q]/\ClAt H c C/\ClOk C/\SAt H q s/\s.ok C/\∀(a:Addr) (ls:List Addr) (H':Hp),Same H H'->H a=none->DAtS H' a (lkD (domS C s) ls)->Rows (LAt (goL C)) H' ls (domS C s)->Q (.ref a) H'
section
variable {P:Program}{w:World}{K:W.Frag}{mg:Str->Option Value}{base:Heap}{cs:Cs}
theorem q8F (T:Txt mg cs)(L:Laid K mg "go_links" q1S ["cellar","stand"])(C_changed:Cal P w K mg base 1 "changed" ["parts","place","part"] q5e)(C_stands_by_go:Cal P w K mg base 7 "stands_by_go" ["cellar","stand"] spBG):Cal P w K mg base 8 "go_links" ["cellar","stand"] spGL:=by
 obtain⟨t1,e_ROOMS⟩:=T.e_ROOMS
 obtain⟨t2,e_ROOM⟩:=T.e_ROOM
 refine L.cal (k:=7) q1d (fun vs H Q E h=>?_) (fun f cdv A outer s H vs Q E hr h=>?_)
 ·obtain ⟨c,q,C,st,rfl,_⟩:=h
  rfl
 ·obtain ⟨c,q,C,st,rfl,hC,ok,hq,sok,k⟩:=h
  have big:=qM
  have ok1:=ok.r1
  have ok2:=ok.r2
  obtain⟨pw,pt,pl,pv',h0,hw,ht,hl,hv⟩:=hC.ex
  refine⟨_,(qc (qw (i:=2) q1d.nd rfl (Or.inl rfl) q3k)
   (qc (q0B PassesOwn.never rfl (q04 rfl T.n_range (qa (qA (qk K) (pv 0) (qh (v:= .int 0) rfl e_ROOMS ⟨_,rfl⟩) (fun _ _=>rfl)) qe)) (qq (i:=3) q1d.nd rfl (Or.inl rfl)) (qc (qw (i:=4) q1d.nd rfl (Or.inl rfl) (qp C_changed hr (by decide) rfl (qa (pv 1) (qa (qh (v:= .int 0) rfl e_ROOM ⟨_,rfl⟩) (qa (pv 3) qe)))))
   (qf (q2j (q0Q hr) (pv 2) (pv 4) (qp C_stands_by_go hr (by decide) rfl (qa (pv 0) (qa (pv 4) qe))) rfl))))
   (qf (ql (pv 2))))),?_⟩
  walk_at "rd"
  intro D hD
  have h01:=(Same.upd (o:= .dT []) hD) _ _ h0
  walk_at "rd"
  refine q9a (fun i σ H'=>∃v3 v4 ls,σ=[some (.ref c),some (.ref q),some (.ref D),v3,v4]/\Same H H'/\DAtS H' D (lkD ((domS C st).take i) ls)/\Rows (LAt (goL C)) H' ls ((domS C st).take i)) ⟨none,none,[],rfl,Same.upd hD,qb,Rows.nil⟩ ?_ ?_
  ·rintro i σ H' hi ⟨v3,v4,ls,rfl,s1,hd,hrw⟩
   have hi':i<C.rooms.toNat:=by simpa using hi
   have hq1:=s1 _ _ hq
   walk_at "rd"
   refine⟨q,st,0,_,rfl,by omega,hq1,fun r H2 s2 hr2=>?_⟩
   have hr2':SAt H2 r (q42 st i):=by
    have e:(st.vs.set 0 (.int (0+(i:Nat))))=(q42 st i).vs:=by rw[Int.zero_add];rfl
    rw[e] at hr2
    exact hr2
   have s12:=s1.trans s2
   walk_at "rd"
   refine⟨c,r,C,q42 st i,rfl,hC.mono s12.ts,ok,hr2',set_ok sok (by omega) (by omega),fun l H3 s3 hl3 m3=>?_⟩
   have hd3:DAtS H3 D _:=s3 _ _ (s2 _ _ hd)
   have hlen:ls.length=((domS C st).take i).length:=hrw.1
   walk_at "rd"
   refine⟨D,_,rfl,q4f hd3 (s3 _ _ hr2') ?_ ?_,?_⟩
   ·rw [q4B hlen,List.length_take];omega
   ·rw [q2F hlen];exact qd5 hi'
   ·refine ⟨_,_,ls++[l],rfl,(s12.trans s3).put hD,?_,?_⟩
    ·rw [q4J hi',q6W hlen]
     exact qb
    ·rw [q4J hi']
     exact(hrw.mono fun _ _ x=>LAt.dput hd3 (LAt.mono (s2.trans s3) x)).snoc (LAt.dput hd3 m3)
  ·rintro σ H' ⟨v3,v4,ls,rfl,s1,hd,hrw⟩
   have e:(domS C st).take C.rooms.toNat=domS C st:=List.take_of_length_le (by simp[domS])
   have hd':DAtS H' D (lkD ((domS C st).take C.rooms.toNat) ls):=hd
   have hrw':Rows (LAt (goL C)) H' ls ((domS C st).take C.rooms.toNat):=hrw
   rw[e] at hd' hrw'
   walk_at "rd"
   exact k D ls H' s1 hD hd' hrw'
end
def cnD (ss:List Sd)(ns:List Int):Dk:=List.zipWith (fun s n=>(s,V.int n)) ss ns
theorem q22:∀{ss:List Sd} {ns:List Int},ns.length=ss.length->(cnD ss ns).map (·.1)=ss
 |[],[],_=>rfl
 |[],_::_,h=>by simp at h
 |_::_,[],h=>by simp at h
 |s::ss,l::ls,h=>by
  show s::(cnD ss ls).map (·.1)=_
  rw[q22 (by simpa using h)]
theorem q9A {ss:List Sd}{ns:List Int}(h:ns.length=ss.length):(cnD ss ns).length=ss.length:=by have:=congrArg List.length (q22 h);simpa using this
theorem qb4 {ss:List Sd}{ns:List Int}{s:Sd}{n:Int}(h:ns.length=ss.length):cnD (ss++[s]) (ns++[n])=cnD ss ns++[(s,.int n)]:=by
 unfold cnD
 rw[List.zipWith_append h.symm]
 rfl
theorem cnD_at {ss:List Sd}{ns:List Int}{s:Sd}(h:ns.length=ss.length)(hn:ss.Nodup)(hs:s∈ss):∃n,dat (cnD ss ns) s=some (.int n):=by
 obtain⟨i,hi,e⟩:=List.getElem_of_mem hs
 refine⟨ns[i]'(by omega),q77 (by rw[q22 h];exact hn) ?_⟩
 have:(cnD ss ns)[i]? =some (s,.int (ns[i]'(by omega))):=by
  unfold cnD
  rw[List.getElem?_zipWith,List.getElem?_eq_getElem hi,List.getElem?_eq_getElem (by omega),e]
 exact List.mem_of_getElem? this
theorem sub_len:∀{l m:List Sd},l.Nodup->(∀x∈l,x∈m)->l.length<=m.length
 |[],_,_,_=>Nat.zero_le _
 |x::l,m,hn,h=>by
  rw[List.nodup_cons] at hn
  have hx:=h x (.head _)
  have:=sub_len (m:=m.erase x) hn.2 fun y hy=>(List.mem_erase_of_ne fun e=>hn.1 (by rw[<-e];exact hy)).mpr (h y (List.mem_cons_of_mem _ hy))
  rw[List.length_erase_of_mem hx] at this
  have:0<m.length:=List.length_pos_of_mem hx
  rw[List.length_cons]
  omega
def spCF:Sp:=fun vs H Q _=>∃(b a:Addr) (s0:Sd) (ss:List Sd) (f:Sd->List Sd) (ls:List Addr),vs=[.ref b,.ref a]/\qJ SAt H b [s0]/\Rd H a (.dT (dkv (lkD ss ls)))/\Rows (LAt f) H ls ss/\ss.Nodup/\s0∈ss/\(∀x∈ss,∀y∈f x,y∈ss)/\ss.length<=1000/\
 ∀(d:Addr) (row:List Sd) (ns:List Int) (H':Hp),Same H H'->H d=none->DAtS H' d (cnD row ns)->ns.length=row.length->row.Nodup->(∀x∈row,x∈ss)->(∀x,x∈row↔Rch (fun x y=>y∈f x) s0 x)->Q (.ref d) H'
theorem DAtS.lput {H:Hp}{R D:Addr}{l:Dk}{xs:List V}{o:HO}(hR:H R=some (.lst xs))(h:DAtS H D l):DAtS (upd H R o) D l:=by
 show upd H R o D=_
 rw[qi (q2U h hR (by intro z;cases z))]
 exact h
theorem Rd.same {H H':Hp}(s:Same H H'){a:Addr}{u:HO}(h:Rd H a u):Rd H' a u:=by
 rcases h with h|⟨o,h⟩
 ·exact .inl (s _ _ h)
 ·exact .inr ⟨o,s _ _ h⟩
section
variable {P:Program}{w:World}{K:W.Frag}{mg:Str->Option Value}{base:Heap}{cs:Cs}
theorem qaz (T:Txt mg cs)(L:Laid K mg "counts_from" q0D ["begins","links"]):Cal P w K mg base 1 "counts_from" ["begins","links"] spCF:=by
 refine L.cal (k:=0) qL (fun vs H Q E h=>?_) (fun f cdv A outer s H vs Q E hr h=>?_)
 ·obtain ⟨b,a,s0,ss,f,ls,rfl,_⟩:=h
  rfl
 ·obtain ⟨b,a,s0,ss,g,ls,rfl,⟨bs,hb,rb⟩,ha,hrw,nd,hs0,hcl,hln,k⟩:=h
  have big:=qM
  obtain⟨p0,rfl⟩:∃p0,bs=[p0]:=List.length_eq_one_iff.mp rb.1
  have hp0:SAt H p0 s0:=rb.2 0 p0 s0 rfl rfl
  refine⟨_,(qc (qw (i:=2) qL.nd rfl (Or.inl rfl) (q0k (qbs K) rfl T.n_list q6t (qa (pv 0) qe)))
   (qc (qw (i:=3) qL.nd rfl (Or.inl rfl) q3k)
   (qc (q0B PassesOwn.never rfl (q09 K (pv 0)) (qq (i:=4) qL.nd rfl (Or.inl rfl)) (qf (q2j (q0Q hr) (pv 3) (pv 4) qg rfl)))
   (qc (qw (i:=5) qL.nd rfl (Or.inl rfl) qg)
   (qc (q6M PassesOwn.never (qv qcr (pv 5) (qB (lenK K) rfl T.n_len q0o (qa (pv 2) qe)) (qt _)) (qc (qw (i:=6) qL.nd rfl (Or.inl rfl) (qA (q01 K) (pv 2) (pv 5) (fun _ _=>rfl)))
   (qc (qbn (i:=5) qL.nd rfl (Or.inl rfl) qg q8Y)
   (qf (q0B PassesOwn.never rfl (q09 K (q6c (q0Q hr) (pv 1) (pv 6) (fun _ _=>rfl))) (qq (i:=7) qL.nd rfl (Or.inl rfl)) (qf (qV (q1M (q3G (q0Q hr) (pv 7) (pv 3))) (qc (q2j (q0Q hr) (pv 3) (pv 7) (qx q1P (q6c (q0Q hr) (pv 3) (pv 6) (fun _ _=>rfl)) qg) rfl)
   (qf (qF (q8A PySem.F.plainAttrs_list PySem.F.slot_list_append PySem.F.type_list_append q19 (pv 2) (qa (pv 7) qe))))) qu)))))))
   (qf (ql (pv 3)))))))),?_⟩
  walk_at "rd"
  refine⟨b,_,rfl,.inl (SqL.of hb),fun R hR=>?_⟩
  have s1:=Same.upd (o:= .lst ([p0].map V.ref)) hR
  have h1:=qb (H:=H) (a:=R) (o:= .lst ([p0].map V.ref))
  generalize upd H R (.lst ([p0].map V.ref))=H1 at s1 h1 ⊢
  have hb1:=s1 _ _ hb
  walk_at "rd"
  intro D hD1
  have hD:H D=none:=s1.free hD1
  have s2:=s1.trans (Same.upd (o:= .dT []) hD1)
  have h2:=(Same.upd (o:= .dT []) hD1) _ _ h1
  have hb2:=(Same.upd (o:= .dT []) hD1) _ _ hb1
  have d2:DAtS (upd H1 D (.dT [])) D []:=qb
  generalize upd H1 D (.dT [])=H2 at s2 h2 hb2 d2 ⊢
  walk_at "rd"
  refine q1Q ([p0].map V.ref) (fun i σ H'=>∃v4,σ=[some (.ref b),some (.ref a),some (.ref R),some (.ref D),v4,none,none,none]/\Same H H'/\H' R=some (.lst ([p0].map V.ref))/\H' b=some (.lst ([p0].map V.ref))/\(i=0->DAtS H' D [])/\(i=1->DAtS H' D (cnD [s0] [0]))) ⟨none,rfl,s2,h2,hb2,fun _=>d2,fun z=>absurd z (by decide)⟩ ?_ ?_ ?_
  ·rintro i σ H' ⟨v4,rfl,_,_,e,_⟩
   exact SqL.of e
  ·rintro i x σ H' hx ⟨v4,rfl,s3,hR3,hb3,hz,_⟩
   have hi:i=0:=by have:=(List.getElem?_eq_some_iff.mp hx).1;simpa using this
   subst hi
   cases hx
   have hd:=hz rfl
   walk_at "rd"
   refine⟨D,_,rfl,q4f hd (s3 _ _ hp0) (by show 0<sizeLine;omega) (by simp),?_⟩
   have ne1:R≠D:=q2U hR3 hd (by intro z;cases z)
   have ne2:b≠D:=q2U hb3 hd (by intro z;cases z)
   exact⟨_,rfl,s3.put hD,by rw[qi ne1];exact hR3,by rw[qi ne2];exact hb3,fun z=>absurd z (by decide),fun _=>qb⟩
  ·rintro σ H3 ⟨v4,rfl,s3,hR3,hb3,_,hd3⟩
   have hd3:=hd3 rfl
   walk_at "rd"
   refine q8l (fun m σ H'=>∃(row:List Sd) (ns:List Int) (pl:Nat) (v6 v7:Option V),σ=[some (.ref b),some (.ref a),some (.ref R),some (.ref D),v4,some (.int pl),v6,v7]/\Same H H'/\qJ SAt H' R row/\DAtS H' D (cnD row ns)/\ns.length=row.length/\Srch (fun x y=>y∈g x) s0 row pl/\(∀x∈row,x∈ss)/\pl<=row.length/\m=2000 - pl) (2000 - 0)
    ⟨[s0],[0],0,none,none,rfl,s3,⟨[p0],hR3,Rows.nil.snoc (s3 _ _ hp0)⟩,hd3,rfl,Srch.start,fun x hx=>by rw[List.mem_singleton.mp hx];exact hs0,by simp,rfl⟩ ?_
   rintro m σ H4 ⟨row,ns,pl,v6,v7,rfl,s4,⟨qs,hqs,rqs⟩,hd4,hns,sr,hsub,hpl,hm⟩
   have hql:qs.length=row.length:=rqs.1
   have hrl:row.length<=ss.length:=sub_len sr.nd hsub
   walk_at "rd"
   rw[List.length_map,hql]
   refine ifd (fun hlt=>?_) (fun hge=>?_)
   ·have hlt':pl<row.length:=by omega
    obtain⟨q,eq,hq4⟩:=rqs.get hlt'
    generalize hx:row[pl]=x at hq4
    have hrx:row[pl]? =some x:=by rw[List.getElem?_eq_getElem hlt',hx]
    have hxr:x∈row:=List.mem_of_getElem? hrx
    have hq4:SAt H4 q x:=hq4
    have hxs:=hsub x hxr
    refine⟨fun σ' H'=>∃(row:List Sd) (ns:List Int) (v7:Option V),σ'=[some (.ref b),some (.ref a),some (.ref R),some (.ref D),v4,some (.int ((pl:Int)+1)),some (.ref q),v7]/\Same H H'/\qJ SAt H' R row/\DAtS H' D (cnD row ns)/\ns.length=row.length/\Srch (fun x y=>y∈g x) s0 row (pl+1)/\(∀x∈row,x∈ss)/\pl+1<=row.length,?_,?_⟩
    ·rintro σ' H' ⟨row,ns,v7,rfl,z1,z2,z3,z4,z5,z6,z7⟩
     exact⟨2000 - (pl+1),by omega,row,ns,pl+1,some (.ref q),v7,rfl,z1,z2,z3,z4,z5,z6,z7,rfl⟩
    ·walk_at "rd"
     obtain⟨j,hj,ej⟩:=List.getElem_of_mem (hsub x hxr)
     have hll:ls.length=ss.length:=hrw.1
     have hsj:ss[j]? =some x:=by rw[List.getElem?_eq_getElem hj,ej]
     have hlj:ls[j]? =some (ls[j]'(by omega)):=List.getElem?_eq_getElem _
     generalize ls[j]'(by omega)=l at hlj
     obtain⟨os,hos,ros⟩:=hrw.2 j l x hlj hsj
     have dg:=q3Q (Rd.same s4 ha) hq4
     rw[qbu hll nd hsj hlj] at dg
     refine⟨a,.ref l,rfl,dg,?_⟩
     have hos4:=s4 _ _ hos
     walk_at "rd"
     refine q1Q (os.map V.ref) (fun i σ' H'=>∃(row:List Sd) (ns:List Int) (v7:Option V),σ'=[some (.ref b),some (.ref a),some (.ref R),some (.ref D),v4,some (.int ((pl:Int)+1)),some (.ref q),v7]/\Same H H'/\qJ SAt H' R row/\DAtS H' D (cnD row ns)/\ns.length=row.length/\Mid (fun x y=>y∈g x) s0 x row pl ((g x).take i)/\(∀x∈row,x∈ss)/\SAt H' q x)
      ⟨row,ns,v7,rfl,s4,⟨qs,hqs,rqs⟩,hd4,hns,sr.mid hrx,hsub,hq4⟩ ?_ ?_ ?_
     ·rintro i σ' H' ⟨_,_,_,rfl,s5,_⟩
      exact SqL.of (s5 _ _ hos)
     ·rintro i z σ' H5 hz ⟨row,ns,v7,rfl,s5,⟨qs,hqs,rqs⟩,hd5,hns,md,hsub,hx5⟩
      have hi:i<(g x).length:=by have:=(List.getElem?_eq_some_iff.mp hz).1;rw[List.length_map,ros.1] at this;exact this
      obtain⟨p,ep,hp⟩:=ros.get hi
      rw[hz] at ep
      cases ep
      have hp5:SAt H5 p (g x)[i]:=SAt.mono s5.ts hp
      have hy:(g x)[i]∈g x:=List.getElem_mem hi
      rw[List.take_succ_eq_append_getElem hi]
      generalize (g x)[i]=y at hp5 hy ⊢
      have hrl:row.length<=ss.length:=sub_len md.nd hsub
      walk_at "rd"
      refine⟨D,_,rfl,q3Q (.inl hd5) hp5,?_⟩
      rw[q1a,q22 hns]
      walk_at "rd"
      by_cases hin:y∈row
      ·rw [decide_eq_true hin]
       walk_at "rd"
       exact⟨row,ns,_,rfl,s5,⟨qs,hqs,rqs⟩,hd5,hns,md.old hin,hsub,hx5⟩
      ·rw [decide_eq_false hin]
       walk_at "rd"
       obtain⟨n,hn⟩:=cnD_at hns md.nd (List.mem_of_getElem? md.at')
       have dg5:=q3Q (.inl hd5) hx5
       rw[hn] at dg5
       refine⟨D,_,rfl,dg5,?_⟩
       walk_at "rd"
       have ne1:R≠D:=q2U hqs hd5 (by intro z;cases z)
       refine⟨D,_,rfl,q4f hd5 hp5 (by rw[q9A hns];omega) (by rw[q22 hns];exact hin),?_⟩
       rw[<-qb4 hns]
       have hR6:upd H5 D (.dT (dkv (cnD (row++[y]) (ns++[n+1])))) R=some (.lst (qs.map V.ref)):=by rw[qi ne1];exact hqs
       have hd6:DAtS (upd H5 D (.dT (dkv (cnD (row++[y]) (ns++[n+1]))))) D (cnD (row++[y]) (ns++[n+1])):=qb
       walk_at "rd"
       refine⟨R,_,_,rfl,rfl,hR6,by rw[List.length_map,rqs.1];omega,?_⟩
       refine⟨row++[y],ns++[n+1],_,rfl,(s5.put hD).put hR,?_,DAtS.lput hR6 hd6,by simp[hns],md.new hin hy,?_,SAt.put hR6 (SAt.mono (q6q hd5) hx5)⟩
       ·exact q0J (fun _ _=>SAt.put hR6) (rqs.mono fun _ _=>SAt.mono (q6q hd5)) (SAt.mono (q6q hd5) hp5)
       ·intro z hz'
        rcases List.mem_append.mp hz' with z1|z1
        ·exact hsub z z1
        ·rw [List.mem_singleton.mp z1];exact hcl x hxs y hy
     ·rintro σ' H5 ⟨row,ns,v7,rfl,s5,hR5,hd5,hns,md,hsub,_⟩
      rw[List.length_map,ros.1,List.take_length] at md
      exact⟨row,ns,v7,rfl,s5,hR5,hd5,hns,md.next fun y hy=>hy,hsub,(List.getElem?_eq_some_iff.mp md.at').1⟩
   ·walk_at "rd"
    exact k D row ns H4 s4 hD hd4 hns sr.nd hsub (sr.end (by omega))
end
def gE (es:List (Sd×Sd))(y:Sd):List Sd:=(es.filter fun e=>decide (e.2=y)).map (·.1)
theorem qd0 {es:List (Sd×Sd)}{x y:Sd}:gE (es++[(x,y)]) y=gE es y++[x]:=by simp[gE]
theorem qaV {es:List (Sd×Sd)}{x y z:Sd}(h:z≠y):gE (es++[(x,y)]) z=gE es z:=by simp[gE,Ne.symm h]
theorem gE_len (es:List (Sd×Sd))(y:Sd):(gE es y).length<=es.length:=by rw[gE,List.length_map];exact List.length_filter_le _ _
theorem q8L {es:List (Sd×Sd)}{x y:Sd}:x∈gE es y↔(x,y)∈es:=by
 simp only[gE,List.mem_map,List.mem_filter,decide_eq_true_eq]
 constructor
 ·rintro ⟨⟨a,b⟩,⟨h1,h2⟩,h3⟩
  have h2':b=y:=h2
  have h3':a=x:=h3
  subst h2' h3'
  exact h1
 ·exact fun h=>⟨(x,y),⟨h,rfl⟩,rfl⟩
def eds (f:Sd->List Sd)(ss:List Sd):List (Sd×Sd):=ss.flatMap fun x=>(f x).map fun y=>(x,y)
theorem qb3 (f:Sd->List Sd)(ss:List Sd)(x:Sd):eds f (ss++[x])=eds f ss++(f x).map fun y=>(x,y):=by simp[eds]
theorem q6i {f:Sd->List Sd}{ss:List Sd}{x y:Sd}:(x,y)∈eds f ss↔x∈ss/\y∈f x:=by
 simp only[eds,List.mem_flatMap,List.mem_map,Prod.mk.injEq]
 constructor
 ·rintro ⟨a,h1,b,h2,h3,h4⟩
  subst h3 h4
  exact⟨h1,h2⟩
 ·exact fun⟨h1,h2⟩=>⟨x,h1,y,h2,rfl,rfl⟩
theorem q6m {f:Sd->List Sd}:∀{ss:List Sd},(∀x∈ss,(f x).length<=500)->(eds f ss).length<=500*ss.length
 |[],_=>Nat.zero_le _
 |x::ss,h=>by
  have:=q6m (ss:=ss) fun y hy=>h y (List.mem_cons_of_mem _ hy)
  have h1:=h x (.head _)
  have e:(eds f (x::ss)).length=(f x).length+(eds f ss).length:=by simp[eds]
  rw[e,List.length_cons]
  omega
theorem q9o {ss:List Sd}{ls:List Addr}{i:Nat}{p:List Key×V}(hl:ls.length=ss.length)(h:(dkv (lkD ss ls))[i]? =some p):∃s l,ss[i]? =some s/\ls[i]? =some l/\p=(s.key,.ref l):=by
 have hi:i<ss.length:=by
  have:=(List.getElem?_eq_some_iff.mp h).1
  rw[show(dkv (lkD ss ls)).length=(lkD ss ls).length by simp[dkv],q4B hl] at this
  exact this
 refine⟨ss[i],ls[i]'(by omega),List.getElem?_eq_getElem hi,List.getElem?_eq_getElem (by omega),?_⟩
 have e:(lkD ss ls)[i]? =some (ss[i],.ref (ls[i]'(by omega))):=by unfold lkD;rw[List.getElem?_zipWith,List.getElem?_eq_getElem hi,List.getElem?_eq_getElem (by omega)]
 rw[dkv,List.getElem?_map,e] at h
 exact(Option.some.inj h).symm
theorem q6T {α:Type}{l:List α}(h:l.Nodup){i j:Nat}{x:α}(hi:l[i]? =some x)(hj:l[j]? =some x):i=j:=by
 obtain⟨h1,e1⟩:=List.getElem?_eq_some_iff.mp hi
 obtain⟨h2,e2⟩:=List.getElem?_eq_some_iff.mp hj
 exact(List.getElem_inj h).mp (e1.trans e2.symm)
theorem q8i {es:List (Sd×Sd)}{H:Hp}{ls qs:List Addr}{ss:List Sd}{j:Nat}{l p:Addr}{x y:Sd}(hr:Rows (LAt (gE es)) H ls ss)(hn:ls.Nodup)(hs:ss.Nodup)(hj:ls[j]? =some l)(hy:ss[j]? =some y)(hqs:H l=some (.lst (qs.map V.ref)))(rq:Rows SAt H qs (gE es y))(hp:SAt H p x):
  Rows (LAt (gE (es++[(x,y)]))) (upd H l (.lst (qs.map V.ref++[.ref p]))) ls ss:=by
 refine⟨hr.1,fun k q z hk hz=>?_⟩
 by_cases e:k=j
 ·subst e
  rw[hj] at hk
  cases hk
  rw[hy] at hz
  cases hz
  show qJ SAt _ _ _
  rw[qd0]
  exact q0J (fun _ _=>SAt.put hqs) rq hp
 ·have nq:q≠l:=fun z=>e (q6T hn (z▸hk) hj)
  have nz:z≠y:=fun w=>e (q6T hs (w▸hz) hy)
  obtain⟨rs,h1,h2⟩:=hr.2 k q z hk hz
  show qJ SAt _ _ _
  rw[qaV nz]
  exact⟨rs,by rw[qi nq];exact h1,h2.mono fun _ _=>SAt.put hqs⟩
def spTL:Sp:=fun vs H Q _=>∃(a:Addr) (o:Obj) (ss:List Sd) (f:Sd->List Sd) (ls:List Addr),vs=[.ref a]/\H a=some (.frz o (.dT (dkv (lkD ss ls))))/\Rows (LAt f) H ls ss/\ss.Nodup/\(∀x∈ss,∀y∈f x,y∈ss)/\ss.length<=1000/\(∀x∈ss,(f x).length<=500)/\
 ∀(t:Addr) (ls':List Addr) (H':Hp),Same H H'->H t=none->DAtS H' t (lkD ss ls')->Rows (LAt (gE (eds f ss))) H' ls' ss->Q (.ref t) H'
section
variable {P:Program}{w:World}{K:W.Frag}{mg:Str->Option Value}{base:Heap}{cs:Cs}
theorem q8E (T:Txt mg cs)(L:Laid K mg "turned_links" q0t ["links"]):Cal P w K mg base 1 "turned_links" ["links"] spTL:=by
 refine L.cal (k:=0) qT (fun vs H Q E h=>?_) (fun f cdv A outer s H vs Q E hr h=>?_)
 ·obtain ⟨a,o,ss,f,ls,rfl,_⟩:=h
  rfl
 ·obtain ⟨a,o,ss,g,ls,rfl,ha,hrw,nd,hcl,hln,hfl,k⟩:=h
  have big:=qM
  have hll:ls.length=ss.length:=hrw.1
  have hkl:(dkv (lkD ss ls)).length=ss.length:=by rw[show(dkv (lkD ss ls)).length=(lkD ss ls).length by simp[dkv],q4B hll]
  have hel:=q6m hfl
  refine⟨_,(qc (qw (i:=1) qT.nd rfl (Or.inl rfl) q3k)
   (qc (q0B PassesOwn.never rfl (qbo K (pv 0)) (qq (i:=2) qT.nd rfl (Or.inl rfl)) (qf (q2j (q0Q hr) (pv 1) (pv 2) (q2D qe) rfl)))
   (qc (q0B PassesOwn.never rfl (pi_dpK K (pv 0)) (q1O (n:=2) K rfl (qG (qq (i:=2) qT.nd rfl (Or.inl rfl)) (qG (qq (i:=3) qT.nd rfl (Or.inl rfl)) q1N))) (qf (q0B PassesOwn.never rfl (q09 K (pv 3)) (qq (i:=4) qT.nd rfl (Or.inl rfl)) (qf (qF (q8A PySem.F.plainAttrs_list PySem.F.slot_list_append PySem.F.type_list_append q19 (q6c (q0Q hr) (pv 1) (pv 4) (fun _ _=>rfl)) (qa (pv 2) qe)))))))
   (qf (ql (pv 1)))))),?_⟩
  walk_at "rd"
  intro D hD
  have s1:=Same.upd (o:= .dT []) hD
  have d1:DAtS (upd H D (.dT [])) D []:=qb
  generalize upd H D (.dT [])=H1 at s1 d1 ⊢
  walk_at "rd"
  refine⟨a,o,_,rfl,s1 _ _ ha,?_⟩
  refine for_dk (fun i σ H'=>∃v2 ls',σ=[some (.ref a),some (.ref D),v2,none,none]/\Same H H'/\DAtS H' D (lkD (ss.take i) ls')/\Rows (LAt (gE [])) H' ls' (ss.take i)/\ls'.Nodup/\∀l∈ls',H l=none) ⟨none,[],rfl,s1,d1,Rows.nil,List.nodup_nil,fun l h=>nomatch h⟩ ?_ ?_ ?_
  ·rintro i σ H' ⟨v2,ls',rfl,s2,_⟩
   exact s2 _ _ ha
  ·rintro i b p σ H' hp hb ⟨v2,ls',rfl,s2,hd,hrw',hn',hfr⟩
   obtain⟨x,l,hx,hl,rfl⟩:=q9o hll hp
   have hb':SAt H' b x:=hb
   have hi:i<ss.length:=(List.getElem?_eq_some_iff.mp hx).1
   have ex:ss[i]=x:=(List.getElem?_eq_some_iff.mp hx).2
   have hlen:ls'.length=(ss.take i).length:=hrw'.1
   walk_at "rd"
   intro q hq
   have s3:=Same.upd (o:= .lst []) hq
   have h3:=qb (H:=H') (a:=q) (o:= .lst [])
   generalize upd H' q (.lst [])=H3 at s3 h3 ⊢
   have hd3:DAtS H3 D _:=s3 _ _ hd
   have et:ss.take (i+1)=ss.take i++[x]:=by rw[List.take_succ_eq_append_getElem hi,ex]
   have hnx:x∉ss.take i:=fun h=>by
    have:=nd.sublist (List.take_sublist (i+1) ss)
    rw[et,List.nodup_append] at this
    exact this.2.2 _ h _ (by simp) rfl
   walk_at "rd"
   refine⟨D,_,rfl,q4f hd3 (s3 _ _ hb') (by rw[q4B hlen,List.length_take];omega) (by rw[q2F hlen];exact hnx),?_⟩
   refine⟨_,ls'++[q],rfl,(s2.trans s3).put hD,?_,?_,?_,?_⟩
   ·rw [et,q6W hlen]
    exact qb
   ·rw [et]
    exact(hrw'.mono fun _ _ z=>LAt.dput hd3 (LAt.mono s3 z)).snoc (LAt.dput hd3 ⟨[],h3,Rows.nil⟩)
   ·refine List.nodup_append.mpr ⟨hn',by simp,fun a' h1 b' h2 e=>?_⟩
    rw[List.mem_singleton.mp h2] at e
    subst e
    obtain⟨y,_,rs,hy,_⟩:=Rows.mem hrw' h1
    rw[hq] at hy
    cases hy
   ·intro l h
    rcases List.mem_append.mp h with h|h
    ·exact hfr l h
    ·rw [List.mem_singleton.mp h];exact s2.free hq
  ·rintro σ H2 ⟨v2,ls',rfl,s2,hd2,hrw2,hn2,hfr⟩
   rw[hkl,List.take_length] at hd2 hrw2
   have hlen:ls'.length=ss.length:=hrw2.1
   walk_at "rd"
   refine⟨a,o,_,rfl,s2 _ _ ha,?_⟩
   refine for_dp (fun i σ H'=>∃v2 v3 v4,σ=[some (.ref a),some (.ref D),v2,v3,v4]/\Same H H'/\DAtS H' D (lkD ss ls')/\Rows (LAt (gE (eds g (ss.take i)))) H' ls' ss) ⟨_,_,_,rfl,s2,hd2,hrw2⟩ ?_ ?_ ?_
   ·rintro i σ H' ⟨v2,v3,v4,rfl,s3,_⟩
    exact s3 _ _ ha
   ·rintro i b T' p σ H' hp hb hT ⟨v2,v3,v4,rfl,s3,hd,hr3⟩
    obtain⟨x,l,hx,hl,rfl⟩:=q9o hll hp
    have hi:i<ss.length:=(List.getElem?_eq_some_iff.mp hx).1
    have ex:ss[i]=x:=(List.getElem?_eq_some_iff.mp hx).2
    have hxs:x∈ss:=List.mem_of_getElem? hx
    have hb':SAt H' b x:=hb
    have s4:=Same.upd (o:= .tup [.ref b,.ref l]) hT
    have h4:=qb (H:=H') (a:=T') (o:= .tup [.ref b,.ref l])
    show _
    generalize upd H' T' (.tup [.ref b,.ref l])=H4 at s4 h4 ⊢
    have s34:=s3.trans s4
    have hb4:SAt H4 b x:=s4 _ _ hb'
    obtain⟨os,hos,ros⟩:=hrw.2 i l x hl hx
    have hos4:=s34 _ _ hos
    have et:eds g (ss.take (i+1))=eds g (ss.take i)++(g x).map fun y=>(x,y):=by rw[List.take_succ_eq_append_getElem hi,ex,qb3]
    have hel4:(eds g (ss.take i)).length<=500*ss.length:=Nat.le_trans (q6m fun y hy=>hfl y (List.mem_of_mem_take hy)) (by rw[List.length_take];omega)
    have hgx:=hfl x hxs
    walk_at "rd"
    refine q1Q (os.map V.ref) (fun j σ H'=>∃v4,σ=[some (.ref a),some (.ref D),some (.ref b),some (.ref l),v4]/\Same H H'/\SAt H' b x/\DAtS H' D (lkD ss ls')/\Rows (LAt (gE (eds g (ss.take i)++((g x).take j).map fun y=>(x,y)))) H' ls' ss) ⟨v4,rfl,s34,hb4,s4 _ _ hd,by simpa using hr3.mono fun _ _=>LAt.mono s4⟩ ?_ ?_ ?_
    ·rintro j σ H' ⟨_,rfl,s5,_⟩
     exact SqL.of (s5 _ _ hos)
    ·rintro j z σ H5 hz ⟨v4,rfl,s5,hb5,hd5,hr5⟩
     have hj:j<(g x).length:=by have:=(List.getElem?_eq_some_iff.mp hz).1;rw[List.length_map,ros.1] at this;exact this
     obtain⟨p,ep,hp⟩:=ros.get hj
     rw[hz] at ep
     cases ep
     have hp5:SAt H5 p (g x)[j]:=SAt.mono s5.ts hp
     have hy:(g x)[j]∈g x:=List.getElem_mem hj
     rw[List.take_succ_eq_append_getElem hj,List.map_append,<-List.append_assoc]
     have hbd:(eds g (ss.take i)++((g x).take j).map fun y=>(x,y)).length<=501000:=by rw[List.length_append,List.length_map,List.length_take];omega
     generalize eds g (ss.take i)++((g x).take j).map (fun y=>(x,y))=es at hr5 hbd ⊢
     generalize (g x)[j]=y at hp5 hy ⊢
     obtain⟨m,hm,em⟩:=List.getElem_of_mem (hcl x hxs y hy)
     have hsm:ss[m]? =some y:=by rw[List.getElem?_eq_getElem hm,em]
     have hlm:ls'[m]? =some (ls'[m]'(by omega)):=List.getElem?_eq_getElem _
     generalize ls'[m]'(by omega)=lm at hlm
     obtain⟨qs,hqs,rqs⟩:=hr5.2 m lm y hlm hsm
     have hl5:=gE_len es y
     have hfm:=hfr lm (List.mem_of_getElem? hlm)
     have dg:=q3Q (.inl hd5) hp5
     rw[qbu hlen nd hsm hlm] at dg
     walk_at "rd"
     refine⟨D,_,rfl,dg,?_⟩
     walk_at "rd"
     refine⟨lm,_,_,rfl,rfl,hqs,by rw[List.length_map,rqs.1];omega,?_⟩
     refine⟨_,rfl,s5.put hfm,SAt.put hqs hb5,DAtS.lput hqs hd5,?_⟩
     exact q8i hr5 hn2 nd hlm hsm hqs rqs hb5
    ·rintro σ H5 ⟨v4,rfl,s5,hb5,hd5,hr5⟩
     rw[List.length_map,ros.1,List.take_length] at hr5
     exact⟨_,_,_,rfl,s5,hd5,by rw[et];exact hr5⟩
   ·rintro σ H3 ⟨v2,v3,v4,rfl,s3,hd3,hr3⟩
    rw[hkl,List.take_length] at hr3
    walk_at "rd"
    exact k D ls' H3 s3 hD hd3 hr3
end
theorem q4F {C:Cl}{s t x y:Sd}(ok:ClOk C)(hx:x∈domS C s)(hy:y∈goL C x):y∈domS C s:=by
 obtain⟨r,hr,rfl⟩:=q4A.mp hx
 unfold goL at hy
 obtain⟨⟨d,i⟩,hi,rfl⟩:=List.mem_map.mp hy
 obtain⟨h1,hc⟩:=List.mem_filter.mp hi
 obtain rfl:d= .go:=by
  simp only[rowD,List.mem_map] at h1
  obtain⟨_,_,e⟩:=h1
  exact(congrArg Prod.fst e).symm
 obtain⟨z,hz,_,_,_,ed⟩:=go_of hc
 have hw:=ok.w z (List.mem_of_getElem? hz)
 refine q4A.mpr ⟨if (q42 s r).rm=z.a then z.b else z.a,?_,?_⟩
 ·split
  ·exact hw.2.1
  ·exact hw.1
 ·rw [show q0m C (q42 s r) Wd.go (i:Int)=_ from ed]
  rfl
theorem q3q {C:Cl}{s:Sd}(h:s.ok C):s∈domS C s:=q4A.mpr ⟨s.rm,h.hrm,rfl⟩
theorem qcX {C:Cl}(ok:ClOk C)(x:Sd):(goL C x).length<=500:=by
 unfold goL
 rw[List.length_map]
 refine Nat.le_trans (List.length_filter_le _ _) ?_
 rw[q2C]
 have:=ok.wl
 omega
theorem q9n (C:Cl)(s:Sd):(domS C s).length=C.rooms.toNat:=by simp[domS]
theorem q4v {C:Cl}{s x:Sd}(ok:ClOk C)(h:s.ok C)(r:Rch (GoR C) s x):x∈domS C s:=by
 induction r with
 |refl=>exact q3q h
 |step _ r ih=>exact q4F (t:=s) ok ih r
theorem qa7 {C:Cl}{s x:Sd}(ok:ClOk C)(h:s.ok C):Rch (fun x y=>y∈gE (eds (goL C) (domS C s)) x) s x↔x∈domS C s/\Rch (GoR C) x s:=by
 constructor
 ·intro r
  induction r with
  |refl=>exact⟨q3q h,.refl⟩
  |step _ r ih=>
   obtain⟨h1,h2⟩:=q6i.mp (q8L.mp r)
   exact⟨h1,Rch.head h2 ih.2⟩
 ·rintro ⟨hd,r⟩
  have key:∀{y:Sd},Rch (GoR C) x y->y∈domS C s/\Rch (fun x y=>y∈gE (eds (goL C) (domS C s)) x) y x:=by
   intro y r
   induction r with
   |refl=>exact⟨hd,.refl⟩
   |step _ r ih=>exact⟨q4F (t:=s) ok ih.1 r,Rch.head (q8L.mpr (q6i.mpr ⟨ih.1,r⟩)) ih.2⟩
  exact(key r).2
def q4k:Sp:=fun vs H Q _=>∃(c q:Addr) (C:Cl) (s:Sd),vs=[.ref c,.ref q]/\ClAt H c C/\ClOk C/\SAt H q s/\s.ok C/\∀(l:Addr) (R:List Sd) (H':Hp),Same H H'->H l=none->qJ SAt H' l R->IsR (GoR C) s R->Q (.ref l) H'
theorem qJ.pairs {H:Hp}{ps:List Addr}{R:List Sd}(h:Rows SAt H ps R):∃l:List (Addr×List Int),l.map (·.1)=ps/\l.map (·.2)=R.map Sd.ns/\∀x∈l,H x.1=some (.tup (x.2.map V.int))/\x.2.length=5:=by
 refine⟨List.zip ps (R.map Sd.ns),?_,?_,fun x hx=>?_⟩
 ·exact List.map_fst_zip (by rw[List.length_map,h.1];exact Nat.le_refl _)
 ·exact List.map_snd_zip (by rw[List.length_map,h.1];exact Nat.le_refl _)
 ·obtain ⟨i,hi,e⟩:=List.getElem_of_mem hx
  rw[List.length_zip,List.length_map] at hi
  have hi1:i<ps.length:=by omega
  have hi2:i<R.length:=by omega
  have:=h.2 i ps[i] R[i] (List.getElem?_eq_getElem hi1) (List.getElem?_eq_getElem hi2)
  rw[List.getElem_zip] at e
  subst e
  simp only[List.getElem_map]
  exact⟨this,rfl⟩
theorem q2P {H:Hp}{ps:List Addr}{R:List Sd}{l l':List (Addr×List Int)}(h2:l.map (·.2)=R.map Sd.ns)(h3:∀x∈l,H x.1=some (.tup (x.2.map V.int))/\x.2.length=5)(hp:l'.Perm l)(hs:l'.Pairwise fun a b=>¬b.2<a.2):
  ∃R',R'.Perm R/\Ord R'/\Rows SAt H (l'.map (·.1)) R':=by
 have ex:∀x∈l',∃s:Sd,x.2=s.ns:=fun x hx=>by
  have:x.2∈l.map (·.2):=List.mem_map.mpr ⟨x,hp.mem_iff.mp hx,rfl⟩
  rw[h2] at this
  obtain⟨s,_,e⟩:=List.mem_map.mp this
  exact⟨s,e.symm⟩
 obtain⟨R',hR⟩:∃R':List Sd,l'.map (·.2)=R'.map Sd.ns:=by
  clear hp hs
  induction l' with
  |nil=>exact⟨[],rfl⟩
  |cons x l' ih=>
   obtain⟨R',e⟩:=ih fun y hy=>ex y (List.mem_cons_of_mem _ hy)
   obtain⟨s,es⟩:=ex x (.head _)
   exact⟨s::R',by simp[e,es]⟩
 have pm:(R'.map Sd.ns).Perm (R.map Sd.ns):=by rw[<-hR,<-h2];exact hp.map _
 refine⟨R',?_,?_,?_⟩
 ·have inv:∀l:List Sd,(l.map Sd.ns).map (fun k:List Int=>(⟨k.getD 0 0,k.getD 1 0,k.getD 2 0,k.getD 3 0,k.getD 4 0⟩:Sd))=l:=fun l=>by
   rw[List.map_map]
   exact(List.map_congr_left fun a _=>rfl).trans (List.map_id l)
  have:=pm.map fun k:List Int=>(⟨k.getD 0 0,k.getD 1 0,k.getD 2 0,k.getD 3 0,k.getD 4 0⟩:Sd)
  rwa [inv,inv] at this
 ·have:(l'.map (·.2)).Pairwise fun a b=>¬b<a:=List.pairwise_map.mpr hs
  rw[hR] at this
  exact List.pairwise_map.mp this
 ·have hl:l'.length=R'.length:=by have:=congrArg List.length hR;simpa using this
  refine⟨by simpa using hl,fun i p x hp' hx=>?_⟩
  have hi:i<R'.length:=(List.getElem?_eq_some_iff.mp hx).1
  have e1:l'[i]'(by omega)∈l':=List.getElem_mem _
  have e2:=(h3 _ (hp.mem_iff.mp e1)).1
  have e3:(l'[i]'(by omega)).1=p:=by simpa[show i<l'.length by omega] using hp'
  have e4:(l'[i]'(by omega)).2=x.ns:=by
   have:=congrArg (fun z=>z[i]?) hR
   simp only[List.getElem?_map,hx,List.getElem?_eq_getElem (show i<l'.length by omega),Option.map_some] at this
   exact Option.some.inj this
  rw[e3,e4] at e2
  exact e2
section
variable {P:Program}{w:World}{K:W.Frag}{mg:Str->Option Value}{base:Heap}{cs:Cs}
theorem qar (T:Txt mg cs)(L:Laid K mg "round_of" q16 ["cellar","stand"])(C_go_links:Cal P w K mg base 8 "go_links" ["cellar","stand"] spGL)(C_counts_from:Cal P w K mg base 1 "counts_from" ["begins","links"] spCF)(C_turned_links:Cal P w K mg base 1 "turned_links" ["links"] spTL):Cal P w K mg base 9 "round_of" ["cellar","stand"] q4k:=by
 refine L.cal (k:=8) q1c (fun vs H Q E h=>?_) (fun f cdv A outer s H vs Q E hr h=>?_)
 ·obtain ⟨c,q,C,st,rfl,_⟩:=h
  rfl
 ·obtain ⟨c,q,C,st,rfl,hC,ok,hq,sok,k⟩:=h
  have big:=qM
  have ok1:=ok.r1
  have ok2:=ok.r2
  have hdl:=q9n C st
  have nd:=q3P C st
  refine⟨_,(qc (qw (i:=2) q1c.nd rfl (Or.inl rfl) (qp C_go_links hr (by decide) rfl (qa (pv 0) (qa (pv 1) qe))))
   (qc (q8q (qw (i:=3) q1c.nd rfl (Or.inl rfl) (qp C_counts_from hr (by decide) rfl (qa (q2D (qa (pv 1) qe)) (qa (pv 2) qe)))))
   (qc (qw (i:=4) q1c.nd rfl (Or.inr rfl) (qp C_counts_from hr (by decide) rfl (qa (q2D (qa (pv 1) qe)) (qa (qp C_turned_links hr (by decide) rfl (qa (pv 2) qe)) qe))))
   (qf (q8q (ql (qB (sortTW K) rfl T.n_sorted q3W (qa (q0P (q0q (N:=["other","gone_from"]) (own:=1) (caps:=[4]) ["cellar","stand","links","gone_to","gone_from"] (qd q16) (by decide +kernel)) rfl (qbo K (pv 3)) (fun _ _ _ _=>(qq (i:=0) (show List.Nodup (["other","gone_from"]:List Str) by decide +kernel) rfl (Or.inl rfl))) (fun _ _ _ _=>(q8y (q1M (pc_din (q0Q hr) (pv 0) (pv 1))))) (fun _ _ _ _=>(pv 0))) qe)))))))),?_⟩
  walk_at "rd"
  refine⟨c,q,C,st,rfl,hC,ok,hq,sok,fun a ls H1 s1 ha0 ha hrw=>?_⟩
  walk_at "rd"
  refine⟨a,_,ha,fun o=>?_⟩
  have s2:Same H (upd H1 a (.frz o (.dT (dkv (lkD (domS C st) ls))))):=s1.put ha0
  have ha2:=qb (H:=H1) (a:=a) (o:= .frz o (.dT (dkv (lkD (domS C st) ls))))
  have hrw2:Rows (LAt (goL C)) (upd H1 a (.frz o (.dT (dkv (lkD (domS C st) ls))))) ls (domS C st):=hrw.mono fun _ _=>LAt.dput ha
  generalize upd H1 a (.frz o (.dT (dkv (lkD (domS C st) ls))))=H2 at s2 ha2 hrw2 ⊢
  walk_at "rd"
  intro b1 hb1
  have s3:=Same.upd (o:= .lst [.ref q]) hb1
  have h3:=qb (H:=H2) (a:=b1) (o:= .lst [.ref q])
  generalize upd H2 b1 (.lst [.ref q])=H3 at s3 h3 ⊢
  have s03:=s2.trans s3
  walk_at "rd"
  refine⟨b1,a,st,domS C st,goL C,ls,rfl,⟨[q],h3,Rows.nil.snoc (s03 _ _ hq)⟩,.inr ⟨o,s3 _ _ ha2⟩,hrw2.mono fun _ _=>LAt.mono s3,nd,q3q sok,fun x hx y hy=>q4F (t:=st) ok hx hy,by omega,fun d1 row1 ns1 H4 s4 hd1f hd1 hns1 nd1 sub1 mem1=>?_⟩
  have s04:=s03.trans s4
  walk_at "rd"
  intro b2 hb2
  have s5:=Same.upd (o:= .lst [.ref q]) hb2
  have h5:=qb (H:=H4) (a:=b2) (o:= .lst [.ref q])
  generalize upd H4 b2 (.lst [.ref q])=H5 at s5 h5 ⊢
  have s35:=s3.trans (s4.trans s5)
  have s05:=s2.trans s35
  walk_at "rd"
  refine⟨a,o,domS C st,goL C,ls,rfl,s35 _ _ ha2,hrw2.mono fun _ _=>LAt.mono s35,nd,fun x hx y hy=>q4F (t:=st) ok hx hy,by omega,fun x _=>qcX ok x,fun t ls' H6 s6 ht0 ht hrt=>?_⟩
  have s06:=s05.trans s6
  walk_at "rd"
  refine⟨b2,t,st,domS C st,gE (eds (goL C) (domS C st)),ls',rfl,⟨[q],s6 _ _ h5,Rows.nil.snoc (s06 _ _ hq)⟩,.inl ht,hrt,nd,q3q sok,fun x hx y hy=>(q6i.mp (q8L.mp hy)).1,by omega,fun d2 row2 ns2 H7 s7 hd2f hd2 hns2 nd2 sub2 mem2=>?_⟩
  have s07:=s06.trans s7
  have hd1':DAtS H7 d1 (cnD row1 ns1):=s7 _ _ (s6 _ _ (s5 _ _ hd1))
  have hd10:H d1=none:=s03.free hd1f
  have ne12:d2≠d1:=fun z=>by subst z;have:=s6 _ _ (s5 _ _ hd1);rw[hd2f] at this;cases this
  walk_at "rd"
  refine⟨d1,_,hd1',fun o1=>?_⟩
  have s8:Same H (upd H7 d1 (.frz o1 (.dT (dkv (cnD row1 ns1))))):=s07.put hd10
  have h8:=qb (H:=H7) (a:=d1) (o:= .frz o1 (.dT (dkv (cnD row1 ns1))))
  have hd8:DAtS (upd H7 d1 (.frz o1 (.dT (dkv (cnD row1 ns1))))) d2 (cnD row2 ns2):=by
   show upd H7 d1 _ d2=_
   rw[qi ne12];exact hd2
  generalize upd H7 d1 (.frz o1 (.dT (dkv (cnD row1 ns1))))=H8 at s8 h8 hd8 ⊢
  have hl1:row1.length<=14:=by have:=sub_len nd1 sub1;omega
  have hkl:(dkv (cnD row1 ns1)).length=row1.length:=by rw[show(dkv (cnD row1 ns1)).length=(cnD row1 ns1).length by simp[dkv],q9A hns1]
  walk_at "rd"
  refine⟨d1,o1,_,rfl,h8,fun D hD=>?_⟩
  refine qdd (fun i σ H'=>∃v0,σ=[v0,some (.ref d2)]/\Same H8 H'/\qJ SAt H' D ((row1.take i).filter fun x=>decide (x∈row2))) ⟨none,rfl,Same.upd hD,⟨[],qb,Rows.nil⟩⟩ ?_ ?_ ?_
  ·rintro i σ H' ⟨v0,rfl,s9,_⟩
   exact s9 _ _ h8
  ·rintro i b p σ H' hp hb ⟨v0,rfl,s9,qs,hqs,rqs⟩
   have hi:i<row1.length:=by have:=(List.getElem?_eq_some_iff.mp hp).1;omega
   have hp':p.1=row1[i].key:=by
    have e:(cnD row1 ns1)[i]? =some (row1[i],.int (ns1[i]'(by omega))):=by unfold cnD;rw[List.getElem?_zipWith,List.getElem?_eq_getElem hi,List.getElem?_eq_getElem (by omega)]
    rw[dkv,List.getElem?_map,e] at hp
    rw[<-Option.some.inj hp]
   have hb':SAt H' b row1[i]:=by rw[hp'] at hb;exact hb
   have hd9:DAtS H' d2 (cnD row2 ns2):=s9 _ _ hd8
   have hql:qs.length<=14:=by rw[rqs.1];refine Nat.le_trans (List.length_filter_le _ _) ?_;rw[List.length_take];omega
   rw[List.take_succ_eq_append_getElem hi,List.filter_append]
   walk_at "rd"
   refine⟨d2,_,rfl,q3Q (.inl hd9) hb',?_⟩
   rw[q1a,q22 hns2]
   walk_at "rd"
   by_cases hin:row1[i]∈row2
   ·rw [decide_eq_true hin]
    walk_at "rd"
    refine⟨_,hqs,by rw[List.length_map];omega,_,rfl,s9.put hD,?_⟩
    rw[show([row1[i]].filter fun x=>decide (x∈row2))=[row1[i]] by simp[hin]]
    exact q0J (fun _ _=>SAt.put hqs) rqs hb'
   ·rw [decide_eq_false hin]
    walk_at "rd"
    refine⟨_,rfl,s9,qs,hqs,?_⟩
    rw[show([row1[i]].filter fun x=>decide (x∈row2))=[] by simp[hin],List.append_nil]
    exact rqs
  ·rintro σ H9 ⟨v0,rfl,s9,ps,hps,rps⟩
   rw[hkl,List.take_length] at rps
   obtain⟨l,e1,e2,e3⟩:=qJ.pairs rps
   walk_at "rd"
   refine⟨D,l,5,rfl,SqL.of (by rw[hps,<-e1,List.map_map];rfl),by decide,e3,fun r l' hr0 hp hs=>?_⟩
   ·obtain ⟨R',pm,od,rr⟩:=q2P (ps:=ps) e2 e3 hp hs
    have s10:=Same.upd (o:= .lst (l'.map fun x=>V.ref x.1)) hr0
    have s0x:=s8.trans s9
    refine k r R' _ (s0x.trans s10) (s0x.free hr0) ⟨l'.map (·.1),by rw[qb,List.map_map];rfl,rr.mono fun _ _=>SAt.mono s10.ts⟩ ⟨?_,od,fun t=>?_⟩
    ·exact pm.nodup_iff.mpr (nd1.filter _)
    ·rw [pm.mem_iff,List.mem_filter,decide_eq_true_eq,mem1,mem2,qa7 ok sok]
     exact⟨fun⟨a,_,b⟩=>⟨a,b⟩,fun⟨a,b⟩=>⟨a,q4v ok sok a,b⟩⟩
end
theorem q7Q {r:Int}{H:Hp}:∀{xs:List V},(∀x∈xs,q2N r H x)->∃(ps:List Addr) (ws:List Way),xs=ps.map V.ref/\Rows q4S H ps ws/\∀x∈ws,(0<=x.a/\x.a<r)/\(0<=x.b/\x.b<r)/\x.a≠x.b/\x.g.ok
 |[],_=>⟨[],[],rfl,Rows.nil,fun x h=>nomatch h⟩
 |x::xs,h=>by
  obtain⟨ps,ws,e,hr,hw⟩:=q7Q fun y hy=>h y (List.mem_cons_of_mem _ hy)
  obtain⟨p,g,a,b,bk,gt,ex,h1,h2,h3,h4,h5,h6⟩:=h x (.head _)
  refine⟨p::ps,⟨a,b,gt,bk⟩::ws,by rw[ex,e];rfl,⟨by simp[hr.1],fun i q y hq hy=>?_⟩,fun y hy=>?_⟩
  ·cases i with
   |zero=>cases hq;cases hy;exact⟨g,h1,h2⟩
   |succ i=>exact hr.2 i q y hq hy
  ·rcases List.mem_cons.mp hy with rfl|hy
   ·exact ⟨h4,h5,h6,h3⟩
   ·exact hw y hy
theorem q3l {r lo hi:Int}{H:Hp}:∀{xs:List V},(∀x∈xs,qW r lo hi H x)->∃(ps:List Addr) (ws:List (Int×Int)),xs=ps.map V.ref/\Rows q1b H ps ws/\∀x∈ws,(0<=x.1/\x.1<r)/\lo<=x.2/\x.2<=hi
 |[],_=>⟨[],[],rfl,Rows.nil,fun x h=>nomatch h⟩
 |x::xs,h=>by
  obtain⟨ps,ws,e,hr,hw⟩:=q3l fun y hy=>h y (List.mem_cons_of_mem _ hy)
  obtain⟨p,a,n,ex,h1,h2,h3⟩:=h x (.head _)
  refine⟨p::ps,(a,n)::ws,by rw[ex,e];rfl,⟨by simp[hr.1],fun i q y hq hy=>?_⟩,fun y hy=>?_⟩
  ·cases i with
   |zero=>cases hq;cases hy;exact h1
   |succ i=>exact hr.2 i q y hq hy
  ·rcases List.mem_cons.mp hy with rfl|hy
   ·exact ⟨h2,h3⟩
   ·exact hw y hy
theorem qdf {H:Hp}{p p1 p2 p3 p4:Addr}{r f l b wt:Int}{x1 x2 x3 x4:List V}(h0:1<=r/\r<=14)(hf:0<=f/\f<r)(hl:0<=l/\l<r)(hb:0<=b/\b<256)(hw:0<=wt/\wt<10)(hp:H p=some (.tup [.int r,.int f,.int l,.ref p1,.ref p2,.ref p3,.ref p4,.int b,.int wt]))(e1:H p1=some (.tup x1))(e2:H p2=some (.tup x2))(e3:H p3=some (.tup x3))(e4:H p4=some (.tup x4))
  (w1:∀x∈x1,q2N r H x)(w2:∀x∈x2,qW r 0 11 H x)(w3:∀x∈x3,qW r 1 255 H x)(w4:∀x∈x4,qW r 0 9 H x)(l1:x1.length<=20)(l2:x2.length<=8)(l3:x3.length<=4)(l4:x4.length<=4):∃C,ClAt H p C/\ClOk C/\C.rooms=r/\C.ways.length=x1.length/\C.things.length=x2.length/\C.levers.length=x3.length/\C.wheels.length=x4.length:=by
 obtain⟨q1,ws,rfl,r1,k1⟩:=q7Q w1
 obtain⟨q2,ts,rfl,r2,k2⟩:=q3l w2
 obtain⟨q3,vs,rfl,r3,k3⟩:=q3l w3
 obtain⟨q4,us,rfl,r4,k4⟩:=q3l w4
 rw[List.length_map] at l1 l2 l3 l4
 have n1:=r1.1
 have n2:=r2.1
 have n3:=r3.1
 have n4:=r4.1
 exact⟨⟨r,f,l,ws,ts,vs,us,b,wt⟩,⟨p1,p2,p3,p4,hp,⟨q1,e1,r1⟩,⟨q2,e2,r2⟩,⟨q3,e3,r3⟩,⟨q4,e4,r4⟩⟩,
  {r1:=h0.1,r2:=h0.2,f:=hf,l:=hl,wl:=by show ws.length<=20;omega,tl:=by show ts.length<=8;omega,ll:=by show vs.length<=4;omega,vl:=by show us.length<=4;omega,w:=k1,t:=fun x hx=>⟨(k2 x hx).1,by have:=(k2 x hx).2;omega,by have:=(k2 x hx).2;omega⟩,lv:=fun x hx=>⟨(k3 x hx).1,by have:=(k3 x hx).2;omega,by have:=(k3 x hx).2;omega⟩,wh:=fun x hx=>⟨(k4 x hx).1,by have:=(k4 x hx).2;omega,by have:=(k4 x hx).2;omega⟩,b:=by show 0<=b/\b<=255;omega,wa:=by show 0<=wt/\wt<=9;omega},rfl,by rw[List.length_map];exact n1.symm,by rw[List.length_map];exact n2.symm,by rw[List.length_map];exact n3.symm,by rw[List.length_map];exact n4.symm⟩
section
variable {P:Program}{w:World}{K:W.Frag}{mg:Str->Option Value}{base:Heap}{cs:Cs}
theorem qau (T:Txt mg cs)(L:Laid K mg "_law_gate" q1h ["_law_cell"]):Cal P w K mg base 1 "_law_gate" ["_law_cell"] qbi:=by
 refine L.cal (k:=0) q1J (fun vs H Q E h=>?_) (fun f cdv A outer s H vs Q E hr h=>?_)
 ·obtain ⟨c,rfl,_⟩:=h
  rfl
 ·obtain ⟨c,rfl,k⟩:=h
  have a2:=q07 (c / 10) (n:=2) (by decide)
  have a2':=q0b (c / 10) (n:=2) (by decide)
  have a3:=q07 (c / 10) (n:=3) (by decide)
  have a3':=q0b (c / 10) (n:=3) (by decide)
  have b2:=q07 (c / 10 / 3) (n:=2) (by decide)
  have b2':=q0b (c / 10 / 3) (n:=2) (by decide)
  have door:∀p,H p=none->Q (.ref p) (upd H p (.tup [.str "door",.int (c / 10 % 2)])):=fun p hp=>k p (.door (c / 10 % 2)) _ (Same.upd hp) (show 0<=c / 10 % 2/\c / 10 % 2<12 by omega) qb
  refine⟨_,(qc (qw (i:=1) q1J.nd rfl (Or.inl rfl) (qx qU (pv 0) qg))
   (qc (qw (i:=0) q1J.nd rfl (Or.inl rfl) (qx q06 (pv 0) qg))
   (qc (qV (PW.pt (q2i (qv q0l (pv 1) qg (qt _)) (q1F (qv q0l (pv 1) qg (qt _))))) (qf (ql (qR (qa qD (qa (qx qU (pv 0) qg) qe))))) qu)
   (qc (qV (qv q0l (pv 1) qg (qt _)) (qf (ql (qR (qa qD (qa (qx qU (pv 0) qg) qe))))) qu)
   (qc (qV (qv q0l (pv 1) qg (qt _)) (qf (ql (qR (qa qD (qa (qx qU (pv 0) qg) qe))))) qu)
   (qc (qV (qv q0l (pv 1) qg (qt _)) (qf (ql (qR (qa qD (qa (qx q1P (qx qU (pv 0) qg) qg) (qa (qx qU (qx q06 (pv 0) qg) qg) qe)))))) qu)
   (qc (qV (qv q0l (pv 1) qg (qt _)) (qf (ql (qR (qa qD (qa (qx q1P (qx qU (pv 0) qg) qg) qe))))) qu)
   (qf (ql (qR (qa qD qe))))))))))),?_⟩
  walk_at "rd"
  refine ifd (fun h1=>?_) (fun h1=>?_)
  ·walk_at "rd"
   exact door
  walk_at "rd"
  refine ifd (fun h2=>?_) (fun h2=>?_)
  ·walk_at "rd"
   exact door
  walk_at "rd"
  refine ifd (fun h3=>?_) (fun h3=>?_)
  ·walk_at "rd"
   exact fun p hp=>k p (.need (c / 10 % 2)) _ (Same.upd hp) (show 0<=c / 10 % 2/\c / 10 % 2<12 by omega) qb
  walk_at "rd"
  refine ifd (fun h4=>?_) (fun h4=>?_)
  ·walk_at "rd"
   exact fun p hp=>k p (.bar (c / 10 % 2)) _ (Same.upd hp) (show 0<=c / 10 % 2/\c / 10 % 2<8 by omega) qb
  walk_at "rd"
  refine ifd (fun h5=>?_) (fun h5=>?_)
  ·walk_at "rd"
   exact fun p hp=>k p (.wade (c / 10 % 3+2) (c / 10 / 3 % 2)) _ (Same.upd hp) (show(0<=c / 10 % 3+2/\c / 10 % 3+2<10)/\0<=c / 10 / 3 % 2/\c / 10 / 3 % 2<12 by omega) qb
  walk_at "rd"
  refine ifd (fun h6=>?_) (fun h6=>?_)
  ·walk_at "rd"
   exact fun p hp=>k p (.float (c / 10 % 3+2)) _ (Same.upd hp) (show 0<=c / 10 % 3+2/\c / 10 % 3+2<10 by omega) qb
  walk_at "rd"
  exact fun p hp=>k p .plain _ (Same.upd hp) trivial qb
def spCelL (K:W.Frag):Sp:=fun vs H Q _=>∃(a:Addr) (ns:List Int),vs=[.ref a]/\SqL K H a (ns.map V.int)/\ns.length<=63/\∀(p:Addr) (C:Cl) (H':Hp),Same H H'->ClAt H' p C->ClOk C->Small C->Q (.ref p) H'
theorem qcB {d1 d2:Tok}(T:Txt mg cs)(L:Laid K mg "_law_cellar" qQ ["_law_script"])(C__law_cell_at:Cal P w K mg base 1 "_law_cell_at" ["_law_script","_law_k"] (q87 K))(C__law_gate:Cal P w K mg base 1 "_law_gate" ["_law_cell"] qbi)(C_cellar:CalD P w K mg base 4 "cellar" ["rooms","first","last","ways","things","levers","wheels","bars","water"] qbW q0U [.none,.none,.none,.int 0 d1,.int 0 d2]):Cal P w K mg base 5 "_law_cellar" ["_law_script"] (spCelL K):=by
 refine L.cal (k:=4) qr (fun vs H Q E h=>?_) (fun f cdv A outer s H vs Q E hr h=>?_)
 ·obtain ⟨a,ns,rfl,_⟩:=h
  rfl
 ·obtain ⟨a,ns,rfl,hS,hl,k⟩:=h
  have big:=qM
  refine⟨_,(qc (qw (i:=1) qr.nd rfl (Or.inl rfl) (qp C__law_cell_at hr (by decide) rfl (qa (pv 0) (qa qg qe))))
   (qc (qw (i:=2) qr.nd rfl (Or.inr rfl) (qx q1P qg (qx qU (pv 1) qg)))
   (qc (qw (i:=3) qr.nd rfl (Or.inl rfl) (q2D qe))
   (qc (q0B PassesOwn.never rfl (q04 rfl T.n_range (qa (qx op_mul (qx qU (qx q06 (pv 1) qg) qg) (q0k int1 rfl T.n_int qbE (qa (q05 q45 (pv 2) qg (qt _)) qe))) qe)) (qq (i:=4) qr.nd rfl (Or.inl rfl)) (qc (qw (i:=5) qr.nd rfl (Or.inl rfl) (qp C__law_cell_at hr (by decide) rfl (qa (pv 0) (qa (qx q1P qg (pv 4)) qe))))
   (qc (qw (i:=6) qr.nd rfl (Or.inl rfl) (qx qU (pv 5) (pv 2)))
   (qc (qw (i:=7) qr.nd rfl (Or.inl rfl) (qx qU (qx q1P (qx q1P (pv 6) qg) (qx qU (qx q06 (pv 5) qg) (qx q3H (pv 2) qg))) (pv 2)))
   (qf (qF (q8A PySem.F.plainAttrs_list PySem.F.slot_list_append PySem.F.type_list_append q19 (pv 3) (qa (qR (qa (pv 6) (qa (pv 7) (qa (qp C__law_gate hr (by decide) rfl (qa (qx q06 (pv 5) qg) qe)) (qa (q05 q45 (qx qU (qx q06 (pv 5) qg) qg) qg (qt _)) qe))))) qe))))))))
   (qc (qw (i:=8) qr.nd rfl (Or.inr rfl) (q0P (q0q (N:=["_law_k","_law_script"]) (own:=1) (caps:=[0]) ["_law_script","_law_first","_law_rooms","_law_ways","_law_k","_law_cell","_law_a","_law_b","_law_some","_law_things","_law_levers","_law_wheels","_law_last","_law_more"] (qd qQ) (by decide +kernel)) rfl (q04 rfl T.n_range (qa qg qe)) (fun _ _ _ _=>(qq (i:=0) (show List.Nodup (["_law_k","_law_script"]:List Str) by decide +kernel) rfl (Or.inl rfl))) (fun _ _ _ _=>q0O) (fun _ _ _ _=>(qp C__law_cell_at hr (by decide) rfl (qa (pv 1) (qa (qx q1P qg (pv 0)) qe))))))
   (qc (q2k (i:=9) qr.nd rfl rfl (q0q (N:=["_law_k","_law_some","_law_rooms"]) (own:=1) (caps:=[8,2]) ["_law_script","_law_first","_law_rooms","_law_ways","_law_k","_law_cell","_law_a","_law_b","_law_some","_law_things","_law_levers","_law_wheels","_law_last","_law_more"] (qd qQ) (by decide +kernel)) rfl (q04 rfl T.n_range (qa (qx qU (qx q06 (pv 1) qg) qg) qe)) (fun _ _ _ _=>(qq (i:=0) (show List.Nodup (["_law_k","_law_some","_law_rooms"]:List Str) by decide +kernel) rfl (Or.inl rfl))) (fun _ _ _ _=>q0O) (fun _ _ _ _=>(qR (qa (qx qU (qA (q01 K) (pv 1) (pv 0) (fun _ _=>rfl)) (pv 2)) (qa (qx qU (qx q06 (qA (q01 K) (pv 1) (pv 0) (fun _ _=>rfl)) qg) qg) qe)))))
   (qc (q2k (i:=10) qr.nd rfl rfl (q0q (N:=["_law_k","_law_some","_law_rooms"]) (own:=1) (caps:=[8,2]) ["_law_script","_law_first","_law_rooms","_law_ways","_law_k","_law_cell","_law_a","_law_b","_law_some","_law_things","_law_levers","_law_wheels","_law_last","_law_more"] (qd qQ) (by decide +kernel)) rfl (q04 rfl T.n_range (qa (qx qU (qx q06 (pv 1) qg) qg) qe)) (fun _ _ _ _=>(qq (i:=0) (show List.Nodup (["_law_k","_law_some","_law_rooms"]:List Str) by decide +kernel) rfl (Or.inl rfl))) (fun _ _ _ _=>q0O) (fun _ _ _ _=>(qR (qa (qx qU (qx q06 (qA (q01 K) (pv 1) (pv 0) (fun _ _=>rfl)) qg) (pv 2)) (qa (qx q1P qg (qx qU (qx q06 (qA (q01 K) (pv 1) (pv 0) (fun _ _=>rfl)) qg) qg)) qe)))))
   (qc (q2k (i:=11) qr.nd rfl rfl (q0q (N:=["_law_k","_law_some","_law_rooms"]) (own:=1) (caps:=[8,2]) ["_law_script","_law_first","_law_rooms","_law_ways","_law_k","_law_cell","_law_a","_law_b","_law_some","_law_things","_law_levers","_law_wheels","_law_last","_law_more"] (qd qQ) (by decide +kernel)) rfl (q04 rfl T.n_range (qa (qx q06 (qx qU (qx q06 (pv 1) qg) qg) qg) qe)) (fun _ _ _ _=>(qq (i:=0) (show List.Nodup (["_law_k","_law_some","_law_rooms"]:List Str) by decide +kernel) rfl (Or.inl rfl))) (fun _ _ _ _=>q0O) (fun _ _ _ _=>(qR (qa (qx qU (qx q06 (qA (q01 K) (pv 1) (pv 0) (fun _ _=>rfl)) qg) (pv 2)) (qa (qx qU (qx q06 (qA (q01 K) (pv 1) (pv 0) (fun _ _=>rfl)) qg) qg) qe)))))
   (qc (qw (i:=12) qr.nd rfl (Or.inl rfl) (qx qU (qp C__law_cell_at hr (by decide) rfl (qa (pv 0) (qa qg qe))) (pv 2)))
   (qc (qw (i:=13) qr.nd rfl (Or.inl rfl) (qp C__law_cell_at hr (by decide) rfl (qa (pv 0) (qa qg qe))))
   (qf (ql (q6d C_cellar (q6u d1 d2) (q6n d1 d2) hr (by decide) rfl (qa (pv 2) (qa (qx qU (pv 13) (pv 2)) (qa (pv 12) (qa (pv 3) (qa (pv 9) (qa (pv 10) (qa (pv 11) (qa (qx qU (qx q06 (pv 13) qg) qg) (qa (qx qU (qx q06 (pv 13) qg) qg) qe)))))))))))))))))))))),?_⟩
  walk_at "rd"
  refine⟨a,ns,0,rfl,hS,hl,by decide,?_⟩
  generalize ns.getD (0:Int).toNat 0=n0
  have r0:=q07 n0 (n:=5) (by decide)
  have r1:=q0b n0 (n:=5) (by decide)
  have m0:=q07 (n0 / 5) (n:=5) (by decide)
  have m1:=q0b (n0 / 5) (n:=5) (by decide)
  walk_at "rd"
  intro W hW
  generalize hR:1+n0 % 5=R
  have hSW:=(Same.upd (o:= .lst []) hW).seq hS
  walk_at "rd"
  obtain⟨N,eN,hN4,hN1⟩:∃N:Nat,(n0 / 5 % 5*if decide (1<R)=true then 1 else 0)=(N:Int)/\N<=4/\(0<N->1<R):=by
   by_cases h:1<R
   ·rw [decide_eq_true h,if_pos rfl,Int.mul_one]
    exact⟨(n0 / 5 % 5).toNat,by omega,by omega,fun _=>h⟩
   ·rw [decide_eq_false h,if_neg (by decide),Int.mul_zero]
    exact⟨0,rfl,by omega,fun h=>absurd h (by decide)⟩
  rw[eN]
  refine r_rg (by omega) ?_
  have hR1:1<=R:=by omega
  have hR5:R<=5:=by omega
  have hR0:0<R:=by omega
  refine q9a (fun i σ H'=>∃v4 v5 v6 v7,σ=[some (.ref a),some (.int n0),some (.int R),some (.ref W),v4,v5,v6,v7,none,none,none,none,none,none]/\Same H H'/\∃xs,H' W=some (.lst xs)/\xs.length<=i/\∀x∈xs,q2N R H' x) ⟨none,none,none,none,rfl,Same.upd hW,[],qb,Nat.le_refl _,fun x hx=>by cases hx⟩ ?_ ?_
  ·rintro i σ H' hi ⟨v4,v5,v6,v7,rfl,s1,xs,hx1,hxl,hok⟩
   have hi':i<N:=by simpa using hi
   have hR2:=hN1 (by omega)
   walk_at "rd"
   refine⟨a,ns,_,rfl,s1.seq hS,hl,by omega,?_⟩
   generalize ns.getD _ 0=m
   have a0:=q07 m (n:=R) hR0
   have a1:=q0b m (n:=R) hR0
   have d0:=q07 (m / 5) (n:=R - 1) (by omega)
   have d1:=q0b (m / 5) (n:=R - 1) (by omega)
   have b0:=q07 (m % R+1+m / 5 % (R - 1)) (n:=R) hR0
   have b1:=q0b (m % R+1+m / 5 % (R - 1)) (n:=R) hR0
   have hab:m % R≠(m % R+1+m / 5 % (R - 1)) % R:=by
    rw[Int.add_assoc]
    exact fun z=>off_ne a0 a1 (by omega) (by omega) z.symm
   walk_at "rd"
   refine⟨_,rfl,fun g gt H2 s2 gok hg=>?_⟩
   walk_at "rd"
   intro p hp
   have hD2:=q0e (o:= .tup [.int (m % R),.int ((m % R+1+m / 5 % (R - 1)) % R),.ref g,.bl (decide (0<m / 7 % 4))]) (s2 _ _ hx1) hp
   walk_at "rd"
   refine qce hD2 (by omega) ?_
   have ts2:=(s2.ts.trans (q00.new (o:= .tup [.int (m % R),.int ((m % R+1+m / 5 % (R - 1)) % R),.ref g,.bl (decide (0<m / 7 % 4))]) hp)).trans (q00.lst (o:= .lst (xs++[.ref p])) hD2)
   refine⟨_,_,_,_,rfl,((s1.trans s2).trans (Same.upd hp)).put hW,_,qb,by rw[List.length_append];simp only[List.length_singleton];omega,fun x hx=>?_⟩
   rcases List.mem_append.mp hx with hx|hx
   ·exact q2N.mono ts2 (hok x hx)
   ·obtain rfl:=List.mem_singleton.mp hx
    exact⟨p,g,_,_,_,_,rfl,q00.lst (o:= .lst (xs++[.ref p])) hD2 _ _ qb,(q00.lst (o:= .lst (xs++[.ref p])) hD2) _ _ (q0e hg hp),gok,⟨a0,a1⟩,⟨b0,b1⟩,hab⟩
  ·rintro σ H1 ⟨v4,v5,v6,v7,rfl,s1,xw,hxw,hwl,hwok⟩
   have hwl':xw.length<=N:=by simpa using hwl
   walk_at "rd"
   intro S hS0
   refine q0K (fun i σ H'=>∃v0,σ=[v0,some (.ref a)]/\Same H1 H'/\∃ms:List Int,H' S=some (.lst (ms.map V.int))/\ms.length=i) ⟨none,rfl,Same.upd hS0,[],qb,rfl⟩ ?_ ?_
   ·rintro i σ H' hi ⟨v0,rfl,s2,ms,hms,hml⟩
    have hi':i<5:=by simpa using hi
    walk_at "rd"
    refine⟨a,ns,_,rfl,(s1.trans s2).seq hS,hl,by omega,?_⟩
    generalize ns.getD _ 0=m
    refine⟨_,hms,by rw[List.length_map];omega,_,rfl,s2.put hS0,ms++[m],?_,by simp[hml]⟩
    rw[qb,List.map_append]
    rfl
   rintro σ H2 ⟨v0,rfl,s2,ms,hms,hml⟩
   have hml':ms.length=5:=by simpa using hml
   have s02:=s1.trans s2
   have t0:=q07 (n0 / 35) (n:=3) (by decide)
   have t1:=q0b (n0 / 35) (n:=3) (by decide)
   have u0:=q07 (n0 / 105) (n:=2) (by decide)
   have u1:=q0b (n0 / 105) (n:=2) (by decide)
   have q0:=q07 (n0 / 210) (n:=3) (by decide)
   have q1:=q0b (n0 / 210) (n:=3) (by decide)
   walk_at "rd"
   intro D1 hD1
   refine q0K (fun i σ H'=>∃v0,σ=[v0,some (.ref S),some (.int R)]/\Same H2 H'/\∃xs,H' D1=some (.lst xs)/\xs.length=i/\∀x∈xs,qW R 0 11 H' x) ⟨none,rfl,Same.upd hD1,[],qb,rfl,fun x hx=>by cases hx⟩ ?_ ?_
   ·rintro i σ H' hi ⟨v0,rfl,s3,xs,hx1,hxl,hok⟩
    have hi':i<3:=by omega
    have hat:(ms.map V.int)[i]? =some (.int (ms.getD i 0)):=by simp[List.getD_eq_getElem?_getD,show i<ms.length by omega]
    generalize ms.getD i 0=m at hat
    have hms3:=s3 _ _ hms
    have a0:=q07 m (n:=R) hR0
    have a1:=q0b m (n:=R) hR0
    have b0:=q07 (m / 5) (n:=2) (by decide)
    have b1:=q0b (m / 5) (n:=2) (by decide)
    walk_at "rd"
    intro p hp
    have hD2:=q0e (o:= .tup [.int (m % R),.int (m / 5 % 2)]) hx1 hp
    have ts2:=(q00.new (o:= .tup [.int (m % R),.int (m / 5 % 2)]) hp).trans (q00.lst (o:= .lst (xs++[.ref p])) hD2)
    refine⟨_,hD2,by omega,_,rfl,(s3.trans (Same.upd hp)).put hD1,_,qb,by rw[List.length_append];simp only[List.length_singleton];omega,fun x hx=>?_⟩
    rcases List.mem_append.mp hx with hx|hx
    ·exact qW.mono ts2 (hok x hx)
    ·obtain rfl:=List.mem_singleton.mp hx
     exact⟨p,_,_,rfl,q00.lst (o:= .lst (xs++[.ref p])) hD2 _ _ qb,⟨a0,a1⟩,by omega,by omega⟩
   rintro σ H3 ⟨v0,rfl,s3,x2,hx2,hl2,hok2⟩
   have hms3:=s3 _ _ hms
   walk_at "rd"
   intro D2 hD2'
   refine q0K (fun i σ H'=>∃v0,σ=[v0,some (.ref S),some (.int R)]/\Same H3 H'/\∃xs,H' D2=some (.lst xs)/\xs.length=i/\∀x∈xs,qW R 1 255 H' x) ⟨none,rfl,Same.upd hD2',[],qb,rfl,fun x hx=>by cases hx⟩ ?_ ?_
   ·rintro i σ H' hi ⟨v0,rfl,s4,xs,hx1,hxl,hok⟩
    have hi':i<3:=by omega
    have hat:(ms.map V.int)[i]? =some (.int (ms.getD i 0)):=by simp[List.getD_eq_getElem?_getD,show i<ms.length by omega]
    generalize ms.getD i 0=m at hat
    have hms4:=s4 _ _ hms3
    have a0:=q07 (m / 11) (n:=R) hR0
    have a1:=q0b (m / 11) (n:=R) hR0
    have b0:=q07 (m / 55) (n:=3) (by decide)
    have b1:=q0b (m / 55) (n:=3) (by decide)
    walk_at "rd"
    intro p hp
    have hD2:=q0e (o:= .tup [.int (m / 11 % R),.int (1+m / 55 % 3)]) hx1 hp
    have ts2:=(q00.new (o:= .tup [.int (m / 11 % R),.int (1+m / 55 % 3)]) hp).trans (q00.lst (o:= .lst (xs++[.ref p])) hD2)
    refine⟨_,hD2,by omega,_,rfl,(s4.trans (Same.upd hp)).put hD2',_,qb,by rw[List.length_append];simp only[List.length_singleton];omega,fun x hx=>?_⟩
    rcases List.mem_append.mp hx with hx|hx
    ·exact qW.mono ts2 (hok x hx)
    ·obtain rfl:=List.mem_singleton.mp hx
     exact⟨p,_,_,rfl,q00.lst (o:= .lst (xs++[.ref p])) hD2 _ _ qb,⟨a0,a1⟩,by omega,by omega⟩
   rintro σ H4 ⟨v0,rfl,s4,x3,hx3,hl3,hok3⟩
   have hms4:=s4 _ _ hms3
   walk_at "rd"
   intro D3 hD3
   refine q0K (fun i σ H'=>∃v0,σ=[v0,some (.ref S),some (.int R)]/\Same H4 H'/\∃xs,H' D3=some (.lst xs)/\xs.length=i/\∀x∈xs,qW R 0 9 H' x) ⟨none,rfl,Same.upd hD3,[],qb,rfl,fun x hx=>by cases hx⟩ ?_ ?_
   ·rintro i σ H' hi ⟨v0,rfl,s5,xs,hx1,hxl,hok⟩
    have hi':i<3:=by omega
    have hat:(ms.map V.int)[i]? =some (.int (ms.getD i 0)):=by simp[List.getD_eq_getElem?_getD,show i<ms.length by omega]
    generalize ms.getD i 0=m at hat
    have hms5:=s5 _ _ hms4
    have a0:=q07 (m / 13) (n:=R) hR0
    have a1:=q0b (m / 13) (n:=R) hR0
    have b0:=q07 (m / 65) (n:=6) (by decide)
    have b1:=q0b (m / 65) (n:=6) (by decide)
    walk_at "rd"
    intro p hp
    have hD2:=q0e (o:= .tup [.int (m / 13 % R),.int (m / 65 % 6)]) hx1 hp
    have ts2:=(q00.new (o:= .tup [.int (m / 13 % R),.int (m / 65 % 6)]) hp).trans (q00.lst (o:= .lst (xs++[.ref p])) hD2)
    refine⟨_,hD2,by omega,_,rfl,(s5.trans (Same.upd hp)).put hD3,_,qb,by rw[List.length_append];simp only[List.length_singleton];omega,fun x hx=>?_⟩
    rcases List.mem_append.mp hx with hx|hx
    ·exact qW.mono ts2 (hok x hx)
    ·obtain rfl:=List.mem_singleton.mp hx
     exact⟨p,_,_,rfl,q00.lst (o:= .lst (xs++[.ref p])) hD2 _ _ qb,⟨a0,a1⟩,by omega,by omega⟩
   rintro σ H5 ⟨v0,rfl,s5,x4,hx4,hl4,hok4⟩
   have s25:=s3.trans (s4.trans s5)
   have s15:=s2.trans s25
   have s05:=s1.trans s15
   walk_at "rd"
   refine⟨a,ns,1,rfl,s05.seq hS,hl,by decide,?_⟩
   generalize ns.getD (1:Int).toNat 0=n1
   have la:=q07 n1 (n:=R) hR0
   have lb:=q0b n1 (n:=R) hR0
   walk_at "rd"
   refine⟨a,ns,2,rfl,s05.seq hS,hl,by decide,?_⟩
   generalize ns.getD (2:Int).toNat 0=n2
   have fa:=q07 n2 (n:=R) hR0
   have fb:=q0b n2 (n:=R) hR0
   have ba:=q07 (n2 / 5) (n:=4) (by decide)
   have bb:=q0b (n2 / 5) (n:=4) (by decide)
   have wa:=q07 (n2 / 20) (n:=6) (by decide)
   have wb:=q0b (n2 / 20) (n:=6) (by decide)
   walk_at "rd"
   have w1:∀x∈xw,q2N R H5 x:=fun x hx=>q2N.mono s15.ts (hwok x hx)
   have w2:∀x∈x2,qW R 0 11 H5 x:=fun x hx=>qW.mono (s4.trans s5).ts (hok2 x hx)
   have w3:∀x∈x3,qW R 1 255 H5 x:=fun x hx=>qW.mono s5.ts (hok3 x hx)
   have g0:1<=R/\R<=14:=⟨hR1,by omega⟩
   have g3:0<=n2 / 5 % 4/\n2 / 5 % 4<256:=⟨ba,by omega⟩
   have g4:0<=n2 / 20 % 6/\n2 / 20 % 6<10:=⟨wa,by omega⟩
   have g5:xw.length<=20:=by omega
   have g6:x2.length<=8:=by omega
   have g7:x3.length<=4:=by omega
   have g8:x4.length<=4:=by omega
   refine⟨R,n2 % R,n1 % R,n2 / 5 % 4,n2 / 20 % 6,.ref W,.ref D1,.ref D2,.ref D3,xw,x2,x3,x4,rfl,g0,⟨fa,fb⟩,⟨la,lb⟩,g3,g4,.inr (.inl ⟨W,rfl,s15 _ _ hxw⟩),.inr (.inl ⟨D1,rfl,(s4.trans s5) _ _ hx2⟩),.inr (.inl ⟨D2,rfl,s5 _ _ hx3⟩),.inr (.inl ⟨D3,rfl,hx4⟩),w1,w2,w3,hok4,g5,g6,g7,g8,fun p p1 p2 p3 p4 H6 s6 hp e1 e2 e3 e4=>?_⟩
   obtain⟨C,hC,ok,c1,c2,c3,c4,c5⟩:=qdf g0 ⟨fa,fb⟩ ⟨la,lb⟩ g3 g4 hp e1 e2 e3 e4 (fun x hx=>q2N.mono s6.ts (w1 x hx)) (fun x hx=>qW.mono s6.ts (w2 x hx)) (fun x hx=>qW.mono s6.ts (w3 x hx)) (fun x hx=>qW.mono s6.ts (hok4 x hx)) g5 g6 g7 g8
   exact k p C H6 (s05.trans s6) hC ok ⟨by omega,by omega,by omega,by omega,by omega⟩
end
theorem q8K {C:Cl}{x y:Sd}:y∈goL C x↔∃i:Nat,canD C x .go (i:Int)=true/\y=q0m C x .go (i:Int):=by
 unfold goL
 simp only[List.mem_map,List.mem_filter]
 constructor
 ·rintro ⟨⟨d,i⟩,⟨h1,hc⟩,rfl⟩
  obtain rfl:d= .go:=by
   simp only[rowD,List.mem_map] at h1
   obtain⟨_,_,e⟩:=h1
   exact(congrArg Prod.fst e).symm
  exact⟨i,hc,rfl⟩
 ·rintro ⟨i,hc,rfl⟩
  refine⟨(.go,i),⟨?_,hc⟩,rfl⟩
  obtain⟨_,j,e,hj,_⟩:=q0n hc
  have:i=j:=by omega
  subst this
  simp only[rowD,List.mem_map,List.mem_range]
  exact⟨i,hj,rfl⟩
theorem goL_ok {C:Cl}{x y:Sd}(ok:ClOk C)(h:x.ok C)(r:GoR C x y):y.ok C:=by
 obtain⟨i,hc,rfl⟩:=q8K.mp r
 exact q9m ok h hc
theorem rch_ok {C:Cl}{x y:Sd}(ok:ClOk C)(h:x.ok C)(r:Rch (GoR C) x y):y.ok C:=by
 induction r with
 |refl=>exact h
 |step _ r ih=>exact goL_ok ok ih r
theorem qJ.same {H H':Hp}(s:Same H H'){p:Addr}{R:List Sd}(h:qJ SAt H p R):qJ SAt H' p R:=LAt.mono (f:=fun _=>R) (x:=⟨0,0,0,0,0⟩) s h
def qa1 (K:W.Frag):Sp:=fun vs H Q _=>∃(a:Addr) (ns:List Int),vs=[.ref a]/\SqL K H a (ns.map V.int)/\ns.length<=63/\∀H',Q (.bl true) H'
section
variable {α:Type}[DecidableEq α]{At:Hp->Addr->α->Prop}{K:W.Frag}{H:Hp}{Q:VK}{p q:Addr}{R1 R2:List α}{n:Nat}
theorem qbG (hl:R1.length=R2.length){m:Nat}(hm:m=R1.length):((List.range m).all fun j=>decide (R1[j]? =R2[j]?))=decide (R1=R2):=by
 subst hm
 rw[Bool.eq_iff_iff,List.all_eq_true,decide_eq_true_eq]
 constructor
 ·intro h
  refine List.ext_getElem? fun i=>?_
  by_cases hi:i<R1.length
  ·exact of_decide_eq_true (h i (List.mem_range.mpr hi))
  ·rw [List.getElem?_eq_none (by omega),List.getElem?_eq_none (by omega)]
 ·rintro rfl j _
  exact decide_eq_true rfl
theorem qbz (dq:∀a b x y,At H a x->At H b y->Deq K H n (.ref a) (.ref b) (decide (x=y))){ps qs:List Addr}(r1:Rows At H ps R1)(r2:Rows At H qs R2){j:Nat}(h1:j<R1.length)(h2:j<R2.length):Deq K H n ((ps.map V.ref).getD j .non) ((qs.map V.ref).getD j .non) (decide (R1[j]? =R2[j]?)):=by
 obtain⟨a,ea,ha⟩:=r1.get h1
 obtain⟨b,eb,hb⟩:=r2.get h2
 rw[List.getD_eq_getElem?_getD,List.getD_eq_getElem?_getD,ea,eb,List.getElem?_eq_getElem h1,List.getElem?_eq_getElem h2]
 have:=dq a b _ _ ha hb
 simpa using this
theorem r_neG (dq:∀a b x y,At H a x->At H b y->Deq K H n (.ref a) (.ref b) (decide (x=y)))(h1:qJ At H p R1)(h2:qJ At H q R2)(k:Q (.bl (!decide (R1=R2))) H):rNeD K n (.ref p) (.ref q) H Q:=by
 obtain⟨ps,e1,r1⟩:=h1
 obtain⟨qs,e2,r2⟩:=h2
 by_cases hl:R1.length=R2.length
 ·refine .inl ⟨p,q,_,_,fun j=>decide (R1[j]? =R2[j]?),rfl,rfl,SqL.of e1,SqL.of e2,by rw[List.length_map,List.length_map,r1.1,r2.1,hl],fun j h1 h2=>?_,?_⟩
  ·rw [List.length_map,r1.1] at h1
   rw[List.length_map,r2.1] at h2
   exact qbz dq r1 r2 h1 h2
  ·rw [qbG hl (by rw[List.length_map,r1.1])]
   exact k
 ·refine .inr ⟨p,q,_,_,rfl,rfl,SqL.of e1,SqL.of e2,by rw[List.length_map,List.length_map,r1.1,r2.1];exact hl,?_⟩
  rw[decide_eq_false (fun e=>hl (by rw[e]))] at k
  exact k
theorem r_eqG (dq:∀a b x y,At H a x->At H b y->Deq K H n (.ref a) (.ref b) (decide (x=y)))(h1:qJ At H p R1)(h2:qJ At H q R2)(k:Q (.bl (decide (R1=R2))) H):rEqD K n (.ref p) (.ref q) H Q:=by
 obtain⟨ps,e1,r1⟩:=h1
 obtain⟨qs,e2,r2⟩:=h2
 by_cases hl:R1.length=R2.length
 ·refine .inr (.inl ⟨p,q,_,_,fun j=>decide (R1[j]? =R2[j]?),rfl,rfl,SqL.of e1,SqL.of e2,by rw[List.length_map,List.length_map,r1.1,r2.1,hl],fun j h1 h2=>?_,?_⟩)
  ·rw [List.length_map,r1.1] at h1
   rw[List.length_map,r2.1] at h2
   exact qbz dq r1 r2 h1 h2
  ·rw [qbG hl (by rw[List.length_map,r1.1])]
   exact k
 ·refine .inr (.inr ⟨p,q,_,_,rfl,rfl,SqL.of e1,SqL.of e2,by rw[List.length_map,List.length_map,r1.1,r2.1];exact hl,?_⟩)
  rw[decide_eq_false (fun e=>hl (by rw[e]))] at k
  exact k
end
def PrAt (C:Cl)(s:Sd)(H:Hp)(p:Addr)(x:Wd×Nat):Prop:=∃t r,H p=some (.tup [.ref t,.ref r])/\TAt H t x/\SAt H r (q0m C s x.1 (x.2:Int))
theorem PrAt.mono {C:Cl}{s:Sd}{H H':Hp}(ts:q00 H H'){p:Addr}{x:Wd×Nat}(h:PrAt C s H p x):PrAt C s H' p x:=let ⟨t,r,a,b,c⟩:=h;⟨t,r,ts _ _ a,ts _ _ b,ts _ _ c⟩
def q85:Sp:=fun vs H Q _=>∃(c q:Addr) (C:Cl) (s:Sd),vs=[.ref c,.ref q]/\ClAt H c C/\ClOk C/\SAt H q s/\s.ok C/\∀(l:Addr) (H':Hp),Same H H'->H l=none->qJ (PrAt C s) H' l (fitD C s)->Q (.ref l) H'
section
variable {P:Program}{w:World}{K:W.Frag}{mg:Str->Option Value}{base:Heap}{cs:Cs}
theorem qas (T:Txt mg cs)(L:Laid K mg "leads" q3A ["cellar","stand"])(C_fit_deeds:Cal P w K mg base 7 "fit_deeds" ["cellar","stand"] (q86 cs))(vt:∀d,VMeth P w K mg base 1 (dcls cs d) "told" ["self"] (q63 cs d))(vd:∀d,VMeth P w K mg base 2 (dcls cs d) "done" ["self","cellar","stand"] (q35 cs d)):Cal P w K mg base 8 "leads" ["cellar","stand"] q85:=by
 refine L.cal (k:=7) qa4 (fun vs H Q E h=>?_) (fun f cdv A outer s H vs Q E hr h=>?_)
 ·obtain ⟨c,q,C,st,rfl,_⟩:=h
  rfl
 ·obtain ⟨c,q,C,st,rfl,hC,ok,hq,sok,k⟩:=h
  have big:=qM
  have hal:=q72 ok st
  refine⟨_,(qf (ql (q0P (q0q (N:=["deed","cellar","stand"]) (own:=1) (caps:=[0,1]) ["cellar","stand"] (qd q3A) (by decide +kernel)) rfl (q09 K (qp C_fit_deeds hr (by decide) rfl (qa (pv 0) (qa (pv 1) qe)))) (fun _ _ _ _=>(qq (i:=0) (show List.Nodup (["deed","cellar","stand"]:List Str) by decide +kernel) rfl (Or.inl rfl))) (fun _ _ _ _=>q0O) (fun _ _ _ _=>(qR (qa (qcn (k:=1) P w K mg base hr (by decide) (pv 0)) (qa (q6O (k:=2) P w K mg base hr (by decide) (pv 0) (qa (pv 1) (qa (pv 2) qe))) qe))))))),?_⟩
  walk_at "rd"
  refine⟨c,q,C,st,rfl,hC,ok,hq,sok,fun l H1 s1 hl0 m1=>?_⟩
  obtain⟨ps,e1,r1⟩:=m1
  walk_at "rd"
  intro D hD
  refine q3r (ps.map V.ref) (fun i σ H'=>∃v0,σ=[v0,some (.ref c),some (.ref q)]/\Same H1 H'/\qJ (PrAt C st) H' D ((fitD C st).take i)) ⟨none,rfl,Same.upd hD,⟨[],qb,Rows.nil⟩⟩ ?_ ?_ ?_
  ·rintro i σ H' ⟨_,rfl,s2,_⟩
   exact SqL.of (s2 _ _ e1)
  ·rintro i x σ H' hx ⟨v0,rfl,s2,qs,hqs,hrw⟩
   have hi:i<(fitD C st).length:=by have:=(List.getElem?_eq_some_iff.mp hx).1;rw[List.length_map,r1.1] at this;exact this
   obtain⟨p,ep,hob⟩:=r1.get hi
   rw[hx] at ep
   cases ep
   have hc:canD C st (fitD C st)[i].1 ((fitD C st)[i].2:Int)=true:=q4z.mp (List.getElem_mem hi)
   have hob2:=DAt.mono s2 hob
   obtain⟨dx,hp⟩:=hob2.ex
   have hqlen:qs.length<=100:=by
    rw[hrw.1,List.length_take];omega
   have s12:=s1.trans s2
   walk_at "rd"
   refine r_vm hp (vt _) (qd9 _ _) ?_
   refine⟨p,_,rfl,hob2,fun t H3 s3 ht3=>?_⟩
   have hq3:=s3 _ _ hqs
   have hob3:=DAt.mono s3 hob2
   obtain⟨dx3,hp3⟩:=hob3.ex
   have s13:=s12.trans s3
   walk_at "rd"
   refine r_vm hp3 (vd _) (q9r _ _) ?_
   walk_at "rd"
   refine⟨p,c,q,C,st,_,rfl,hob3,hC.mono s13.ts,ok,s13 _ _ hq,sok,hc,fun r H4 s4 hr4=>?_⟩
   have hq4:=s4 _ _ hq3
   walk_at "rd"
   intro z hz
   have s5:=Same.upd (o:= .tup [.ref t,.ref r]) hz
   have hq5:=s5 _ _ hq4
   have hz5:=qb (H:=H4) (a:=z) (o:= .tup [.ref t,.ref r])
   generalize upd H4 z (.tup [.ref t,.ref r])=H5 at s5 hq5 hz5 ⊢
   refine⟨_,hq5,by rw[List.length_map];omega,_,rfl,(((s2.trans s3).trans s4).trans s5).put hD,?_⟩
   rw[List.take_succ_eq_append_getElem hi]
   exact q0J (fun _ _ h=>PrAt.mono (q00.lst hq5) h) (hrw.mono fun _ _=>PrAt.mono ((s3.trans s4).trans s5).ts) ⟨t,r,hz5,(s4.trans s5) _ _ ht3,s5 _ _ hr4⟩
  ·rintro σ H' ⟨v0,rfl,s2,m2⟩
   rw[List.length_map,r1.1,List.take_length] at m2
   exact k D H' (s1.trans s2) (s1.free hD) m2
end
def setD (l:Dk)(s:Sd)(v:V):Dk:=l.map fun x=>if x.1=s then(x.1,v) else x
theorem q8a (l:Dk)(s:Sd)(v:V):(setD l s v).map (·.1)=l.map (·.1):=by
 unfold setD
 rw[List.map_map]
 refine List.map_congr_left fun x _=>?_
 show(if x.1=s then(x.1,v) else x).1=x.1
 split<;>rfl
theorem qd6 {l:Dk}{s:Sd}{v:V}(h:s∈l.map (·.1)):putK (dkv l) s.key v=dkv (setD l s v):=by
 unfold putK
 rw[q3f,q4K,q1a,decide_eq_true h,if_pos rfl]
 unfold dkv setD
 rw[List.map_map,List.map_map]
 refine List.map_congr_left fun x _=>?_
 show(if x.1.key=s.key then(x.1.key,v) else(x.1.key,x.2))=((if x.1=s then(x.1,v) else x).1.key,(if x.1=s then(x.1,v) else x).2)
 by_cases e:x.1=s
 ·rw [if_pos e,if_pos (by rw[e])]
 ·rw [if_neg e,if_neg fun z=>e (Sd.key_inj z)]
theorem dput_o {H:Hp}{a b:Addr}{l:Dk}{s:Sd}{v:V}(h:DAtS H a l)(hb:SAt H b s)(hl:l.length<sizeLine)(hn:s∈l.map (·.1)):DPut H a (.ref b) v (upd H a (.dT (dkv (setD l s v)))):=by
 have:=DPut.t (k:=s.key) (v:=v) h hb (by simpa[dkv] using hl)
 rwa [qd6 hn] at this
def spWF:Sp:=fun vs H Q _=>∃(c q:Addr) (C:Cl) (s:Sd),vs=[.ref c,.ref q]/\ClAt H c C/\ClOk C/\Small C/\SAt H q s/\s.ok C/\∀(d:Addr) (l:Dk) (H':Hp),Same H H'->H d=none->DAtS H' d l->(l.map (·.1)).Nodup->(∀x,x∈l.map (·.1)↔Rch (NxR C) s x)->Q (.ref d) H'
section
variable {P:Program}{w:World}{K:W.Frag}{mg:Str->Option Value}{base:Heap}{cs:Cs}
theorem qcu (T:Txt mg cs)(L:Laid K mg "walk_from" q1e ["cellar","begin"])(C_leads:Cal P w K mg base 8 "leads" ["cellar","stand"] q85):Cal P w K mg base 9 "walk_from" ["cellar","begin"] spWF:=by
 obtain⟨t1,e_MOST_STANDS⟩:=T.e_MOST_STANDS
 refine L.cal (k:=8) qP (fun vs H Q E h=>?_) (fun f cdv A outer s H vs Q E hr h=>?_)
 ·obtain ⟨c,q,C,st,rfl,_⟩:=h
  rfl
 ·obtain ⟨c,q,C,st,rfl,hC,ok,sm,hq,sok,k⟩:=h
  have big:=qM
  refine⟨_,(qc (qw (i:=2) qP.nd rfl (Or.inl rfl) (qal (q0Q hr) (pv 1) (q2D qe)))
   (qc (qw (i:=3) qP.nd rfl (Or.inl rfl) (q2D (qa (pv 1) qe)))
   (qc (qw (i:=4) qP.nd rfl (Or.inl rfl) qg)
   (qc (q6M PassesOwn.never (qv qcr (pv 4) (qB (lenK K) rfl T.n_len q0o (qa (pv 3) qe)) (qt _)) (qc (qw (i:=5) qP.nd rfl (Or.inl rfl) (qA (q01 K) (pv 3) (pv 4) (fun _ _=>rfl)))
   (qc (qbn (i:=4) qP.nd rfl (Or.inl rfl) qg q8Y)
   (qc (qw (i:=6) qP.nd rfl (Or.inl rfl) (qp C_leads hr (by decide) rfl (qa (pv 0) (qa (pv 5) qe))))
   (qc (q2j (q0Q hr) (pv 2) (pv 5) (pv 6) rfl)
   (qc (q0B PassesOwn.never rfl (q09 K (pv 6)) (q1O (n:=2) K rfl (qG (qq (i:=7) qP.nd rfl (Or.inl rfl)) (qG (qq (i:=8) qP.nd rfl (Or.inl rfl)) q1N))) (qf (qV (q1M (q3G (q0Q hr) (pv 8) (pv 2))) (qc (q2j (q0Q hr) (pv 2) (pv 8) (q2D qe) rfl)
   (qf (qF (q8A PySem.F.plainAttrs_list PySem.F.slot_list_append PySem.F.type_list_append q19 (pv 3) (qa (pv 8) qe))))) qu)))
   (qf (qV (qv q45 (qB (lenK K) rfl T.n_len q0o (qa (pv 3) qe)) (qh (v:= .int 300) rfl e_MOST_STANDS ⟨_,rfl⟩) (qt _)) (qf q0Z) qu))))))))
   (qf (ql (pv 2))))))),?_⟩
  walk_at "rd"
  intro D hD
  have s1:=Same.upd (o:= .dT []) hD
  have h1:=qb (H:=H) (a:=D) (o:= .dT [])
  generalize upd H D (.dT [])=H1 at s1 h1 ⊢
  walk_at "rd"
  intro e0 he0
  have s2:=s1.trans (Same.upd (o:= .lst []) he0)
  have h2:=(Same.upd (o:= .lst []) he0) _ _ h1
  generalize upd H1 e0 (.lst [])=H2 at s2 h2 ⊢
  refine⟨q,st.key,rfl,h2,s2 _ _ hq,?_⟩
  have s3:Same H (upd H2 D (.dT [(st.key,V.ref e0)])):=s2.put hD
  have d3:DAtS (upd H2 D (.dT [(st.key,V.ref e0)])) D [(st,V.ref e0)]:=qb
  generalize upd H2 D (.dT [(st.key,V.ref e0)])=H3 at s3 d3 ⊢
  walk_at "rd"
  intro R hR3
  have hR:H R=none:=s3.free hR3
  have s4:=s3.trans (Same.upd (o:= .lst [.ref q]) hR3)
  have d4:DAtS (upd H3 R (.lst [.ref q])) D [(st,V.ref e0)]:=(Same.upd (o:= .lst [.ref q]) hR3) _ _ d3
  have hR4:=qb (H:=H3) (a:=R) (o:= .lst [.ref q])
  generalize upd H3 R (.lst [.ref q])=H4 at s4 d4 hR4 ⊢
  walk_at "rd"
  refine q8l (fun m σ H'=>∃(row:List Sd) (l:Dk) (pl:Nat) (v5 v6 v7 v8:Option V),σ=[some (.ref c),some (.ref q),some (.ref D),some (.ref R),some (.int pl),v5,v6,v7,v8]/\Same H H'/\qJ SAt H' R row/\DAtS H' D l/\l.map (·.1)=row/\Srch (NxR C) st row pl/\pl<=row.length/\m=2000 - pl) (2000 - 0)
   ⟨[st],[(st,V.ref e0)],0,none,none,none,none,rfl,s4,⟨[q],hR4,Rows.nil.snoc (s4 _ _ hq)⟩,d4,rfl,Srch.start,by simp,rfl⟩ ?_
  rintro m σ H5 ⟨row,l,pl,v5,v6,v7,v8,rfl,s5,⟨qs,hqs,rqs⟩,hd5,hk,sr,hpl,hm⟩
  have hql:qs.length=row.length:=rqs.1
  have hrl:row.length<=288:=few ok sm sok sr.nd sr.rch
  walk_at "rd"
  rw[List.length_map,hql]
  refine ifd (fun hlt=>?_) (fun hge=>?_)
  ·have hlt':pl<row.length:=by omega
   obtain⟨p,ep,hp5⟩:=rqs.get hlt'
   generalize hx:row[pl]=x at hp5
   have hrx:row[pl]? =some x:=by rw[List.getElem?_eq_getElem hlt',hx]
   have hxr:x∈row:=List.mem_of_getElem? hrx
   have hp5:SAt H5 p x:=hp5
   have xok:x.ok C:=q4N ok sok (sr.rch x hxr)
   have hfl:=q72 ok x
   refine⟨fun σ' H'=>∃(row:List Sd) (l:Dk) (v6 v7 v8:Option V),σ'=[some (.ref c),some (.ref q),some (.ref D),some (.ref R),some (.int ((pl:Int)+1)),some (.ref p),v6,v7,v8]/\Same H H'/\qJ SAt H' R row/\DAtS H' D l/\l.map (·.1)=row/\Srch (NxR C) st row (pl+1)/\pl+1<=row.length,?_,?_⟩
   ·rintro σ' H' ⟨row,l,v6,v7,v8,rfl,z1,z2,z3,z4,z5,z6⟩
    exact⟨2000 - (pl+1),by omega,row,l,pl+1,some (.ref p),v6,v7,v8,rfl,z1,z2,z3,z4,z5,z6,rfl⟩
   ·walk_at "rd"
    refine⟨c,p,C,x,rfl,hC.mono s5.ts,ok,hp5,xok,fun lp H6 s6 hl0 m6=>?_⟩
    obtain⟨ps,hps,rps⟩:=m6
    have s06:=s5.trans s6
    have hd6:DAtS H6 D l:=s6 _ _ hd5
    have neR:lp≠R:=fun z=>by subst z;rw[hl0] at hqs;cases hqs
    have neD:lp≠D:=fun z=>by rw[z,show H5 D=some _ from hd5] at hl0;cases hl0
    have hll:l.length=row.length:=by rw[<-hk,List.length_map]
    walk_at "rd"
    refine⟨D,_,rfl,dput_o hd6 (s6 _ _ hp5) (by omega) (by rw[hk];exact hxr),?_⟩
    have ts7:=q6q (o:= .dT (dkv (setD l x (.ref lp)))) hd6
    have s07:Same H (upd H6 D (.dT (dkv (setD l x (.ref lp))))):=s06.put hD
    have d7:DAtS (upd H6 D (.dT (dkv (setD l x (.ref lp))))) D (setD l x (.ref lp)):=qb
    have l7:upd H6 D (.dT (dkv (setD l x (.ref lp)))) lp=some (.lst (ps.map V.ref)):=by rw[qi neD];exact hps
    have R7:upd H6 D (.dT (dkv (setD l x (.ref lp)))) R=some (.lst (qs.map V.ref)):=by rw[qi (q2U (s6 _ _ hqs) hd6 (by intro z;cases z))];exact s6 _ _ hqs
    generalize upd H6 D (.dT (dkv (setD l x (.ref lp))))=H7 at ts7 s07 d7 l7 R7 ⊢
    have ts67:=s6.ts.trans ts7
    walk_at "rd"
    refine q1Q (ps.map V.ref) (fun i σ' H'=>∃(row:List Sd) (l:Dk) (v7 v8:Option V),σ'=[some (.ref c),some (.ref q),some (.ref D),some (.ref R),some (.int ((pl:Int)+1)),some (.ref p),some (.ref lp),v7,v8]/\Same H H'/\H' lp=some (.lst (ps.map V.ref))/\Rows (PrAt C x) H' ps (fitD C x)/\qJ SAt H' R row/\DAtS H' D l/\l.map (·.1)=row/\Mid (NxR C) st x row pl ((nx C x).take i))
     ⟨row,setD l x (.ref lp),v7,v8,rfl,s07,l7,rps.mono fun _ _=>PrAt.mono ts7,⟨qs,R7,rqs.mono fun _ _=>SAt.mono ts67⟩,d7,by rw[q8a];exact hk,sr.mid hrx⟩ ?_ ?_ ?_
    ·rintro i σ' H' ⟨_,_,_,_,rfl,_,e,_⟩
     exact SqL.of e
    ·rintro i z σ' H8 hz ⟨row,l,v7,v8,rfl,s8,l8,rps8,⟨qs,hqs,rqs⟩,hd8,hk,md⟩
     have hi:i<(fitD C x).length:=by have:=(List.getElem?_eq_some_iff.mp hz).1;rw[List.length_map,rps.1] at this;exact this
     obtain⟨p',ep',hp8⟩:=rps8.get hi
     rw[hz] at ep'
     cases ep'
     obtain⟨t,r,e8,_,hr8⟩:=hp8
     have hi':i<(nx C x).length:=by unfold nx;rw[List.length_map];exact hi
     have ey:q0m C x (fitD C x)[i].1 ((fitD C x)[i].2:Int)=(nx C x)[i]:=by simp[nx]
     rw[ey] at hr8
     have hy:NxR C x (nx C x)[i]:=List.getElem_mem hi'
     rw[List.take_succ_eq_append_getElem hi']
     generalize (nx C x)[i]=y at hr8 hy ⊢
     have hr8:SAt H8 r y:=hr8
     have hrl:row.length<=288:=few ok sm sok md.nd md.rch
     have hll:l.length=row.length:=by rw[<-hk,List.length_map]
     walk_at "rd"
     refine⟨D,_,rfl,q3Q (.inl hd8) hr8,?_⟩
     rw[q1a,hk]
     walk_at "rd"
     by_cases hin:y∈row
     ·rw [decide_eq_true hin]
      walk_at "rd"
      exact⟨row,l,_,_,rfl,s8,l8,rps8,⟨qs,hqs,rqs⟩,hd8,hk,md.old hin⟩
     ·rw [decide_eq_false hin]
      walk_at "rd"
      intro e1 he1
      have s9:=Same.upd (o:= .lst []) he1
      generalize upd H8 e1 (.lst [])=H9 at s9 ⊢
      have hd9:DAtS H9 D l:=s9 _ _ hd8
      have hqs9:=s9 _ _ hqs
      have neRD:R≠D:=q2U hqs9 hd9 (by intro z;cases z)
      walk_at "rd"
      refine⟨D,_,rfl,q4f hd9 (s9 _ _ hr8) (by omega) (by rw[hk];exact hin),?_⟩
      have ts10:=q6q (o:= .dT (dkv (l++[(y,V.ref e1)]))) hd9
      have s10:Same H (upd H9 D (.dT (dkv (l++[(y,V.ref e1)])))):=(s8.trans s9).put hD
      have d10:DAtS (upd H9 D (.dT (dkv (l++[(y,V.ref e1)])))) D (l++[(y,V.ref e1)]):=qb
      have l10:upd H9 D (.dT (dkv (l++[(y,V.ref e1)]))) lp=some (.lst (ps.map V.ref)):=by rw[qi neD];exact s9 _ _ l8
      have R10:upd H9 D (.dT (dkv (l++[(y,V.ref e1)]))) R=some (.lst (qs.map V.ref)):=by rw[qi neRD];exact hqs9
      generalize upd H9 D (.dT (dkv (l++[(y,V.ref e1)])))=H10 at ts10 s10 d10 l10 R10 ⊢
      have ts810:=s9.ts.trans ts10
      walk_at "rd"
      refine qce R10 (by rw[List.length_map,rqs.1];omega) ?_
      exact⟨row++[y],l++[(y,V.ref e1)],_,_,rfl,s10.put hR,by rw[qi neR];exact l10,rps8.mono fun _ _ h=>PrAt.mono (ts810.trans (q00.lst R10)) h,q0J (fun _ _=>SAt.put R10) (rqs.mono fun _ _=>SAt.mono ts810) (SAt.mono ts810 hr8),DAtS.lput R10 d10,by rw[List.map_append,hk];rfl,md.new hin hy⟩
    ·rintro σ' H8 ⟨row,l,v7,v8,rfl,s8,l8,rps8,⟨qs,hqs,rqs⟩,hd8,hk,md⟩
     have hrl:row.length<=288:=few ok sm sok md.nd md.rch
     have hql:qs.length=row.length:=rqs.1
     rw[List.length_map,rps.1,show(fitD C x).length=(nx C x).length by simp[nx],List.take_length] at md
     walk_at "rd"
     rw[List.length_map,hql]
     refine ifd (fun hgt=>absurd hgt (by omega)) (fun _=>?_)
     walk_at "rd"
     exact⟨row,l,_,_,_,rfl,s8,⟨qs,hqs,rqs⟩,hd8,hk,md.next fun y hy=>hy,(List.getElem?_eq_some_iff.mp md.at').1⟩
  ·walk_at "rd"
   exact k D l H5 s5 hD hd5 (by rw[hk];exact sr.nd) (by rw[hk];exact sr.end (by omega))
end
def st0 (C:Cl):Sd:=⟨C.fst,0,0,C.bars,C.water⟩
def q88:Sp:=fun vs H Q _=>∃(c:Addr) (v:V) (C:Cl),vs=[.ref c,v]/\ClAt H c C/\((v= .non/\∀(p:Addr) (H':Hp),Same H H'->SAt H' p (st0 C)->Q (.ref p) H')\/∃q,v= .ref q/\Q (.ref q) H)
def IsC (C:Cl)(s:Sd)(R:List Sd):Prop:=R.Nodup/\Ord R/\∀x,x∈R↔Rch (NxR C) s x
def spCm:Sp:=fun vs H Q _=>∃(c:Addr) (v:V) (C:Cl) (s:Sd),vs=[.ref c,v]/\ClAt H c C/\ClOk C/\Small C/\((v= .non/\s=st0 C)\/∃q,v= .ref q/\SAt H q s)/\s.ok C/\∀(l:Addr) (R:List Sd) (H':Hp),Same H H'->H l=none->qJ SAt H' l R->IsC C s R->Q (.ref l) H'
theorem dkv_ns (l:Dk):(dkv l).map (·.1)=((l.map (·.1)).map Sd.ns).map fun n=>n.map Sum.inl:=by
 unfold dkv
 rw[List.map_map,List.map_map,List.map_map]
 rfl
section
variable {P:Program}{w:World}{K:W.Frag}{mg:Str->Option Value}{base:Heap}{cs:Cs}
theorem qaB (T:Txt mg cs)(L:Laid K mg "begin_of" q1T ["cellar","stand"])(C_start:Cal P w K mg base 1 "start" ["cellar"] q62):Cal P w K mg base 2 "begin_of" ["cellar","stand"] q88:=by
 refine L.cal (k:=1) q66 (fun vs H Q E h=>?_) (fun f cdv A outer s H vs Q E hr h=>?_)
 ·obtain ⟨c,v,C,rfl,_⟩:=h
  rfl
 ·obtain ⟨c,v,C,rfl,hC,h⟩:=h
  refine⟨_,(qf (ql (q1X (q1M (q2E (pv 1))) (qp C_start hr (by decide) rfl (qa (pv 0) qe)) (pv 1)))),?_⟩
  rcases h with⟨rfl,k⟩|⟨q,rfl,k⟩
  ·walk_at "rd"
   refine ifd (fun _=>?_) (fun z=>absurd rfl z)
   walk_at "rd"
   exact⟨c,C,rfl,hC,fun p H' s' hp=>k p H' s' hp⟩
  ·walk_at "rd"
   refine ifd (fun z=>nomatch z) (fun _=>?_)
   walk_at "rd"
   exact k
theorem ok_cm (T:Txt mg cs)(L:LaidD K mg "come" q3B [.none])(C_begin_of:Cal P w K mg base 2 "begin_of" ["cellar","stand"] q88)(C_walk_from:Cal P w K mg base 9 "walk_from" ["cellar","begin"] spWF):CalD P w K mg base 10 "come" ["cellar","stand"] spCm q3B [.none]:=by
 refine L.cal (k:=9) qc2 (fun vs H Q E h=>?_) (fun f cdv A outer s H vs Q E hr h=>?_)
 ·obtain ⟨c,v,C,st,rfl,_⟩:=h
  rfl
 ·obtain ⟨c,v,C,st,rfl,hC,ok,sm,hv,sok,k⟩:=h
  have fin:∀(q:Addr) (H1:Hp),Same H H1->SAt H1 q st->spWF [.ref c,.ref q] H1 (fun x H'=>qbl [x] H' fun v H''=>Q v H'') E:=by
   intro q H1 s1 hq1
   refine⟨c,q,C,st,rfl,hC.mono s1.ts,ok,sm,hq1,sok,fun d l H2 s2 hd0 hd2 nd mem=>?_⟩
   refine⟨d,_,_,5,rfl,hd2,dkv_ns l,by decide,fun n hn=>?_,fun r l' hr0 hp hs hm=>?_⟩
   ·obtain ⟨x,_,rfl⟩:=List.mem_map.mp hn
    rfl
   ·obtain ⟨R',pm,od,rr⟩:=q2P (H:=H2) (ps:=[]) (R:=l'.map fun x=>(⟨x.2.getD 0 0,x.2.getD 1 0,x.2.getD 2 0,x.2.getD 3 0,x.2.getD 4 0⟩:Sd)) (l:=l') (l':=l') (by
      rw[List.map_map]
      refine List.map_congr_left fun x hx=>?_
      have:x.2∈(l.map (·.1)).map Sd.ns:=hp.mem_iff.mp (List.mem_map_of_mem hx)
      obtain⟨y,_,e⟩:=List.mem_map.mp this
      show x.2=[x.2.getD 0 0,x.2.getD 1 0,x.2.getD 2 0,x.2.getD 3 0,x.2.getD 4 0]
      rw[<-e]
      rfl) (fun x hx=>⟨hm x hx,by
      have:x.2∈(l.map (·.1)).map Sd.ns:=hp.mem_iff.mp (List.mem_map_of_mem hx)
      obtain⟨y,_,e⟩:=List.mem_map.mp this
      rw[<-e]
      rfl⟩) (List.Perm.refl _) hs
    have pm2:R'.Perm (l.map (·.1)):=by
     have inv:∀l:List Sd,(l.map Sd.ns).map (fun k:List Int=>(⟨k.getD 0 0,k.getD 1 0,k.getD 2 0,k.getD 3 0,k.getD 4 0⟩:Sd))=l:=fun l=>by
      rw[List.map_map]
      exact(List.map_congr_left fun a _=>rfl).trans (List.map_id l)
     have:=hp.map fun k:List Int=>(⟨k.getD 0 0,k.getD 1 0,k.getD 2 0,k.getD 3 0,k.getD 4 0⟩:Sd)
     rw[inv,List.map_map] at this
     exact pm.trans this
    have s02:=s1.trans s2
    have s3:=Same.upd (o:= .lst (l'.map fun x=>V.ref x.1)) hr0
    exact k r R' _ (s02.trans s3) (s02.free hr0) ⟨l'.map (·.1),by rw[qb,List.map_map];rfl,rr.mono fun _ _=>SAt.mono s3.ts⟩ ⟨pm2.nodup_iff.mpr nd,od,fun x=>by rw[pm2.mem_iff];exact mem x⟩
  refine⟨_,(qf (ql (qB sortDW rfl T.n_sorted q3W (qa (qp C_walk_from hr (by decide) rfl (qa (pv 0) (qa (qp C_begin_of hr (by decide) rfl (qa (pv 0) (qa (pv 1) qe))) qe))) qe)))),?_⟩
  walk_at "rd"
  refine⟨c,v,C,rfl,hC,?_⟩
  rcases hv with⟨rfl,rfl⟩|⟨q,rfl,hq⟩
  ·refine .inl ⟨rfl,fun p H1 s1 hp=>?_⟩
   walk_at "rd"
   exact fin p H1 s1 hp
  ·refine .inr ⟨q,rfl,?_⟩
   walk_at "rd"
   exact fin q H (Same.refl H) hq
end
theorem q5Y (us:List Value)(hl:(us++[Value.none]).length=(["cellar","stand"]:List Str).length):BnD "come" q3B [Value.none] ⟨us,[]⟩ ((["cellar","stand"]:List Str).zip (us++[Value.none])):=by
 have hl2:us.length=1:=by simpa using hl
 clear hl;revert us;exact blS fun _=>bl0 (fun _ _ _ _ _ _ _=>⟨_,rfl,rfl⟩)
theorem q5O:Vals [.non] [Value.none]:= .cons rfl .nil
theorem hu5_of {A:Around}{k:Nat}(hr:Room k A):A.units+4<cLine:=by have:=hr.un;omega
theorem q8c (x y:Sd):(!eqVs x.vs y.vs)= !decide (x=y):=by
 congr 1
 have e3:decide (x=y)=(decide (x.rm=y.rm)&&(decide (x.tk=y.tk)&&(decide (x.op=y.op)&&(decide (x.b=y.b)&&decide (x.wt=y.wt))))):=by
  cases x;cases y;simp[Bool.decide_and]
 rw[e3]
 simp[eqVs,Sd.vs,eqV]
 rfl
noncomputable def q0i (C:Cl)(t:Sd):Sd:= @Classical.epsilon Sd ⟨t⟩ fun f=>∃R,IsR (GoR C) t (f::R)
theorem q71 {C:Cl}{t f:Sd}{R:List Sd}(h:IsR (GoR C) t (f::R)):q0i C t=f:=by
 have e:∃f R,IsR (GoR C) t (f::R):=⟨f,R,h⟩
 obtain⟨R',h'⟩:= @Classical.epsilon_spec_aux Sd ⟨t⟩ _ e
 exact(List.cons.inj (h'.uniq h ⟨.refl,.refl⟩)).1
def qbj:Sp:=fun vs H Q _=>∃(c q:Addr) (C:Cl) (s:Sd),vs=[.ref c,.ref q]/\ClAt H c C/\ClOk C/\SAt H q s/\s.ok C/\∀(p:Addr) (H':Hp) (R:List Sd),Same H H'->SAt H' p (q0i C s)->IsR (GoR C) s (q0i C s::R)->Q (.ref p) H'
section
variable {P:Program}{w:World}{K:W.Frag}{mg:Str->Option Value}{base:Heap}{cs:Cs}
theorem qcy (T:Txt mg cs)(L:Laid K mg "fold" q6G ["cellar","stand"])(C_round_of:Cal P w K mg base 9 "round_of" ["cellar","stand"] q4k):Cal P w K mg base 10 "fold" ["cellar","stand"] qbj:=by
 refine L.cal (k:=9) qc1 (fun vs H Q E h=>?_) (fun f cdv A outer s H vs Q E hr h=>?_)
 ·obtain ⟨c,q,C,st,rfl,_⟩:=h
  rfl
 ·obtain ⟨c,q,C,st,rfl,hC,ok,hq,sok,k⟩:=h
  refine⟨_,(qf (ql (qA (q01 K) (qp C_round_of hr (by decide) rfl (qa (pv 0) (qa (pv 1) qe))) qg (fun _ _=>rfl)))),?_⟩
  walk_at "rd"
  refine⟨c,q,C,st,rfl,hC,ok,hq,sok,fun l R H1 s1 hl0 hl hR=>?_⟩
  obtain⟨ps,hps,rps⟩:=hl
  have hne:R≠[]:=fun z=>by have:=hR.self;rw[z] at this;cases this
  obtain⟨f0,R',rfl⟩:=List.exists_cons_of_ne_nil hne
  obtain⟨p,ps',rfl⟩:∃p ps',ps=p::ps':=List.exists_cons_of_ne_nil fun z=>by have:=rps.1;rw[z] at this;cases this
  have hp:SAt H1 p f0:=rps.2 0 p f0 rfl rfl
  have ef:=q71 hR
  walk_at "rd"
  exact k p H1 R' s1 (by rw[ef];exact hp) (by rw[ef];exact hR)
end
def Mut (C:Cl)(x y:Sd):Prop:=Rch (GoR C) x y/\Rch (GoR C) y x
theorem Mut.symm {C:Cl}{x y:Sd}(h:Mut C x y):Mut C y x:=⟨h.2,h.1⟩
theorem Mut.trans {C:Cl}{x y z:Sd}(h:Mut C x y)(g:Mut C y z):Mut C x z:=⟨h.1.trans g.1,g.2.trans h.2⟩
theorem isR_ex {C:Cl}{s:Sd}(ok:ClOk C)(h:s.ok C):∃f R,IsR (GoR C) s (f::R):=by
 classical
 have pm:=List.mergeSort_perm ((domS C s).filter fun x=>decide (Mut C s x)) fun a b=> !decide (b.ns<a.ns)
 have pw:=List.pairwise_mergeSort (le:=fun a b:Sd=> !decide (b.ns<a.ns)) (fun a b c h1 h2=>by
  simp only[Bool.not_eq_true',decide_eq_false_iff_not,List.not_lt] at h1 h2 ⊢
  exact List.le_trans h1 h2) (fun a b=>by
  rcases List.le_total a.ns b.ns with z|z
  ·simp [List.not_lt.mpr z]
  ·simp [List.not_lt.mpr z]) ((domS C s).filter fun x=>decide (Mut C s x))
 generalize ((domS C s).filter fun x=>decide (Mut C s x)).mergeSort (fun a b=> !decide (b.ns<a.ns))=L at pm pw
 have isr:IsR (GoR C) s L:=by
  refine⟨pm.nodup_iff.mpr ((q3P C s).filter _),pw.imp fun z=>by simpa using z,fun t=>?_⟩
  rw[pm.mem_iff,List.mem_filter,decide_eq_true_eq]
  exact⟨fun z=>z.2,fun z=>⟨q4v ok h z.1,z⟩⟩
 have hne:L≠[]:=fun z=>by have:=isr.self;rw[z] at this;cases this
 obtain⟨f,R,rfl⟩:=List.exists_cons_of_ne_nil hne
 exact⟨f,R,isr⟩
theorem q2I {C:Cl}{s:Sd}(ok:ClOk C)(h:s.ok C):∃R,IsR (GoR C) s (q0i C s::R):= @Classical.epsilon_spec_aux Sd ⟨s⟩ _ (isR_ex ok h)
theorem q2J {C:Cl}{s:Sd}(ok:ClOk C)(h:s.ok C):Mut C s (q0i C s):=let ⟨_,r⟩:=q2I ok h;(r.mem _).mp (.head _)
theorem q4G {C:Cl}{s y:Sd}(ok:ClOk C)(h:s.ok C)(m:Mut C s y):¬y.ns<(q0i C s).ns:=by
 obtain⟨R,r⟩:=q2I ok h
 rcases List.mem_cons.mp ((r.mem y).mpr m) with e|e
 ·rw [e];exact List.lt_irrefl _
 ·exact (List.pairwise_cons.mp r.ord).1 y e
theorem qbr {C:Cl}{s t:Sd}(ok:ClOk C)(h:s.ok C)(m:Mut C s t):t.ok C:=rch_ok ok h m.1
theorem q7J {C:Cl}{s t:Sd}(ok:ClOk C)(h:s.ok C)(m:Mut C s t):q0i C t=q0i C s:=by
 obtain⟨R,r⟩:=q2I ok h
 obtain⟨R',r'⟩:=q2I ok (qbr ok h m)
 exact(List.cons.inj (r'.uniq r m.symm)).1
theorem go_nx {C:Cl}{x y:Sd}(h:Rch (GoR C) x y):Rch (NxR C) x y:=by
 induction h with
 |refl=>exact .refl
 |step _ r ih=>
  obtain⟨i,hc,rfl⟩:=q8K.mp r
  exact ih.step (List.mem_map.mpr ⟨(.go,i),q4z.mpr hc,rfl⟩)
theorem q5L {C:Cl}{s:Sd}(ok:ClOk C)(h:s.ok C):q0i C (q0i C s)=q0i C s:=q7J ok h (q2J ok h)
theorem q9e {C:Cl}{s0 x:Sd}{A B:List Sd}(ok:ClOk C)(h0:s0.ok C)(nd:(A++x::B).Nodup)(od:Ord (A++x::B))(mem:∀y,y∈A++x::B↔Rch (NxR C) s0 y):(∃y∈A,Mut C y x)↔q0i C x≠x:=by
 have rx:Rch (NxR C) s0 x:=(mem x).mp (by simp)
 have xok:=q4N ok h0 rx
 rw[List.nodup_append,List.nodup_cons] at nd
 obtain⟨_,⟨hxB,_⟩,hAB⟩:=nd
 have oA:=(List.pairwise_append.mp od).2.2
 have oB:=(List.pairwise_cons.mp (List.pairwise_append.mp od).2.1).1
 constructor
 ·rintro ⟨y,hy,m⟩ e
  have h1:=q4G ok xok m.symm
  rw[e] at h1
  have h2:=oA y hy x (.head _)
  have:y=x:=Sd.ns_inj (List.le_antisymm (List.not_lt.mp h2) (List.not_lt.mp h1))
  exact hAB y hy x (.head _) this
 ·intro e
  have m:=q2J ok xok
  rcases List.mem_append.mp ((mem (q0i C x)).mpr (rx.trans (go_nx m.1))) with z|z
  ·exact ⟨_,z,m.symm⟩
  ·rcases List.mem_cons.mp z with z|z
   ·exact absurd z e
   ·have h1:=oB _ z
    have h2:=q4G ok xok (⟨.refl,.refl⟩:Mut C x x)
    exact absurd (Sd.ns_inj (List.le_antisymm (List.not_lt.mp h2) (List.not_lt.mp h1))) e
structure IsF (C:Cl)(L:List Sd):Prop where
 nd:L.Nodup
 ord:Ord L
 mem:∀x,x∈L↔Rch (NxR C) (st0 C) x/\q0i C x=x
def qbX:Sp:=fun vs H Q _=>∃(c:Addr) (C:Cl),vs=[.ref c]/\ClAt H c C/\ClOk C/\Small C/\(st0 C).ok C/\∀(l:Addr) (L:List Sd) (H':Hp),Same H H'->H l=none->qJ SAt H' l L->IsF C L->Q (.ref l) H'
section
variable {P:Program}{w:World}{K:W.Frag}{mg:Str->Option Value}{base:Heap}{cs:Cs}
theorem qav (T:Txt mg cs)(L:Laid K mg "folds" q4u ["cellar"])(C_come:CalD P w K mg base 10 "come" ["cellar","stand"] spCm q3B [.none])(C_round_of:Cal P w K mg base 9 "round_of" ["cellar","stand"] q4k):Cal P w K mg base 11 "folds" ["cellar"] qbX:=by
 refine L.cal (k:=10) q2t (fun vs H Q E h=>?_) (fun f cdv A outer s H vs Q E hr h=>?_)
 ·obtain ⟨c,C,rfl,_⟩:=h
  rfl
 ·obtain ⟨c,C,rfl,hC,ok,sm,ok0,k⟩:=h
  have big:=qM
  refine⟨_,(qc (qw (i:=1) q2t.nd rfl (Or.inl rfl) (q2D qe))
   (qc (qw (i:=2) q2t.nd rfl (Or.inl rfl) q3k)
   (qc (q0B PassesOwn.never rfl (q09 K (q6d C_come q5Y q5O hr (by decide) rfl (qa (pv 0) qe))) (qq (i:=3) q2t.nd rfl (Or.inl rfl)) (qf (qV (q1M (q3G (q0Q hr) (pv 3) (pv 2))) (qc (qF (q8A PySem.F.plainAttrs_list PySem.F.slot_list_append PySem.F.type_list_append q19 (pv 1) (qa (pv 3) qe)))
   (qf (q0B PassesOwn.never rfl (q09 K (qp C_round_of hr (by decide) rfl (qa (pv 0) (qa (pv 3) qe)))) (qq (i:=4) q2t.nd rfl (Or.inl rfl)) (qf (q2j (q0Q hr) (pv 2) (pv 4) q3c rfl))))) qu)))
   (qf (ql (pv 1)))))),?_⟩
  walk_at "rd"
  intro F hF
  have s1:=Same.upd (o:= .lst []) hF
  have h1:=qb (H:=H) (a:=F) (o:= .lst [])
  generalize upd H F (.lst [])=H1 at s1 h1 ⊢
  walk_at "rd"
  intro D hD1
  have hD:H D=none:=s1.free hD1
  have s2:=s1.trans (Same.upd (o:= .dT []) hD1)
  have h2:=(Same.upd (o:= .dT []) hD1) _ _ h1
  have d2:DAtS (upd H1 D (.dT [])) D []:=qb
  generalize upd H1 D (.dT [])=H2 at s2 h2 d2 ⊢
  walk_at "rd"
  refine⟨c,.non,C,_,rfl,hC.mono s2.ts,ok,sm,.inl ⟨rfl,rfl⟩,ok0,fun lc R0 H3 s3 hlc0 hlc isc=>?_⟩
  obtain⟨nd0,od0,mem0⟩:=isc
  obtain⟨rs,hrs,rrs⟩:=hlc
  have hR0:R0.length<=288:=few ok sm ok0 nd0 fun x hx=>(mem0 x).mp hx
  have neF:lc≠F:=fun z=>by rw[z,h2] at hlc0;cases hlc0
  have neD:lc≠D:=fun z=>by rw[z,show H2 D=some _ from d2] at hlc0;cases hlc0
  have s03:=s2.trans s3
  have hrl:=rrs.1
  walk_at "rd"
  refine q1Q (rs.map V.ref) (fun i σ H'=>∃v3 v4 l,σ=[some (.ref c),some (.ref F),some (.ref D),v3,v4]/\Same H H'/\H' lc=some (.lst (rs.map V.ref))/\Rows SAt H' rs R0/\qJ SAt H' F ((R0.take i).filter fun x=>decide (q0i C x=x))/\DAtS H' D l/\l.length<=i*14/\∀y,y∈l.map (·.1)↔∃x∈R0.take i,Mut C x y)
   ⟨none,none,[],rfl,s03,hrs,rrs,⟨[],s3 _ _ h2,Rows.nil⟩,s3 _ _ d2,by simp,fun y=>by simp⟩ ?_ ?_ ?_
  ·rintro i σ H' ⟨_,_,_,rfl,_,e,_⟩
   exact SqL.of e
  ·rintro i z σ H4 hz ⟨v3,v4,l,rfl,s4,l4,r4,⟨qs,hqs,rqs⟩,d4,hll,hmem⟩
   have hi:i<R0.length:=by have:=(List.getElem?_eq_some_iff.mp hz).1;rw[List.length_map,rrs.1] at this;exact this
   obtain⟨p,ep,hp4⟩:=r4.get hi
   rw[hz] at ep
   cases ep
   have spl:R0=R0.take i++R0[i]::R0.drop (i+1):=by rw[<-List.drop_eq_getElem_cons hi,List.take_append_drop]
   have fi:=q9e (A:=R0.take i) (B:=R0.drop (i+1)) (x:=R0[i]) ok ok0 (by rw[<-spl];exact nd0) (by rw[<-spl];exact od0) (by rw[<-spl];exact mem0)
   have xok:=q4N ok ok0 ((mem0 _).mp (List.getElem_mem hi))
   rw[List.take_succ_eq_append_getElem hi,List.filter_append]
   generalize R0[i]=x at hp4 fi xok ⊢
   have hp4:SAt H4 p x:=hp4
   have hql:qs.length<=288:=by rw[rqs.1];refine Nat.le_trans (List.length_filter_le _ _) ?_;rw[List.length_take];omega
   walk_at "rd"
   refine⟨D,_,rfl,q3Q (.inl d4) hp4,?_⟩
   rw[q1a]
   walk_at "rd"
   by_cases hin:x∈l.map (·.1)
   ·rw [decide_eq_true hin]
    walk_at "rd"
    have hf:=fi.mp ((hmem x).mp hin)
    refine⟨_,_,l,rfl,s4,l4,r4,⟨qs,hqs,?_⟩,d4,by omega,fun y=>?_⟩
    ·simpa [hf] using rqs
    ·rw [hmem]
     constructor
     ·rintro ⟨z,hz,m⟩
      exact⟨z,List.mem_append_left _ hz,m⟩
     ·rintro ⟨z,hz,m⟩
      rcases List.mem_append.mp hz with z1|z1
      ·exact ⟨z,z1,m⟩
      ·obtain ⟨w',hw,mw⟩:=(hmem x).mp hin
       rw[List.mem_singleton.mp z1] at m
       exact⟨w',hw,mw.trans m⟩
   ·rw [decide_eq_false hin]
    have hf:q0i C x=x:=Classical.byContradiction fun z=>hin ((hmem x).mpr (fi.mpr z))
    walk_at "rd"
    refine qce hqs (by rw[List.length_map];omega) ?_
    have s5:Same H (upd H4 F (.lst (qs.map V.ref++[.ref p]))):=s4.put hF
    have ts5:=q00.lst (o:= .lst (qs.map V.ref++[.ref p])) hqs
    have hF5:qJ SAt (upd H4 F (.lst (qs.map V.ref++[.ref p]))) F (((R0.take i).filter fun x=>decide (q0i C x=x))++[x]):=q0J (fun _ _=>SAt.put hqs) rqs hp4
    have d5:DAtS (upd H4 F (.lst (qs.map V.ref++[.ref p]))) D l:=DAtS.lput hqs d4
    have l5:upd H4 F (.lst (qs.map V.ref++[.ref p])) lc=some (.lst (rs.map V.ref)):=by rw[qi neF];exact l4
    generalize upd H4 F (.lst (qs.map V.ref++[.ref p]))=H5 at s5 ts5 hF5 d5 l5 ⊢
    walk_at "rd"
    refine⟨c,p,C,x,rfl,hC.mono s5.ts,ok,SAt.mono ts5 hp4,xok,fun lr R H6 s6 hlr0 hlr hR=>?_⟩
    obtain⟨ps,hps,rps⟩:=hlr
    have hRl:R.length<=14:=by
     have:=sub_len hR.nd fun x hx=>q4v ok xok ((hR.mem x).mp hx).1
     have:=q9n C x
     have:=ok.r2
     omega
    have neD6:lr≠D:=fun z=>by rw[z,show H5 D=some _ from d5] at hlr0;cases hlr0
    have hpl:=rps.1
    walk_at "rd"
    refine q1Q (ps.map V.ref) (fun j σ H'=>∃v4 l',σ=[some (.ref c),some (.ref F),some (.ref D),some (.ref p),v4]/\Same H H'/\q00 H6 H'/\H' lr=some (.lst (ps.map V.ref))/\H' lc=some (.lst (rs.map V.ref))/\qJ SAt H' F (((R0.take i).filter fun x=>decide (q0i C x=x))++[x])/\DAtS H' D l'/\l'.length<=i*14+j/\∀y,y∈l'.map (·.1)↔(∃x∈R0.take i,Mut C x y)\/y∈R.take j)
     ⟨v4,l,rfl,s5.trans s6,fun _ _ z=>z,hps,s6 _ _ l5,qJ.same s6 hF5,s6 _ _ d5,by omega,fun y=>by rw[hmem];simp⟩ ?_ ?_ ?_
    ·rintro j σ H' ⟨_,_,rfl,_,_,e,_⟩
     exact SqL.of e
    ·rintro j z σ H7 hz ⟨v4,l',rfl,s7,ts7,lr7,l7,⟨us,hus,rus⟩,d7,hll7,hmem7⟩
     have hj:j<R.length:=by have:=(List.getElem?_eq_some_iff.mp hz).1;rw[List.length_map,rps.1] at this;exact this
     obtain⟨p',ep',hp'⟩:=rps.get hj
     rw[hz] at ep'
     cases ep'
     have hp7:SAt H7 p' R[j]:=SAt.mono ts7 hp'
     have hyR:R[j]∈R:=List.getElem_mem hj
     have hnt:R[j]∉R.take j:=fun z=>by
      have e:=hR.nd
      rw[show R=R.take j++R[j]::R.drop (j+1) by rw[<-List.drop_eq_getElem_cons hj,List.take_append_drop],List.nodup_append] at e
      exact e.2.2 _ z _ (.head _) rfl
     have hnew:R[j]∉l'.map (·.1):=fun z=>by
      rcases(hmem7 _).mp z with⟨w',hw,m⟩|z
      ·exact hin ((hmem x).mpr ⟨w',hw,m.trans (Mut.symm ((hR.mem _).mp hyR))⟩)
      ·exact hnt z
     rw[List.take_succ_eq_append_getElem hj]
     generalize R[j]=y at hp7 hnew ⊢
     walk_at "rd"
     refine⟨D,_,rfl,q4f d7 hp7 (by omega) hnew,?_⟩
     have neDF:F≠D:=q2U hus d7 (by intro z;cases z)
     have ts8:=q6q (o:= .dT (dkv (l'++[(y,V.bl true)]))) d7
     refine⟨_,l'++[(y,V.bl true)],rfl,s7.put hD,ts7.trans ts8,by rw[qi neD6];exact lr7,by rw[qi neD];exact l7,⟨us,by rw[qi neDF];exact hus,rus.mono fun _ _=>SAt.mono ts8⟩,qb,by rw[List.length_append,List.length_singleton];omega,fun z=>?_⟩
     rw[List.map_append,List.mem_append,hmem7,List.mem_append,or_assoc]
     rfl
    ·rintro σ H7 ⟨v4,l',rfl,s7,ts7,lr7,l7,hF7,d7,hll7,hmem7⟩
     rw[List.length_map,rps.1] at hll7 hmem7
     rw[List.take_length] at hmem7
     have r7:Rows SAt H7 rs R0:=r4.mono fun _ _ h=>SAt.mono ((ts5.trans s6.ts).trans ts7) h
     refine⟨_,_,l',rfl,s7,l7,r7,?_,d7,by omega,fun y=>?_⟩
     ·simpa [hf] using hF7
     ·rw [hmem7]
      constructor
      ·rintro (⟨z,hz,m⟩|z)
       ·exact ⟨z,List.mem_append_left _ hz,m⟩
       ·exact ⟨x,by simp,(hR.mem y).mp z⟩
      ·rintro ⟨z,hz,m⟩
       rcases List.mem_append.mp hz with z1|z1
       ·exact .inl ⟨z,z1,m⟩
       ·rw [List.mem_singleton.mp z1] at m
        exact .inr ((hR.mem y).mpr m)
  ·rintro σ H4 ⟨v3,v4,l,rfl,s4,l4,r4,hF4,d4,_,_⟩
   rw[List.length_map,rrs.1,List.take_length] at hF4
   walk_at "rd"
   exact k F _ H4 s4 hF hF4 ⟨nd0.filter _,od0.filter _,fun x=>by rw[List.mem_filter,decide_eq_true_eq,mem0]⟩
end
theorem q4M {xs:List V}{lo hi:Option Int}{v:V}(h:v∈cutV xs lo hi):v∈xs:=List.mem_of_mem_drop (List.mem_of_mem_take h)
theorem q8k {H:Hp}{ps:List Addr}{R:List Sd}(h:Rows SAt H ps R):∀v∈ps.map V.ref,∃p x,v= .ref p/\SAt H p x/\x∈R:=fun v hv=>by
 obtain⟨i,hi,e⟩:=List.getElem_of_mem hv
 have hi':i<R.length:=by rw[List.length_map,h.1] at hi;exact hi
 obtain⟨p,ep,hp⟩:=h.get hi'
 rw[List.getElem?_eq_getElem hi,e] at ep
 cases ep
 exact⟨p,_,rfl,hp,List.getElem_mem hi'⟩
theorem qaW {C:Cl}{x:Sd}(ok:ClOk C)(h:x.ok C):(q0i C x).rm<=x.rm/\(q0i C x).tk=x.tk/\(q0i C x).op=x.op/\(q0i C x).b=x.b/\(q0i C x).wt=x.wt:=by
 obtain⟨r,_,e⟩:=q4A.mp (q4v ok h (q2J ok h).1)
 have m:=q4G ok h (⟨.refl,.refl⟩:Mut C x x)
 rw[e] at m ⊢
 refine⟨?_,rfl,rfl,rfl,rfl⟩
 apply Int.not_lt.mp
 intro z
 exact m (List.cons_lt_cons_iff.mpr (.inl z))
theorem IsF.eq {C:Cl}{L M:List Sd}(h:IsF C L)(g:IsF C M):L=M:=q4x ((List.perm_ext_iff_of_nodup h.nd g.nd).mpr fun x=>by rw[h.mem,g.mem]) h.ord g.ord
def spFd:Sp:=fun vs H Q _=>∃(c q:Addr) (C:Cl) (s:Sd),vs=[.ref c,.ref q]/\ClAt H c C/\ClOk C/\SAt H q s/\s.ok C/\∀(H':Hp),Same H H'->Q (.bl true) H'
section
variable {P:Program}{w:World}{K:W.Frag}{mg:Str->Option Value}{base:Heap}{cs:Cs}
theorem qcA (T:Txt mg cs)(L:Laid K mg "_law_folded" q0E ["_law_place","_law_stand"])(C_round_of:Cal P w K mg base 9 "round_of" ["cellar","stand"] q4k)(C_fold:Cal P w K mg base 10 "fold" ["cellar","stand"] qbj):Cal P w K mg base 11 "_law_folded" ["_law_place","_law_stand"] spFd:=by
 refine L.cal (k:=10) q28 (fun vs H Q E h=>?_) (fun f cdv A outer s H vs Q E hr h=>?_)
 ·obtain ⟨c,q,C,st,rfl,_⟩:=h
  rfl
 ·obtain ⟨c,q,C,st,rfl,hC,ok,hq,sok,k⟩:=h
  have hu:=Nat.lt_of_succ_lt (hu_of hr)
  have fok:(q0i C st).ok C:=qbr ok sok (q2J ok sok)
  have fd:=qaW ok sok
  have fs:=q5L ok sok
  refine⟨_,(qc (qw (i:=2) q28.nd rfl (Or.inl rfl) (qp C_fold hr (by decide) rfl (qa (pv 0) (qa (pv 1) qe))))
   (qc (qV (PW.pt (q2i (q2b (q0A (qB q1R rfl T.n_isinstance q0p (qa (pv 2) (qa (q3F (v:= .ty "tuple") rfl T.n_tuple q13 rfl) qe))))) (q2i (qv (q6f K hu) (pv 2) (qA (q01 K) (qp C_round_of hr (by decide) rfl (qa (pv 0) (qa (pv 1) qe))) qg (fun _ _=>rfl)) (qt _)) (q1F (qv (q6f K hu) (qp C_fold hr (by decide) rfl (qa (pv 0) (qa (pv 2) qe))) (pv 2) (qt _)))))) (qf (ql q3c)) qu)
   (qf (ql (q5D (q05 qap (qA (qk K) (pv 2) qg (fun _ _=>rfl)) (qA (qk K) (pv 1) qg (fun _ _=>rfl)) (qt _)) (q3D (q05 (qcs K hu) (q0I (q2s K) (pv 2) (q1z qg) q1A) (q0I (q2s K) (pv 1) (q1z qg) q1A) (qt _)))))))),?_⟩
  walk_at "rd"
  refine⟨c,q,C,st,rfl,hC,ok,hq,sok,fun p H1 R1 s1 hp _=>?_⟩
  have hp1:H1 p=some (.tup (q0i C st).vs):=hp
  walk_at "rd"
  refine⟨c,q,C,st,rfl,hC.mono s1.ts,ok,SAt.mono s1.ts hq,sok,fun l R H2 s2 hl0 hl hR=>?_⟩
  obtain⟨ps,hps,rps⟩:=hl
  have hne:R≠[]:=fun z=>by have:=hR.self;rw[z] at this;cases this
  obtain⟨f0,R',rfl⟩:=List.exists_cons_of_ne_nil hne
  obtain⟨p2,ps',rfl⟩:∃p ps',ps=p::ps':=List.exists_cons_of_ne_nil fun z=>by have:=rps.1;rw[z] at this;cases this
  have hp2:SAt H2 p2 f0:=rps.2 0 p2 f0 rfl rfl
  rw[<-q71 hR] at hp2
  walk_at "rd"
  refine qc9 (SqT.of (s2 _ _ hp1)) (SqT.of hp2) rfl rfl ?_
  rw[q8c,decide_eq_true rfl]
  walk_at "rd"
  refine⟨c,p,C,q0i C st,rfl,hC.mono (s1.trans s2).ts,ok,SAt.mono s2.ts hp,fok,fun p3 H3 R3 s3 hp3 _=>?_⟩
  rw[fs] at hp3
  have hpA:SAt H3 p (q0i C st):=SAt.mono (s2.trans s3).ts hp
  have hqA:SAt H3 q st:=SAt.mono ((s1.trans s2).trans s3).ts hq
  walk_at "rd"
  refine qc9 (SqT.of hp3) (SqT.of hpA) rfl rfl ?_
  rw[q8c,decide_eq_true rfl]
  have s03:=(s1.trans s2).trans s3
  obtain⟨f1,f2,f3,f4,f5⟩:=fd
  have hpB:H3 p=some (.tup [.int (q0i C st).rm,.int st.tk,.int st.op,.int st.b,.int st.wt]):=by rw[<-f2,<-f3,<-f4,<-f5];exact hpA
  have hqB:H3 q=some (.tup [.int st.rm,.int st.tk,.int st.op,.int st.b,.int st.wt]):=hqA
  generalize (q0i C st).rm=rm at f1 hpB
  walk_at "rd"
  rw[decide_eq_true f1]
  walk_at "rd"
  have cut:∀(r:Int) (H':Hp) (a:Addr) (Q:VK),H' a=some (.tup [.int r,.int st.tk,.int st.op,.int st.b,.int st.wt])->(∀p,H' p=none->Q (.ref p) (upd H' p (.tup [.int st.tk,.int st.op,.int st.b,.int st.wt])))->qcf K (.ref a) (some 1) none H' Q:=fun r H' a Q h k=>⟨a,_,rfl,SqT.of h,fun z=>absurd (congrArg List.length z) (show¬(4:Nat)=5 by decide),k⟩
  refine cut _ _ _ _ hpB fun z1 hz1=>?_
  have s4:=Same.upd (o:= .tup [.int st.tk,.int st.op,.int st.b,.int st.wt]) hz1
  have h4:=qb (H:=H3) (a:=z1) (o:= .tup [.int st.tk,.int st.op,.int st.b,.int st.wt])
  generalize upd H3 z1 (.tup [.int st.tk,.int st.op,.int st.b,.int st.wt])=H4 at s4 h4 ⊢
  walk_at "rd"
  refine cut _ _ _ _ (s4 _ _ hqB) fun z2 hz2=>?_
  have s5:=Same.upd (o:= .tup [.int st.tk,.int st.op,.int st.b,.int st.wt]) hz2
  have h5:=qb (H:=H4) (a:=z2) (o:= .tup [.int st.tk,.int st.op,.int st.b,.int st.wt])
  generalize upd H4 z2 (.tup [.int st.tk,.int st.op,.int st.b,.int st.wt])=H5 at s5 h5 ⊢
  walk_at "rd"
  refine r_eqT (SqT.of (s5 _ _ h4)) (SqT.of h5) rfl rfl ?_
  rw[show eqVs [V.int st.tk,V.int st.op,V.int st.b,V.int st.wt] [V.int st.tk,V.int st.op,V.int st.b,V.int st.wt]=true by simp[eqVs,eqV]]
  walk_at "rd"
  exact k _ ((s03.trans s4).trans s5)
end
section
variable {P:Program}{w:World}{K:W.Frag}{mg:Str->Option Value}{base:Heap}{cs:Cs}
theorem ok_law {f:Addr}{fd:FuncData}(F:Fun K "law" "law" qc3 f fd)(T:Txt mg cs)(TC:Tcl K cs)(L__wall:Laid K mg "_wall" q8h ["k"])(L_within:Laid K mg "within" q3i ["number","least","most"])(L_has_bit:Laid K mg "has_bit" q2v ["bits","place"])(L_changed:Laid K mg "changed" q2x ["parts","place","part"])(L_gate_of:Laid K mg "gate_of" q2w ["gate"])(L_is_gate:Laid K mg "is_gate" q1K ["thing"])(L_tops_of:Laid K mg "tops_of" q2u ["word"])(L_cellar:∃d1 d2,LaidD K mg "cellar" q0U [.none,.none,.none,.int 0 d1,.int 0 d2])(L_check_number:Laid K mg "check_number" q0u ["name","number","least","most"])(L_made_ways:Laid K mg "made_ways" q1f ["rooms","ways"])(L_made_pairs:Laid K mg "made_pairs" q0T ["name","rooms","pairs","most_pairs","least","most"])(L_made_rows:Laid K mg "made_rows" q0f ["name","rows","most"])(L_start:Laid K mg "start" q4t ["cellar"])(L_held:Laid K mg "held" q6F ["cellar","stand"])(L_door_kinds:Laid K mg "door_kinds" q0y ["cellar"])(L_can_enter:Laid K mg "can_enter" q1g ["way","room"])(L_leads:Laid K mg "leads" q3A ["cellar","stand"])(L_stands_by_go:Laid K mg "stands_by_go" q0d ["cellar","stand"])(L_fit_deeds:Laid K mg "fit_deeds" q0N ["cellar","stand"])(L_all_goes:Laid K mg "all_goes" q17 ["cellar"])(L_all_deeds:Laid K mg "all_deeds" q03 ["cellar"])(L_come:LaidD K mg "come" q3B [.none])(L_begin_of:Laid K mg "begin_of" q1T ["cellar","stand"])(L_walk_from:Laid K mg "walk_from" q1e ["cellar","begin"])(L_counts_from:Laid K mg "counts_from" q0D ["begins","links"])(L_turned_links:Laid K mg "turned_links" q0t ["links"])(L_round_of:Laid K mg "round_of" q16 ["cellar","stand"])(L_fold:Laid K mg "fold" q6G ["cellar","stand"])(L_folds:Laid K mg "folds" q4u ["cellar"])(L_go_links:Laid K mg "go_links" q1S ["cellar","stand"])(L__law_cell_at:Laid K mg "_law_cell_at" q0v ["_law_script","_law_k"])(L__law_gate:Laid K mg "_law_gate" q1h ["_law_cell"])(L__law_cellar:Laid K mg "_law_cellar" qQ ["_law_script"])(L__law_folded:Laid K mg "_law_folded" q0E ["_law_place","_law_stand"])(LM_Plain_lets:LaidM K cs.Plain "lets" "Plain.lets" q0V ["self","held","opened","bars","water"])(LM_Plain_told:LaidM K cs.Plain "told" "Gate.told" qH ["self"])(LI_Plain:LaidI K mg "Plain" cs.Plain "Plain.__init__" q0W ["self"])(LM_Door_lets:LaidM K cs.Door "lets" "Door.lets" q1w ["self","held","opened","bars","water"])(LM_Door_told:LaidM K cs.Door "told" "Gate.told" qH ["self"])(LI_Door:LaidI K mg "Door" cs.Door "Door.__init__" q1x ["self","kind"])(LM_Need_lets:LaidM K cs.Need "lets" "Need.lets" q1t ["self","held","opened","bars","water"])(LM_Need_told:LaidM K cs.Need "told" "Gate.told" qH ["self"])(LI_Need:LaidI K mg "Need" cs.Need "Need.__init__" q1u ["self","kind"])(LM_Bar_lets:LaidM K cs.Bar "lets" "Bar.lets" q1U ["self","held","opened","bars","water"])(LM_Bar_told:LaidM K cs.Bar "told" "Gate.told" qH ["self"])(LI_Bar:LaidI K mg "Bar" cs.Bar "Bar.__init__" q1V ["self","bar"])(LM_Wade_lets:LaidM K cs.Wade "lets" "Wade.lets" q1i ["self","held","opened","bars","water"])(LM_Wade_told:LaidM K cs.Wade "told" "Gate.told" qH ["self"])(LI_Wade:LaidI K mg "Wade" cs.Wade "Wade.__init__" q1j ["self","height","kind"])(LM_Float_lets:LaidM K cs.Float "lets" "Float.lets" q0X ["self","held","opened","bars","water"])(LM_Float_told:LaidM K cs.Float "told" "Gate.told" qH ["self"])(LI_Float:LaidI K mg "Float" cs.Float "Float.__init__" q0Y ["self","height"])(LM_Go_can:LaidM K cs.Go "can" "Deed.can" qO ["self","cellar","stand"])(LM_Go_done:LaidM K cs.Go "done" "Go.done" q2A ["self","cellar","stand"])(LM_Go_fits:LaidM K cs.Go "fits" "Go.fits" q2z ["self","cellar","stand"])(LM_Go_own_part:LaidM K cs.Go "own_part" "Deed.own_part" qy ["self","cellar"])(LM_Go_told:LaidM K cs.Go "told" "Deed.told" qI ["self"])(LI_Go:LaidI K mg "Go" cs.Go "Go.__init__" q2y ["self","number"])(LM_Pull_can:LaidM K cs.Pull "can" "Deed.can" qO ["self","cellar","stand"])(LM_Pull_done:LaidM K cs.Pull "done" "Pull.done" q1s ["self","cellar","stand"])(LM_Pull_fits:LaidM K cs.Pull "fits" "Pull.fits" q1r ["self","cellar","stand"])(LM_Pull_own_part:LaidM K cs.Pull "own_part" "Deed.own_part" qy ["self","cellar"])(LM_Pull_told:LaidM K cs.Pull "told" "Deed.told" qI ["self"])(LI_Pull:LaidI K mg "Pull" cs.Pull "Pull.__init__" q1q ["self","number"])(LM_Take_can:LaidM K cs.Take "can" "Deed.can" qO ["self","cellar","stand"])(LM_Take_done:LaidM K cs.Take "done" "Take.done" q1p ["self","cellar","stand"])(LM_Take_fits:LaidM K cs.Take "fits" "Take.fits" q1o ["self","cellar","stand"])(LM_Take_own_part:LaidM K cs.Take "own_part" "Deed.own_part" qy ["self","cellar"])(LM_Take_told:LaidM K cs.Take "told" "Deed.told" qI ["self"])(LI_Take:LaidI K mg "Take" cs.Take "Take.__init__" q1n ["self","number"])(LM_Turn_can:LaidM K cs.Turn "can" "Deed.can" qO ["self","cellar","stand"])(LM_Turn_done:LaidM K cs.Turn "done" "Turn.done" q1m ["self","cellar","stand"])(LM_Turn_fits:LaidM K cs.Turn "fits" "Turn.fits" q1l ["self","cellar","stand"])(LM_Turn_own_part:LaidM K cs.Turn "own_part" "Deed.own_part" qy ["self","cellar"])(LM_Turn_told:LaidM K cs.Turn "told" "Deed.told" qI ["self"])(LI_Turn:LaidI K mg "Turn" cs.Turn "Turn.__init__" q1k ["self","number"])(LM_Unlock_can:LaidM K cs.Unlock "can" "Deed.can" qO ["self","cellar","stand"])(LM_Unlock_done:LaidM K cs.Unlock "done" "Unlock.done" q0H ["self","cellar","stand"])(LM_Unlock_fits:LaidM K cs.Unlock "fits" "Unlock.fits" q0G ["self","cellar","stand"])(LM_Unlock_own_part:LaidM K cs.Unlock "own_part" "Deed.own_part" qy ["self","cellar"])(LM_Unlock_told:LaidM K cs.Unlock "told" "Deed.told" qI ["self"])(LI_Unlock:LaidI K mg "Unlock" cs.Unlock "Unlock.__init__" q0F ["self","number"])(LC_Deed_init:LaidC K mg "Deed" "__init__" "Deed.__init__" q1y ["self","word","number","part"])(LC_Gate_init:LaidC K mg "Gate" "__init__" "Gate.__init__" q1v ["self","word","numbers"]):FnOk P w K mg base CX0 13 f fd ["_law_script"] (qa1 K):=by
 obtain⟨d1,d2,L_cellar⟩:=L_cellar
 have C_has_bit:Cal P w K mg base 1 "has_bit" ["bits","place"] q64:=q7z T L_has_bit
 have C_within:Cal P w K mg base 1 "within" ["number","least","most"] q2q:=q8D T L_within
 have C_can_enter:Cal P w K mg base 1 "can_enter" ["way","room"] q4l:=qaw T L_can_enter
 have C_changed:Cal P w K mg base 1 "changed" ["parts","place","part"] q5e:=q7B T L_changed
 have C_door_kinds:Cal P w K mg base 1 "door_kinds" ["cellar"] spDk:=ok_dk T L_door_kinds
 have C_held:Cal P w K mg base 2 "held" ["cellar","stand"] q6B:=qcw T L_held C_has_bit C_door_kinds
 have C_Gate_init:CCal P w K mg base 1 "Gate" "__init__" ["self","word","numbers"] (q1I K):=qat T LC_Gate_init
 have C_Plain:Makes P w K mg base 2 "Plain" cs.Plain ["self"] (spMk cs "plain"):=qaF T TC LI_Plain C_Gate_init
 have C_Door:Makes P w K mg base 2 "Door" cs.Door ["self","kind"] (spMk cs "door"):=qcM T TC LI_Door C_Gate_init
 have C_Need:Makes P w K mg base 2 "Need" cs.Need ["self","kind"] (spMk cs "need"):=qcL T TC LI_Need C_Gate_init
 have C_Bar:Makes P w K mg base 2 "Bar" cs.Bar ["self","bar"] (spMk cs "bar"):=mk_bar T TC LI_Bar C_Gate_init
 have C_Wade:Makes P w K mg base 2 "Wade" cs.Wade ["self","height","kind"] (spMk cs "wade"):=qcH T TC LI_Wade C_Gate_init
 have C_Float:Makes P w K mg base 2 "Float" cs.Float ["self","height"] (spMk cs "float"):=qaG T TC LI_Float C_Gate_init
 have C_gate_of:Cal P w K mg base 4 "gate_of" ["gate"] (qbV cs):=q7A T L_gate_of C_Plain C_Door C_Need C_Bar C_Wade C_Float
 have vl:∀g:Gt,VMeth P w K mg base 2 (q9B cs g) "lets" ["self","held","opened","bars","water"] (q34 cs g.word):=fun g=>by
  cases g
  ·exact q4h T TC LM_Plain_lets
  ·exact q52 T TC LM_Door_lets
  ·exact q51 T TC LM_Need_lets
  ·exact q60 T TC LM_Bar_lets C_has_bit
  ·exact q50 T TC LM_Wade_lets
  ·exact q4i T TC LM_Float_lets
 have C_Deed_init:CCal P w K mg base 1 "Deed" "__init__" ["self","word","number","part"] (q2h K):=qax T LC_Deed_init
 have C_Go:Makes P w K mg base 2 "Go" cs.Go ["self","number"] (q1H cs .go):=mk_go T TC LI_Go C_Deed_init
 have C_Pull:Makes P w K mg base 2 "Pull" cs.Pull ["self","number"] (q1H cs .pull):=qcK T TC LI_Pull C_Deed_init
 have C_Take:Makes P w K mg base 2 "Take" cs.Take ["self","number"] (q1H cs .take):=qcJ T TC LI_Take C_Deed_init
 have C_Turn:Makes P w K mg base 2 "Turn" cs.Turn ["self","number"] (q1H cs .turn):=qcI T TC LI_Turn C_Deed_init
 have C_Unlock:Makes P w K mg base 2 "Unlock" cs.Unlock ["self","number"] (q1H cs .unlock):=q8J T TC LI_Unlock C_Deed_init
 have vo:∀d,VMeth P w K mg base 1 (dcls cs d) "own_part" ["self","cellar"] (q41 cs d):=fun d=>by
  have D:=q2f TC d
  cases d
  ·exact q4Z LM_Go_own_part D
  ·exact q4Z LM_Pull_own_part D
  ·exact q4Z LM_Take_own_part D
  ·exact q4Z LM_Turn_own_part D
  ·exact q4Z LM_Unlock_own_part D
 have vf:∀d,VMeth P w K mg base 5 (dcls cs d) "fits" ["self","cellar","stand"] (q3v cs d):=fun d=>by
  have D:=q2f TC d
  have v:=vo d
  cases d
  ·exact q7h T D LM_Go_fits v C_can_enter C_has_bit C_gate_of vl C_held
  ·exact q55 T D LM_Pull_fits v
  ·exact q54 T D LM_Take_fits v C_has_bit
  ·exact q53 T D LM_Turn_fits v
  ·exact q3Y T D LM_Unlock_fits v C_can_enter C_has_bit C_held
 have vc:∀d,VMeth P w K mg base 6 (dcls cs d) "can" ["self","cellar","stand"] (qa2 cs d):=fun d=>by
  have D:=q2f TC d
  have v:=vf d
  cases d
  ·exact q59 T LM_Go_can D C_within v
  ·exact q59 T LM_Pull_can D C_within v
  ·exact q59 T LM_Take_can D C_within v
  ·exact q59 T LM_Turn_can D C_within v
  ·exact q59 T LM_Unlock_can D C_within v
 have vd:∀d,VMeth P w K mg base 2 (dcls cs d) "done" ["self","cellar","stand"] (q35 cs d):=fun d=>by
  have D:=q2f TC d
  have v:=vo d
  cases d
  ·exact q7i T D LM_Go_done v C_changed
  ·exact q58 T D LM_Pull_done v C_changed
  ·exact q57 T D LM_Take_done C_changed
  ·exact q56 T D LM_Turn_done v C_changed
  ·exact q3Z T D LM_Unlock_done C_changed
 have vt:∀d,VMeth P w K mg base 1 (dcls cs d) "told" ["self"] (q63 cs d):=fun d=>by
  have D:=q2f TC d
  cases d
  ·exact q2o LM_Go_told D
  ·exact q2o LM_Pull_told D
  ·exact q2o LM_Take_told D
  ·exact q2o LM_Turn_told D
  ·exact q2o LM_Unlock_told D
 have C_start:Cal P w K mg base 1 "start" ["cellar"] q62:=qaq T L_start
 have C_all_goes:Cal P w K mg base 4 "all_goes" ["cellar"] (q6C cs):=qcx T L_all_goes C_Go
 have C_all_deeds:Cal P w K mg base 5 "all_deeds" ["cellar"] (q89 cs):=qcD T L_all_deeds C_all_goes C_Pull C_Take C_Turn C_Unlock
 have C_fit_deeds:Cal P w K mg base 7 "fit_deeds" ["cellar","stand"] (q86 cs):=qcz T L_fit_deeds C_all_deeds vc
 have C_tops_of:=q7x (P:=P) (w:=w) (base:=base) T L_tops_of
 have C_is_gate:=q7y (P:=P) (w:=w) (base:=base) T L_is_gate C_tops_of C_within
 have C_check_number:=qay (P:=P) (w:=w) (base:=base) T L_check_number C_within
 have C_made_rows:=qcv (P:=P) (w:=w) (base:=base) T L_made_rows
 have C_made_ways:=ok_mw (P:=P) (w:=w) (base:=base) T L_made_ways C_check_number C_made_rows C_is_gate
 have C_made_pairs:=ok_mp (P:=P) (w:=w) (base:=base) T L_made_pairs C_check_number C_made_rows
 have C_cellar:CalD P w K mg base 4 "cellar" psC qbW q0U (dsC d1 d2):=ok_mkc (P:=P) (w:=w) (base:=base) T L_cellar C_check_number C_made_ways C_made_pairs
 have C_leads:=qas T L_leads C_fit_deeds vt vd
 have C_stands_by_go:=qcC T L_stands_by_go C_all_goes vc vd
 have C_go_links:=q8F T L_go_links C_changed C_stands_by_go
 have C_counts_from:=qaz (P:=P) (w:=w) (base:=base) T L_counts_from
 have C_turned_links:=q8E (P:=P) (w:=w) (base:=base) T L_turned_links
 have C_round_of:=qar T L_round_of C_go_links C_counts_from C_turned_links
 have C_fold:=qcy T L_fold C_round_of
 have C_walk_from:=qcu T L_walk_from C_leads
 have C_begin_of:=qaB T L_begin_of C_start
 have C_come:=ok_cm T L_come C_begin_of C_walk_from
 have C_folds:=qav T L_folds C_come C_round_of
 have C__law_cell_at:=qaA (P:=P) (w:=w) (base:=base) T L__law_cell_at
 have C__law_gate:=qau (P:=P) (w:=w) (base:=base) T L__law_gate
 have C__law_cellar:=qcB T L__law_cellar C__law_cell_at C__law_gate C_cellar
 have C__law_folded:=qcA T L__law_folded C_round_of C_fold
 refine F.ok (k:=12) q27 (fun vs H Q E h=>?_) (fun cdv A outer s H vs Q E hr h=>?_)
 ·obtain ⟨a,ns,rfl,_⟩:=h
  rfl
 ·obtain ⟨a,ns,rfl,hS,hl,k⟩:=h
  have big:=qM
  have hu:=Nat.lt_of_succ_lt (hu_of hr)
  refine⟨_,(qc (qw (i:=1) q27.nd rfl (Or.inl rfl) (qp C__law_cellar hr (by decide) rfl (qa (pv 0) qe)))
   (qc (qw (i:=2) q27.nd rfl (Or.inl rfl) q6P)
   (qc (qw (i:=3) q27.nd rfl (Or.inl rfl) q6P)
   (qc (q8p (qf (qw (i:=2) q27.nd rfl (Or.inl rfl) (q6d C_come q5Y q5O hr (by decide) rfl (qa (pv 1) qe)))))
   (qc (q8p (qf (qw (i:=3) q27.nd rfl (Or.inl rfl) (qp C_folds hr (by decide) rfl (qa (pv 1) qe)))))
   (qc (qV (PW.pt (q2i (q1M (q2E (pv 2))) (q1F (q1M (q2E (pv 3)))))) (qf (ql (q5D (qbp (q2E (pv 2))) (q3D (qbp (q2E (pv 3))))))) qu)
   (qc (qw (i:=4) q27.nd rfl (Or.inl rfl) (qx qU (qp C__law_cell_at hr (by decide) rfl (qa (pv 0) (qa qg qe))) (qB (lenK K) rfl T.n_len q0o (qa (pv 2) qe))))
   (qc (q0B PassesOwn.never rfl (q09 K (q0I (q3h K) (qx q5F (q0I (q3h K) (pv 2) (q1z (pv 4)) q1A) (q0I (q3h K) (pv 2) q1A (q1z (pv 4)))) q1A (q1z qg))) (qq (i:=5) q27.nd rfl (Or.inl rfl)) (qf (qV (PW.pt (q2i (q2b (q0A (qp C__law_folded hr (by decide) rfl (qa (pv 1) (qa (pv 5) qe))))) (q1F (qv (q5E K 1 (q6Z hr)) (qp C_fold hr (by decide) rfl (qa (pv 1) (qa (pv 5) qe))) (pv 3) (by with_unfolding_all rfl))))) (qf (ql q3c)) qu)))
   (qc (qV (PW.pt (q2i (q2b (q0A (qB q1R rfl T.n_isinstance q0p (qa (pv 3) (qa (q3F (v:= .ty "list") rfl T.n_list q6t rfl) qe))))) (q2i (qv (op_neD K 1 (q6Z hr)) (pv 3) (q7w K (hu5_of hr) rfl rfl T.n_sorted rfl T.n_set (pv 3)) (qt _)) (q1F (qv q45 (qB (lenK K) rfl T.n_len q0o (qa (pv 3) qe)) (qB (lenK K) rfl T.n_len q0o (qa (pv 2) qe)) (qt _)))))) (qf (ql q3c)) qu)
   (qc (q0B PassesOwn.never rfl (q09 K (q0I (q3h K) (pv 3) q1A (q1z qg))) (qq (i:=5) q27.nd rfl (Or.inl rfl)) (qf (qV (PW.pt (q2i (qv (q5E K 1 (q6Z hr)) (pv 5) (pv 2) (by with_unfolding_all rfl)) (q1F (qv (q6f K hu) (qp C_fold hr (by decide) rfl (qa (pv 1) (qa (pv 5) qe))) (pv 5) (qt _))))) (qf (ql q3c)) qu)))
   (qc (qw (i:=6) q27.nd rfl (Or.inl rfl) (q0k (qbs K) rfl T.n_list q6t (qa (pv 3) qe)))
   (qc (qF (pe_bm0 PySem.F.plainAttrs_list PySem.F.slot_list_clear PySem.F.type_list_clear qaE (pv 3)))
   (qf (ql (q05 (op_eqD K 1 (q6Z hr)) (qp C_folds hr (by decide) rfl (qa (pv 1) qe)) (pv 6) (qt _)))))))))))))))),?_⟩
  walk_at "rd"
  refine⟨a,ns,rfl,hS,hl,fun c C H1 s1 hC ok sm=>?_⟩
  have ok0:(st0 C).ok C:=qa0 ok
  walk_at "rd"
  refine⟨c,.non,C,_,rfl,hC,ok,sm,.inl ⟨rfl,rfl⟩,ok0,fun r R H2 s2 hr0 hr2 hR=>?_⟩
  walk_at "rd"
  refine⟨c,C,rfl,hC.mono s2.ts,ok,sm,ok0,fun q L H3 s3 hq0 hq hL=>?_⟩
  have hC3:=hC.mono (s2.trans s3).ts
  have s03:=(s1.trans s2).trans s3
  obtain⟨rs,hrs,rrs⟩:=qJ.same s3 hr2
  obtain⟨qs,hqs,rqs⟩:=id hq
  have hrl:R.length<=288:=few ok sm ok0 hR.1 fun x hx=>(hR.2.2 x).mp hx
  have hpos:0<R.length:=List.length_pos_of_mem ((hR.2.2 _).mpr .refl)
  have hLR:∀x∈L,x∈R:=fun x hx=>(hR.2.2 x).mpr ((hL.mem x).mp hx).1
  have hLl:L.length<=R.length:=sub_len hL.nd hLR
  have hrr:rs.length=R.length:=rrs.1
  have hqq:qs.length=L.length:=rqs.1
  have rok:∀x∈R,x.ok C:=fun x hx=>q4N ok ok0 ((hR.2.2 x).mp hx)
  have rm:=q8k rrs
  have qm:=q8k rqs
  walk_at "rd"
  refine ifd (fun z=>nomatch z) (fun _=>?_)
  walk_at "rd"
  refine ifd (fun z=>nomatch z) (fun _=>?_)
  walk_at "rd"
  refine⟨a,ns,7,rfl,s03.seq hS,hl,by decide,?_⟩
  generalize ns.getD (7:Int).toNat 0=m
  have hlpos:(0:Int)<((rs.map V.ref).length:Nat):=by rw[List.length_map];omega
  walk_at "rd"
  obtain⟨j,hj,ej⟩:=qcG m (rs.map V.ref).length (by omega)
  rw[ej]
  walk_at "rd"
  refine⟨r,_,rfl,SqL.of hrs,fun z1 hz1=>?_⟩
  have m1:∀v∈cutV (rs.map V.ref) (some (j:Int)) none,v∈rs.map V.ref:=fun v=>q4M
  have n1:=q1C (rs.map V.ref) (some (j:Int)) none
  generalize cutV (rs.map V.ref) (some (j:Int)) none=x1 at m1 n1 ⊢
  have s4:=Same.upd (o:= .lst x1) hz1
  have h4:=qb (H:=H3) (a:=z1) (o:= .lst x1)
  generalize upd H3 z1 (.lst x1)=H4 at s4 h4 ⊢
  walk_at "rd"
  refine⟨r,_,rfl,SqL.of (s4 _ _ hrs),fun z2 hz2=>?_⟩
  have m2:∀v∈cutV (rs.map V.ref) none (some (j:Int)),v∈rs.map V.ref:=fun v=>q4M
  have n2:=q1C (rs.map V.ref) none (some (j:Int))
  generalize cutV (rs.map V.ref) none (some (j:Int))=x2 at m2 n2 ⊢
  have s5:=Same.upd (o:= .lst x2) hz2
  have h5:=qb (H:=H4) (a:=z2) (o:= .lst x2)
  have h5':=(Same.upd (o:= .lst x2) hz2) _ _ h4
  generalize upd H4 z2 (.lst x2)=H5 at s5 h5 h5' ⊢
  rw[List.length_map] at n1 n2
  walk_at "rd"
  refine⟨z1,z2,_,_,rfl,rfl,h5',h5,by omega,fun z3 hz3=>?_⟩
  have s6:=Same.upd (o:= .lst (x1++x2)) hz3
  have h6:=qb (H:=H5) (a:=z3) (o:= .lst (x1++x2))
  generalize upd H5 z3 (.lst (x1++x2))=H6 at s6 h6 ⊢
  walk_at "rd"
  refine⟨z3,_,rfl,SqL.of h6,fun z4 hz4=>?_⟩
  have m4:∀v∈cutV (x1++x2) none (some 12),v∈rs.map V.ref:=fun v hv=>(List.mem_append.mp (q4M hv)).elim (m1 v) (m2 v)
  generalize cutV (x1++x2) none (some 12)=x4 at m4 ⊢
  have s7:=Same.upd (o:= .lst x4) hz4
  have h7:=qb (H:=H6) (a:=z4) (o:= .lst x4)
  generalize upd H6 z4 (.lst x4)=H7 at s7 h7 ⊢
  have s37:=((s4.trans s5).trans s6).trans s7
  walk_at "rd"
  refine q1Q x4 (fun i σ H'=>∃v5,σ=[some (.ref a),some (.ref c),some (.ref r),some (.ref q),some (.int (j:Int)),v5,none]/\Same H7 H') ⟨none,rfl,Same.refl _⟩ ?_ ?_ ?_
  ·rintro i σ H' ⟨_,rfl,s8⟩
   exact SqL.of (s8 _ _ h7)
  ·rintro i v σ H8 hv ⟨v5,rfl,s8⟩
   obtain⟨p,x,rfl,hp,hx⟩:=rm v (m4 v (List.mem_of_getElem? hv))
   have s38:=s37.trans s8
   have xok:=rok x hx
   walk_at "rd"
   refine⟨c,p,C,x,rfl,hC3.mono s38.ts,ok,SAt.mono s38.ts hp,xok,fun H9 s9=>?_⟩
   have s39:=s38.trans s9
   walk_at "rd"
   refine⟨c,p,C,x,rfl,hC3.mono s39.ts,ok,SAt.mono s39.ts hp,xok,fun p2 H10 R2 s10 hp2 _=>?_⟩
   have hin:q0i C x∈L:=(hL.mem _).mpr ⟨((hR.2.2 x).mp hx).trans (go_nx (q2J ok xok).1),q5L ok xok⟩
   walk_at "rd"
   refine q6K (qJ.same (s39.trans s10) hq) hp2 ?_
   rw[decide_eq_true hin]
   walk_at "rd"
   exact⟨_,rfl,(s8.trans s9).trans s10⟩
  ·rintro σ H8 ⟨v5,rfl,s8⟩
   have s38:=s37.trans s8
   have hq8:=s38 _ _ hqs
   have hr8:=s38 _ _ hrs
   have rqs8:=rqs.mono fun _ _=>SAt.mono s38.ts
   obtain⟨ml,e1,e2,e3⟩:=qJ.pairs rqs8
   walk_at "rd"
   unfold q6y
   walk_at "rd"
   have hml:ml.length=L.length:=by have:=congrArg List.length e2;rwa [List.length_map,List.length_map] at this
   refine⟨q,ml,5,rfl,SqL.of (by rw[hq8,<-e1,List.map_map];rfl),by decide,e3,?_,by omega,fun q2 l' hq2 hpm hs=>?_⟩
   ·rw [e2]
    exact List.Pairwise.map _ (fun a b z e=>z (Sd.ns_inj e)) hL.nd
   obtain⟨R',pm,od,rr⟩:=q2P (ps:=qs) e2 e3 hpm hs
   have s9:=Same.upd (o:= .lst (l'.map fun x=>V.ref x.1)) hq2
   have hq9:qJ SAt (upd H8 q2 (.lst (l'.map fun x=>V.ref x.1))) q2 R':=⟨l'.map (·.1),by rw[qb,List.map_map];rfl,rr.mono fun _ _=>SAt.mono s9.ts⟩
   generalize upd H8 q2 (.lst (l'.map fun x=>V.ref x.1))=H9 at s9 hq9 ⊢
   have eR:L=R':=q4x pm.symm hL.ord od
   have s39:=s38.trans s9
   refine r_neG (fun _ _ _ _=>q9s) (qJ.same s39 hq) hq9 ?_
   rw[decide_eq_true eR]
   have hq9':=s9 _ _ hq8
   have hr9':=s9 _ _ hr8
   walk_at "rd"
   rw[List.length_map,List.length_map,hrr,hqq]
   refine ifd (fun z=>absurd z (by omega)) (fun _=>?_)
   walk_at "rd"
   refine⟨q,_,rfl,SqL.of hq9',fun z5 hz5=>?_⟩
   have m5:∀v∈cutV (qs.map V.ref) none (some 40),v∈qs.map V.ref:=fun v=>q4M
   generalize cutV (qs.map V.ref) none (some 40)=x5 at m5 ⊢
   have s10:=Same.upd (o:= .lst x5) hz5
   have h10:=qb (H:=H9) (a:=z5) (o:= .lst x5)
   generalize upd H9 z5 (.lst x5)=H10 at s10 h10 ⊢
   have s310:=s39.trans s10
   walk_at "rd"
   refine q1Q x5 (fun i σ H'=>∃v5,σ=[some (.ref a),some (.ref c),some (.ref r),some (.ref q),some (.int (j:Int)),v5,none]/\Same H10 H') ⟨v5,rfl,Same.refl _⟩ ?_ ?_ ?_
   ·rintro i σ H' ⟨_,rfl,s11⟩
    exact SqL.of (s11 _ _ h10)
   ·rintro i v σ H11 hv ⟨v5,rfl,s11⟩
    obtain⟨p,x,rfl,hp,hx⟩:=qm v (m5 v (List.mem_of_getElem? hv))
    have s311:=s310.trans s11
    have xok:=rok x (hLR x hx)
    walk_at "rd"
    refine q6K (qJ.same (s3.trans s311) hr2) (SAt.mono s311.ts hp) ?_
    rw[decide_eq_true (hLR x hx)]
    walk_at "rd"
    refine⟨c,p,C,x,rfl,hC3.mono s311.ts,ok,SAt.mono s311.ts hp,xok,fun p2 H12 R2 s12 hp2 _=>?_⟩
    rw[((hL.mem x).mp hx).2] at hp2
    walk_at "rd"
    refine qc9 (SqT.of hp2) (SqT.of (SAt.mono (s311.trans s12).ts hp)) rfl rfl ?_
    rw[q8c,decide_eq_true rfl]
    walk_at "rd"
    exact⟨_,rfl,s11.trans s12⟩
   ·rintro σ H11 ⟨v5,rfl,s11⟩
    have s311:=s310.trans s11
    have hq11:=s311 _ _ hqs
    walk_at "rd"
    refine r_lof (.inl (SqL.of hq11)) fun kp hkp=>?_
    have s12:=Same.upd (o:= .lst (qs.map V.ref)) hkp
    have k12:=qb (H:=H11) (a:=kp) (o:= .lst (qs.map V.ref))
    have ne:kp≠q:=fun z=>by rw[z,hq11] at hkp;cases hkp
    generalize upd H11 kp (.lst (qs.map V.ref))=H12 at s12 k12 ⊢
    have q12:=s12 _ _ hq11
    walk_at "rd"
    refine⟨q,_,rfl,rfl,q12,?_⟩
    have ts:=(s311.trans s12).ts.trans (q00.lst (o:= .lst []) q12)
    have k13:upd H12 q (.lst []) kp=some (.lst (qs.map V.ref)):=by rw[qi ne];exact k12
    generalize upd H12 q (.lst [])=H13 at ts k13 ⊢
    walk_at "rd"
    refine⟨c,C,rfl,hC3.mono ts,ok,sm,ok0,fun q3 L3 H14 s14 hq30 hq3 hL3=>?_⟩
    walk_at "rd"
    refine r_eqG (fun _ _ _ _=>q9s) hq3 ⟨qs,s14 _ _ k13,rqs.mono fun _ _=>SAt.mono (ts.trans s14.ts)⟩ ?_
    rw[decide_eq_true (hL3.eq hL)]
    walk_at "rd"
    exact k _
end
section
variable {K:W.Frag}{h:Heap}{mg:Str->Option Value}{x m q:Str}{C:Addr}{st:Stmt}{ps:List Str}{ds:List Value}
inductive GA (K:W.Frag)(x:Str)(st:Stmt):Prop
 |mk {f:Addr} {od an:Option Addr} {sl:Array (Option Value)} {oc kV dc pm cd ct:Value}:W.nsIn K mainGlobals x=some (some (.ref f))->K.lookup f=some ⟨oc,od,.func (W.fnOf x x (qZ st) (qK st) (qd st) .none kV dc pm an cd ct),sl⟩->W.codeIn K cd x=true->W.keepIn K (.ref f)=true->GA K x st
theorem GA.laid (X:K.In h)(G:h.Ns mainGlobals mg)(g:GA K x st)(hb:∀(kV doc pm:Value) (an:Option Addr) (cdv ct:Value) (us:List Value),us.length=ps.length->bindArgs (W.fnOf x x (qZ st) (qK st) (qd st) .none kV doc pm an cdv ct) ⟨us,[]⟩=pure (ps.zip us)):Laid K mg x st ps:=let ⟨a,l,c,k⟩:=g;qcQ X G a l c k hb
inductive DA (K:W.Frag)(x:Str)(st:Stmt)(ds:List Value):Prop
 |mk {f:Addr} {od an:Option Addr} {sl:Array (Option Value)} {oc kV dc pm cd ct:Value} {T:Addr} {oT:Value} {odT:Option Addr} {nT:Nat} {slT:Array (Option Value)}:W.nsIn K mainGlobals x=some (some (.ref f))->K.lookup f=some ⟨oc,od,.func (W.fnOf x x (qZ st) (qK st) (qd st) (.ref T) kV dc pm an cd ct),sl⟩->W.codeIn K cd x=true->W.keepIn K (.ref f)=true->K.lookup T=some ⟨oT,odT,.seq ds.toArray nT,slT⟩->DA K x st ds
theorem DA.laid (X:K.In h)(G:h.Ns mainGlobals mg)(g:DA K x st ds):LaidD K mg x st ds:=let ⟨a,l,c,k,d⟩:=g;qaO X G a l c k d rfl
inductive MA (K:W.Frag)(C:Addr)(m q:Str)(st:Stmt):Prop
 |mk {f:Addr} {od an:Option Addr} {sl:Array (Option Value)} {oc kV dc pm cd ct:Value}:W.findIn K (.ref C) m=some (some (.ref f))->W.isFn K (.ref f)=true->K.lookup f=some ⟨oc,od,.func (W.fnOf m q (qZ st) (qK st) (qd st) .none kV dc pm an cd ct),sl⟩->W.codeIn K cd q=true->W.keepIn K (.ref f)=true->MA K C m q st
theorem MA.laid (g:MA K C m q st)(hb:∀(kV doc pm:Value) (an:Option Addr) (cdv ct:Value) (us:List Value),us.length=ps.length->bindArgs (W.fnOf m q (qZ st) (qK st) (qd st) .none kV doc pm an cdv ct) ⟨us,[]⟩=pure (ps.zip us)):LaidM K C m q st ps:=let ⟨a,i,l,c,k⟩:=g;⟨_,_,q2H l c k,⟨a,i,k⟩,(q2H l c k).binds hb⟩
inductive IA (K:W.Frag)(C:Addr)(q:Str)(st:Stmt):Prop
 |mk {f:Addr} {od an:Option Addr} {sl:Array (Option Value)} {oc kV dc pm cd ct:Value}:W.makesIn K C=true->W.keepIn K (.ref C)=true->W.findIn K (.ref C) "__init__"=some (some (.ref f))->W.isFn K (.ref f)=true->K.lookup f=some ⟨oc,od,.func (W.fnOf "__init__" q (qZ st) (qK st) (qd st) .none kV dc pm an cd ct),sl⟩->W.codeIn K cd q=true->W.keepIn K (.ref f)=true->IA K C q st
theorem IA.laid (g:IA K C q st)(hx:mg x=some (.ref C))(hb:∀(kV doc pm:Value) (an:Option Addr) (cdv ct:Value) (us:List Value),us.length=ps.length->bindArgs (W.fnOf "__init__" q (qZ st) (qK st) (qd st) .none kV doc pm an cdv ct) ⟨us,[]⟩=pure (ps.zip us)):LaidI K mg x C q st ps:=let ⟨z,y,a,i,l,c,k⟩:=g;⟨⟨_,_,q2H l c k,⟨z,a,i,y⟩,(q2H l c k).binds hb⟩,hx⟩
inductive CA (K:W.Frag)(C:Addr)(m q:Str)(st:Stmt):Prop
 |mk {f:Addr} {od an:Option Addr} {sl:Array (Option Value)} {oc kV dc pm cd ct:Value}:W.readsIn K C (.type "type")=true->W.findCls K (.ref C) (.type "type") m=some (.val (.ref f))->W.specialIn K (.ref C) "__getattribute__"=some (some (.builtin "type.__getattribute__"))->K.lookup f=some ⟨oc,od,.func (W.fnOf m q (qZ st) (qK st) (qd st) .none kV dc pm an cd ct),sl⟩->W.codeIn K cd q=true->W.keepIn K (.ref f)=true->CA K C m q st
theorem CA.laid (g:CA K C m q st)(hx:mg x=some (.ref C))(hb:∀(kV doc pm:Value) (an:Option Addr) (cdv ct:Value) (us:List Value),us.length=ps.length->bindArgs (W.fnOf m q (qZ st) (qK st) (qd st) .none kV doc pm an cdv ct) ⟨us,[]⟩=pure (ps.zip us)):LaidC K mg x m q st ps:=let ⟨r,y,z,l,c,k⟩:=g;⟨C,_,_,hx,q2H l c k,⟨r,y,z,k⟩,(q2H l c k).binds hb⟩
end
local macro_rules| `(tactic| walk_at "b1")=> `(tactic| exact fun _ _ _ _ _ _=>blS fun _=>bl0 rfl)
local macro_rules| `(tactic| walk_at "b2")=> `(tactic| exact fun _ _ _ _ _ _=>blS fun _=>blS fun _=>bl0 rfl)
local macro_rules| `(tactic| walk_at "b3")=> `(tactic| exact fun _ _ _ _ _ _=>blS fun _=>blS fun _=>blS fun _=>bl0 rfl)
local macro_rules| `(tactic| walk_at "b4")=> `(tactic| exact fun _ _ _ _ _ _=>blS fun _=>blS fun _=>blS fun _=>blS fun _=>bl0 rfl)
local macro_rules| `(tactic| walk_at "b5")=> `(tactic| exact fun _ _ _ _ _ _=>blS fun _=>blS fun _=>blS fun _=>blS fun _=>blS fun _=>bl0 rfl)
local macro_rules| `(tactic| walk_at "b6")=> `(tactic| exact fun _ _ _ _ _ _=>blS fun _=>blS fun _=>blS fun _=>blS fun _=>blS fun _=>blS fun _=>bl0 rfl)
local macro_rules| `(tactic| walk_at "b9")=> `(tactic| exact fun _ _ _ _ _ _=>blS fun _=>blS fun _=>blS fun _=>blS fun _=>blS fun _=>blS fun _=>blS fun _=>blS fun _=>blS fun _=>bl0 rfl)
theorem all_mk {l:W.OpenLaw}{w:World}{K:W.Frag}{h:Heap}{mg:Str->Option Value}{fa C_Gate C_Plain C_Door C_Need C_Bar C_Wade C_Float C_Deed C_Go C_Pull C_Take C_Turn C_Unlock:Addr}(X:K.In h)(G:h.Ns mainGlobals mg)(hfa:mg "law"=some (.ref fa))
  (T0:TxtR (fun x v=>W.nsIn K mainGlobals x=some (some v)) (fun x=>W.nsIn K mainGlobals x=some none) (Cs.mk C_Gate C_Plain C_Door C_Need C_Bar C_Wade C_Float C_Deed C_Go C_Pull C_Take C_Turn C_Unlock))
  (TC:Tcl K (Cs.mk C_Gate C_Plain C_Door C_Need C_Bar C_Wade C_Float C_Deed C_Go C_Pull C_Take C_Turn C_Unlock))
  (h1:GA K "_wall" q8h)
  (h2:GA K "within" q3i)
  (h3:GA K "has_bit" q2v)
  (h4:GA K "changed" q2x)
  (h5:GA K "gate_of" q2w)
  (h6:GA K "is_gate" q1K)
  (h7:GA K "tops_of" q2u)
  (h8:∃d1 d2,DA K "cellar" q0U [.none,.none,.none,.int 0 d1,.int 0 d2])
  (h9:GA K "check_number" q0u)
  (h10:GA K "made_ways" q1f)
  (h11:GA K "made_pairs" q0T)
  (h12:GA K "made_rows" q0f)
  (h13:GA K "start" q4t)
  (h14:GA K "held" q6F)
  (h15:GA K "door_kinds" q0y)
  (h16:GA K "can_enter" q1g)
  (h17:GA K "leads" q3A)
  (h18:GA K "stands_by_go" q0d)
  (h19:GA K "fit_deeds" q0N)
  (h20:GA K "all_goes" q17)
  (h21:GA K "all_deeds" q03)
  (h22:DA K "come" q3B [.none])
  (h23:GA K "begin_of" q1T)
  (h24:GA K "walk_from" q1e)
  (h25:GA K "counts_from" q0D)
  (h26:GA K "turned_links" q0t)
  (h27:GA K "round_of" q16)
  (h28:GA K "fold" q6G)
  (h29:GA K "folds" q4u)
  (h30:GA K "go_links" q1S)
  (h31:GA K "_law_cell_at" q0v)
  (h32:GA K "_law_gate" q1h)
  (h33:GA K "_law_cellar" qQ)
  (h34:GA K "_law_folded" q0E)
  (h35:GA K "law" qc3)
  (h36:MA K C_Plain "lets" "Plain.lets" q0V)
  (h37:MA K C_Plain "told" "Gate.told" qH)
  (h38:IA K C_Plain "Plain.__init__" q0W)
  (h39:MA K C_Door "lets" "Door.lets" q1w)
  (h40:MA K C_Door "told" "Gate.told" qH)
  (h41:IA K C_Door "Door.__init__" q1x)
  (h42:MA K C_Need "lets" "Need.lets" q1t)
  (h43:MA K C_Need "told" "Gate.told" qH)
  (h44:IA K C_Need "Need.__init__" q1u)
  (h45:MA K C_Bar "lets" "Bar.lets" q1U)
  (h46:MA K C_Bar "told" "Gate.told" qH)
  (h47:IA K C_Bar "Bar.__init__" q1V)
  (h48:MA K C_Wade "lets" "Wade.lets" q1i)
  (h49:MA K C_Wade "told" "Gate.told" qH)
  (h50:IA K C_Wade "Wade.__init__" q1j)
  (h51:MA K C_Float "lets" "Float.lets" q0X)
  (h52:MA K C_Float "told" "Gate.told" qH)
  (h53:IA K C_Float "Float.__init__" q0Y)
  (h54:MA K C_Go "can" "Deed.can" qO)
  (h55:MA K C_Go "done" "Go.done" q2A)
  (h56:MA K C_Go "fits" "Go.fits" q2z)
  (h57:MA K C_Go "own_part" "Deed.own_part" qy)
  (h58:MA K C_Go "told" "Deed.told" qI)
  (h59:IA K C_Go "Go.__init__" q2y)
  (h60:MA K C_Pull "can" "Deed.can" qO)
  (h61:MA K C_Pull "done" "Pull.done" q1s)
  (h62:MA K C_Pull "fits" "Pull.fits" q1r)
  (h63:MA K C_Pull "own_part" "Deed.own_part" qy)
  (h64:MA K C_Pull "told" "Deed.told" qI)
  (h65:IA K C_Pull "Pull.__init__" q1q)
  (h66:MA K C_Take "can" "Deed.can" qO)
  (h67:MA K C_Take "done" "Take.done" q1p)
  (h68:MA K C_Take "fits" "Take.fits" q1o)
  (h69:MA K C_Take "own_part" "Deed.own_part" qy)
  (h70:MA K C_Take "told" "Deed.told" qI)
  (h71:IA K C_Take "Take.__init__" q1n)
  (h72:MA K C_Turn "can" "Deed.can" qO)
  (h73:MA K C_Turn "done" "Turn.done" q1m)
  (h74:MA K C_Turn "fits" "Turn.fits" q1l)
  (h75:MA K C_Turn "own_part" "Deed.own_part" qy)
  (h76:MA K C_Turn "told" "Deed.told" qI)
  (h77:IA K C_Turn "Turn.__init__" q1k)
  (h78:MA K C_Unlock "can" "Deed.can" qO)
  (h79:MA K C_Unlock "done" "Unlock.done" q0H)
  (h80:MA K C_Unlock "fits" "Unlock.fits" q0G)
  (h81:MA K C_Unlock "own_part" "Deed.own_part" qy)
  (h82:MA K C_Unlock "told" "Deed.told" qI)
  (h83:IA K C_Unlock "Unlock.__init__" q0F)
  (h84:CA K C_Deed "__init__" "Deed.__init__" q1y)
  (h85:CA K C_Gate "__init__" "Gate.__init__" q1v):
  ∃fd:FuncData,(∀(s:Shared) (v:Value),BindsTo s fd ⟨[v],[]⟩ [("_law_script",v)])/\∀base:Heap,K.In base->base.Ns mainGlobals mg->FnOk l.prog w K mg base CX0 13 fa fd ["_law_script"] (qa1 K):=by
 obtain⟨al,ll,cl,kl⟩:=h35
 have e:=hfa.symm.trans (W.mg_of X G al)
 cases e
 have T:Txt mg (Cs.mk C_Gate C_Plain C_Door C_Need C_Bar C_Wade C_Float C_Deed C_Go C_Pull C_Take C_Turn C_Unlock):=T0.up (fun _ _ z=>W.mg_of X G z) fun _ z=>W.mg_none_of X G z
 exact⟨_,fun s v=> .of_eq rfl,fun base _ _=>ok_law (q2H ll cl kl) T TC (h1.laid X G (by walk_at "b1")) (h2.laid X G (by walk_at "b3")) (h3.laid X G (by walk_at "b2")) (h4.laid X G (by walk_at "b3")) (h5.laid X G (by walk_at "b1")) (h6.laid X G (by walk_at "b1")) (h7.laid X G (by walk_at "b1")) (let ⟨d1,d2,z⟩:=h8;⟨d1,d2,z.laid X G⟩) (h9.laid X G (by walk_at "b4")) (h10.laid X G (by walk_at "b2")) (h11.laid X G (by walk_at "b6")) (h12.laid X G (by walk_at "b3")) (h13.laid X G (by walk_at "b1")) (h14.laid X G (by walk_at "b2")) (h15.laid X G (by walk_at "b1")) (h16.laid X G (by walk_at "b2")) (h17.laid X G (by walk_at "b2")) (h18.laid X G (by walk_at "b2")) (h19.laid X G (by walk_at "b2")) (h20.laid X G (by walk_at "b1")) (h21.laid X G (by walk_at "b1")) (h22.laid X G) (h23.laid X G (by walk_at "b2")) (h24.laid X G (by walk_at "b2")) (h25.laid X G (by walk_at "b2")) (h26.laid X G (by walk_at "b1")) (h27.laid X G (by walk_at "b2")) (h28.laid X G (by walk_at "b2")) (h29.laid X G (by walk_at "b1")) (h30.laid X G (by walk_at "b2")) (h31.laid X G (by walk_at "b2")) (h32.laid X G (by walk_at "b1")) (h33.laid X G (by walk_at "b1")) (h34.laid X G (by walk_at "b2")) (h36.laid (by walk_at "b5")) (h37.laid (by walk_at "b1")) (h38.laid T.c_Plain (by walk_at "b1")) (h39.laid (by walk_at "b5")) (h40.laid (by walk_at "b1")) (h41.laid T.c_Door (by walk_at "b2")) (h42.laid (by walk_at "b5")) (h43.laid (by walk_at "b1")) (h44.laid T.c_Need (by walk_at "b2")) (h45.laid (by walk_at "b5")) (h46.laid (by walk_at "b1")) (h47.laid T.c_Bar (by walk_at "b2")) (h48.laid (by walk_at "b5")) (h49.laid (by walk_at "b1")) (h50.laid T.c_Wade (by walk_at "b3")) (h51.laid (by walk_at "b5")) (h52.laid (by walk_at "b1")) (h53.laid T.c_Float (by walk_at "b2")) (h54.laid (by walk_at "b3")) (h55.laid (by walk_at "b3")) (h56.laid (by walk_at "b3")) (h57.laid (by walk_at "b2")) (h58.laid (by walk_at "b1")) (h59.laid T.c_Go (by walk_at "b2")) (h60.laid (by walk_at "b3")) (h61.laid (by walk_at "b3")) (h62.laid (by walk_at "b3")) (h63.laid (by walk_at "b2")) (h64.laid (by walk_at "b1")) (h65.laid T.c_Pull (by walk_at "b2")) (h66.laid (by walk_at "b3")) (h67.laid (by walk_at "b3")) (h68.laid (by walk_at "b3")) (h69.laid (by walk_at "b2")) (h70.laid (by walk_at "b1")) (h71.laid T.c_Take (by walk_at "b2")) (h72.laid (by walk_at "b3")) (h73.laid (by walk_at "b3")) (h74.laid (by walk_at "b3")) (h75.laid (by walk_at "b2")) (h76.laid (by walk_at "b1")) (h77.laid T.c_Turn (by walk_at "b2")) (h78.laid (by walk_at "b3")) (h79.laid (by walk_at "b3")) (h80.laid (by walk_at "b3")) (h81.laid (by walk_at "b2")) (h82.laid (by walk_at "b1")) (h83.laid T.c_Unlock (by walk_at "b2")) (h84.laid T.c_Deed (by walk_at "b4")) (h85.laid T.c_Gate (by walk_at "b3"))⟩
theorem walk {l:W.OpenLaw}{q:Program}{loose:List Str}{XP:(Str->Option Value)->Heap->Prop}{YP:World->Heap->Prop}{d:DefRec}{K:Params->W.Frag}(hn:l.most=some 63)(hdf:d.params.defaults=[])
  (hY:∀(w:World) (h:Heap),YP w h->(K w.params).In h)
  (F:∀(w:World) (mg:Str->Option Value) (fa:Addr) (h:Heap),(K w.params).In h->h.Ns mainGlobals mg->mg d.name=some (.ref fa)->
   ∃fd:FuncData,(∀(s:Shared) (u:Value),BindsTo s fd ⟨[u],[]⟩ [("_law_script",u)])/\∀base:Heap,(K w.params).In base->base.Ns mainGlobals mg->FnOk l.prog w (K w.params) mg base CX0 13 fa fd ["_law_script"] (qa1 (K w.params))):
  W.WalkO q loose XP YP l.row.toRowW d [] (fun f vs=>PySem.call f vs):=
 L2.qbJ (n:=63) (k:=13) (x:="_law_script") (CX:=fun _=>CX0) (sp:=fun w=>qa1 (K w.params)) hn (by decide) hdf ⟨rfl,by decide,by decide,rfl⟩ hY F (fun _ _ a ns hl _ hS=>⟨a,ns,rfl,hS,hl,fun _=>rfl⟩) fun _ _ _ _ _ z=>z
end Mine
open PySem PySem.W PyProof.Rows
set_option maxRecDepth 100000 in
set_option maxHeartbeats 0 in
theorem PySem.Challenge.cw_delve_k25_folds_holds : PySem.Challenge.rw_delve_k25_folds.Holds := by
 w_on;o_law;k_head;(case hw=>w_witness2)
 k_fill
 refine Mine.walk (l:=PySem.Challenge.rw_delve_k25_folds) rfl rfl (fun w h Y=>PySem.W.kIn_of Y) ?F
 case F=>
  intro w mg fa h KX G hmg
  refine' Mine.all_mk KX G hmg ?T ?C ?_ ?_ ?_ ?_ ?_ ?_ ?_ ?_ ?_ ?_ ?_ ?_ ?_ ?_ ?_ ?_ ?_ ?_ ?_ ?_ ?_ ?_ ?_ ?_ ?_ ?_ ?_ ?_ ?_ ?_ ?_ ?_ ?_ ?_ ?_ ?_ ?_ ?_ ?_ ?_ ?_ ?_ ?_ ?_ ?_ ?_ ?_ ?_ ?_ ?_ ?_ ?_ ?_ ?_ ?_ ?_ ?_ ?_ ?_ ?_ ?_ ?_ ?_ ?_ ?_ ?_ ?_ ?_ ?_ ?_ ?_ ?_ ?_ ?_ ?_ ?_ ?_ ?_ ?_ ?_ ?_ ?_ ?_ ?_ ?_
  case T=>constructor<;>(try dsimp only)<;>first|k_is|exact⟨_,by k_is⟩
  case C=>constructor<;>(try dsimp only)<;>first|exact⟨by k_is,by k_is,by k_is,by k_is⟩|(unfold L2.qz;k_is)
  all_goals try dsimp only
  all_goals first|exact Mine.GA.mk (by k_is) (by k_is) (by k_is) (by k_is)|exact Mine.MA.mk (by k_is) (by k_is) (by k_is) (by k_is) (by k_is)|exact Mine.IA.mk (by k_is) (by k_is) (by k_is) (by k_is) (by k_is) (by k_is) (by k_is)|exact Mine.CA.mk (by k_is) (by k_is) (by k_is) (by k_is) (by k_is) (by k_is)|exact Mine.DA.mk (by k_is) (by k_is) (by k_is) (by k_is) (by k_is)|exact⟨_,Mine.DA.mk (by k_is) (by k_is) (by k_is) (by k_is) (by k_is)⟩|exact⟨_,_,Mine.DA.mk (by k_is) (by k_is) (by k_is) (by k_is) (by k_is)⟩
