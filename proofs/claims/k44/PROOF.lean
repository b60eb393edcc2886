import PyProof.Rows.All
import Wide.All
import OpenK.AllK
import Wide.FinOn
import Lean
import PyProof.EqAt
import PyProof.EqKinds
import PyProof.TupleCall
import PyProof.NeKinds
import KE.KDictSum
import PySem.Challenge.RW_delve_k44_fewest_deeds
universe u v
theorem yA{α:Type u}{l:List α}{i:Nat}{a:α}(h:l[i]?=some a):∃h:i<l.length,l[i]=a:=List.getElem?_eq_some_iff.mp h
theorem yB{α:Type u}{l:List α}{i:Nat}(h:i<l.length):l[i]?=some l[i]:=List.getElem?_eq_getElem h
theorem yC{α:Type u}{β:Type v}{l:List α}(f:α->β):(l.map f).length=l.length:=List.length_map f
def yD:=@PySem.wpAny_bind
local macro_rules| `(tactic| walk_at "k")=> `(tactic| decide +kernel)
namespace PySem.W.Fast
def tw7495589358814747434:=0
def tw17525743932118324638:=0
def tw5228884645016337899:=0
def tw17195322670761311895:=0
def tw7280662560810864544:=0
def tw13834279175627915116:=0
def tw16014102275586746427:=0
def tw9747393387237826263:=0
def tw11269650946650119693:=0
def tw2142353642756896863:=0
def tw4821217838706118955:=0
def tw18285625293031947719:=0
def tw15006339746966110136:=0
def tw17277300661199083252:=0
def tw14680209190359364109:=0
def tw15174361140110188727:=0
def tw11381228305017772585:=0
def tw8199862372483667511:=0
def tw546145210154952745:=0
def tw8188109533304936472:=0
def tw16867777177868336577:=0
def tw9103570069797459346:=0
def tw13473089002599705785:=0
def tw8734106512042986675:=0
def tw15436402572741240027:=0
def tw9649013976410174958:=0
def tw3532513580250288293:=0
def tw7650377766326727805:=0
def tw9070503889615493825:=0
def tw6866430692467178598:=0
def tw12004497665489376927:=0
def tw7772879031173925878:=0
def tw12542227621446826369:=0
def tw13753742829655361412:=0
def tw753806536032771276:=0
def tw15465201958553141273:=0
def tw17533209586382435581:=0
def tw2027828363106488274:=0
def tw17234003217869264584:=0
def tw1141924724452949856:=0
def tw13596965896777794535:=0
def tw14673716942500679261:=0
def tw7301209809076664208:=0
def tw11493699959354160408:=0
def tw8651003024644869044:=0
def tw13218580976594253884:=0
def tw10858820746448773644:=0
def tw4037911669952712510:=0
def tw13857690229092749841:=0
def tw595796393228054594:=0
def tw5004559594810554000:=0
def tw7810568407187269561:=0
def tw6694216358061320402:=0
def tw3823277264044576747:=0
def tw17670106391110646638:=0
def tw767148973446186571:=0
def tw4889533731799865763:=0
def tw12252910059750859535:=0
def tw2347190508211886001:=0
def tw5354517928387646794:=0
def tw10471286393529450634:=0
def tw2964729463172406922:=0
def tw16069490379253916385:=0
def tw9032825574336023219:=0
def tw11963643708177695586:=0
def tw11582712649369862119:=0
def tw12640653196795315834:=0
def tw1112733212001937671:=0
def tw15042207806473873071:=0
def tw15387006669179000912:=0
def tw14142679583463792553:=0
def tw377841186863841596:=0
def tw15702759150809386734:=0
def tw11906092761472215531:=0
def tw5321727127745990743:=0
def tw10109657363216677795:=0
def tw15519004090948996946:=0
def tw6613416947874099738:=0
def tw12902047377668564418:=0
def tw17672017755200566025:=0
def tw2798923438317576640:=0
def tw14139576126246700334:=0
def tw7890580877522673422:=0
def tw9979969703065818128:=0
def tw4802600340753499933:=0
def tw5808132622659383134:=0
def tw4986610750600827645:=0
def tw10146799976803154907:=0
def tw3264236685938593557:=0
def tw5340096098585027949:=0
def tw9561142931191621176:=0
def tw14391928730466953089:=0
def tw3172717976673357593:=0
def tw8208424922437530267:=0
def tw8128205086932801734:=0
def tw10504599410421689407:=0
def tw12619003803264074113:=0
def tw14858062881629732268:=0
def tw18231278786645632659:=0
def tw4342437175778907511:=0
def tw8014618585637970031:=0
def tw14846705285378059020:=0
def tw6169931882192094758:=0
def tw14641638671846600051:=0
def tw12213578133098854061:=0
def tw16336536505896388285:=0
def tw17130355481861336183:=0
def tw421959922043368905:=0
def tw4671899881207782207:=0
def tw9256374890205722814:=0
def tw5568022908254014217:=0
def tw213051001986329725:=0
def tw3286198879293978742:=0
def tw4190527093253781594:=0
def tw7422019077172622522:=0
def tw9643162335306813756:=0
def tw18177984584602583096:=0
def tw10597501268511451754:=0
def tw11753485991452207091:=0
def tw3916602307127928939:=0
def tw9819844166818076939:=0
def tw763853075006155933:=0
def tw6715340687161456065:=0
def tw15032124387332028266:=0
def tw5956880935215984401:=0
def tw14989706276006139255:=0
def tw17098753891223472428:=0
def tw33707720187367271:=0
def tw14737385427396432255:=0
def tw3268177155535022806:=0
def tw6696981005767393553:=0
def tw10190314163570543086:=0
def tw5870182400933215184:=0
def tw2556974158495375672:=0
def tw17556245359534550360:=0
def tw10178944540977380320:=0
def tw13486523328837299494:=0
def tw12531277710677524223:=0
def tw2462652938059404450:=0
def tw8529681538674466603:=0
def tw16555918777258667714:=0
def tw1717737411996943911:=0
def tw3896984082817643988:=0
def tw2361549301257335885:=0
def tw15045382953371282936:=0
def tw17692809460193567394:=0
def tw17818712489708502304:=0
def tw16314528057006089013:=0
def tw2699849042050385649:=0
def tw9214548004648885634:=0
def tw14462693913244839356:=0
def tw17884404209820686662:=0
def tw12631264881380250103:=0
def tw13318774343694698617:=0
def tw12957575081900989807:=0
def tw4606035691988598061:=0
def tw8898395768598519708:=0
def tw2437742224268207910:=0
def tw1907339088051278892:=0
def tw4755587277430824573:=0
def tw17755373172233156147:=0
def tw6793476311055512315:=0
def tw8299814007910006606:=0
def tw17646088877338654236:=0
def tw14007725573497188901:=0
def tw16158425619686083166:=0
def tw2184442338586134898:=0
def tw18028025173324066284:=0
def tw10988026364790177766:=0
def tw3808342596838906995:=0
def tw8392982091195455116:=0
def tw12623453225650487725:=0
def tw9007595390203690087:=0
def tw2049376597764615553:=0
def tw1903779683115346321:=0
def tw10354627817224755136:=0
def tw5989103434790143418:=0
def tw17684724895273991258:=0
def tw11624506022217279043:=0
def tw10714368167973042275:=0
def tw13193953026055290782:=0
def tw6925688124698119596:=0
def tw6907614142911761909:=0
def tw6364362490662540985:=0
def tw17881448657482732690:=0
def tw14460293458584043785:=0
def tw18082640350594209994:=0
def tw1486133401598197414:=0
def tw2042833848158883304:=0
def tw15827109936771435024:=0
def tw10644194309083072195:=0
def tw5221948190895469641:=0
def tw16798852760484908727:=0
def tw10434390884298703816:=0
def tw7414095489722485114:=0
def tw10156041940956735396:=0
def tw10166878729797126284:=0
def tw2709849152112798502:=0
def tw5205218824159308591:=0
def tw11298057363199904297:=0
def tw5688434043719297976:=0
def tw3997214016801438337:=0
def tw16146049532758743644:=0
def tw11771819687897587712:=0
def tw5487988609238018700:=0
def tw5842215156403164581:=0
def tw10935582300055033519:=0
def tw13320367921576805044:=0
def tw2118997979636342734:=0
def tw14379474777186001293:=0
def tw5033318104781976847:=0
def tw5024428753456886548:=0
def tw11831400542785316095:=0
def tw3741808665935932186:=0
def tw8508652155543214103:=0
def tw16331443456624658910:=0
def tw4051390673507670996:=0
def tw4370609331566071832:=0
def tw3011476098507833869:=0
def tw492354466062514596:=0
def tw16115433755377961374:=0
def tw9571838968902811533:=0
def tw8220428681895723411:=0
def tw15916943608792579800:=0
def tw17738613090839857929:=0
def tw10453211744098439056:=0
def tw12105228013507822806:=0
def tw17278584969142138499:=0
def tw10810369322229816807:=0
def tw11371442504583641449:=0
def tw10085298785499801596:=0
def tw17795914945073580086:=0
def tw16877535695745772237:=0
def tw10103336739543231631:=0
def tw16510393092755756986:=0
def tw3196468043692376273:=0
def tw18235693714384839371:=0
def tw10394604197967386518:=0
def tw8702338458621898664:=0
def tw7131543964706990798:=0
def tw6568701937205889233:=0
def tw4945991235438610358:=0
def tw12595442196642037714:=0
def tw1344878071608353663:=0
def tw13436902567225317386:=0
def tw13001871128713518762:=0
def tw7277577978761306615:=0
def tw5871964521020728562:=0
def tw15911014731350703640:=0
def tw17025649549569167969:=0
def tw1433693316072701162:=0
def tw6670447582401536683:=0
def tw2334220354743589153:=0
def tw18442415282887789783:=0
def tw9367629414213435262:=0
def tw4613931839707995291:=0
def tw4148953214668201574:=0
def tw7694421906293909269:=0
def tw11161061501171443297:=0
def tw13534196154700208159:=0
def tw17918670890332288546:=0
def tw4368143929361891725:=0
def tw6511952172892521908:=0
def tw17528528363249757276:=0
def tw2661406336111629404:=0
def tw1620244560562444152:=0
def tw1012426876554053886:=0
def tw17144941796475295797:=0
def tw5968904278896299056:=0
def tw3474418712026768853:=0
def tw8251420016977317314:=0
def tw12813071676689039765:=0
def tw13671797262303626526:=0
def tw12575534647876517153:=0
def tw4995343071021916090:=0
def tw4104925584379832370:=0
def tw10041447363976909359:=0
def tw9699975946002594791:=0
def tw5001942288109685200:=0
def tw8347365228786801955:=0
def tw3489666733039860873:=0
def tw4866549845809737096:=0
def tw3182546661442841681:=0
def tw17753983986668218342:=0
def tw15039667244416775123:=0
def tw17768190114166291806:=0
def tw16715782255456571194:=0
def tw14617778585547414638:=0
def tw8101783616525047492:=0
def tw8775150995655476306:=0
def tw2420093042461678494:=0
def tw16788629587950587495:=0
def tw3517001377855090807:=0
def tw12495832931698312993:=0
def tw9871586492719842038:=0
def tw2510141087891794360:=0
def tw14914268923561829852:=0
def tw314986754538411372:=0
def tw1301400546814792779:=0
def tw16734031071963337599:=0
def tw13862747634828097035:=0
def tw44189933928338564:=0
def tw17738125339835769912:=0
def tw2391876951552018169:=0
def tw3290442336159314309:=0
def tw1074645170727004840:=0
def tw2809476955985737568:=0
def tw5604718587173159758:=0
def tw15863495261484803253:=0
def tw11466046991069377156:=0
def tw7177104453353591334:=0
def tw9834171263007635670:=0
def tw11066325296544929447:=0
def tw10391070972505450431:=0
def tw289064127348778718:=0
def tw4500973600976335200:=0
def tw6827229264650109711:=0
def tw11599679631798301017:=0
def tw1313793098446766842:=0
def tw535163437440457353:=0
def tw1143409695251131461:=0
def tw6819877520384327838:=0
def tw994249845555049024:=0
def tw12882289042850310313:=0
def tw915580783046744725:=0
def tw8360771309826090758:=0
def tw50403838016022066:=0
def tw17629055238219945512:=0
def tw1392451717701197100:=0
def tw17637514165863825902:=0
def tw1657822768121497494:=0
def tw12220876269964285827:=0
def tw4396615851719438927:=0
def tw13283832295542174394:=0
def tw17237031908386013894:=0
def tw6875013680090627007:=0
def tw14372659886933359303:=0
def tw13188607989261419637:=0
def tw3244779041958803320:=0
def tw424153174555667859:=0
def tw95207705280481654:=0
def tw12649643803853337416:=0
def tw11223770863920829442:=0
def tw17006416423420837246:=0
def tw15092080511467488515:=0
def tw1598150229895439580:=0
def tw12342504372061281240:=0
def tw10479797512470554763:=0
def tw11321732235721196828:=0
def tw4271788518943765089:=0
def tw8020125977390040637:=0
def tw3483257583763534113:=0
def tw367060043938445473:=0
def tw17415563551120018638:=0
def tw12921380213499722804:=0
def tw8220845897501187687:=0
def tw9366551884162746744:=0
def tw2422203060006791731:=0
def tw14606114008167868450:=0
def tw772082962203580039:=0
def tw11204365192248920083:=0
def tw8499360669697468023:=0
def tw795141876690570609:=0
def tw15128023268687813665:=0
def tw13734509136168594265:=0
def tw10141778422011203203:=0
def tw2797314734125031457:=0
def tw1484684757297636146:=0
def tw11795424751920736302:=0
def tw15103804083361224573:=0
def tw5332905360664488828:=0
def tw7176282277650544250:=0
def tw5582341515564940389:=0
def tw11554853742083841137:=0
def tw17044506330140872179:=0
def tw9759205034081716371:=0
def tw17081711667493494770:=0
def tw12624071111508541972:=0
def tw7913362504426404843:=0
def tw709405355917269869:=0
def tw2469190022189354217:=0
def tw17292284824294224781:=0
def tw2720583529594418978:=0
def tw15226573198676510794:=0
def tw206428532491237834:=0
def tw11224729521619406030:=0
def tw18148214527994411048:=0
def tw111699377261204318:=0
def tw4934285942556643179:=0
def tw16085653000240531650:=0
def tw9580618525970312801:=0
def tw4031717034347305104:=0
def tw17846231063236874222:=0
def tw4645679615193516956:=0
def tw5684481354605376935:=0
def tw8832131686471437672:=0
def tw38983908517911942:=0
def tw15988869309391355868:=0
def tw4199564775822746519:=0
def tw5106224965252446318:=0
def tw340186894861590956:=0
def tw16286167757159707903:=0
def tw1778440457064045788:=0
def tw5190563973153625758:=0
def tw3548983329117210691:=0
def tw11383890992855595652:=0
def tw11750465740066588206:=0
def tw10904308997217046984:=0
def tw11467584102211538948:=0
def tw9182362205705857696:=0
def tw3212531230735122043:=0
def tw7040867410574464520:=0
def tw13351694734662398855:=0
def tw8322674714380891125:=0
def tw1415567177294303653:=0
def tw18133461218659490923:=0
def tw2836680885957658253:=0
def tw5237220733971569739:=0
def tw1988896294921371353:=0
def tw10169362212044320946:=0
def tw9231755908370526115:=0
def tw11442156195540130219:=0
def tw3509996289589806693:=0
def tw13931392419486473959:=0
def tw5757133211911692049:=0
def tw7238279925226462166:=0
def tw15242702882339390811:=0
def tw1839845272707670338:=0
def tw7218523764869592544:=0
def tw6727917977403146353:=0
def tw7664568452964704785:=0
def tw8766731343388871509:=0
def tw4333692699988389195:=0
def tw16564956730763970052:=0
def tw9478856993965762996:=0
def tw6665560574745414690:=0
def tw9896756071247399604:=0
def tw1171431441833376212:=0
def tw13977049911075104976:=0
def tw15668349259597751977:=0
def tw12441681059953011184:=0
def tw10496622256485493436:=0
def tw14607144336426799195:=0
def tw2116631998021076567:=0
def tw9881802019128304247:=0
def tw6599943484994106244:=0
def tw5326691368035719490:=0
def tw15956586779252035768:=0
def tw15793544726791902327:=0
def tw3592150421268173248:=0
def tw13341902219401162317:=0
def tw15173344436417009561:=0
def tw9510348332584012202:=0
def tw5516387653916663273:=0
def tw4550432138715895632:=0
def tw7542750082871986530:=0
def tw13826088540540123638:=0
def tw11898297270861315673:=0
def tw2177857781072926881:=0
def tw5661186359066753729:=0
def tw10099483157489637410:=0
def tw10128446362471210196:=0
def tw7580140613765465139:=0
def tw12108021432654068248:=0
def tw15226982649267181400:=0
def tw14989014671216019624:=0
def tw12880001379950038027:=0
def tw3634530134043406789:=0
def tw5139250354630092009:=0
def tw15078591102801995540:=0
def tw6113197415503739908:=0
def tw6251145765937694849:=0
def tw701143071498900519:=0
def tw6308526849232707141:=0
def tw13898759364752441433:=0
def tw5138961401361222492:=0
def tw4687773944100455441:=0
def tw8635335989031156736:=0
def tw13097356836139176674:=0
def tw10222964210388264742:=0
def tw13963667302991338008:=0
def tw6676857610790842627:=0
def tw6029210773177307686:=0
def tw16141910661795084951:=0
def tw13920135887385332568:=0
def tw1575819613273335948:=0
def tw17075257620962992411:=0
def tw13634109159186165456:=0
def tw10152805674553206541:=0
def tw948371063822154003:=0
def tw4697348456850093287:=0
def tw11237122503443197401:=0
def tw17308349886244170024:=0
def tw12377547790290379469:=0
def tw2427148419392797567:=0
def tw11589824902222942980:=0
def tw2547994049230322581:=0
def tw7196539734665805384:=0
def tw5281349486063280449:=0
def tw17215488203202408578:=0
def tw13282317817810655679:=0
def tw5383215698382835235:=0
def tw12941007119530859440:=0
def tw15619390145881074825:=0
def tw11416703869529519817:=0
def tw15357036951165171846:=0
def tw3321977139022522720:=0
def tw16211588920185425448:=0
def tw7674402778353129790:=0
def tw11246858895355588111:=0
def tw2868027636641413373:=0
def tw1556537599956424905:=0
def tw12961084841148345229:=0
def tw3115978203284569610:=0
def tw3463354200403345751:=0
def tw13947218103381719338:=0
def tw17375477103457970196:=0
def tw2345067126691765333:=0
def tw12474027170499452841:=0
def tw2855220498830243411:=0
def tw2797134409159666684:=0
def tw7748076258846938300:=0
def tw16392071905205986958:=0
def tw5113811140085582024:=0
def tw6717083006306029116:=0
def tw10135228423687386856:=0
def tw10886329874508194826:=0
def tw10606188840069736621:=0
def tw8781774578177942689:=0
def tw14909854287365094624:=0
def tw7569250204054715873:=0
def tw15670010051104101541:=0
def tw2681924185530996064:=0
def tw3998694231133982418:=0
def tw1206968399588850241:=0
def tw4116463937373182693:=0
def tw18107782269769418771:=0
def tw4236554255599649760:=0
def tw18387431149113734296:=0
def tw4871620873489261729:=0
def tw8114349652962455243:=0
def tw9411767770078173773:=0
def tw5036198290143999001:=0
def tw15889591178162918037:=0
def tw2188933828907058875:=0
def tw102243119999570674:=0
def tw3692003591018534971:=0
def tw13692289740584144723:=0
def tw16929525652319186380:=0
def tw6818121591846071874:=0
def tw524305312416566009:=0
def tw14943486520250789868:=0
def tw13053788992976436300:=0
def tw7375061005254033830:=0
def tw10967477578905173942:=0
def tw17101825980369385231:=0
def tw14793229399791160290:=0
def tw13358962878232578977:=0
def tw17117649845022580141:=0
def tw2712891081753569170:=0
def tw134573983281339584:=0
def tw17951520060403819238:=0
def tw13266379346958257006:=0
def tw13775336960545717333:=0
def tw5925138002271554079:=0
def tw9554335977658719114:=0
def tw9609234596866605932:=0
def tw3159283648384808120:=0
def tw15529445197044759308:=0
def tw4864885946595621690:=0
def tw1445732801233248863:=0
def tw13827388975807904876:=0
def tw4664281358242502508:=0
def tw6256608241972877498:=0
def tw14760122362403150430:=0
def tw16787758790318404165:=0
def tw14522048683001951206:=0
def tw3312399937396185017:=0
def tw4263918815052759219:=0
def tw7974350623632850196:=0
def tw230212010957900074:=0
def tw11098969000280357122:=0
def tw6042922167105825335:=0
def tw9519135229154207553:=0
def tw6424928422880846548:=0
def tw12831596706639655503:=0
def tw3649128192206849060:=0
def tw10826404173076459278:=0
def tw3576993593256863682:=0
def tw10061073761575184185:=0
def tw16595572450084403771:=0
def tw6522697963487805476:=0
def tw11542008414747702544:=0
def tw1745899717158016791:=0
def tw10800709739558748140:=0
def tw3978857553977125392:=0
def tw17089289147616321415:=0
def tw8579799554684262577:=0
def tw12368424821776266267:=0
def tw11812105882941550843:=0
def tw15114315330523060584:=0
def tw5212917780316989247:=0
def tw9273037698554768352:=0
def tw15610341214109820038:=0
def tw6253002284718774265:=0
def tw343224786962551841:=0
def tw13844815976817520563:=0
def tw3486986928824249639:=0
def tw3691291060171394152:=0
def tw16349992928364750386:=0
def tw2144738085977481975:=0
def tw197385684216302041:=0
def tw13830383380432821085:=0
def tw5642224805819869221:=0
def tw16838981859829319782:=0
def tw15337606012041726067:=0
def tw12981776303542074815:=0
def tw7863621876683610375:=0
def tw9600592379384208849:=0
def tw8862704651782811653:=0
def tw539914641903759643:=0
def tw12842394684922728149:=0
def tw15735348292300897468:=0
def tw4951911053086985584:=0
def tw17057282790730161521:=0
def tw9337913998219814583:=0
def tw10429165798134621115:=0
def tw10484498067089662044:=0
def tw7548144620728973848:=0
def tw1363411680484562603:=0
def tw16854984176601863790:=0
def tw9966008891743327315:=0
def tw10686674234703134548:=0
def tw12767737132282461351:=0
def tw4314656198919741795:=0
def tw6784731046827579434:=0
def tw2974360658616174701:=0
def tw17216581111665679571:=0
def tw7838356543412935793:=0
def tw10001570996071507454:=0
def tw3655650931683265743:=0
def tw14989560760000763684:=0
def tw11585923617487303812:=0
def tw14655651129390012604:=0
def tw14296650653627473018:=0
def tw12050483799886749859:=0
def tw6626037950180884405:=0
def tw14904694165277098906:=0
def tw4642873575043100394:=0
def tw5211293661918440102:=0
def tw722718449514688214:=0
def tw2324681584236153215:=0
def tw6216069140467153394:=0
def tw12188001089117572808:=0
def tw12465314103765944663:=0
def tw5519720463463248313:=0
def tw16623956063346792038:=0
def tw2306260846209270058:=0
def tw13285795959796256951:=0
def tw11204397652893681732:=0
def tw17265153237742689707:=0
def tw1683380473008464593:=0
def tw4798489628359138083:=0
def tw5517709537318661620:=0
def tw708574939614741551:=0
def tw3934196925498629322:=0
def tw17935219049918958150:=0
def tw17694505961370608652:=0
def tw64783953591633881:=0
def tw4324005190252483836:=0
def tw1690692390016046554:=0
def tw3663041227307099916:=0
def tw7946244167691487420:=0
def tw9059082433220539675:=0
def tw14352885672805099315:=0
def tw15757918180831270670:=0
def tw16233369274491601805:=0
def tw1307464905378561032:=0
def tw15398700682538717254:=0
def tw9496156249573464711:=0
def tw3522769161624803182:=0
def tw15030442752255566461:=0
def tw11425780449580488910:=0
def tw1157895206629802600:=0
def tw13671041935796760509:=0
def tw14795444109406901336:=0
def tw4580759263043360257:=0
def tw8587445395746929106:=0
def tw5214792384251342718:=0
def tw5848901403872877138:=0
def tw11030834578092548919:=0
def tw9331724081628881949:=0
def tw13158410924550369966:=0
def tw5260836893300071913:=0
def tw12884540986466516196:=0
def tw7499502367230543108:=0
def tw2946187210815062303:=0
def tw12631669110845508454:=0
def tw6893179171024594588:=0
end PySem.W.Fast
set_option compiler.extract_closed false
set_option Elab.async false
set_option linter.all false
set_option maxRecDepth 100000
namespace L2
open PySem PySem.Spec PyProof.Rows
abbrev Key:=Sum Int Str
def q7d:Key->Value->Bool
 | .inl k,v=>Value.isInt k v
 | .inr x,v=>Value.isStrOf x v
def keyH (w:World):Key->Int
 | .inl k=>hashInt k
 | .inr x=>hashStr w x
theorem q0g:∀{k:Key} {v:Value},q7d k v=true->(∃i t,k=Sum.inl i/\v=Value.int i t)\/(∃x t,k=Sum.inr x/\v=Value.str x t)
 | .inl i,v,h=>by
  obtain⟨t,e⟩:=Value.isInt_shape (k:=i) (v:=v) h
  exact .inl ⟨i,t,rfl,e⟩
 | .inr x,v,h=>by
  obtain⟨t,e⟩:=Value.isStrOf_shape (x:=x) (v:=v) h
  exact .inr ⟨x,t,rfl,e⟩
theorem q8r (i:Int)(t:Tok):q7d (.inl i) (.int i t)=true:=by simp[q7d,Value.isInt]
theorem q8q (x:Str)(t:Tok):q7d (.inr x) (.str x t)=true:=by simp[q7d,Value.isStrOf]
theorem key_ll (a b:Int):decide ((Sum.inl a:Key)=Sum.inl b)=(a==b):=by
 by_cases e:a=b
 ·subst e;simp
 ·have h:¬(Sum.inl a:Key)=Sum.inl b:=fun q=>e (Sum.inl.inj q)
  rw[decide_eq_false h]
  exact(beq_eq_false_iff_ne.mpr e).symm
theorem key_rr (a b:Str):decide ((Sum.inr a:Key)=Sum.inr b)=decide (a=b):=by
 by_cases e:a=b
 ·subst e;simp
 ·have h:¬(Sum.inr a:Key)=Sum.inr b:=fun q=>e (Sum.inr.inj q)
  rw[decide_eq_false h,decide_eq_false e]
theorem key_lr (a:Int)(b:Str):decide ((Sum.inl a:Key)=Sum.inr b)=false:=decide_eq_false (fun q=>nomatch q)
theorem key_rl (a:Str)(b:Int):decide ((Sum.inr a:Key)=Sum.inl b)=false:=decide_eq_false (fun q=>nomatch q)
def q0s (prog:Program)(w:World):PySem.KeyKind prog w Key where
 is:=q7d
 hash:=keyH w
 inj:=fun v a b ha hb=>by
  rcases q0g ha with⟨i,t,rfl,rfl⟩|⟨x,t,rfl,rfl⟩
  ·rcases q0g hb with⟨j,u,rfl,e⟩|⟨y,u,rfl,e⟩
   ·injection e with e1 _;rw[e1]
   ·exact nomatch e
  ·rcases q0g hb with⟨j,u,rfl,e⟩|⟨y,u,rfl,e⟩
   ·exact nomatch e
   ·injection e with e1 _;rw[e1]
 byValue:=fun k v h=>by
  rcases q0g h with⟨i,t,rfl,rfl⟩|⟨x,t,rfl,rfl⟩<;>rfl
 pyHash:=fun hv h=>by
  rcases q0g hv with⟨i,t,rfl,rfl⟩|⟨x,t,rfl,rfl⟩
  ·exact wpAny_pyHash_int h
  ·exact wpAny_pyHash_str h
 eqBool:=fun hu hv h=>by
  rcases q0g hu with⟨i,t,rfl,rfl⟩|⟨x,t,rfl,rfl⟩
  ·rcases q0g hv with⟨j,u,rfl,rfl⟩|⟨y,u,rfl,rfl⟩
   ·rw [key_ll] at h;exact wpAny_eqBool_int h
   ·rw [key_lr] at h;exact SeqAt.EqAt.int_str i t y u _ _ _ _ h
  ·rcases q0g hv with⟨j,u,rfl,rfl⟩|⟨y,u,rfl,rfl⟩
   ·rw [key_rl] at h;exact SeqAt.EqAt.str_int x t j u _ _ _ _ h
   ·rw [key_rr] at h;exact wpAny_eqBool_str h
 «strs» :=fun k x t v h=>by
  rcases q0g h with⟨i,u,rfl,e⟩|⟨y,u,rfl,e⟩
  ·exact nomatch e
  ·injection e with e1 _
   subst e1
   cases v<;>rfl
theorem q5S (prog:Program)(w:World)(i:Int)(t:Tok):(q0s prog w).is (.inl i) (.int i t)=true:=q8r i t
theorem q5R (prog:Program)(w:World)(x:Str)(t:Tok):(q0s prog w).is (.inr x) (.str x t)=true:=q8q x t
inductive V where
 |non|bl (b:Bool)|int (i:Int)|str (x:Str)|byt (b:Array UInt8)|flt (b:UInt64)|ref (a:Addr)|ty (n:String)
 deriving DecidableEq
def RelV:V->Value->Prop
 | .non,u=>u=Value.none
 | .bl b,u=>u=Value.bool b
 | .int i,u=>∃t,u=Value.int i t
 | .str x,u=>∃t,u=Value.str x t
 | .byt b,u=>∃t,u=Value.bytes b t
 | .flt b,u=>∃t,u=Value.float b t
 | .ref a,u=>u=Value.ref a
 | .ty n,u=>u=Value.type n
abbrev Vals:List V->List Value->Prop:=Paired RelV
theorem Vals.length {xs:List V}{us:List Value}(r:Vals xs us):xs.length=us.length:=Paired.length r
theorem Vals.get:∀{xs:List V} {us:List Value} {i:Nat} {x:V},Vals xs us->xs[i]? =some x->∃u,us[i]? =some u/\RelV x u
 |_,_,_,_,.nil,e=>by simp at e
 |_,_,0,_,.cons r _,e=>by simp at e;subst e;exact⟨_,rfl,r⟩
 |_,_,i+1,x,.cons _ t,e=>by
  obtain⟨u,h1,h2⟩:=Vals.get (i:=i) (x:=x) t (by simpa using e)
  exact⟨u,by simpa using h1,h2⟩
theorem Vals.set {x:V}{u:Value}(r:RelV x u):∀{xs:List V} {us:List Value} (i:Nat),Vals xs us->Vals (xs.set i x) (us.set i u)
 |_,_,_,.nil=> .nil
 |_,_,0,.cons _ t=> .cons r t
 |_,_,i+1,.cons q t=> .cons q (Vals.set r i t)
theorem Vals.append:∀{xs ys:List V} {us ws:List Value},Vals xs us->Vals ys ws->Vals (xs++ys) (us++ws)
 |_,_,_,_,.nil,s=>s
 |_,_,_,_,.cons r t,s=> .cons r (Vals.append t s)
theorem Vals.take:∀{xs:List V} {us:List Value} (n:Nat),Vals xs us->Vals (xs.take n) (us.take n)
 |_,_,0,_=> .nil
 |_,_,_+1,.nil=> .nil
 |_,_,n+1,.cons r t=> .cons r (Vals.take n t)
theorem Vals.drop:∀{xs:List V} {us:List Value} (n:Nat),Vals xs us->Vals (xs.drop n) (us.drop n)
 |_,_,0,r=>r
 |_,_,_+1,.nil=> .nil
 |_,_,n+1,.cons _ t=>Vals.drop n t
def RelO:Option V->Option Value->Prop
 |some v,some u=>RelV v u
 |none,none=>True
 |_,_=>False
def KV {κ:Type}:List (κ×V)->List (κ×Value)->Prop:=Paired fun(p:κ×V) (q:κ×Value)=>p.1=q.1/\RelV p.2 q.2
def kV:Key->V
 | .inl i=> .int i
 | .inr x=> .str x
inductive HO where
 /-- a list -/
 |lst (xs:List V)
 /-- a tuple (never changes) -/
 |tup (xs:List V)
 /-- a dict whose keys are ints and texts;one whose keys are tuples of ints and texts (the empty one is both) -/
 |dK (kvs:List (Key×V))|dT (kvs:List (List Key×V))
 /-- a set of ints: its members,its size -/
 |set (S:Int->Bool) (n:Nat)
 /-- an instance of the class at C,its dict at dx,its attributes -/
 |ins (C dx:Addr) (fs:List (Str×V))
 /-- the dict of the instance at x -/
 |own (x:Addr)
 /-- the dict of an exception -/
 |xd (fs:List (Str×V))
 /-- a bound method,f of x -/
 |met (f x:Addr)
 /-- a range object lo,lo+1,.. below hi -/
 |rng (lo hi:Int)
 /-- a thing that is known to the object (the script;a dict while a loop walks it):read,never written while it is so -/
 |frz (o:Obj) (u:HO)
 /-- a code object's table -/
 |tbl (ps:Array Value)
 /-- any other thing,by what is true of its one object (a def of one's own: SetO a S n:=HO.ext fun h=> ..) -/
 |ext (φ:Heap->Prop)
abbrev Hp:=Addr->Option HO
def upd (H:Hp)(a:Addr)(o:HO):Hp:=fun b=>if b=a then some o else H b
theorem qg {H:Hp}{a:Addr}{o:HO}:upd H a o a=some o:=by unfold upd;rw[if_pos rfl]
theorem ql {H:Hp}{a b:Addr}{o:HO}(h:b≠a):upd H a o b=H b:=by unfold upd;rw[if_neg h]
theorem q1Q {H:Hp}{a:Addr}{o u:HO}:upd (upd H a o) a u=upd H a u:=by
 funext b;unfold upd;split<;>rfl
theorem q2o {H:Hp}{a b:Addr}{o u:HO}(h:H a=some o)(h':H b=some u)(d:o≠u):a≠b:=by
 intro e;subst e;rw[h] at h';exact d (Option.some.inj h')
theorem qp {H:Hp}{a b:Addr}{o:HO}(h:H a=some o)(h':H b=none):a≠b:=by
 intro e;subst e;rw[h] at h';cases h'
section
variable (P:Program)(w:World)
def q01 (H:Hp)(h:Heap)(a:Addr):HO->Prop
 | .lst xs=>xs.length<=sizeLine/\∃(its:List Value) (n:Nat),Vals xs its/\h.get? a=some {cls:= .type "list",data:= .seq its.toArray n}
 | .tup xs=>xs.length<=sizeLine/\∃its:List Value,Vals xs its/\IsTup h a its.toArray
 | .dK kvs=>kvs.length<=sizeLine/\(a==sysModules)=false/\∃vs,KV kvs vs/\h.DictOf (q0s P w) a vs
 | .dT kvs=>kvs.length<=sizeLine/\(a==sysModules)=false/\∃xs:List (List Key×Addr×Value),
   Paired (fun(p:List Key×V) (q:List Key×Addr×Value)=>p.1=q.1/\H q.2.1=some (.tup (p.1.map kV))/\RelV p.2 q.2.2) kvs xs/\
   ∃o es ep,h.get? a=some o/\o.ExactDict/\o.data= .dict es ep/\es.toList=xs.map (entryOfKey (tupleKind (q0s P w)))/\(xs.map (·.1)).Nodup
 | .set S n=>h.SetOf (intKind P w) a S n
 | .ins C dx fs=>H dx=some (.own a)/\fs.length<=1000/\dx≠a/\h.get? a=some (PySem.W.instObj C dx)/\
   ∃mA,h.Ns1 dx mA/\(∀f,RelO (fs.lookup f) (mA f))/\PySem.Within mA (fs.map (·.1))
 | .own _=>∃o,h.get? a=some o
 | .xd fs=>∃mA,h.Ns1 a mA/\∀f,RelO (fs.lookup f) (mA f)
 | .rng lo hi=>∃t u v,h.get? a=some {cls:= .type "range",data:= .fields #[.int lo t,.int hi u,.int 1 v]}
 | .frz o u=>h.get? a=some o/\q01 H h a u
 | .tbl ps=>h.get? a=some {cls:= .none,data:= .fields ps}
 | .met f x=>h.get? a=some (PySem.W.methodObj (.ref f) (.ref x))
 | .ext φ=>φ h/\(∃o,h.get? a=some o)/\∀h1 h2:Heap,φ h1->(∀o,h1.get? a=some o->h2.get? a=some o)->φ h2
def HOk (H:Hp)(h:Heap):Prop:=∀a o,H a=some o->q01 P w H h a o
end
section
variable {P:Program}{w:World}{H H':Hp}{h h':Heap}{a:Addr}{o:HO}
theorem q01.lt (x:q01 P w H h a o):a<h.objs.size:=by
 cases o with
 |lst xs=>obtain⟨_,_,_,_,e⟩:=x;exact Heap.lt_size e
 |tup xs=>obtain⟨_,_,_,p⟩:=x;exact p.lt
 |dK kvs=>obtain⟨_,_,_,_,o,_,_,e,_⟩:=x;exact Heap.lt_size e
 |dT kvs=>obtain⟨_,_,_,_,o,_,_,e,_⟩:=x;exact Heap.lt_size e
 |set S n=>obtain⟨o,_,_,_,e,_⟩:=x;exact Heap.lt_size e
 |ins C dx fs=>obtain⟨_,_,_,e,_⟩:=x;exact Heap.lt_size e
 |own y=>obtain⟨_,e⟩:=x;exact Heap.lt_size e
 |xd fs=>obtain⟨_,⟨_,_,_,e,_⟩,_⟩:=x;exact Heap.lt_size e
 |rng lo hi=>obtain⟨_,_,_,e⟩:=x;exact Heap.lt_size e
 |frz ob u=>obtain⟨e,_⟩:=x;exact Heap.lt_size e
 |tbl ps=>exact Heap.lt_size (show h.get? a=some _ from x)
 |met f y=>exact Heap.lt_size (show h.get? a=some _ from x)
 |ext φ=>obtain⟨_,⟨_,e⟩,_⟩:=x;exact Heap.lt_size e
theorem Paired.mapP {α β:Type}{F G:α->β->Prop}:∀{l₁:List α} {l₂:List β},Paired F l₁ l₂->(∀a b,F a b->G a b)->Paired G l₁ l₂
 |_,_,.nil,_=> .nil
 |_,_,.cons r t,f=> .cons (f _ _ r) (Paired.mapP t f)
theorem q01.stay (x:q01 P w H h a o)(k:∀b u,(b=a\/H b=some (.own a))->h.get? b=some u->h'.get? b=some u)
  (ho:∀b,H b=some (.own a)->H' b=some (.own a))(ht:∀b xs,H b=some (.tup xs)->H' b=some (.tup xs)):q01 P w H' h' a o:=by
 induction o with
 |lst xs=>obtain⟨z,its,n,r,e⟩:=x;exact⟨z,its,n,r,k _ _ (.inl rfl) e⟩
 |tup xs=>obtain⟨z,its,r,ob,e,c⟩:=x;exact⟨z,its,r,ob,k _ _ (.inl rfl) e,c⟩
 |dK kvs=>obtain⟨z,y,vs,r,ob,es,ep,e,c⟩:=x;exact⟨z,y,vs,r,ob,es,ep,k _ _ (.inl rfl) e,c⟩
 |dT kvs=>
  obtain⟨z,y,xs,r,ob,es,ep,e,c⟩:=x
  exact⟨z,y,xs,Paired.mapP r fun p q z=>⟨z.1,ht _ _ z.2.1,z.2.2⟩,ob,es,ep,k _ _ (.inl rfl) e,c⟩
 |set S n=>obtain⟨ob,es,ep,t,e,c⟩:=x;exact⟨ob,es,ep,t,k _ _ (.inl rfl) e,c⟩
 |ins C dx fs=>
  obtain⟨d,z,ne,e,mA,⟨od,es,ep,e2,c⟩,r⟩:=x
  exact⟨ho _ d,z,ne,k _ _ (.inl rfl) e,mA,⟨od,es,ep,k _ _ (.inr d) e2,c⟩,r⟩
 |own y=>obtain⟨ob,e⟩:=x;exact⟨ob,k _ _ (.inl rfl) e⟩
 |xd fs=>obtain⟨mA,⟨od,es,ep,e,c⟩,r⟩:=x;exact⟨mA,⟨od,es,ep,k _ _ (.inl rfl) e,c⟩,r⟩
 |rng lo hi=>obtain⟨t,u,v,e⟩:=x;exact⟨t,u,v,k _ _ (.inl rfl) e⟩
 |frz ob u ih=>obtain⟨e,q⟩:=x;exact⟨k _ _ (.inl rfl) e,ih q⟩
 |tbl ps=>
  have e:h.get? a=some {cls:= .none,data:= .fields ps}:=x
  show h'.get? a=some {cls:= .none,data:= .fields ps}
  exact k a _ (.inl rfl) e
 |met f y=>
  have e:h.get? a=some (PySem.W.methodObj (.ref f) (.ref y)):=x
  show h'.get? a=some (PySem.W.methodObj (.ref f) (.ref y))
  exact k a _ (.inl rfl) e
 |ext φ=>obtain⟨p,⟨o,e⟩,st⟩:=x;exact⟨st _ _ p fun o q=>k _ _ (.inl rfl) q,⟨o,k _ _ (.inl rfl) e⟩,st⟩
theorem HOk.lt (x:HOk P w H h)(e:H a=some o):a<h.objs.size:=(x a o e).lt
theorem HOk.fresh (x:HOk P w H h)(e:h.objs.size<=a):H a=none:=by
 cases q:H a with
 |none=>rfl
 |some u=>exact absurd (Nat.lt_of_lt_of_le (x.lt q) e) (Nat.lt_irrefl _)
theorem HOk.kept (x:HOk P w H h)(k:∀b u,h.get? b=some u->h'.get? b=some u):HOk P w H h':=fun a o e=>
 (x a o e).stay (fun b u _ q=>k b u q) (fun _ q=>q) fun _ _ q=>q
theorem HOk.laid (x:HOk P w H h)(k:∀b u,h.get? b=some u->h'.get? b=some u)(hp:h.objs.size<=a)(new:q01 P w (upd H a o) h' a o):HOk P w (upd H a o) h':=fun b u e=>by
 have hn:=x.fresh hp
 by_cases hb:b=a
 ·subst hb;rw[qg] at e;cases e;exact new
 ·rw [ql hb] at e
  exact(x b u e).stay (fun c v _ q=>k c v q) (fun c q=>by rw[ql (qp q hn)];exact q) fun c xs q=>by rw[ql (qp q hn)];exact q
end
def Rd (H:Hp)(a:Addr)(u:HO):Prop:=H a=some u\/∃o,H a=some (.frz o u)
theorem Rd.ok {P:Program}{w:World}{H:Hp}{h:Heap}{a:Addr}{u:HO}(r:Rd H a u)(x:HOk P w H h):q01 P w H h a u:=by
 rcases r with r|⟨o,r⟩
 ·exact x a u r
 ·obtain ⟨_,q⟩:=x a _ r
  exact q
def Mut:Option HO->Prop
 |some (.lst _)=>True
 |some (.dK _)=>True
 |some (.dT _)=>True
 |some (.set _ _)=>True
 |some (.ins _ _ _)=>True
 |some (.ext _)=>True
 |_=>False
section
variable {P:Program}{w:World}{H:Hp}{h h':Heap}{x e:Addr}{o':HO}
theorem HOk.write (ok:HOk P w H h)(mu:Mut (H x))(he:e=x\/H e=some (.own x))(k:∀b u,b≠e->h.get? b=some u->h'.get? b=some u)(heo:∃u,h'.get? e=some u)
  (new:q01 P w (upd H x o') h' x o'):HOk P w (upd H x o') h':=fun b u q=>by
 have nown:∀c y,H c=some (.own y)->c≠x:=fun c y r z=>by subst z;rw[r] at mu;exact mu
 have ntup:∀c xs,H c=some (.tup xs)->c≠x:=fun c xs r z=>by subst z;rw[r] at mu;exact mu
 by_cases hb:b=x
 ·subst hb;rw[qg] at q;cases q;exact new
 ·rw [ql hb] at q
  by_cases hbe:b=e
  ·have q':H b=some (.own x):=by
    rcases he with z|z
    ·exact absurd (hbe.trans z) hb
    ·rw [hbe];exact z
   rw[q] at q';cases q'
   obtain⟨v,hv⟩:=heo
   exact⟨v,by rw[hbe];exact hv⟩
  ·refine (ok b u q).stay (fun c v hc r=>k c v ?_ r) (fun c r=>by rw[ql (nown c b r)];exact r) fun c xs r=>by rw[ql (ntup c xs r)];exact r
   rcases hc with rfl|hc
   ·exact hbe
   ·rintro rfl
    rcases he with z|z
    ·exact nown c b hc z
    ·rw [hc] at z;cases z;exact hb rfl
end
structure Un (fs ex:List Addr)(H H':Hp)(h h':Heap):Prop where
 keep:∀b o,h.get? b=some o->H b=none->b∉fs->b∉ex->h'.get? b=some o
 slot:∀b o,h.get? b=some o->H b=none->b∈fs->b∉ex->∃sl,h'.get? b=some {o with slots:=sl}
 free:∀b o,h.get? b=some o->H b=none->b∉ex->H' b=none
 there:∀b o,h.get? b=some o->b∉ex->∃o',h'.get? b=some o'
 tups:∀b xs,H b=some (.tup xs)->H' b=some (.tup xs)
 frzs:∀b o u,H b=some (.frz o u)->H' b=some (.frz o u)
 tbls:∀b ps,H b=some (.tbl ps)->∃more,H' b=some (.tbl (ps++more))
section
variable {fs fs' ex ex':List Addr}{H H1 H2:Hp}{h h1 h2 h':Heap}{a x e:Addr}{o:HO}
theorem Un.any (u:Un fs ex H H1 h h1){b:Addr}{ob:Obj}(q:h.get? b=some ob)(n:H b=none)(hx:b∉ex):∃sl,h1.get? b=some {ob with slots:=sl}:=by
 by_cases hb:b∈fs
 ·exact u.slot b ob q n hb hx
 ·exact ⟨ob.slots,u.keep b ob q n hb hx⟩
theorem Un.kept (k:∀b u,h.get? b=some u->h'.get? b=some u):Un fs ex H H h h':=
 ⟨fun b ob q _ _ _=>k b ob q,fun b ob q _ _ _=>⟨ob.slots,k b ob q⟩,fun _ _ _ n _=>n,fun b ob q _=>⟨ob,k b ob q⟩,fun _ _ q=>q,fun _ _ _ q=>q,fun _ ps q=>⟨#[],by rw[q];simp⟩⟩
theorem Un.refl:Un fs ex H H h h:=Un.kept fun _ _ q=>q
theorem Un.laid (k:∀b u,h.get? b=some u->h'.get? b=some u)(hp:h.objs.size<=a)(hn:H a=none):Un fs ex H (upd H a o) h h' where
 keep:=fun b u q _ _ _=>k b u q
 slot:=fun b u q _ _ _=>⟨u.slots,k b u q⟩
 free:=fun b u q n _=>by rw[ql (Nat.ne_of_lt (Nat.lt_of_lt_of_le (Heap.lt_size q) hp))];exact n
 there:=fun b u q _=>⟨u,k b u q⟩
 tups:=fun b xs q=>by rw[ql (qp q hn)];exact q
 frzs:=fun b u xs q=>by rw[ql (qp q hn)];exact q
 tbls:=fun b ps q=>⟨#[],by rw[ql (qp q hn),q];simp⟩
theorem Un.write (mu:Mut (H x))(he:e=x\/H e=some (.own x))(k:∀b u,b≠e->h.get? b=some u->h'.get? b=some u)(heo:∃u,h'.get? e=some u):Un fs ex H (upd H x o) h h':=by
 have hx:∀b,H b=none->b≠x:=fun b n z=>by subst z;rw[n] at mu;exact mu
 have hb:∀b,H b=none->b≠e:=fun b n z=>by
  subst z
  rcases he with r|r
  ·exact hx b n r
  ·rw [n] at r;cases r
 have hm:∀b u,H b=some u->¬Mut (some u)->b≠x:=fun b u q nm z=>by subst z;rw[q] at mu;exact nm mu
 refine⟨fun b u q n _ _=>k b u (hb b n) q,fun b u q n _ _=>⟨u.slots,k b u (hb b n) q⟩,fun b u q n _=>by rw[ql (hx b n)];exact n,fun b u q _=>?_,
  fun b xs q=>by rw[ql (hm b _ q fun z=>z)];exact q,fun b u xs q=>by rw[ql (hm b _ q fun z=>z)];exact q,fun b ps q=>⟨#[],by rw[ql (hm b _ q fun z=>z),q];simp⟩⟩
 by_cases hbe:b=e
 ·subst hbe;exact heo
 ·exact ⟨u,k b u hbe q⟩
end
def trk (h:Heap)(H:Hp):List Addr:=(List.range h.objs.size).filter fun a=>(H a).isSome
def hidT (h:Heap)(H:Hp):Heap:=PySem.W.hideAll h (trk h H)
theorem q8C (h:Heap)(H:Hp):(hidT h H).objs.size=h.objs.size:=PySem.W.hideAll_size _ _
theorem qac {h:Heap}{H:Hp}{b:Addr}{o:Obj}(e:h.get? b=some o)(n:H b=none):(hidT h H).get? b=some o:=
 PySem.W.hideAll_get _ e fun hm=>by
  have q:(H b).isSome=true:=(List.mem_filter.mp hm).2
  rw[n] at q;simp at q
theorem qbO {h:Heap}{H:Hp}{b:Addr}{o:Obj}(e:(hidT h H).get? b=some o):h.get? b=some o/\H b=none:=by
 have e':h.get? b=some o:=PySem.W.of_hideAll (trk h H) e
 refine⟨e',?_⟩
 cases q:H b with
 |none=>rfl
 |some x=>
  have hm:b∈trk h H:=List.mem_filter.mpr ⟨List.mem_range.mpr (Heap.lt_size e'),by simp[q]⟩
  have z:(hidT h H).get? b=none:=PySem.W.hideAll_none (trk h H) hm
  rw[z] at e;cases e
def qcA (g h:Heap)(L:Addr):List (Addr×Obj):=(List.range h.objs.size).filterMap fun a=>if a=L\/(g.get? a).isSome=true then none else(h.get? a).map fun o=>(a,o)
def rest (g h:Heap)(L d:Addr):List (Addr×Obj):=(qcA g h L).filter fun p=>decide (p.1≠d)
structure Mod (K:W.Frag)(mg:Str->Option Value)(base:Heap):Prop where
 kin:K.In base
 glob:base.Ns mainGlobals mg
 blt:∃mb,base.Ns builtinsNs mb/\∀x:Str,x≠"__name__"->mb x=bootBuiltins x
 nolimit:base.NoLimit
structure Cx where
 prog:Program
 w:World
 K:W.Frag
 mg:Str->Option Value
 base:Heap
 A:Around
 N:List Str
 s₀:Shared
 H₀:Hp
 env:Env
 outer:List Env
 stack:List Env
 ex:List Addr
 fn:Str->Bool
 calm:Bool
 pn:List (Addr×Obj)
 xe:Value->Shared->Prop
def frs (l:List Env):List Addr:=l.filterMap (·.frame)
abbrev Cx.fs (X:Cx):List Addr:=frs X.outer
def Vis (sc:Scope)(x:Str):Prop:=sc.names.lookup x=some .local\/sc.names.lookup x=some .cell\/sc.names.lookup x=some .free
def Loc (sc:Scope)(x:Str):Prop:=sc.names.lookup x=some .local\/sc.names.lookup x=some .cell
def Look (env:Env)(h:Heap)(m:Str->Option Value)(x:Str)(u:Value):Prop:=
 (env.kindOf x=some .local/\m x=some u)\/((env.kindOf x=some .cell\/env.kindOf x=some .free)/\∃c,env.cells.lookup x=some c/\h.IsCell c (some u))
structure Cx.Ok (X:Cx):Prop where
 mod:Mod X.K X.mg X.base
 kind:X.env.scope.kind= .function
 glob:X.env.globals=mainGlobals
 blt:X.env.builtins=builtinsNs
 above:X.s₀.heap.objs.size<=X.env.locals
 inj:∀x y c,X.env.cells.lookup x=some c->X.env.cells.lookup y=some c->x=y
 has:∀x,(X.env.kindOf x=some .cell\/X.env.kindOf x=some .free)->∃c,X.env.cells.lookup x=some c
 cab:∀x c,X.fn x=true->X.env.cells.lookup x=some c->X.s₀.heap.objs.size<=c
 hd:X.calm=true->X.A.handled=none
 frames:X.A.frames=some X.stack
 stk:X.stack=X.outer\/(X.stack=X.env::X.outer/\X.env.frame=some X.env.locals)
 exf:∀b∈X.ex,b≠X.env.locals/\∀x c,X.env.cells.lookup x=some c->c≠b
 bs:∀b o,X.base.get? b=some o->X.s₀.heap.get? b=some o/\X.H₀ b=none
 bsz:X.base.objs.size<=X.s₀.heap.objs.size
 noex:∀b o,X.base.get? b=some o->b∉X.ex
 exfs:∀b∈X.ex,b∉X.fs
 funs:X.s₀.heap.FunFrames X.base X.outer
 frf:∀b∈X.fs,X.H₀ b=none
structure Inv (X:Cx)(pins:List (Addr×Obj))(σ:List (Option V))(H:Hp)(s:Shared):Prop where
 ok:X.Ok
 os:s.os=X.s₀.os
 bare:AllBare s.gens
 base:Un X.fs X.ex X.H₀ H X.s₀.heap s.heap
 loc:∃m,s.heap.Ns X.env.locals m/\∀(i:Nat) (x:Str) (v:V),X.N[i]? =some x->σ[i]? =some (some v)->Vis X.env.scope x->∃u,RelV v u/\Look X.env s.heap m x u
 cell:∀x c,X.env.cells.lookup x=some c->∃v,s.heap.IsCell c v
 free:H X.env.locals=none
 freeC:∀x c,X.env.cells.lookup x=some c->H c=none
 pin:∀p∈X.pn++pins,s.heap.get? p.1=some p.2/\H p.1=none/\p.1≠X.env.locals/\p.1∉X.fs/\∀v,p.2.data≠ .cell v
 hok:HOk X.prog X.w H s.heap
 len:σ.length=X.N.length
section
variable {X:Cx}{pins:List (Addr×Obj)}{σ:List (Option V)}{H H':Hp}{s:Shared}{h':Heap}
theorem Cx.Ok.nofr (ok:X.Ok){b:Addr}{o:Obj}(e:X.base.get? b=some o):b∉X.fs:=fun hb=>by
 have:=(ok.funs.mem hb).1
 rw[e] at this;cases this
theorem Inv.bs (I:Inv X pins σ H s):∀b o,X.base.get? b=some o->s.heap.get? b=some o/\H b=none:=fun b o e=>
 ⟨I.base.keep b o (I.ok.bs b o e).1 (I.ok.bs b o e).2 (I.ok.nofr e) (I.ok.noex b o e),I.base.free b o (I.ok.bs b o e).1 (I.ok.bs b o e).2 (I.ok.noex b o e)⟩
theorem Inv.bk (I:Inv X pins σ H s):∀b o,X.base.get? b=some o->s.heap.get? b=some o:=fun b o e=>(I.bs b o e).1
theorem Inv.mod (I:Inv X pins σ H s):Mod X.K X.mg X.base:=I.ok.mod
theorem Inv.kIn (I:Inv X pins σ H s):X.K.In s.heap:=I.ok.mod.kin.keeps I.bk
theorem Inv.lt (I:Inv X pins σ H s):X.env.locals<s.heap.objs.size:=let ⟨_,hn,_⟩:=I.loc;hn.lt
theorem Inv.sz (I:Inv X pins σ H s):X.s₀.heap.objs.size<=s.heap.objs.size:=Nat.le_trans I.ok.above (Nat.le_of_lt I.lt)
theorem Inv.nofs (I:Inv X pins σ H s){a:Addr}(h:s.heap.objs.size<=a):a∉X.fs:=fun hb=>by
 obtain⟨_,o,ho,_⟩:=I.ok.funs.mem hb
 exact absurd (Nat.lt_of_lt_of_le (Heap.lt_size ho) (Nat.le_trans I.sz h)) (Nat.lt_irrefl _)
theorem Inv.cne (I:Inv X pins σ H s):∀x c,X.env.cells.lookup x=some c->c≠X.env.locals:=fun x c e z=>by
 obtain⟨v,o,ho,hd⟩:=I.cell x c e
 obtain⟨m,⟨o',es,ep,ho',hd',_⟩,_⟩:=I.loc
 rw[z,ho'] at ho;cases ho;rw[hd'] at hd;cases hd
theorem Inv.funs (I:Inv X pins σ H s):s.heap.FunFrames X.base X.outer:=by
 have all:∀(l:List Env),(∀b∈frs l,b∈X.fs)->X.s₀.heap.FunFrames X.base l->s.heap.FunFrames X.base l:=by
  intro l
  induction l with
  |nil=>intro _ _;trivial
  |cons env r ih=>
   intro hs hl
   obtain⟨hk,⟨L,o,hf,hn,ho,hd⟩,hr⟩:=hl
   have hL:L∈X.fs:=hs L (by unfold frs;rw[List.filterMap_cons,hf];exact List.mem_cons_self)
   obtain⟨sl,e⟩:=I.base.slot L o ho (I.ok.frf L hL) hL fun z=>I.ok.exfs L z hL
   exact⟨hk,⟨L,_,hf,hn,e,hd⟩,ih (fun b hb=>hs b (by unfold frs;rw[List.filterMap_cons,hf];exact List.mem_cons_of_mem _ hb)) hr⟩
 exact all X.outer (fun _ hb=>hb) I.ok.funs
theorem Inv.stack (I:Inv X pins σ H s):s.heap.FunFrames X.base X.stack:=by
 rcases I.ok.stk with e|⟨e,hf⟩
 ·rw [e];exact I.funs
 ·rw [e]
  obtain⟨m,hn,_⟩:=I.loc
  refine .cons (by rw[I.ok.kind];decide) hf hn ?_ I.funs
  exact Heap.get?_none_of_le (Nat.le_trans I.ok.bsz I.ok.above)
theorem Inv.stkSub (I:Inv X pins σ H s):∀b∈frs X.stack,b∈X.env.locals::X.fs:=fun b hb=>by
 rcases I.ok.stk with e|⟨e,hf⟩
 ·rw [e] at hb;exact List.mem_cons_of_mem _ hb
 ·rw [e] at hb
  unfold frs at hb
  rw[List.filterMap_cons,hf] at hb
  exact hb
theorem Inv.stkFree (I:Inv X pins σ H s):∀b∈frs X.stack,H b=none:=fun b hb=>by
 rcases List.mem_cons.mp (I.stkSub b hb) with e|hb
 ·rw [e];exact I.free
 ·obtain ⟨_,o,ho,_⟩:=I.ok.funs.mem hb
  exact I.base.free b o ho (I.ok.frf b hb) fun z=>I.ok.exfs b z hb
theorem Inv.step {g':Array GenState}{t':Nat}{d':Drawn}{ch:List Addr}(I:Inv X pins σ H s)
  (hch:∀b∈ch,(b∈X.ex\/X.s₀.heap.objs.size<=b)/\b≠X.env.locals/\(∀x c,X.env.cells.lookup x=some c->c≠b)/\∀p∈X.pn++pins,p.1≠b)
  (keep:∀b o,b≠X.env.locals->b∉X.fs->b∉ch->s.heap.get? b=some o->H b=none->h'.get? b=some o)
  (slot:∀b o,b≠X.env.locals->b∈X.fs->b∉ch->s.heap.get? b=some o->H b=none->∃sl,h'.get? b=some {o with slots:=sl})(free:∀b o,b∉ch->s.heap.get? b=some o->H b=none->H' b=none)
  (there:∀b o,b∉ch->s.heap.get? b=some o->∃o',h'.get? b=some o')
  (tups:∀b xs,H b=some (.tup xs)->H' b=some (.tup xs))(frzs:∀b o u,H b=some (.frz o u)->H' b=some (.frz o u))(tbls:∀b ps,H b=some (.tbl ps)->∃more,H' b=some (.tbl (ps++more)))
  (ns:∀m,s.heap.Ns X.env.locals m->h'.Ns X.env.locals m)(hok:HOk X.prog X.w H' h')(hg:AllBare g'):
  Inv X pins σ H' {s with heap:=h',gens:=g',drawn:=d',toks:=t'}:=by
 have neL:∀b o,X.s₀.heap.get? b=some o->b≠X.env.locals:=fun b o e=>Nat.ne_of_lt (Nat.lt_of_lt_of_le (Heap.lt_size e) I.ok.above)
 have neC:∀b o,X.s₀.heap.get? b=some o->b∉X.ex->b∉ch:=fun b o e hx hb=>by
  rcases(hch b hb).1 with z|z
  ·exact hx z
  ·exact absurd (Nat.lt_of_lt_of_le (Heap.lt_size e) z) (Nat.lt_irrefl _)
 have cellK:∀x c,X.env.cells.lookup x=some c->∀v,s.heap.IsCell c v->h'.IsCell c v:=fun x c e v ⟨o,ho,hd⟩=>by
  have nch:c∉ch:=fun z=>(hch c z).2.2.1 x c e rfl
  by_cases hc:c∈X.fs
  ·obtain ⟨sl,q⟩:=slot c o (I.cne x c e) hc nch ho (I.freeC x c e)
   exact⟨_,q,hd⟩
  ·exact ⟨o,keep c o (I.cne x c e) hc nch ho (I.freeC x c e),hd⟩
 refine⟨I.ok,I.os,hg,⟨fun b o e n hb hx=>?_,fun b o e n hb hx=>?_,fun b o e n hx=>?_,fun b o e hx=>?_,fun b xs e=>tups b xs (I.base.tups b xs e),fun b o xs e=>frzs b o xs (I.base.frzs b o xs e),fun b ps e=>?_⟩,?_,fun x c e=>?_,?_,fun x c e=>?_,fun p hp=>?_,hok,I.len⟩
 ·exact keep b o (neL b o e) hb (neC b o e hx) (I.base.keep b o e n hb hx) (I.base.free b o e n hx)
 ·obtain ⟨sl,e1⟩:=I.base.slot b o e n hb hx
  obtain⟨sl',e2⟩:=slot b _ (neL b o e) hb (neC b o e hx) e1 (I.base.free b o e n hx)
  exact⟨sl',e2⟩
 ·obtain ⟨o',e1⟩:=I.base.there b o e hx
  exact free b o' (neC b o e hx) e1 (I.base.free b o e n hx)
 ·obtain ⟨o',e1⟩:=I.base.there b o e hx
  exact there b o' (neC b o e hx) e1
 ·obtain ⟨m1,e1⟩:=I.base.tbls b ps e
  obtain⟨m2,e2⟩:=tbls b _ e1
  exact⟨m1++m2,by rw[e2,Array.append_assoc]⟩
 ·obtain ⟨m,hn,hl⟩:=I.loc
  refine⟨m,ns m hn,fun i x v e1 e2 e3=>?_⟩
  obtain⟨u,r,l⟩:=hl i x v e1 e2 e3
  refine⟨u,r,?_⟩
  rcases l with l|⟨k,c,e,z⟩
  ·exact .inl l
  ·exact .inr ⟨k,c,e,cellK x c e _ z⟩
 ·obtain ⟨v,z⟩:=I.cell x c e
  exact⟨v,cellK x c e v z⟩
 ·obtain ⟨m,⟨o,_,_,ho,_⟩,_⟩:=I.loc
  exact free _ o (fun z=>(hch _ z).2.1 rfl) ho I.free
 ·obtain ⟨v,o,ho,hd⟩:=I.cell x c e
  exact free c o (fun z=>(hch c z).2.2.1 x c e rfl) ho (I.freeC x c e)
 ·obtain ⟨e,n,ne,nf,d⟩:=I.pin p hp
  have nch:p.1∉ch:=fun z=>(hch p.1 z).2.2.2 p hp rfl
  exact⟨keep p.1 p.2 ne nf nch e n,free p.1 p.2 nch e n,ne,nf,d⟩
theorem Inv.un {t':Nat}(I:Inv X pins σ H s)(u:Un X.fs [] H H' s.heap h')(hok:HOk X.prog X.w H' h'):Inv X pins σ H' {s with heap:=h',toks:=t'}:=by
 obtain⟨m,⟨o,es,ep,ho,r⟩,_⟩:=id I.loc
 obtain⟨sl,hL⟩:=u.any ho I.free (by simp)
 exact I.step (g':=s.gens) (d':=s.drawn) (ch:=[]) (fun _ z=>nomatch z) (fun b o _ hb _ e n=>u.keep b o e n hb (by simp)) (fun b o _ hb _ e n=>u.slot b o e n hb (by simp)) (fun b o _ e n=>u.free b o e n (by simp)) (fun b o _ e=>u.there b o e (by simp)) u.tups u.frzs u.tbls (fun m' hm=>by
  obtain⟨o',es',ep',ho',r'⟩:=hm
  rw[ho] at ho';cases ho'
  exact⟨_,es',ep',hL,r'⟩) hok I.bare
theorem Inv.call {g':Array GenState}{t':Nat}{d':Drawn}{ch:List Addr}(I:Inv X pins σ H s)(u:Un (frs X.stack) ch H H' s.heap h')(hok:HOk X.prog X.w H' h')(hg:AllBare g')
  (hch:∀b∈ch,(b∈X.ex\/X.s₀.heap.objs.size<=b)/\b≠X.env.locals/\(∀x c,X.env.cells.lookup x=some c->c≠b)/\∀p∈X.pn++pins,p.1≠b):
  Inv X pins σ H' {s with heap:=h',gens:=g',drawn:=d',toks:=t'}:=by
 obtain⟨m,⟨o,es,ep,ho,r⟩,_⟩:=id I.loc
 obtain⟨sl,hL⟩:=u.any ho I.free fun z=>(hch _ z).2.1 rfl
 exact I.step (ch:=ch) hch (fun b o hL hb hc e n=>u.keep b o e n (fun z=>(List.mem_cons.mp (I.stkSub b z)).elim hL hb) hc) (fun b o _ _ hc e n=>u.any e n hc) (fun b o hc e n=>u.free b o e n hc) (fun b o hc e=>u.there b o e hc) u.tups u.frzs u.tbls (fun m' hm=>by
  obtain⟨o',es',ep',ho',r'⟩:=hm
  rw[ho] at ho';cases ho'
  exact⟨_,es',ep',hL,r'⟩) hok hg
theorem Inv.turned {t':Nat}{it:Addr}(I:Inv X pins σ H s)(k:∀b o,b≠it->s.heap.get? b=some o->h'.get? b=some o)(hn:H it=none)(hL:it≠X.env.locals)
  (h1:it∈X.ex\/X.s₀.heap.objs.size<=it)(h2:∀x c,X.env.cells.lookup x=some c->c≠it)(h3:∀p∈X.pn++pins,p.1≠it):Inv X pins σ H {s with heap:=h',toks:=t'}:=by
 have nit:∀b u,H b=some u->b≠it:=fun b u e z=>by rw[z,hn] at e;cases e
 refine I.step (g':=s.gens) (d':=s.drawn) (ch:=[it]) (fun b hb=>?_) (fun b o _ _ hc e _=>k b o (fun z=>hc (by simp[z])) e) (fun b o _ _ hc e _=>⟨o.slots,k b o (fun z=>hc (by simp[z])) e⟩) (fun _ _ _ _ n=>n)
  (fun b o hc e=>⟨o,k b o (fun z=>hc (by simp[z])) e⟩) (fun _ _ e=>e) (fun _ _ _ e=>e) (fun b ps e=>⟨#[],by rw[e];simp⟩) (fun m hm=>?_) (fun b u e=>?_) I.bare
 ·have e:b=it:=by simpa using hb
  subst e
  exact⟨h1,hL,h2,h3⟩
 ·obtain ⟨o,es,ep,ho,r⟩:=hm
  exact⟨o,es,ep,k _ o (Ne.symm hL) ho,r⟩
 ·refine (I.hok b u e).stay (fun c v hc q=>k c v ?_ q) (fun _ q=>q) fun _ _ q=>q
  rcases hc with z|z
  ·rw [z];exact nit b u e
  ·exact nit c _ z
theorem Inv.tok (I:Inv X pins σ H s)(t:Nat):Inv X pins σ H {s with toks:=t}:=I.un (h':=s.heap) (t':=t) Un.refl I.hok
theorem Inv.kept {t':Nat}(I:Inv X pins σ H s)(k:∀b u,s.heap.get? b=some u->h'.get? b=some u):Inv X pins σ H {s with heap:=h',toks:=t'}:=I.un (Un.kept k) (I.hok.kept k)
theorem Inv.laid {a:Addr}{o:HO}{t':Nat}(I:Inv X pins σ H s)(k:∀b u,s.heap.get? b=some u->h'.get? b=some u)(hp:s.heap.objs.size<=a)(new:q01 X.prog X.w (upd H a o) h' a o):
  Inv X pins σ (upd H a o) {s with heap:=h',toks:=t'}:=I.un (Un.laid k hp (I.hok.fresh hp)) (I.hok.laid k hp new)
theorem Inv.write {x e:Addr}{o:HO}{t':Nat}(I:Inv X pins σ H s)(mu:Mut (H x))(he:e=x\/H e=some (.own x))(k:∀b u,b≠e->s.heap.get? b=some u->h'.get? b=some u)(heo:∃u,h'.get? e=some u)
  (new:q01 X.prog X.w (upd H x o) h' x o):Inv X pins σ (upd H x o) {s with heap:=h',toks:=t'}:=I.un (Un.write mu he k heo) (I.hok.write mu he k heo new)
theorem Inv.pins_of {pins':List (Addr×Obj)}(I:Inv X pins σ H s)(h:∀p∈pins',s.heap.get? p.1=some p.2/\H p.1=none/\p.1≠X.env.locals/\p.1∉X.fs/\∀v,p.2.data≠ .cell v):Inv X pins' σ H s:=
 ⟨I.ok,I.os,I.bare,I.base,I.loc,I.cell,I.free,I.freeC,fun p hp=>(List.mem_append.mp hp).elim (fun z=>I.pin p (List.mem_append_left _ z)) (h p),I.hok,I.len⟩
theorem q4l {N:List Str}(hN:N.Nodup){i j:Nat}{x:Str}(a:N[i]? =some x)(b:N[j]? =some x):i=j:=by
 obtain⟨h1,e1⟩:=yA a
 obtain⟨h2,e2⟩:=yA b
 exact(List.getElem_inj hN).mp (e1.trans e2.symm)
theorem q4R {M:Model}{A:Around}{E:Value->Shared->Prop}{i:Nat}{x:Str}{v:V}{u:Value}{Q:Unit->Shared->Prop}(I:Inv X pins σ H s)(hN:X.N.Nodup)(hi:X.N[i]? =some x)(hx:Loc X.env.scope x)(r:RelV v u)
  (h:∀s',Inv X pins (σ.set i (some v)) H s'->(∃a,Heap.SameBut a s.heap s'.heap/\(a=X.env.locals\/X.env.cells.lookup x=some a))->Q () s')(hf:X.fn x=true\/X.env.scope.names.lookup x=some .local:=by first|exact .inl rfl|exact .inr rfl|assumption):wpAny M A (storeName X.env x u) Q E s:=by
 obtain⟨m,hn,hl⟩:=id I.loc
 have hcls:(X.env.scope.kind== .class||(X.env.scope.kind== .module&&X.env.locals != X.env.globals))=false:=by rw[I.ok.kind];rfl
 have hiσ:i<σ.length:=by rw[I.len];exact(yA hi).1
 have cne:=I.cne
 have tracked:∀{a:Addr} {h':Heap},(∃o,s.heap.get? a=some o/\H a=none)->Heap.SameBut a s.heap h'->HOk X.prog X.w H h':=fun {a h'} ha hs b ob e=>by
  obtain⟨_,_,hfree⟩:=ha
  refine(I.hok b ob e).stay (fun c w' hc q=>(hs.2 c ?_).trans q) (fun _ q=>q) fun _ _ q=>q
  rintro rfl
  rcases hc with rfl|hc
  ·rw [hfree] at e;cases e
  ·rw [hfree] at hc;cases hc
 rcases hx with hk|hk
 ·refine wpAny_storeName_local hk hn (fun h' hn' hs=>?_) hcls
  obtain⟨oL,_,_,hoL,_⟩:=id hn
  refine h _ ⟨I.ok,I.os,I.bare,⟨fun b o e n hb hx=>?_,fun b o e n hb hx=>?_,I.base.free,fun b o e hx=>?_,I.base.tups,I.base.frzs,I.base.tbls⟩,⟨_,hn',fun j y v' e1 e2 e3=>?_⟩,fun y c e=>?_,I.free,I.freeC,fun p hp=>?_,tracked ⟨oL,hoL,I.free⟩ hs,by simpa using I.len⟩ ⟨_,hs,.inl rfl⟩
  ·exact (hs.2 b (Nat.ne_of_lt (Nat.lt_of_lt_of_le (Heap.lt_size e) I.ok.above))).trans (I.base.keep b o e n hb hx)
  ·obtain ⟨sl,e1⟩:=I.base.slot b o e n hb hx
   exact⟨sl,(hs.2 b (Nat.ne_of_lt (Nat.lt_of_lt_of_le (Heap.lt_size e) I.ok.above))).trans e1⟩
  ·obtain ⟨o',e1⟩:=I.base.there b o e hx
   exact⟨o',(hs.2 b (Nat.ne_of_lt (Nat.lt_of_lt_of_le (Heap.lt_size e) I.ok.above))).trans e1⟩
  ·by_cases hj:j=i
   ·subst hj
    rw[hi] at e1;cases e1
    rw[List.getElem?_set_self hiσ] at e2
    cases e2
    exact⟨u,r,.inl ⟨hk,by simp⟩⟩
   ·rw [List.getElem?_set_ne (Ne.symm hj)] at e2
    obtain⟨u',r',q⟩:=hl j y v' e1 e2 e3
    refine⟨u',r',?_⟩
    rcases q with⟨k,e⟩|⟨k,c,e,z⟩
    ·refine .inl ⟨k,?_⟩
     have:y≠x:=fun e=>hj (q4l hN e1 (e▸hi))
     simp[this,e]
    ·exact .inr ⟨k,c,e,z.sameBut hs (cne y c e)⟩
  ·obtain ⟨w',z⟩:=I.cell y c e
   exact⟨w',z.sameBut hs (cne y c e)⟩
  ·obtain ⟨e,n,ne,nf,d⟩:=I.pin p hp
   exact⟨(hs.2 p.1 ne).trans e,n,ne,nf,d⟩
 ·have hfn:X.fn x=true:=by
   rcases hf with z|z
   ·exact z
   ·rw [z] at hk;cases hk
  obtain⟨c,hc⟩:=I.ok.has x (.inl hk)
  obtain⟨w',z⟩:=I.cell x c hc
  refine wpAny_storeName_cell I.ok.kind hk hc z (fun h' hc' hs=>?_)
  obtain⟨oc,hoc,hocd⟩:=id z
  refine h {s with heap:=h'} ⟨I.ok,I.os,I.bare,⟨fun b o e n hb hx=>?_,fun b o e n hb hx=>?_,I.base.free,fun b o e hx=>?_,I.base.tups,I.base.frzs,I.base.tbls⟩,⟨m,hn.sameBut hs (Ne.symm (cne x c hc)),fun j y v' e1 e2 e3=>?_⟩,fun y c' e=>?_,I.free,I.freeC,fun p hp=>?_,tracked ⟨oc,hoc,I.freeC x c hc⟩ hs,by simpa using I.len⟩ ⟨c,hs,.inr hc⟩
  ·exact (hs.2 b (Nat.ne_of_lt (Nat.lt_of_lt_of_le (Heap.lt_size e) (I.ok.cab x c hfn hc)))).trans (I.base.keep b o e n hb hx)
  ·obtain ⟨sl,e1⟩:=I.base.slot b o e n hb hx
   exact⟨sl,(hs.2 b (Nat.ne_of_lt (Nat.lt_of_lt_of_le (Heap.lt_size e) (I.ok.cab x c hfn hc)))).trans e1⟩
  ·obtain ⟨o',e1⟩:=I.base.there b o e hx
   exact⟨o',(hs.2 b (Nat.ne_of_lt (Nat.lt_of_lt_of_le (Heap.lt_size e) (I.ok.cab x c hfn hc)))).trans e1⟩
  ·by_cases hj:j=i
   ·subst hj
    rw[hi] at e1;cases e1
    rw[List.getElem?_set_self hiσ] at e2
    cases e2
    exact⟨u,r,.inr ⟨.inl hk,c,hc,hc'⟩⟩
   ·rw [List.getElem?_set_ne (Ne.symm hj)] at e2
    obtain⟨u',r',q⟩:=hl j y v' e1 e2 e3
    refine⟨u',r',?_⟩
    rcases q with q|⟨k,c',e,z'⟩
    ·exact .inl q
    ·refine .inr ⟨k,c',e,z'.sameBut hs ?_⟩
     rintro rfl
     exact hj (q4l hN e1 (I.ok.inj _ _ _ e hc▸hi))
  ·by_cases hcc:c'=c
   ·subst hcc;exact⟨_,hc'⟩
   ·obtain ⟨w2,z2⟩:=I.cell y c' e
    exact⟨w2,z2.sameBut hs hcc⟩
  ·obtain ⟨e,n,ne,nf,d⟩:=I.pin p hp
   refine⟨(hs.2 p.1 ?_).trans e,n,ne,nf,d⟩
   intro q
   rw[q,hoc] at e
   have q':oc=p.2:=Option.some.inj e
   exact d w' (by rw[<-q'];exact hocd)
theorem q38 {M:Model}{A:Around}{E:Value->Shared->Prop}{i:Nat}{x:Str}{v:V}{u:Value}{Q:Unit->Shared->Prop}(I:Inv X pins σ H s)(hN:X.N.Nodup)(hi:X.N[i]? =some x)(hx:Loc X.env.scope x)(r:RelV v u)
  (h:∀s',Inv X pins (σ.set i (some v)) H s'->Q () s')(hf:X.fn x=true\/X.env.scope.names.lookup x=some .local:=by first|exact .inl rfl|exact .inr rfl|assumption):wpAny M A (storeName X.env x u) Q E s:=
 q4R I hN hi hx r (fun s' I' _=>h s' I') hf
theorem Inv.call' {s':Shared}{ch:List Addr}(I:Inv X pins σ H s)(ho:s'.os=s.os)(u:Un (frs X.stack) ch H H' s.heap s'.heap)(hok:HOk X.prog X.w H' s'.heap)(hg:AllBare s'.gens)
  (hch:∀b∈ch,(b∈X.ex\/X.s₀.heap.objs.size<=b)/\b≠X.env.locals/\(∀x c,X.env.cells.lookup x=some c->c≠b)/\∀p∈X.pn++pins,p.1≠b):Inv X pins σ H' s':=by
 obtain⟨h',g',d',t',o'⟩:=s'
 have e:o'=s.os:=ho
 subst e
 exact I.call (g':=g') (t':=t') (d':=d') u hok hg hch
end
abbrev XK:=Value->Option Addr->Hp->Prop
abbrev St:=List (Option V)
abbrev VK:=V->Hp->Prop
abbrev TE:=St->Hp->VK->Prop
abbrev TT:=St->Hp->(Bool->Hp->Prop)->Prop
abbrev TA:=St->Hp->(List V->Hp->Prop)->Prop
structure Ends where
 nx:St->Hp->Prop
 rt:VK
 bk:St->Hp->Prop:=fun _ _=>False
 ct:St->Hp->Prop:=fun _ _=>False
abbrev TS:=Ends->St->Hp->Prop
def EP (X:Cx)(pins:List (Addr×Obj))(σ:St)(Q:VK)(u:Value)(s':Shared):Prop:=∃v H',Inv X pins σ H' s'/\RelV v u/\Q v H'
def TP (X:Cx)(pins:List (Addr×Obj))(σ:St)(Q:Bool->Hp->Prop)(b:Bool)(s':Shared):Prop:=∃H',Inv X pins σ H' s'/\Q b H'
def AP (X:Cx)(pins:List (Addr×Obj))(σ:St)(Q:List V->Hp->Prop)(us:List Value)(s':Shared):Prop:=∃vs H',Inv X pins σ H' s'/\Vals vs us/\Q vs H'
def SP (X:Cx)(pins:List (Addr×Obj))(D:Ends)(f:Flow)(s':Shared):Prop:=
 match f with
 | .next=>∃σ' H',Inv X pins σ' H' s'/\D.nx σ' H'
 | .brk=>∃σ' H',Inv X pins σ' H' s'/\D.bk σ' H'
 | .cont=>∃σ' H',Inv X pins σ' H' s'/\D.ct σ' H'
 | .ret u=>∃v σ' H',Inv X pins σ' H' s'/\RelV v u/\D.rt v H'
def PE (X:Cx)(e:Expr)(t:TE):Prop:=
 ∀(pins:List (Addr×Obj)) (s:Shared) (σ:St) (H:Hp) (Q:VK),Inv X pins σ H s->t σ H Q->wpAny (model X.prog X.w) X.A (eval e X.env) (EP X pins σ Q) X.xe s
def PT (X:Cx)(e:Expr)(t:TT):Prop:=
 ∀(pins:List (Addr×Obj)) (s:Shared) (σ:St) (H:Hp) (Q:Bool->Hp->Prop),Inv X pins σ H s->t σ H Q->wpAny (model X.prog X.w) X.A (isTrue e X.env (eval e X.env)) (TP X pins σ Q) X.xe s
def PW (X:Cx)(e:Expr)(t:TT):Prop:=
 ∀(whole:Sem Value) (pins:List (Addr×Obj)) (s:Shared) (σ:St) (H:Hp) (Q:Bool->Hp->Prop),Inv X pins σ H s->t σ H Q->wpAny (model X.prog X.w) X.A (isTrue e X.env whole) (TP X pins σ Q) X.xe s
theorem PW.pt {X:Cx}{e:Expr}{t:TT}(h:PW X e t):PT X e t:=h _
def PA (X:Cx)(es:List Expr)(t:TA):Prop:=
 ∀(pos:Pos) (pins:List (Addr×Obj)) (s:Shared) (σ:St) (H:Hp) (Q:List V->Hp->Prop),Inv X pins σ H s->t σ H Q->wpAny (model X.prog X.w) X.A (spliced (backTo pos (starEach es X.env))) (AP X pins σ Q) X.xe s
def PS (X:Cx)(st:Stmt)(t:TS):Prop:=
 ∀(pins:List (Addr×Obj)) (s:Shared) (σ:St) (H:Hp) (D:Ends),Inv X pins σ H s->t D σ H->wpAny (model X.prog X.w) X.A (exec st X.env) (SP X pins D) X.xe s
def PSs (X:Cx)(st:List Stmt)(t:TS):Prop:=
 ∀(pins:List (Addr×Obj)) (s:Shared) (σ:St) (H:Hp) (D:Ends),Inv X pins σ H s->t D σ H->wpAny (model X.prog X.w) X.A (execs st X.env) (SP X pins D) X.xe s
theorem thn {α:Type}{t:Sem α}{Q Q':α->Shared->Prop}{M:Model}{A:Around}{E:Value->Shared->Prop}{s:Shared}(h:wpAny M A t Q E s)(hQ:∀a s,Q a s->Q' a s):wpAny M A t Q' E s:=wpAny_mono h hQ fun _ _ x=>x
section
variable {X:Cx}
def tVar (i:Nat):TE:=fun σ H Q=>∃v,σ[i]? =some (some v)/\Q v H
def tC (v:V):TE:=fun _ H Q=>Q v H
theorem pe_var {i:Nat}{x:Str}{pos:Pos}(hN:X.N[i]? =some x)(hv:Vis X.env.scope x)(hd:(x==("__debug__":Str))=false:=by decide)(hcd:(x==("__classdict__":Str))=false:=by decide):PE X (.Name x pos) (tVar i):=by
 intro pins s σ H Q I h
 obtain⟨v,e,h⟩:=h
 obtain⟨m,hn,hl⟩:=I.loc
 obtain⟨u,r,l⟩:=hl i x v hN e hv
 have fin:EP X pins σ Q u s:=⟨v,H,I,r,h⟩
 rcases l with⟨hk,hm⟩|⟨hk,c,hc,hcell⟩
 ·exact wpAny_Name (wpAny_loadName_local I.ok.kind hk hn hm fin) hd
 ·rcases hk with hk|hk
  ·exact wpAny_Name (wpAny_loadName_cell I.ok.kind hk hc hcell fin) hd
  ·exact wpAny_Name (wpAny_loadName_free I.ok.kind hk hc hcell fin hcd) hd
theorem qc {i j pos}:PE X (.Constant (.int i) j pos) (tC (.int i)):=fun _ _ _ H _ I h=>wpAny_Constant_int ⟨.int i,H,I.tok _,⟨_,rfl⟩,h⟩
theorem q2B {b j pos}:PE X (.Constant (.bool b) j pos) (tC (.bl b)):=fun _ _ _ H _ I h=>Constant_bool ⟨.bl b,H,I,rfl,h⟩
theorem q6w {j pos}:PE X (.Constant .none j pos) (tC .non):=fun _ _ _ H _ I h=>Constant_none ⟨.non,H,I,rfl,h⟩
theorem qK {x j pos}:PE X (.Constant (.str x) j pos) (tC (.str x)):=fun _ _ _ H _ I h=>Calls.Constant_str ⟨.str x,H,I.tok _,⟨_,rfl⟩,h⟩
def Gl (X:Cx)(x:Str):Prop:=X.env.kindOf x=some .globalImplicit
theorem q1J {E:Value->Shared->Prop}{pins:List (Addr×Obj)}{s:Shared}{σ:St}{H:Hp}{x:Str}{u:Value}{pos:Pos}{Q:Value->Shared->Prop}(I:Inv X pins σ H s)(hg:Gl X x)(hm:X.mg x=some u)(h:Q u s)
  (hd:(x==("__debug__":Str))=false:=by decide):wpAny (model X.prog X.w) X.A (eval (.Name x pos) X.env) Q E s:=
 Calls.Name_function_global I.ok.kind hg (Calls.loadGlobal_global (by rw[I.ok.glob];exact I.mod.glob.keeps I.bk) hm h) hd
theorem q3Y {E:Value->Shared->Prop}{pins:List (Addr×Obj)}{s:Shared}{σ:St}{H:Hp}{x:Str}{u:Value}{pos:Pos}{Q:Value->Shared->Prop}(I:Inv X pins σ H s)(hg:Gl X x)(hm:X.mg x=none)(hv:bootBuiltins x=some u)(h:Q u s)
  (hn:x≠"__name__":=by decide)(hd:(x==("__debug__":Str))=false:=by decide):wpAny (model X.prog X.w) X.A (eval (.Name x pos) X.env) Q E s:=by
 obtain⟨mb,h1,h2⟩:=I.mod.blt
 exact Calls.Name_function_global I.ok.kind hg (Calls.loadGlobal_builtin (by rw[I.ok.glob];exact I.mod.glob.keeps I.bk) hm (by rw[I.ok.blt];exact h1.keeps I.bk) ((h2 x hn).trans hv) h) hd
theorem qv {x:Str}{v:V}{u:Value}{pos:Pos}(hg:Gl X x)(hm:X.mg x=some u)(r:RelV v u)(hd:(x==("__debug__":Str))=false:=by decide):PE X (.Name x pos) (tC v):=
 fun _ _ _ H _ I h=>q1J I hg hm ⟨v,H,I,r,h⟩ hd
theorem q4k {x:Str}{v:V}{u:Value}{pos:Pos}(hg:Gl X x)(hm:X.mg x=none)(hv:bootBuiltins x=some u)(r:RelV v u)(hn:x≠"__name__":=by decide)(hd:(x==("__debug__":Str))=false:=by decide):PE X (.Name x pos) (tC v):=
 fun _ _ _ H _ I h=>q3Y I hg hm hv ⟨v,H,I,r,h⟩ hn hd
variable {a b:Expr}{ta tb:TE}{pos:Pos}
def PC (X:Cx)(op:CmpOp)(a b:Expr)(t:TE):Prop:=
 ∀(pins:List (Addr×Obj)) (s:Shared) (σ:St) (H:Hp) (Q:VK),Inv X pins σ H s->t σ H Q->
  wpAny (model X.prog X.w) X.A (eval a X.env) (fun v s₁=>wpAny (model X.prog X.w) X.A (eval b X.env) (fun u s₂=>wpAny (model X.prog X.w) X.A (compareOp op v u) (EP X pins σ Q) X.xe s₂) X.xe s₁) X.xe s
theorem qa1 (b:Expr){op:CmpOp}(h:op≠ .In)(h2:op≠ .NotIn):behindInMarks op b=false:=by
 have e1:(op==CmpOp.In)=false:=by cases op<;>first|rfl|exact absurd rfl h
 have e2:(op==CmpOp.NotIn)=false:=by cases op<;>first|rfl|exact absurd rfl h2
 cases b<;>simp[behindInMarks,e1,e2]
def tIsN (ta:TE):TE:=fun σ H Q=>ta σ H fun x H1=>Q (.bl (decide (x= .non))) H1
theorem RelV.none_iff {x:V}{v:Value}(r:RelV x v):(v==Value.none)=decide (x= .non):=by
 cases x with
 |non=>cases r;rfl
 |bl _=>cases r;rfl
 |int _=>obtain⟨t,rfl⟩:=r;rfl
 |str _=>obtain⟨t,rfl⟩:=r;rfl
 |byt _=>obtain⟨t,rfl⟩:=r;rfl
 |flt _=>obtain⟨t,rfl⟩:=r;rfl
 |ref _=>cases r;rfl
 |ty _=>cases r;rfl
theorem q88 {j pos'}(ha:PE X a ta):PC X .Is a (.Constant .none j pos') (tIsN ta):=by
 intro pins s σ H Q I h
 refine thn (ha pins s σ H _ I h) fun v s1 ⟨x,H1,I1,r1,q1⟩=>?_
 exact Constant_none (is_none_gen ⟨.bl _,H1,I1,by rw[r1.none_iff];rfl,q1⟩)
def tB (t:TE):TT:=fun σ H Q=>t σ H fun x H1=>∃c,x= .bl c/\Q c H1
theorem q3o {op:CmpOp}{t:TE}(h:PC X op a b t)(h1:behindInMarks op b=false:=by first|exact qa1 _ (by decide) (by decide)|rfl):PT X (.Compare a [op] [b] pos) (tB t):=by
 intro pins s σ H Q I hw
 refine wpAny_isTrue_Compare1 (thn (h pins s σ H _ I hw) fun v s1 h1=>thn h1 fun u s2 h2=>thn h2 fun c s3 ⟨x,H1,I1,r1,q1⟩=>?_) h1
 obtain⟨d,rfl,q⟩:=q1
 cases r1
 exact wpAny_truthy_bool ⟨H1,I1,q⟩
theorem q0J {e:Expr}{t:TE}(h:PE X e t)(he:∀whole,isTrue e X.env whole=(do let v<-whole;standAt e.pos;holding [v] (truthy v)):=by intro _;rfl):PT X e (tB t):=by
 intro pins s σ H Q I hw
 refine isTrue_plain (thn (h pins s σ H _ I hw) fun v s1 ⟨x,H1,I1,r1,q1⟩=>?_) (he _)
 obtain⟨d,rfl,q⟩:=q1
 cases r1
 exact wpAny_truthy_bool ⟨H1,I1,q⟩
variable {tA tB':TT}{rest:List Expr}
def tAnd (t u:TT):TT:=fun σ H Q=>t σ H fun c H1=>if c=true then u σ H1 Q else Q false H1
def tOr (t u:TT):TT:=fun σ H Q=>t σ H fun c H1=>if c=true then Q true H1 else u σ H1 Q
def tNot (t:TT):TT:=fun σ H Q=>t σ H fun c H1=>Q (!c) H1
theorem q1X (ha:PT X a tA):PW X (.BoolOp .And [a] pos) tA:=by
 intro wh pins s σ H Q I h
 refine isTrue_and (thn (ha pins s σ H Q I h) fun c s1 e=>?_)
 cases c with
 |true=>exact isTrue_and_nil e
 |false=>exact e
theorem q3T (ha:PT X a tA):PW X (.BoolOp .Or [a] pos) tA:=by
 intro wh pins s σ H Q I h
 refine isTrue_or (thn (ha pins s σ H Q I h) fun c s1 e=>?_)
 cases c with
 |false=>exact isTrue_or_nil e
 |true=>exact e
theorem q2A (ha:PT X a tA)(hb:PW X (.BoolOp .And (b::rest) pos) tB'):PW X (.BoolOp .And (a::b::rest) pos) (tAnd tA tB'):=by
 intro wh pins s σ H Q I h
 refine isTrue_and (thn (ha pins s σ H _ I h) fun c s1 ⟨H1,I1,q1⟩=>?_)
 cases c with
 |true=>exact hb wh pins s1 σ H1 Q I1 q1
 |false=>exact⟨H1,I1,q1⟩
theorem q5f (ha:PT X a tA)(hb:PW X (.BoolOp .Or (b::rest) pos) tB'):PW X (.BoolOp .Or (a::b::rest) pos) (tOr tA tB'):=by
 intro wh pins s σ H Q I h
 refine isTrue_or (thn (ha pins s σ H _ I h) fun c s1 ⟨H1,I1,q1⟩=>?_)
 cases c with
 |true=>exact⟨H1,I1,q1⟩
 |false=>exact hb wh pins s1 σ H1 Q I1 q1
theorem q2W (ha:PT X a tA):PT X (.UnaryOp .Not a pos) (tNot tA):=by
 intro pins s σ H Q I h
 exact isTrue_not (ha pins s σ H (fun c H1=>Q (!c) H1) I h)
def tAndV (ta tb:TE):TE:=fun σ H Q=>ta σ H fun x H1=>∃c,x= .bl c/\if c=true then tb σ H1 Q else Q (.bl false) H1
def tOrV (ta tb:TE):TE:=fun σ H Q=>ta σ H fun x H1=>∃c,x= .bl c/\if c=true then Q (.bl true) H1 else tb σ H1 Q
def tNotV (ta:TE):TE:=fun σ H Q=>ta σ H fun x H1=>∃c,x= .bl c/\Q (.bl (!c)) H1
theorem q2X {op}{t:TE}(h:PE X a t):PE X (.BoolOp op [a] pos) t:=fun pins s σ H Q I hw=>BoolOp_one (h pins s σ H Q I hw)
theorem q6y (ha:PE X a ta)(hb:PE X (.BoolOp .And (b::rest) pos) tb):PE X (.BoolOp .And (a::b::rest) pos) (tAndV ta tb):=by
 intro pins s σ H Q I h
 refine BoolOp_and (thn (ha pins s σ H _ I h) fun v s1 ⟨x,H1,I1,r1,q1⟩=>?_)
 obtain⟨c,rfl,q1⟩:=q1
 cases r1
 refine wpAny_truthy_bool ?_
 cases c with
 |true=>exact hb pins s1 σ H1 Q I1 q1
 |false=>exact⟨.bl false,H1,I1,rfl,q1⟩
theorem q9E (ha:PE X a ta)(hb:PE X (.BoolOp .Or (b::rest) pos) tb):PE X (.BoolOp .Or (a::b::rest) pos) (tOrV ta tb):=by
 intro pins s σ H Q I h
 refine BoolOp_or (thn (ha pins s σ H _ I h) fun v s1 ⟨x,H1,I1,r1,q1⟩=>?_)
 obtain⟨c,rfl,q1⟩:=q1
 cases r1
 refine wpAny_truthy_bool ?_
 cases c with
 |false=>exact hb pins s1 σ H1 Q I1 q1
 |true=>exact⟨.bl true,H1,I1,rfl,q1⟩
theorem pe_not (ha:PE X a ta):PE X (.UnaryOp .Not a pos) (tNotV ta):=by
 intro pins s σ H Q I h
 refine UnaryOp_ (thn (ha pins s σ H _ I h) fun v s1 ⟨x,H1,I1,r1,q1⟩=>?_)
 obtain⟨c,rfl,q1⟩:=q1
 cases r1
 exact not_of (wpAny_truthy_bool ⟨.bl (!c),H1,I1,rfl,q1⟩)
def tIf (t:TT)(ta tb:TE):TE:=fun σ H Q=>t σ H fun c H1=>if c=true then ta σ H1 Q else tb σ H1 Q
theorem q4i {c:Expr}(hc:PT X c tA)(ha:PE X a ta)(hb:PE X b tb):PE X (.IfExp c a b pos) (tIf tA ta tb):=by
 intro pins s σ H Q I h
 refine wpAny_IfExp (thn (hc pins s σ H _ I h) fun d s1 ⟨H1,I1,q1⟩=>?_)
 cases d with
 |true=>exact ha pins s1 σ H1 Q I1 q1
 |false=>exact hb pins s1 σ H1 Q I1 q1
end
def SqL (K:W.Frag)(H:Hp)(a:Addr)(xs:List V):Prop:=
 Rd H a (.lst xs)\/
  ∃(o:Obj) (its:Array Value) (n:Nat),K.lookup a=some o/\o.cls= .type "list"/\o.dict=none/\o.data= .seq its n/\its.size<=sizeLine/\Vals xs its.toList
def SqT (K:W.Frag)(H:Hp)(a:Addr)(xs:List V):Prop:=
 Rd H a (.tup xs)\/
  ∃(o:Obj) (its:Array Value) (n:Nat),K.lookup a=some o/\o.cls= .type "tuple"/\o.data= .seq its n/\its.size<=sizeLine/\Vals xs its.toList
def absV:Value->Option V
 | .none=>some .non
 | .bool b=>some (.bl b)
 | .int i _=>some (.int i)
 | .str x _=>some (.str x)
 | .bytes b _=>some (.byt b)
 | .float b _=>some (.flt b)
 | .ref a=>some (.ref a)
 | .type n=>some (.ty n)
 |_=>none
theorem RelV.abs {x:V}{u:Value}(r:RelV x u):absV u=some x:=by
 cases x with
 |non=>cases r;rfl
 |bl _=>cases r;rfl
 |int _=>obtain⟨t,rfl⟩:=r;rfl
 |str _=>obtain⟨t,rfl⟩:=r;rfl
 |byt _=>obtain⟨t,rfl⟩:=r;rfl
 |flt _=>obtain⟨t,rfl⟩:=r;rfl
 |ref _=>cases r;rfl
 |ty _=>cases r;rfl
theorem RelV.inj {x y:V}{u:Value}(r:RelV x u)(q:RelV y u):x=y:=Option.some.inj (r.abs.symm.trans q.abs)
theorem Vals.inj:∀{xs ys:List V} {us:List Value},Vals xs us->Vals ys us->xs=ys
 |_,_,_,.nil,.nil=>rfl
 |_,_,_,.cons r t,.cons r' t'=>by rw[r.inj r',Vals.inj t t']
section
variable {X:Cx}{pins:List (Addr×Obj)}{σ:St}{H:Hp}{s:Shared}{a:Addr}{xs ys:List V}
theorem SqL.of {K:W.Frag}(h:H a=some (.lst xs)):SqL K H a xs:= .inl (.inl h)
theorem SqT.of {K:W.Frag}(h:H a=some (.tup xs)):SqT K H a xs:= .inl (.inl h)
theorem Inv.list (I:Inv X pins σ H s)(h:SqL X.K H a xs):∃its:List Value,Vals xs its/\PlainL s.heap a its.toArray/\xs.length<=sizeLine:=by
 rcases h with h|⟨o,its,n,hk,hc,hd,hs,hz,r⟩
 ·obtain ⟨z,its,n,r,e⟩:=h.ok I.hok
  exact⟨its,r,⟨_,n,e,rfl,rfl,rfl⟩,z⟩
 ·refine ⟨its.toList,r,⟨o,n,I.kIn a o hk,hc,hd,by simpa using hs⟩,?_⟩
  have e:=r.length
  simp only[Array.length_toList] at e
  omega
theorem Inv.tuple (I:Inv X pins σ H s)(h:SqT X.K H a xs):∃its:List Value,Vals xs its/\IsTup s.heap a its.toArray/\xs.length<=sizeLine:=by
 rcases h with h|⟨o,its,n,hk,hc,hs,hz,r⟩
 ·obtain ⟨z,its,r,p⟩:=h.ok I.hok
  exact⟨its,r,p,z⟩
 ·refine ⟨its.toList,r,⟨o,I.kIn a o hk,hc,n,by simpa using hs⟩,?_⟩
  have e:=r.length
  simp only[Array.length_toList] at e
  omega
theorem Inv.list_inj (I:Inv X pins σ H s)(h:SqL X.K H a xs)(h':SqL X.K H a ys):xs=ys:=by
 obtain⟨its,r,⟨o,n,e,_,_,d⟩,_⟩:=I.list h
 obtain⟨its',r',⟨o',n',e',_,_,d'⟩,_⟩:=I.list h'
 rw[e] at e';cases e'
 rw[d] at d'
 injection d' with d1 _
 have:its=its':=by simpa using congrArg Array.toList d1
 subst this
 exact r.inj r'
theorem Inv.tuple_inj (I:Inv X pins σ H s)(h:SqT X.K H a xs)(h':SqT X.K H a ys):xs=ys:=by
 obtain⟨its,r,⟨o,e,_,n,d⟩,_⟩:=I.tuple h
 obtain⟨its',r',⟨o',e',_,n',d'⟩,_⟩:=I.tuple h'
 rw[e] at e';cases e'
 rw[d] at d'
 injection d' with d1 _
 have:its=its':=by simpa using congrArg Array.toList d1
 subst this
 exact r.inj r'
end
abbrev Cx.wish (X:Cx)(E:Value->Shared->Prop):Cx:={X with xe:=E}
abbrev Cx.nox (X:Cx):Cx:=X.wish fun _ _=>False
theorem Cx.Ok.wish {X:Cx}(ok:X.Ok)(E:Value->Shared->Prop):(X.wish E).Ok:=
 ⟨ok.mod,ok.kind,ok.glob,ok.blt,ok.above,ok.inj,ok.has,ok.cab,ok.hd,ok.frames,ok.stk,ok.exf,ok.bs,ok.bsz,ok.noex,ok.exfs,ok.funs,ok.frf⟩
theorem Cx.Ok.unwish {X:Cx}{E:Value->Shared->Prop}(ok:(X.wish E).Ok):X.Ok:=
 ⟨ok.mod,ok.kind,ok.glob,ok.blt,ok.above,ok.inj,ok.has,ok.cab,ok.hd,ok.frames,ok.stk,ok.exf,ok.bs,ok.bsz,ok.noex,ok.exfs,ok.funs,ok.frf⟩
section
variable {X:Cx}{pins:List (Addr×Obj)}{σ:St}{H:Hp}{s:Shared}{E:Value->Shared->Prop}
theorem Inv.wish (I:Inv X pins σ H s)(E:Value->Shared->Prop):Inv (X.wish E) pins σ H s:=⟨I.ok.wish E,I.os,I.bare,I.base,I.loc,I.cell,I.free,I.freeC,I.pin,I.hok,I.len⟩
theorem Inv.unwish (I:Inv (X.wish E) pins σ H s):Inv X pins σ H s:=⟨I.ok.unwish,I.os,I.bare,I.base,I.loc,I.cell,I.free,I.freeC,I.pin,I.hok,I.len⟩
theorem SP.unwish {D:Ends}{f:Flow}{s':Shared}(h:SP (X.wish E) pins D f s'):SP X pins D f s':=by
 cases f with
 |next=>obtain⟨σ',H',I,q⟩:=h;exact⟨σ',H',I.unwish,q⟩
 |brk=>obtain⟨σ',H',I,q⟩:=h;exact⟨σ',H',I.unwish,q⟩
 |cont=>obtain⟨σ',H',I,q⟩:=h;exact⟨σ',H',I.unwish,q⟩
 |ret u=>obtain⟨v,σ',H',I,r,q⟩:=h;exact⟨v,σ',H',I.unwish,r,q⟩
theorem PSs.nox {st:List Stmt}{t:TS}(h:PSs X.nox st t):PSs X st t:=fun pins s σ H D I hw=>
 wpAny_mono (h pins s σ H D (I.wish _) hw) (fun _ _ q=>q.unwish) fun _ _ z=>False.elim z
end
section
variable {X:Cx}{st:Stmt}{rest:List Stmt}{t u:TS}{e:Expr}{te:TE}{pos:Pos}
def tNext:TS:=fun D σ H=>D.nx σ H
def tSeq (t u:TS):TS:=fun D σ H=>t {D with nx:=u D} σ H
theorem qD:PSs X [] tNext:=fun _ _ σ H _ I h=>wpAny_execs_nil ⟨σ,H,I,h⟩
theorem qd (h1:PS X st t)(h2:PSs X rest u):PSs X (st::rest) (tSeq t u):=by
 intro pins s σ H D I h
 refine wpAny_execs_cons (thn (h1 pins s σ H {D with nx:=u D} I h) fun f s1 q=>?_)
 cases f with
 |next=>
  obtain⟨σ',H',I',q⟩:=q
  exact h2 pins s1 σ' H' D I' q
 |ret v=>exact q
 |brk=>exact q
 |cont=>exact q
theorem qj (h1:PS X st t):PSs X [st] t:=by
 intro pins s σ H D I h
 refine wpAny_execs_cons (thn (h1 pins s σ H D I h) fun f s1 q=>?_)
 cases f with
 |next=>exact wpAny_execs_nil q
 |ret v=>exact q
 |brk=>exact q
 |cont=>exact q
theorem Inv.quiet {pins:List (Addr×Obj)}{σ:St}{H:Hp}{s:Shared}(I:Inv X pins σ H s):interactive X.env=false:=by simp[interactive,I.ok.kind]
def tDrop (te:TE):TS:=fun D σ H=>te σ H fun _ H1=>D.nx σ H1
theorem qZ (he:PE X e te)(hs:swapsWith e none pos.line X.env=pure false:=by rfl):PS X (.Expr e pos) (tDrop te):=by
 intro pins s σ H D I h
 exact wpAny_Expr_any (thn (he pins s σ H _ I h) fun v s1 ⟨x,H1,I1,r1,q1⟩=>⟨σ,H1,I1,q1⟩) I.quiet hs
def tRet (te:TE):TS:=fun D σ H=>te σ H D.rt
theorem qu (he:PE X e te):PS X (.Return (some e) pos) (tRet te):=by
 intro pins s σ H D I h
 exact wpAny_Return_some (thn (he pins s σ H _ I h) fun v s1 ⟨x,H1,I1,r1,q1⟩=>⟨x,σ,H1,I1,r1,q1⟩)
def tIfS (c:TT)(t u:TS):TS:=fun D σ H=>c σ H fun b H1=>if b=true then t D σ H1 else u D σ H1
theorem q03 {c:Expr}{a b:List Stmt}{tc:TT}(hc:PT X c tc)(ha:PSs X a t)(hb:PSs X b u):PS X (.If c a b pos) (tIfS tc t u):=by
 intro pins s σ H D I h
 refine wpAny_If (thn (hc pins s σ H _ I h) fun d s1 ⟨H1,I1,q1⟩=>?_)
 cases d with
 |true=>exact ha pins s1 σ H1 D I1 q1
 |false=>exact hb pins s1 σ H1 D I1 q1
def tNever:TS:=fun _ _ _=>False
theorem q6t:PS X st tNever:=fun _ _ _ _ _ _ h=>h.elim
end
abbrev TG:=V->St->Hp->(St->Hp->Prop)->Prop
abbrev TGs:=List V->St->Hp->(St->Hp->Prop)->Prop
def PG (X:Cx)(target:Expr)(t:TG):Prop:=
 ∀(pins:List (Addr×Obj)) (s:Shared) (σ:St) (H:Hp) (v:V) (u:Value) (Q:St->Hp->Prop),Inv X pins σ H s->RelV v u->t v σ H Q->
  wpAny (model X.prog X.w) X.A (assign target X.env u) (fun _ s'=>∃σ' H',Inv X pins σ' H' s'/\Q σ' H') X.xe s
def PGs (X:Cx)(ts:List Expr)(t:TGs):Prop:=
 ∀(pins:List (Addr×Obj)) (s:Shared) (σ:St) (H:Hp) (vs:List V) (us:List Value) (Q:St->Hp->Prop),Inv X pins σ H s->Vals vs us->t vs σ H Q->
  wpAny (model X.prog X.w) X.A (assignInOrder ((assignEach ts X.env).map (·.2)) us) (fun _ s'=>∃σ' H',Inv X pins σ' H' s'/\Q σ' H') X.xe s
abbrev TSet:=V->V->V->Hp->(Hp->Prop)->Prop
def PSet (X:Cx)(t:TSet):Prop:=
 ∀(pins:List (Addr×Obj)) (s:Shared) (σ:St) (H:Hp) (o i v:V) (ov iv u:Value) (Q:Hp->Prop),Inv X pins σ H s->RelV o ov->RelV i iv->RelV v u->t o i v H Q->
  wpAny (model X.prog X.w) X.A (setItem ov iv u) (fun _ s'=>∃H',Inv X pins σ H' s'/\Q H') X.xe s
abbrev TIp:=V->V->Hp->VK->Prop
def PIp (X:Cx)(op:Operator)(t:TIp):Prop:=
 ∀(pins:List (Addr×Obj)) (s:Shared) (σ:St) (H:Hp) (x y:V) (v u:Value) (Q:VK),Inv X pins σ H s->RelV x v->RelV y u->t x y H Q->
  wpAny (model X.prog X.w) X.A (inplaceOp op v u) (EP X pins σ Q) X.xe s
section
variable {X:Cx}{pos:Pos}
def qaf (i:Nat):TG:=fun v σ H Q=>Q (σ.set i (some v)) H
theorem qr {i:Nat}{x:Str}(hN:X.N.Nodup)(hi:X.N[i]? =some x)(hx:Loc X.env.scope x)(hf:X.fn x=true\/X.env.scope.names.lookup x=some .local:=by first|exact .inl rfl|exact .inr rfl|assumption):PG X (.Name x pos) (qaf i):=by
 intro pins s σ H v u Q I r h
 exact wpAny_assign_Name (q38 I hN hi hx r (fun s' I'=>⟨_,H,I',h⟩) hf)
def gNil:TGs:=fun vs σ H Q=>vs=[]/\Q σ H
def gCons (t:TG)(u:TGs):TGs:=fun vs σ H Q=>∃v r,vs=v::r/\t v σ H fun σ' H'=>u r σ' H' Q
theorem q0G:PGs X [] gNil:=by
 intro pins s σ H vs us Q I r h
 obtain⟨e,h⟩:=h
 subst e
 cases r
 exact assignInOrder_nil ⟨σ,H,I,h⟩
theorem qE {e:Expr}{es:List Expr}{t:TG}{u:TGs}(h1:PG X e t)(h2:PGs X es u)
  (hs:(assignEach (e::es) X.env).map (·.2)=assign e X.env::(assignEach es X.env).map (·.2):=by rfl):PGs X (e::es) (gCons t u):=by
 intro pins s σ H vs us Q I r h
 obtain⟨v,vr,e1,h⟩:=h
 subst e1
 cases r with
 |cons r rr=>
  rw[hs]
  refine assignInOrder_cons (thn (h1 pins s σ H _ _ _ I r h) fun _ s1 ⟨σ1,H1,I1,q1⟩=>?_)
  exact h2 pins s1 σ1 H1 _ _ Q I1 rr q1
def gTup (K:W.Frag)(n:Nat)(t:TGs):TG:=fun v σ H Q=>∃a xs,v= .ref a/\SqT K H a xs/\xs.length=n/\t xs σ H Q
theorem pg_tup {es:List Expr}{k:Nat}{t:TGs}{n:Nat}(hc:X.calm=true)(h:PGs X es t)
  (hn:(assignEach es X.env).length=n:=by rfl)(hst:(assignEach es X.env).findIdx? (·.1)=none:=by rfl):PG X (.Tuple es k pos) (gTup X.K n t):=by
 intro pins s σ H v u Q I r hw
 obtain⟨a,xs,e1,hq,hl,hw⟩:=hw
 subst e1
 cases r
 obtain⟨its,rv,ht,hz⟩:=I.tuple hq
 refine assign_Tuple_tuple (I.ok.hd hc) ht (by simp[hn,<-hl,rv.length]) hst fun h' hx=>?_
 have I1:Inv X pins σ H {s with heap:=h'}:=I.kept (t':=s.toks) fun b o e=>hx b o (Nat.ne_of_lt (Heap.lt_size e)) e
 exact h pins _ σ H xs _ Q I1 (by simpa using rv) hw
def tAsg (te:TE)(g:TG):TS:=fun D σ H=>te σ H fun x H1=>g x σ H1 D.nx
theorem q7Z {tg e:Expr}{te:TE}{g:TG}(he:PE X e te)(hg:PG X tg g)(hs:swapsWithSole [tg] e pos.line X.env=pure false:=by rfl)(hw:swappedStores [tg] e X.env=pure none:=by rfl)
  (h1:(assignEach [tg] X.env).map (·.2)=[assign tg X.env]:=by rfl):PS X (.Assign [tg] e pos) (tAsg te g):=by
 intro pins s σ H D I h
 refine wpAny_Assign_stores (thn (he pins s σ H _ I h) fun v s1 ⟨x,H1,I1,r1,q1⟩=>?_) hs hw
 rw[h1]
 exact thn (hg pins s1 σ H1 x v _ I1 r1 q1) fun _ s2 q=>q
theorem qy {i:Nat}{x:Str}{e:Expr}{te:TE}{pos':Pos}(hN:X.N.Nodup)(hi:X.N[i]? =some x)(hx:Loc X.env.scope x)(he:PE X e te)(hs:swapsWith e (some (.Name x pos')) pos.line X.env=pure false:=by rfl)(hf:X.fn x=true\/X.env.scope.names.lookup x=some .local:=by first|exact .inl rfl|exact .inr rfl|assumption):
  PS X (.Assign [.Name x pos'] e pos) (tAsg te (qaf i)):=by
 intro pins s σ H D I h
 refine wpAny_Assign_Name (thn (he pins s σ H _ I h) fun v s1 ⟨y,H1,I1,r1,q1⟩=>?_) hs
 exact q38 I1 hN hi hx r1 (fun s2 I2=>⟨_,H1,I2,q1⟩) hf
def tAug (i:Nat)(te:TE)(ti:TIp):TS:=fun D σ H=>∃x,σ[i]? =some (some x)/\te σ H fun y H1=>ti x y H1 fun z H2=>D.nx (σ.set i (some z)) H2
theorem qaC {i:Nat}{x:Str}{e:Expr}{te:TE}{op:Operator}{ti:TIp}{pos':Pos}(hN:X.N.Nodup)(hi:X.N[i]? =some x)(hx:Loc X.env.scope x)(he:PE X e te)(ho:PIp X op ti)(hf:X.fn x=true\/X.env.scope.names.lookup x=some .local:=by first|exact .inl rfl|exact .inr rfl|assumption):
  PS X (.AugAssign (.Name x pos') op e pos) (tAug i te ti):=by
 intro pins s σ H D I h
 obtain⟨v,e1,h⟩:=h
 obtain⟨m,hn,hl⟩:=I.loc
 have vis:Vis X.env.scope x:=by rcases hx with k|k;exact .inl k;exact .inr (.inl k)
 obtain⟨u,r,l⟩:=hl i x v hi e1 vis
 refine wpAny_AugAssign_Name ?_
 have go:wpAny (model X.prog X.w) X.A (eval e X.env) (fun w s₂=>wpAny (model X.prog X.w) X.A (inplaceOp op u w) (fun r s₃=>wpAny (model X.prog X.w) X.A (storeName X.env x r) (fun _=>SP X pins D .next) X.xe s₃) X.xe s₂) X.xe s:=by
  refine thn (he pins s σ H _ I h) fun w s1 ⟨y,H1,I1,r1,q1⟩=>?_
  refine thn (ho pins s1 σ H1 v y u w _ I1 r r1 q1) fun z s2 ⟨zv,H2,I2,r2,q2⟩=>?_
  exact q38 I2 hN hi hx r2 (fun s3 I3=>⟨_,H2,I3,q2⟩) hf
 rcases l with⟨hk,hm⟩|⟨hk,c,hc,hcell⟩
 ·exact wpAny_loadName_local I.ok.kind hk hn hm go
 ·rcases hk with hk|hk
  ·exact wpAny_loadName_cell I.ok.kind hk hc hcell go
  ·rcases hx with k|k
   ·have:X.env.scope.names.lookup x=some .free:=hk
    rw[k] at this;cases this
   ·have:X.env.scope.names.lookup x=some .free:=hk
    rw[k] at this;cases this
def tAugS (to ti te:TE)(tget:V->V->Hp->VK->Prop)(tip:TIp)(tset:TSet):TS:=fun D σ H=>to σ H fun o H1=>ti σ H1 fun i H2=>tget o i H2 fun x H3=>te σ H3 fun y H4=>tip x y H4 fun z H5=>tset o i z H5 fun H6=>D.nx σ H6
def PGet (X:Cx)(t:V->V->Hp->VK->Prop):Prop:=
 ∀(pins:List (Addr×Obj)) (s:Shared) (σ:St) (H:Hp) (o i:V) (ov iv:Value) (Q:VK),Inv X pins σ H s->RelV o ov->RelV i iv->t o i H Q->
  wpAny (model X.prog X.w) X.A (getItem ov iv) (EP X pins σ Q) X.xe s
theorem q7Y {o i e:Expr}{to ti te:TE}{tget:V->V->Hp->VK->Prop}{tip:TIp}{tset:TSet}{op:Operator}{tpos:Pos}(ho:PE X o to)(hi:PE X i ti)(hg:PGet X tget)(he:PE X e te)(hp:PIp X op tip)(hs:PSet X tset)
  (ha:∀ov iv new,augStore i ov iv new=(do holding [new,ov,iv] (setItem ov iv new);release [new,ov,iv] [];pure .next):=by intros;rfl):PS X (.AugAssign (.Subscript o i tpos) op e pos) (tAugS to ti te tget tip tset):=by
 intro pins s σ H D I h
 refine wpAny_AugAssign_SubscriptAny (thn (ho pins s σ H _ I h) fun ov s1 ⟨x1,H1,I1,r1,q1⟩=>?_) ha
 refine thn (hi pins s1 σ H1 _ I1 q1) fun iv s2 ⟨x2,H2,I2,r2,q2⟩=>?_
 refine thn (hg pins s2 σ H2 x1 x2 ov iv _ I2 r1 r2 q2) fun old s3 ⟨x3,H3,I3,r3,q3⟩=>?_
 refine thn (he pins s3 σ H3 _ I3 q3) fun v s4 ⟨x4,H4,I4,r4,q4⟩=>?_
 refine thn (hp pins s4 σ H4 x3 x4 old v _ I4 r3 r4 q4) fun new s5 ⟨x5,H5,I5,r5,q5⟩=>?_
 exact thn (hs pins s5 σ H5 x1 x2 x5 ov iv new _ I5 r1 r2 r5 q5) fun _ s6 ⟨H6,I6,q6⟩=>⟨σ,H6,I6,q6⟩
def ipI (f:Int->Int->Int):TIp:=fun x y H Q=>∃i j,x= .int i/\y= .int j/\Q (.int (f i j)) H
theorem q8w:PIp X .Add (ipI fun i j=>i+j):=by
 intro pins s σ H x y v u Q I r1 r2 h
 obtain⟨i,j,e1,e2,q⟩:=h
 subst e1;subst e2
 obtain⟨t,rfl⟩:=r1
 obtain⟨t',rfl⟩:=r2
 exact iadd_int ⟨.int _,H,I.tok _,⟨_,rfl⟩,q⟩
theorem ip_sub:PIp X .Sub (ipI fun i j=>i - j):=by
 intro pins s σ H x y v u Q I r1 r2 h
 obtain⟨i,j,e1,e2,q⟩:=h
 subst e1;subst e2
 obtain⟨t,rfl⟩:=r1
 obtain⟨t',rfl⟩:=r2
 exact isub_int ⟨.int _,H,I.tok _,⟨_,rfl⟩,q⟩
end
section
variable {X:Cx}{pos:Pos}
def qaq (c:TT)(tb:TS):TS:=fun D σ H=>∃W:Nat->St->Hp->Prop,(∃m,W m σ H)/\∀m σ H,W m σ H->
 c σ H fun b H1=>if b=true then∃N:St->Hp->Prop,(∀σ' H',N σ' H'->∃m',m'<m/\W m' σ' H')/\tb {D with nx:=N,ct:=N,bk:=D.nx} σ H1 else D.nx σ H1
theorem q4h {c:Expr}{body:List Stmt}{tc:TT}{tb:TS}(hp:PassesOwn (model X.prog X.w) X.A X.env X.xe)(hc:PT X c tc)(hb:PSs X body tb):PS X (.While c body [] pos) (qaq tc tb):=by
 intro pins s σ H D I h
 obtain⟨W,⟨m0,w0⟩,turn⟩:=h
 refine wpAny_While (codeAny_whileLoop (fun n s'=>∃σ' H',Inv X pins σ' H' s'/\W n σ' H') ?_ m0 ⟨σ,H,I,w0⟩)
 rintro n s1 ⟨σ1,H1,I1,w1⟩
 refine wpAny_passesOwn hp (thn (hc pins s1 σ1 H1 _ I1 (turn n σ1 H1 w1)) fun b s2 ⟨H2,I2,q2⟩=>?_)
 cases b with
 |true=>
  obtain⟨N,hN,q2⟩:=q2
  rw[if_pos rfl]
  refine wpAny_passesOwn hp (thn (hb pins s2 σ1 H2 _ I2 q2) fun f s3 q3=>?_)
  cases f with
  |next=>
   obtain⟨σ3,H3,I3,n3⟩:=q3
   obtain⟨m',hm,w3⟩:=hN σ3 H3 n3
   exact⟨m',hm,σ3,H3,I3,w3⟩
  |cont=>
   obtain⟨σ3,H3,I3,n3⟩:=q3
   obtain⟨m',hm,w3⟩:=hN σ3 H3 n3
   exact⟨m',hm,σ3,H3,I3,w3⟩
  |brk=>exact q3
  |ret v=>exact q3
 |false=>
  rw[if_neg Bool.false_ne_true]
  exact wpAny_execs_nil ⟨σ1,H2,I2,q2⟩
end
structure It where
 go:Nat->Hp->Prop
 yld:Nat->Hp->V->Hp->Prop
 stop:Nat->Hp->Prop
def FpOk (X:Cx)(pins:List (Addr×Obj))(H:Hp)(b:Addr):Prop:=
 H b=none/\b≠X.env.locals/\b∉X.fs/\(b∈X.ex\/X.s₀.heap.objs.size<=b)/\(∀x c,X.env.cells.lookup x=some c->c≠b)/\∀p∈X.pn++pins,p.1≠b
theorem Inv.fpOk {X:Cx}{pins:List (Addr×Obj)}{σ:St}{H H':Hp}{s:Shared}{b:Addr}(I:Inv X pins σ H s)(hb:s.heap.objs.size<=b)(hn:H' b=none):FpOk X pins H' b:=by
 refine⟨hn,Nat.ne_of_gt (Nat.lt_of_lt_of_le I.lt hb),I.nofs hb,.inr (Nat.le_trans I.sz hb),fun x c e z=>?_,fun p hp z=>?_⟩
 ·obtain ⟨v,q⟩:=I.cell x c e
  exact absurd (Nat.lt_of_lt_of_le q.lt (by rw[z];exact hb)) (Nat.lt_irrefl _)
 ·exact absurd (Nat.lt_of_lt_of_le (Heap.lt_size (I.pin p hp).1) (by rw[z];exact hb)) (Nat.lt_irrefl _)
structure Turn (P:Program)(w:World)(K:W.Frag)(tg:Expr)(J:It)(fp:List Addr)(it:Addr)(tn:Nat->Heap->Prop):Prop where
 mem:it∈fp
 obj:∀i h,tn i h->∀b∈fp,∃o,h.get? b=some o/\∀v,o.data≠ .cell v
 keep:∀i h h',tn i h->(∀b∈fp,∀o,h.get? b=some o->h'.get? b=some o)->tn i h'
 item:∀(X:Cx),X.prog=P->X.w=w->X.K=K->X.calm=true->∀(i:Nat) (pins:List (Addr×Obj)) (s:Shared) (σ:St) (H:Hp) (E:Value->Shared->Prop),Inv X pins σ H s->(∀b∈fp,FpOk X pins H b)->tn i s.heap->J.go i H->
  wpAny (model P w) X.A (pyNext (.ref it)) (fun r s1=>∃u,r=some u/\
   wpAny (model P w) X.A (letOwnedTupleGo tg (.ref it) u) (fun _ s2=>∃x H',Inv X pins σ H' s2/\RelV x u/\J.yld i H x H'/\tn (i+1) s2.heap/\∀b∈fp,H' b=none) E s1) E s
 done:∀(X:Cx),X.prog=P->X.w=w->X.K=K->X.calm=true->∀(i:Nat) (pins:List (Addr×Obj)) (s:Shared) (σ:St) (H:Hp) (E:Value->Shared->Prop),Inv X pins σ H s->(∀b∈fp,FpOk X pins H b)->tn i s.heap->J.stop i H->
  wpAny (model P w) X.A (pyNext (.ref it)) (fun r s1=>r=none/\Inv X pins σ H s1) E s
 self:∀(A:Around) (i:Nat) (s:Shared) (Q:Value->Shared->Prop) (E:Value->Shared->Prop),tn i s.heap->Q (.ref it) s->wpAny (model P w) A (pyIter (.ref it)) Q E s
abbrev TI:=St->Hp->(It->Hp->Prop)->Prop
def PIE (X:Cx)(pins:List (Addr×Obj))(σ:St)(tg:Expr)(R:It->Hp->Prop)(itv:Value)(s2:Shared):Prop:=
 ∃(it:Addr) (fp:List Addr) (tn:Nat->Heap->Prop) (J:It) (H':Hp),itv= .ref it/\Inv X pins σ H' s2/\Turn X.prog X.w X.K tg J fp it tn/\tn 0 s2.heap/\(∀b∈fp,FpOk X pins H' b)/\R J H'
def PI (X:Cx)(tg iter:Expr)(wi:TI):Prop:=
 ∀(pins:List (Addr×Obj)) (s:Shared) (σ:St) (H:Hp) (R:It->Hp->Prop),Inv X pins σ H s->wi σ H R->
  wpAny (model X.prog X.w) X.A (eval iter X.env) (fun v s1=>wpAny (model X.prog X.w) X.A (pyIter v) (PIE X pins σ tg R) X.xe s1) X.xe s
theorem go_of {M:Model}{A:Around}{E:Value->Shared->Prop}{s:Shared}{tg:Expr}{it:Addr}{u:Value}{o:Obj}{n:String}{vs:Array Value}{Q:Unit->Shared->Prop}(ho:s.heap.get? it=some o)(hc:o.cls= .type n)(hd:o.data= .fields vs)
  (hn:["enumerate","zip","dict_itemiterator","dict_reverseitemiterator","odict_iterator","itertools.zip_longest","itertools.pairwise"].contains n=false)(hQ:Q () s):wpAny M A (letOwnedTupleGo tg (.ref it) u) Q E s:=by
 unfold letOwnedTupleGo
 cases tg<;>first
  |exact wpAny_pure hQ
  |(cases u<;>first
    |exact wpAny_pure hQ
    |(refine yD (wpAny_load ho ?_)
      rw[hc,hd]
      show wpAny M A (if (["enumerate","zip","dict_itemiterator","dict_reverseitemiterator","odict_iterator","itertools.zip_longest","itertools.pairwise"].contains n&&vs[0]? ==some (rawInt _))=true then _ else _) Q E s
      rw[if_neg (by intro h;rw[hn,Bool.false_and] at h;cases h)]
      exact wpAny_pure hQ))
def Itl (K:W.Frag)(a:Addr):It:=
 ⟨fun i H=>∃xs x,SqL K H a xs/\xs[i]? =some x,fun i H x H'=>H'=H/\∀xs,SqL K H a xs->xs[i]? =some x,fun i H=>∃xs,SqL K H a xs/\xs.length<=i⟩
def Itt (K:W.Frag)(a:Addr):It:=
 ⟨fun i H=>∃xs x,SqT K H a xs/\xs[i]? =some x,fun i H x H'=>H'=H/\∀xs,SqT K H a xs->xs[i]? =some x,fun i H=>∃xs,SqT K H a xs/\xs.length<=i⟩
def Itr (lo:Int)(n:Nat):It:=⟨fun i _=>i<n,fun i H x H'=>H'=H/\x= .int (lo+i),fun i _=>n<=i⟩
theorem q7s {P:Program}{w:World}{K:W.Frag}{tg:Expr}(a it:Addr):Turn P w K tg (Itl K a) [it] it (fun i h=>h.IsListIter it a i) where
 mem:=by simp
 obj:=fun i h st b hb=>by
  have e:b=it:=by simpa using hb
  subst e
  obtain⟨o,e,c,d⟩:=st
  exact⟨o,e,fun v z=>by rw[d] at z;cases z⟩
 keep:=fun i h h' st k=>st.at fun o e=>k it (by simp) o e
 item:=by
  intro X hP hw hK hc i pins s σ H E I hf st hg
  subst hP hw hK
  obtain⟨xs,x,hq,hx⟩:=hg
  obtain⟨its,rv,p,hz⟩:=I.list hq
  obtain⟨u,hu,ru⟩:=rv.get hx
  obtain⟨f0,f1,f2,f3,f4,f5⟩:=hf it (by simp)
  refine wpAny_pyNext_list_item st p.isList (x:=u) (by simpa using hu) fun h' st' sb=>?_
  have I1:Inv X pins σ H {s with heap:=h'}:=I.turned (t':=s.toks) (fun b o hb e=>(sb.2 b hb).trans e) f0 f1 f3 f4 f5
  obtain⟨o,e,c,d⟩:=id st'
  exact⟨u,rfl,go_of (s:={s with heap:=h'}) e c d (by decide) ⟨x,H,I1,ru,⟨rfl,fun ys hy=>by rw[I.list_inj hy hq];exact hx⟩,st',fun b hb=>(hf b hb).1⟩⟩
 done:=by
  intro X hP hw hK hc i pins s σ H E I hf st hg
  subst hP hw hK
  obtain⟨xs,hq,hx⟩:=hg
  obtain⟨its,rv,p,hz⟩:=I.list hq
  obtain⟨f0,f1,f2,f3,f4,f5⟩:=hf it (by simp)
  have hl:=rv.length
  exact wpAny_pyNext_list_end (I.ok.hd hc) st p.isList (by simp;omega) fun h' eb=>⟨rfl,I.turned (t':=s.toks) (fun b o hb e=>eb b o hb e) f0 f1 f3 f4 f5⟩
 self:=fun _ _ _ _ _ st h=>wpAny_pyIter_listiter st h
theorem q6T {P:Program}{w:World}{K:W.Frag}{tg:Expr}(a it:Addr):Turn P w K tg (Itt K a) [it] it (fun i h=>h.IsTupleIter it a i) where
 mem:=by simp
 obj:=fun i h st b hb=>by
  have e:b=it:=by simpa using hb
  subst e
  obtain⟨o,e,c,d⟩:=st
  exact⟨o,e,fun v z=>by rw[d] at z;cases z⟩
 keep:=fun i h h' st k=>st.at fun o e=>k it (by simp) o e
 item:=by
  intro X hP hw hK hc i pins s σ H E I hf st hg
  subst hP hw hK
  obtain⟨xs,x,hq,hx⟩:=hg
  obtain⟨its,rv,p,hz⟩:=I.tuple hq
  obtain⟨u,hu,ru⟩:=rv.get hx
  obtain⟨f0,f1,f2,f3,f4,f5⟩:=hf it (by simp)
  refine wpAny_pyNext_tuple_item st (show s.heap.IsTuple a its.toArray from p) (x:=u) (by simpa using hu) fun h' st' sb=>?_
  have I1:Inv X pins σ H {s with heap:=h'}:=I.turned (t':=s.toks) (fun b o hb e=>(sb.2 b hb).trans e) f0 f1 f3 f4 f5
  obtain⟨o,e,c,d⟩:=id st'
  exact⟨u,rfl,go_of (s:={s with heap:=h'}) e c d (by decide) ⟨x,H,I1,ru,⟨rfl,fun ys hy=>by rw[I.tuple_inj hy hq];exact hx⟩,st',fun b hb=>(hf b hb).1⟩⟩
 done:=by
  intro X hP hw hK hc i pins s σ H E I hf st hg
  subst hP hw hK
  obtain⟨xs,hq,hx⟩:=hg
  obtain⟨its,rv,p,hz⟩:=I.tuple hq
  obtain⟨f0,f1,f2,f3,f4,f5⟩:=hf it (by simp)
  have hl:=rv.length
  exact wpAny_pyNext_tuple_end (I.ok.hd hc) st (show s.heap.IsTuple a its.toArray from p) (by simp;omega) fun h' eb=>⟨rfl,I.turned (t':=s.toks) (fun b o hb e=>eb b o hb e) f0 f1 f3 f4 f5⟩
 self:=fun _ _ _ _ _ st h=>wpAny_pyIter_tupleiter st h
theorem q6U {P:Program}{w:World}{K:W.Frag}{tg:Expr}(it:Addr)(lo:Int)(n:Nat):Turn P w K tg (Itr lo n) [it] it (fun i h=>IsRangeIter h it (lo+(i:Nat)*1) ((n:Int) - (i:Nat)) 1) where
 mem:=by simp
 obj:=fun i h st b hb=>by
  have e:b=it:=by simpa using hb
  subst e
  exact⟨_,st,fun v z=>by
   have z':Data.fields _=Data.cell v:=z
   cases z'⟩
 keep:=fun i h h' st k=>k it (by simp) _ st
 item:=by
  intro X hP hw hK hc i pins s σ H E I hf st hg
  subst hP hw hK
  obtain⟨f0,f1,f2,f3,f4,f5⟩:=hf it (by simp)
  have W:=Walks.range (prog:=X.prog) (w:=X.w) (I.ok.hd hc) it lo 1 n
  refine W.item i s _ _ hg st fun v h' tk hv st' kk=>?_
  obtain⟨t,rfl⟩:=hv
  have I1:Inv X pins σ H {s with heap:=h',toks:=tk}:=I.turned (fun b o hb e=>kk b o (by simpa using hb) e) f0 f1 f3 f4 f5
  refine⟨_,rfl,go_of (s:={s with heap:=h',toks:=tk}) (n:="range_iterator") st' rfl rfl (by decide) ⟨.int (lo+i),H,I1,⟨t,?_⟩,⟨rfl,rfl⟩,st',fun b hb=>(hf b hb).1⟩⟩
  rw[Int.mul_one]
 done:=by
  intro X hP hw hK hc i pins s σ H E I hf st hg
  subst hP hw hK
  obtain⟨f0,f1,f2,f3,f4,f5⟩:=hf it (by simp)
  exact wpAny_pyNext_range_end (I.ok.hd hc) st (by have:n<=i:=hg;omega) fun h' eb=>⟨rfl,I.turned (t':=s.toks) (fun b o hb e=>eb b o hb e) f0 f1 f3 f4 f5⟩
 self:=fun _ _ _ _ _ st h=>wpAny_pyIter_rangeiter st h
section
variable {X:Cx}{tg:Expr}
def qc8 (K:W.Frag)(tl:TE):TI:=fun σ H R=>tl σ H fun x H1=>∃a,x= .ref a/\(∃xs,SqL K H1 a xs)/\R (Itl K a) H1
def iTup (K:W.Frag)(tl:TE):TI:=fun σ H R=>tl σ H fun x H1=>∃a,x= .ref a/\(∃xs,SqT K H1 a xs)/\R (Itt K a) H1
theorem qbw {l:Expr}{tl:TE}(hl:PE X l tl):PI X tg l (qc8 X.K tl):=by
 intro pins s σ H R I h
 refine thn (hl pins s σ H _ I h) fun v s1 ⟨x,H1,I1,r1,q1⟩=>?_
 obtain⟨a,e,⟨xs,hq⟩,q⟩:=q1
 subst e
 cases r1
 obtain⟨its,rv,p,hz⟩:=I1.list hq
 refine wpAny_pyIter_list p.isList ?_
 refine⟨s1.heap.objs.size,[s1.heap.objs.size],_,_,H1,rfl,I1.kept (t':=s1.toks) fun b o e=>Heap.get?_push_of_some _ e,q7s a _,⟨_,Heap.get?_push_size _ rfl,rfl,rfl⟩,fun b hb=>?_,q⟩
 have e:b=s1.heap.objs.size:=by simpa using hb
 subst e
 exact I1.fpOk (Nat.le_refl _) (I1.hok.fresh (Nat.le_refl _))
theorem pi_tup {l:Expr}{tl:TE}(hl:PE X l tl):PI X tg l (iTup X.K tl):=by
 intro pins s σ H R I h
 refine thn (hl pins s σ H _ I h) fun v s1 ⟨x,H1,I1,r1,q1⟩=>?_
 obtain⟨a,e,⟨xs,hq⟩,q⟩:=q1
 subst e
 cases r1
 obtain⟨its,rv,p,hz⟩:=I1.tuple hq
 refine wpAny_pyIter_tuple (show s1.heap.IsTuple a its.toArray from p) ?_
 refine⟨s1.heap.objs.size,[s1.heap.objs.size],_,_,H1,rfl,I1.kept (t':=s1.toks) fun b o e=>Heap.get?_push_of_some _ e,q6T a _,⟨_,Heap.get?_push_size _ rfl,rfl,rfl⟩,fun b hb=>?_,q⟩
 have e:b=s1.heap.objs.size:=by simpa using hb
 subst e
 exact I1.fpOk (Nat.le_refl _) (I1.hok.fresh (Nat.le_refl _))
theorem q9q {pins:List (Addr×Obj)}{σ:St}{H:Hp}{s:Shared}{R:It->Hp->Prop}{E:Value->Shared->Prop}{lo hi:Int}{t u v:Tok}{tk:Nat}(I:Inv X pins σ H s)(h1: -(2 ^ 62)<=lo)(h2:lo<2 ^ 62)(h3: -(2 ^ 62)<=hi)(h4:hi<2 ^ 62)
  (q:R (Itr lo (hi - lo).toNat) H):wpAny (model X.prog X.w) X.A (pyIter (.ref s.heap.objs.size)) (PIE X pins σ tg R) E {s with heap:=s.heap.push {cls:= .type "range",data:= .fields #[.int lo t,.int hi u,.int 1 v]},toks:=tk}:=by
 refine wpAny_pyIter_range (IsRange.new ..) (small_one h1 h2 h3 h4) ?_
 have I1:Inv X pins σ H {s with heap:=s.heap.push {cls:= .type "range",data:= .fields #[.int lo t,.int hi u,.int 1 v]},toks:=tk}:=I.kept fun b o e=>Heap.get?_push_of_some _ e
 refine⟨(s.heap.push {cls:= .type "range",data:= .fields #[.int lo t,.int hi u,.int 1 v]}).objs.size,[(s.heap.push {cls:= .type "range",data:= .fields #[.int lo t,.int hi u,.int 1 v]}).objs.size],_,_,H,rfl,
  I1.kept (t':=tk) fun b o e=>Heap.get?_push_of_some _ e,q6U _ lo (hi - lo).toNat,?_,fun b hb=>?_,q⟩
 ·have e1:lo+((0:Nat):Int)*1=lo:=by simp
  have e2:(((hi - lo).toNat:Nat):Int) - ((0:Nat):Int)=Builtin.Range.rangeSize lo hi 1:=by rw[rangeSize_one];split<;>omega
  show IsRangeIter _ _ (lo+((0:Nat):Int)*1) ((((hi - lo).toNat:Nat):Int) - ((0:Nat):Int)) 1
  rw[e1,e2]
  exact Heap.get?_push_size _ rfl
 ·have e:b=(s.heap.push {cls:= .type "range",data:= .fields #[.int lo t,.int hi u,.int 1 v]}).objs.size:=by simpa using hb
  subst e
  exact I1.fpOk (Nat.le_refl _) (I1.hok.fresh (Nat.le_refl _))
def iRng1 (ta:TA):TI:=fun σ H R=>ta σ H fun vs H1=>∃j:Int,vs=[.int j]/\ -(2 ^ 62)<=j/\j<2 ^ 62/\R (Itr 0 j.toNat) H1
theorem qT {a:Expr}{ta:TA}{p pos:Pos}(hg:Gl X "range")(hm:X.mg "range"=none)(ha:PA X [a] ta)(hs:starEach [a] X.env=[(false,eval a X.env)]:=by rfl):PI X tg (.Call (.Name "range" p) [a] [] pos) (iRng1 ta):=by
 intro pins s σ H R I h
 refine Call_ (q3Y I hg hm boot_range (PyProof.Rows.callWith_type1 (thn (ha pos pins s σ H _ I h) fun us s1 ⟨vs,H1,I1,r1,q1⟩=>?_) hs rfl))
 obtain⟨j,e,q1,q2,q⟩:=q1
 subst e
 cases r1 with
 |cons r rr=>
  cases rr
  obtain⟨t,rfl⟩:=r
  exact call_range_1 (q9q I1 (by omega) (by omega) q1 q2 (by simpa using q))
def tFor (wi:TI)(g:TG)(tb:TS):TS:=fun D σ H=>wi σ H fun J H1=>∃W:Nat->Nat->St->Hp->Prop,(∃m,W 0 m σ H1)/\∀i m σ H,W i m σ H->
 (J.stop i H/\D.nx σ H)\/(J.go i H/\∃N:St->Hp->Prop,(∀σ' H',N σ' H'->∃m',m'<m/\W (i+1) m' σ' H')/\∀x H',J.yld i H x H'->g x σ H' fun σ2 H2=>tb {D with nx:=N,ct:=N,bk:=D.nx} σ2 H2)
def q5h (fp:List Addr)(h:Heap):List (Addr×Obj):=fp.filterMap fun b=>(h.get? b).map fun o=>(b,o)
theorem q29 {fp:List Addr}{h:Heap}{b:Addr}{o:Obj}(hb:b∈fp)(e:h.get? b=some o):(b,o)∈q5h fp h:=List.mem_filterMap.mpr ⟨b,hb,by rw[e];rfl⟩
theorem q8i {fp:List Addr}{h:Heap}{p:Addr×Obj}(hp:p∈q5h fp h):p.1∈fp/\h.get? p.1=some p.2:=by
 obtain⟨b,hb,e⟩:=List.mem_filterMap.mp hp
 cases q:h.get? b with
 |none=>rw[q] at e;cases e
 |some o=>
  rw[q] at e
  have e':(b,o)=p:=Option.some.inj e
  subst e'
  exact⟨hb,q⟩
theorem Inv.pinned {pins:List (Addr×Obj)}{σ:St}{H:Hp}{s:Shared}{fp:List Addr}(I:Inv X pins σ H s)(hf:∀b∈fp,FpOk X pins H b)(ho:∀b∈fp,∃o,s.heap.get? b=some o/\∀v,o.data≠ .cell v):Inv X (pins++q5h fp s.heap) σ H s:=
 I.pins_of fun p hp=>(List.mem_append.mp hp).elim (fun z=>I.pin p (List.mem_append_right _ z)) fun z=>by
  obtain⟨hb,e⟩:=q8i z
  obtain⟨f0,f1,f2,_⟩:=hf p.1 hb
  obtain⟨o,e',d⟩:=ho p.1 hb
  rw[e] at e';cases e'
  exact⟨e,f0,f1,f2,d⟩
theorem Inv.unpinned {pins pl:List (Addr×Obj)}{σ:St}{H:Hp}{s:Shared}(I:Inv X (pins++pl) σ H s):Inv X pins σ H s:=I.pins_of fun p hp=>I.pin p (List.mem_append_right _ (List.mem_append_left _ hp))
theorem q0o {iter:Expr}{body:List Stmt}{wi:TI}{g:TG}{tb:TS}{pos:Pos}(hp:PassesOwn (model X.prog X.w) X.A X.env X.xe)(hc:X.calm=true)(hi:PI X tg iter wi)(hg:PG X tg g)(hb:PSs X body tb)
  (hs:∀x,foldedSetIterable iter X.env x=pure x:=by intro _;rfl):PS X (.For tg iter body [] pos) (tFor wi g tb):=by
 intro pins s σ H D I h
 refine wpAny_For (thn (hi pins s σ H _ I h) fun v s1 h1=>thn h1 fun itv s2 h2=>?_) hs
 obtain⟨it,fp,tn,J,H2,e,I2,T,st2,f2,W,⟨m0,w0⟩,turn⟩:=h2
 subst e
 -- what stays true of the iterator's objects through the loop
 have stat:∀{H':Hp},(∀b∈fp,H' b=none)->∀b∈fp,FpOk X pins H' b:=fun hn b hb=>⟨hn b hb,(f2 b hb).2⟩
 refine codeAny_forLoop_any (fun n s'=>∃i σ' H',Inv X pins σ' H' s'/\tn i s'.heap/\(∀b∈fp,H' b=none)/\W i n σ' H') ?_ m0 ⟨0,σ,H2,I2,st2,fun b hb=>(f2 b hb).1,w0⟩
 rintro n s3 ⟨i,σ3,H3,I3,st3,fr3,w3⟩
 rcases turn i n σ3 H3 w3 with⟨stop,qn⟩|⟨go,N,hN,step⟩
 ·refine wpAny_passesOwn hp (thn (T.done X rfl rfl rfl hc i pins s3 σ3 H3 X.xe I3 (stat fr3) st3 stop) fun r s4 ⟨hr,I4⟩=>?_)
  subst hr
  exact wpAny_execs_nil ⟨σ3,H3,I4,qn⟩
 ·refine wpAny_passesOwn hp (thn (T.item X rfl rfl rfl hc i pins s3 σ3 H3 X.xe I3 (stat fr3) st3 go) fun r s4 ⟨u,hr,h4⟩=>?_)
  subst hr
  refine wpAny_passesOwn hp (thn h4 fun _ s5 ⟨x,H5,I5,r5,y5,st5,fr5⟩=>?_)
  have I5':=I5.pinned (stat fr5) (T.obj _ _ st5)
  refine wpAny_passesOwn hp (thn (hg _ s5 σ3 H5 x u _ I5' r5 (step x H5 y5)) fun _ s6 ⟨σ6,H6,I6,q6⟩=>?_)
  refine wpAny_passesOwn hp (thn (hb _ s6 σ6 H6 _ I6 q6) fun f s7 q7=>?_)
  have again:∀{σ7:St} {H7:Hp},Inv X (pins++q5h fp s5.heap) σ7 H7 s7->N σ7 H7->∃m,m<n/\∃i σ' H',Inv X pins σ' H' s7/\tn i s7.heap/\(∀b∈fp,H' b=none)/\W i m σ' H':=fun {σ7 H7} I7 n7=>by
   obtain⟨m',hm,w7⟩:=hN σ7 H7 n7
   refine⟨m',hm,i+1,σ7,H7,I7.unpinned,T.keep _ _ _ st5 fun b hb o e=>(I7.pin (b,o) (List.mem_append_right _ (List.mem_append_right _ (q29 hb e)))).1,fun b hb=>?_,w7⟩
   obtain⟨o,e,d⟩:=T.obj _ _ st5 b hb
   exact(I7.pin (b,o) (List.mem_append_right _ (List.mem_append_right _ (q29 hb e)))).2.1
  cases f with
  |next=>obtain⟨σ7,H7,I7,n7⟩:=q7;exact again I7 n7
  |cont=>obtain⟨σ7,H7,I7,n7⟩:=q7;exact again I7 n7
  |brk=>obtain⟨σ7,H7,I7,q7⟩:=q7;exact⟨σ7,H7,I7.unpinned,q7⟩
  |ret v=>obtain⟨x7,σ7,H7,I7,r7,q7⟩:=q7;exact⟨x7,σ7,H7,I7.unpinned,r7,q7⟩
end
abbrev R2:=V->V->Hp->VK->Prop
def OpR (X:Cx)(f:Value->Value->Sem Value)(r:R2):Prop:=
 ∀(pins:List (Addr×Obj)) (s:Shared) (σ:St) (H:Hp) (x y:V) (v u:Value) (Q:VK),Inv X pins σ H s->RelV x v->RelV y u->r x y H Q->
  wpAny (model X.prog X.w) X.A (f v u) (EP X pins σ Q) X.xe s
def q24 (X:Cx)(f:Value)(r:List V->Hp->VK->Prop):Prop:=
 ∀(pins:List (Addr×Obj)) (s:Shared) (σ:St) (H:Hp) (xs:List V) (us:List Value) (Q:VK),Inv X pins σ H s->Vals xs us->r xs H Q->
  wpAny (model X.prog X.w) X.A (call f us) (EP X pins σ Q) X.xe s
def tOp (r:R2)(ta tb:TE):TE:=fun σ H Q=>ta σ H fun x H1=>tb σ H1 fun y H2=>r x y H2 Q
def rI (C:Int->Int->Prop)(g:Int->Int->V):R2:=fun x y H Q=>∃i j,x= .int i/\y= .int j/\C i j/\Q (g i j) H
def rI0 (g:Int->Int->V):R2:=fun x y H Q=>∃i j,x= .int i/\y= .int j/\Q (g i j) H
section
variable {X:Cx}{a b c:Expr}{ta tb tc:TE}{pos:Pos}
theorem binT (ha:PE X a ta)(hb:PE X b tb){pins:List (Addr×Obj)}{s:Shared}{σ:St}{H:Hp}{R:V->V->Hp->Prop}(I:Inv X pins σ H s)
  (h:ta σ H fun x H1=>tb σ H1 fun y H2=>R x y H2){Q:Value->Shared->Prop}{f:Value->Value->Sem Value}
  (hf:∀v u s2 x y H2,Inv X pins σ H2 s2->RelV x v->RelV y u->R x y H2->wpAny (model X.prog X.w) X.A (f v u) Q X.xe s2):
  wpAny (model X.prog X.w) X.A (eval a X.env) (fun v s₁=>wpAny (model X.prog X.w) X.A (eval b X.env) (fun u s₂=>wpAny (model X.prog X.w) X.A (f v u) Q X.xe s₂) X.xe s₁) X.xe s:=by
 refine thn (ha pins s σ H _ I h) fun v s1 ⟨x,H1,I1,r1,q1⟩=>?_
 refine thn (hb pins s1 σ H1 _ I1 q1) fun u s2 ⟨y,H2,I2,r2,q2⟩=>?_
 exact hf v u s2 x y H2 I2 r1 r2 q2
theorem qq {op:Operator}{r:R2}(ho:OpR X (binaryOp op) r)(ha:PE X a ta)(hb:PE X b tb):PE X (.BinOp a op b pos) (tOp r ta tb):=by
 intro pins s σ H Q I h
 exact wpAny_BinOp (binT ha hb I h fun v u s2 x y H2 I2 rx ry q=>ho pins s2 σ H2 x y v u Q I2 rx ry q)
theorem opI {f:Value->Value->Sem Value}{C:Int->Int->Prop}{g:Int->Int->Int}
  (rule:∀(i j:Int) (t u:Tok) (s:Shared) (Q:Value->Shared->Prop) (E:Value->Shared->Prop),C i j->Q (.int (g i j) s.toks) {s with toks:=s.toks+1}->wpAny (model X.prog X.w) X.A (f (.int i t) (.int j u)) Q E s):
  OpR X f (rI C fun i j=> .int (g i j)):=by
 intro pins s σ H x y v u Q I rx ry h
 obtain⟨i,j,rfl,rfl,hc,q⟩:=h
 obtain⟨t,rfl⟩:=rx
 obtain⟨t',rfl⟩:=ry
 exact rule i j t t' s _ _ hc ⟨.int (g i j),H,I.tok _,⟨_,rfl⟩,q⟩
theorem opI0 {f:Value->Value->Sem Value}{g:Int->Int->Int}
  (rule:∀(i j:Int) (t u:Tok) (s:Shared) (Q:Value->Shared->Prop) (E:Value->Shared->Prop),Q (.int (g i j) s.toks) {s with toks:=s.toks+1}->wpAny (model X.prog X.w) X.A (f (.int i t) (.int j u)) Q E s):
  OpR X f (rI0 fun i j=> .int (g i j)):=by
 intro pins s σ H x y v u Q I rx ry h
 obtain⟨i,j,rfl,rfl,q⟩:=h
 obtain⟨t,rfl⟩:=rx
 obtain⟨t',rfl⟩:=ry
 exact rule i j t t' s _ _ ⟨.int (g i j),H,I.tok _,⟨_,rfl⟩,q⟩
theorem opB0 {f:Value->Value->Sem Value}{g:Int->Int->Bool}
  (rule:∀(i j:Int) (t u:Tok) (s:Shared) (Q:Value->Shared->Prop) (E:Value->Shared->Prop),Q (.bool (g i j)) s->wpAny (model X.prog X.w) X.A (f (.int i t) (.int j u)) Q E s):
  OpR X f (rI0 fun i j=> .bl (g i j)):=by
 intro pins s σ H x y v u Q I rx ry h
 obtain⟨i,j,rfl,rfl,q⟩:=h
 obtain⟨t,rfl⟩:=rx
 obtain⟨t',rfl⟩:=ry
 exact rule i j t t' s _ _ ⟨.bl (g i j),H,I,rfl,q⟩
def CDiv (i j:Int):Prop:=0<j/\j<1073741824
def CPow (i j:Int):Prop:=0<=j/\j<=1000000/\i.natAbs<2 ^ 64
def CMul (i j:Int):Prop:=(-(2 ^ 64)<i/\i<2 ^ 64)\/(-(2 ^ 64)<j/\j<2 ^ 64)
theorem CMul.ok {i j:Int}(h:CMul i j):IntMulOk i j:=by
 rcases h with⟨h1,h2⟩|⟨h1,h2⟩
 ·exact .of_left (intBits_le_64 h1 h2)
 ·exact .of_right (intBits_le_64 h1 h2)
theorem two_pow_nn (k:Nat):(0:Int)<=2 ^ k:=by
 rw[two_pow_cast]
 exact Int.natCast_nonneg _
theorem q0l:OpR X (binaryOp .Add) (rI0 fun i j=> .int (i+j)):=opI0 fun _ _ _ _ _ _ _ q=>add_int q
theorem q2Y:OpR X (binaryOp .Sub) (rI0 fun i j=> .int (i - j)):=opI0 fun _ _ _ _ _ _ _ q=>sub_int q
theorem q3W:OpR X (binaryOp .Mult) (rI CMul fun i j=> .int (i*j)):=opI fun _ _ _ _ _ _ _ hc q=>mul_int q hc.ok
theorem q0r:OpR X (binaryOp .FloorDiv) (rI CDiv fun i j=> .int (i / j)):=opI fun i j _ _ _ _ _ hc q=>by
 have h1:(0:Int)<j:=hc.1
 have h2:j<1073741824:=hc.2
 exact floordiv_int (by omega) (by rw[Int.fdiv_eq_ediv_of_nonneg i (by omega)];exact q) (.inl (PyProof.noPylong_small (by omega)))
theorem qM:OpR X (binaryOp .Mod) (rI (fun _ j=>0<j) fun i j=> .int (i % j)):=opI fun i j _ _ _ _ _ hc q=>by
 have h1:(0:Int)<j:=hc
 exact mod_int' (by omega) (by rw[Int.fmod_eq_emod_of_nonneg i (by omega)];exact q)
theorem q5j:OpR X (binaryOp .Pow) (rI CPow fun i j=> .int (i ^ j.toNat)):=opI fun _ _ _ _ _ _ _ hc q=>pow_int_small hc.1 hc.2.1 hc.2.2 q
theorem q6z:OpR X (binaryOp .LShift) (rI CPow fun i j=> .int (i*2 ^ j.toNat)):=opI fun _ _ _ _ _ _ _ hc q=>lshift_int_small hc.1 hc.2.1 hc.2.2 q
theorem q3V:OpR X (binaryOp .RShift) (rI (fun _ j=>0<=j) fun i j=> .int (i / 2 ^ j.toNat)):=opI fun i j _ _ _ _ _ hc q=>
 rshift_int hc (by rw[Int.fdiv_eq_ediv_of_nonneg i (two_pow_nn _)];exact q)
theorem q3X:OpR X (binaryOp .BitAnd) (rI0 fun i j=> .int (Builtin.bitAnd i j)):=opI0 fun _ _ _ _ _ _ _ q=>and_int q
theorem qbD:OpR X (binaryOp .BitOr) (rI0 fun i j=> .int (Builtin.bitOr i j)):=opI0 fun _ _ _ _ _ _ _ q=>or_int q
theorem qaH:OpR X (binaryOp .BitXor) (rI0 fun i j=> .int (Builtin.bitXor i j)):=opI0 fun _ _ _ _ _ _ _ q=>xor_int q
end
def scal:V->V->Bool
 | .non,.non=>true| .non,.int _=>true| .int _,.non=>true| .non,.bl _=>true| .bl _,.non=>true| .non,.str _=>true| .str _,.non=>true
 | .int _,.int _=>true| .bl _,.bl _=>true| .str _,.str _=>true| .byt _,.byt _=>true
 | .int _,.str _=>true| .str _,.int _=>true| .bl _,.str _=>true| .str _,.bl _=>true
 |_,_=>false
def rEq:R2:=fun x y H Q=>scal x y=true/\Q (.bl (decide (x=y))) H
def rNe:R2:=fun x y H Q=>scal x y=true/\Q (.bl (!decide (x=y))) H
theorem q8P {i j:Int}:decide (V.int i=V.int j)=(i==j):=by
 rw[Bool.eq_iff_iff]
 simp
theorem qaN {i j:Bool}:decide (V.bl i=V.bl j)=(i==j):=by
 rw[Bool.eq_iff_iff]
 simp
theorem q8O {i j:Str}:decide (V.str i=V.str j)=(i==j):=by
 rw[Bool.eq_iff_iff]
 simp
theorem q8Q {i j:Array UInt8}:decide (V.byt i=V.byt j)=(i.toList==j.toList):=by
 rw[Bool.eq_iff_iff]
 cases i
 cases j
 simp
section
variable {X:Cx}{a b c:Expr}{ta tb tc:TE}{pos:Pos}
theorem q02 {pins:List (Addr×Obj)}{σ:St}{H:Hp}{s:Shared}{Q:VK}{k k':Bool}(I:Inv X pins σ H s)(q:Q (.bl k) H)(e:k=k'):EP X pins σ Q (.bool k') s:=by
 subst e
 exact⟨.bl k,H,I,rfl,q⟩
theorem q07:OpR X (compareOp .Eq) rEq:=by
 intro pins s σ H x y v u Q I rx ry h
 obtain⟨hs,q⟩:=h
 cases x with
 |non=>
  cases rx
  cases y with
  |non=>cases ry;exact PySem.EqNone.eq_none_none (q02 I q (by simp))
  |bl j=>cases ry;exact PySem.EqNone.eq_none_bool (q02 I q (by simp))
  |int j=>obtain⟨t',rfl⟩:=ry;exact PySem.EqNone.eq_none_int (q02 I q (by simp))
  |str j=>obtain⟨t',rfl⟩:=ry;exact PySem.EqNone.eq_none_str (q02 I q (by simp))
  |_=>exact absurd (show false=true from hs) Bool.false_ne_true
 |bl i=>
  cases rx
  cases y with
  |non=>cases ry;exact PySem.EqNone.eq_bool_none (q02 I q (by simp))
  |bl j=>cases ry;exact eq_bool (q02 I q qaN)
  |str j=>obtain⟨t',rfl⟩:=ry;exact PySem.EqMixed.eq_bool_str (q02 I q (by simp))
  |_=>exact absurd (show false=true from hs) Bool.false_ne_true
 |int i=>
  obtain⟨t,rfl⟩:=rx
  cases y with
  |non=>cases ry;exact PySem.EqNone.eq_int_none (q02 I q (by simp))
  |int j=>obtain⟨t',rfl⟩:=ry;exact eq_int (q02 I q q8P)
  |str j=>obtain⟨t',rfl⟩:=ry;exact PySem.EqMixed.eq_int_str (q02 I q (by simp))
  |_=>exact absurd (show false=true from hs) Bool.false_ne_true
 |str i=>
  obtain⟨t,rfl⟩:=rx
  cases y with
  |non=>cases ry;exact PySem.EqNone.eq_str_none (q02 I q (by simp))
  |bl j=>cases ry;exact PySem.EqMixed.eq_str_bool (q02 I q (by simp))
  |int j=>obtain⟨t',rfl⟩:=ry;exact PySem.EqMixed.eq_str_int (q02 I q (by simp))
  |str j=>obtain⟨t',rfl⟩:=ry;exact eq_str (q02 I q q8O)
  |_=>exact absurd (show false=true from hs) Bool.false_ne_true
 |byt i=>
  obtain⟨t,rfl⟩:=rx
  cases y with
  |byt j=>obtain⟨t',rfl⟩:=ry;exact PySem.W.eq_bytes (q02 I q q8Q)
  |_=>exact absurd (show false=true from hs) Bool.false_ne_true
 |_=>cases y<;>exact absurd (show false=true from hs) Bool.false_ne_true
theorem q8b:OpR X (compareOp .NotEq) rNe:=by
 intro pins s σ H x y v u Q I rx ry h
 obtain⟨hs,q⟩:=h
 cases x with
 |non=>
  cases rx
  cases y with
  |non=>cases ry;exact PySem.EqNone.ne_none_none (q02 I q (by simp))
  |bl j=>cases ry;exact PySem.EqNone.ne_none_bool (q02 I q (by simp))
  |int j=>obtain⟨t',rfl⟩:=ry;exact PySem.EqNone.ne_none_int (q02 I q (by simp))
  |str j=>obtain⟨t',rfl⟩:=ry;exact PySem.EqNone.ne_none_str (q02 I q (by simp))
  |_=>exact absurd (show false=true from hs) Bool.false_ne_true
 |bl i=>
  cases rx
  cases y with
  |non=>cases ry;exact PySem.EqNone.ne_bool_none (q02 I q (by simp))
  |bl j=>cases ry;exact ne_bool (q02 I q (congrArg not qaN))
  |str j=>obtain⟨t',rfl⟩:=ry;exact PySem.EqMixed.ne_bool_str (q02 I q (by simp))
  |_=>exact absurd (show false=true from hs) Bool.false_ne_true
 |int i=>
  obtain⟨t,rfl⟩:=rx
  cases y with
  |non=>cases ry;exact PySem.EqNone.ne_int_none (q02 I q (by simp))
  |int j=>obtain⟨t',rfl⟩:=ry;exact ne_int (q02 I q (congrArg not q8P))
  |str j=>obtain⟨t',rfl⟩:=ry;exact PySem.EqMixed.ne_int_str (q02 I q (by simp))
  |_=>exact absurd (show false=true from hs) Bool.false_ne_true
 |str i=>
  obtain⟨t,rfl⟩:=rx
  cases y with
  |non=>cases ry;exact PySem.EqNone.ne_str_none (q02 I q (by simp))
  |bl j=>cases ry;exact PySem.EqMixed.ne_str_bool (q02 I q (by simp))
  |int j=>obtain⟨t',rfl⟩:=ry;exact PySem.EqMixed.ne_str_int (q02 I q (by simp))
  |str j=>obtain⟨t',rfl⟩:=ry;exact ne_str (q02 I q (congrArg not q8O))
  |_=>exact absurd (show false=true from hs) Bool.false_ne_true
 |byt i=>
  obtain⟨t,rfl⟩:=rx
  cases y with
  |byt j=>obtain⟨t',rfl⟩:=ry;exact PySem.W.ne_bytes (q02 I q (congrArg not q8Q))
  |_=>exact absurd (show false=true from hs) Bool.false_ne_true
 |_=>cases y<;>exact absurd (show false=true from hs) Bool.false_ne_true
theorem q75:OpR X (compareOp .Lt) (rI0 fun i j=> .bl (decide (i<j))):=opB0 fun _ _ _ _ _ _ _ q=>lt_int q
theorem q9I:OpR X (compareOp .LtE) (rI0 fun i j=> .bl (decide (i<=j))):=opB0 fun _ _ _ _ _ _ _ q=>le_int q
theorem q34:OpR X (compareOp .Gt) (rI0 fun i j=> .bl (decide (j<i))):=opB0 fun _ _ _ _ _ _ _ q=>gt_int q
theorem op_ge:OpR X (compareOp .GtE) (rI0 fun i j=> .bl (decide (j<=i))):=opB0 fun _ _ _ _ _ _ _ q=>ge_int q
theorem qw (b:Expr){op:CmpOp}(h:op≠ .In:=by decide)(h2:op≠ .NotIn:=by decide):behindInMarks op b=false:=by
 have e1:(op==CmpOp.In)=false:=by cases op<;>first|rfl|exact absurd rfl h
 have e2:(op==CmpOp.NotIn)=false:=by cases op<;>first|rfl|exact absurd rfl h2
 cases b<;>simp[behindInMarks,e1,e2]
theorem qW {op:CmpOp}{r:R2}(ho:OpR X (compareOp op) r)(ha:PE X a ta)(hb:PE X b tb)(hm:behindInMarks op b=false):PE X (.Compare a [op] [b] pos) (tOp r ta tb):=by
 intro pins s σ H Q I h
 exact wpAny_Compare1 (binT ha hb I h fun v u s2 x y H2 I2 rx ry q=>ho pins s2 σ H2 x y v u Q I2 rx ry q) hm
def tTest (t:TE):TT:=fun σ H Q=>t σ H fun x H'=>∃k,x= .bl k/\Q k H'
theorem qz {op:CmpOp}{r:R2}(ho:OpR X (compareOp op) r)(ha:PE X a ta)(hb:PE X b tb)(hm:behindInMarks op b=false):PT X (.Compare a [op] [b] pos) (tTest (tOp r ta tb)):=by
 intro pins s σ H Q I h
 refine wpAny_isTrue_Compare1 (thn (ha pins s σ H _ I h) fun v s1 ⟨x,H1,I1,r1,q1⟩=>thn (hb pins s1 σ H1 _ I1 q1) fun u s2 ⟨y,H2,I2,r2,q2⟩=>
  thn (ho pins s2 σ H2 x y v u _ I2 r1 r2 q2) fun c s3 ⟨z,H3,I3,r3,k,e,q3⟩=>?_) hm
 subst e
 cases r3
 exact wpAny_truthy_bool ⟨H3,I3,q3⟩
def qav (r r':R2)(ta tb tc:TE):TE:=fun σ H Q=>ta σ H fun x H1=>tb σ H1 fun y H2=>r x y H2 fun z H3=>∃k,z= .bl k/\
 (if k=true then tc σ H3 fun w' H4=>r' y w' H4 Q else Q (.bl false) H3)
theorem q9H {op op':CmpOp}{r r':R2}(ho:OpR X (compareOp op) r)(ho':OpR X (compareOp op') r')(ha:PE X a ta)(hb:PE X b tb)(hc:PE X c tc)
  (hm:lastMarks [op,op'] [b,c]=false:=by with_unfolding_all rfl):PE X (.Compare a [op,op'] [b,c] pos) (qav r r' ta tb tc):=by
 intro pins s σ H Q I h
 refine Compare_chain (thn (ha pins s σ H _ I h) fun v s1 ⟨x,H1,I1,r1,q1⟩=>chain_link (thn (hb pins s1 σ H1 _ I1 q1) fun u s2 ⟨y,H2,I2,r2,q2⟩=>
  thn (ho pins s2 σ H2 x y v u _ I2 r1 r2 q2) fun d s3 ⟨z,H3,I3,r3,k,e,q3⟩=>?_)) hm
 subst e
 cases r3
 refine wpAny_truthy_bool ?_
 cases k with
 |false=>exact ite_ff ⟨.bl false,H3,I3,rfl,q3⟩
 |true=>exact ite_tt (chain_last (thn (hc pins s3 σ H3 _ I3 q3) fun w' s4 ⟨z',H4,I4,r4,q4⟩=>ho' pins s4 σ H4 y z' u w' Q I4 r2 r4 q4))
theorem q5l:(sizeLine:Nat)<2 ^ 63:=by rw[sizeLine_eq];decide
theorem q4O {x:V}{us:List Value}(r:Vals [x] us):∃u,us=[u]/\RelV x u:=by
 cases r with
 |cons r1 r2=>cases r2;exact⟨_,rfl,r1⟩
theorem qaX {x y:V}{us:List Value}(r:Vals [x,y] us):∃u w',us=[u,w']/\RelV x u/\RelV y w':=by
 cases r with
 |cons r1 r2=>
  cases r2 with
  |cons r3 r4=>cases r4;exact⟨_,_,rfl,r1,r3⟩
theorem q95 (hc:X.calm=true):q24 X (.builtin "max") (fun xs H Q=>∃i j,xs=[.int i,.int j]/\Q (.int (if j>i then j else i)) H):=by
 intro pins s σ H xs us Q I r h
 obtain⟨i,j,rfl,q⟩:=h
 obtain⟨u,w',rfl,⟨t,rfl⟩,⟨t',rfl⟩⟩:=qaX r
 refine max_two_ints (I.ok.hd hc) fun h' tk k=>⟨_,H,I.kept k,?_,q⟩
 by_cases hj:j>i
 ·rw [if_pos hj,if_pos hj];exact⟨_,rfl⟩
 ·rw [if_neg hj,if_neg hj];exact⟨_,rfl⟩
theorem q98:q24 X (.type "int") (fun xs H Q=>(∃i,xs=[.int i]/\Q (.int i) H)\/∃k,xs=[.bl k]/\Q (.int (if k then 1 else 0)) H):=by
 intro pins s σ H xs us Q I r h
 rcases h with⟨i,rfl,q⟩|⟨k,rfl,q⟩
 ·obtain ⟨u,rfl,t,rfl⟩:=q4O r
  exact call_int_int ⟨.int i,H,I,⟨_,rfl⟩,q⟩
 ·obtain ⟨u,rfl,r1⟩:=q4O r
  cases r1
  exact call_int_bool ⟨.int (if k then 1 else 0),H,I.tok _,⟨_,rfl⟩,q⟩
end
structure ObjM (h:Heap)(x dx C:Addr)(mA:Str->Option Value):Prop where
 obj:h.get? x=some (PySem.W.instObj C dx)
 ns:h.Ns1 dx mA
 ne:dx≠x
theorem q8m {h:Heap}{dx:Addr}{mA:Str->Option Value}(n:h.Ns1 dx mA):∃od,h.get? dx=some od/\∀name,PySem.W.lookIn name od=some (mA name):=by
 obtain⟨o,es,ep,ho,hd,hk,_,hm⟩:=n
 refine⟨o,ho,fun name=>?_⟩
 have e:=hm name
 unfold nsFind findBy at e
 rw[<-Array.find?_toList] at e
 unfold PySem.W.lookIn
 rw[hd]
 dsimp only
 split
 ·rename_i y q
  rw[q] at e
  exact congrArg some e
 ·rename_i q
  rw[q] at e
  have a:es.toList.any (·.refKey)=false:=by
   rw[List.any_eq_false]
   intro y hy
   obtain⟨z,t,hkey⟩:=hk y (Array.mem_toList_iff.mp hy)
   simp[DictEntry.refKey,hkey]
  have a':¬es.toList.any (·.refKey)=true:=by rw[a];exact Bool.false_ne_true
  rw[if_neg a']
  exact congrArg some e
theorem ObjM.look {h:Heap}{x dx C:Addr}{mA:Str->Option Value}(I:ObjM h x dx C mA):∃od,PySem.W.InstAt h x (PySem.W.instObj C dx) C (some od)/\∀name,PySem.W.lookIn name od=some (mA name):=
 let ⟨od,ho,hl⟩:=q8m I.ns
 ⟨od,⟨I.obj,rfl,rfl,ho⟩,hl⟩
section
variable {prog:Program}{w:World}{A:Around}{E:Value->Shared->Prop}{s:Shared}{K:W.Frag}{x dx C f:Addr}{mA:Str->Option Value}{name:Str}{v:Value}
theorem qcc {expr:Bool}{Q:Value->Shared->Prop}(X:K.In s.heap)(I:ObjM s.heap x dx C mA)(hg:PySem.W.plainGet K C name=true)(hh:PySem.W.hasDictIn K C=true)
  (ha:PySem.W.findIn K (.ref C) name=some none)(hv:mA name=some v)(hv':PySem.W.handedIn v=true)(h:Q v {s with toks:=s.toks+1}):
  wpAny (model prog w) A (getAttr (.ref x) name expr) Q E s:=by
 obtain⟨od,J,hl⟩:=I.look
 exact PySem.W.get_value X J (PySem.W.plainGet_of hg).1 (PySem.W.findObj_own hh ha rfl (by rw[hl,hv])) hv' h
theorem qad {pl:Sem Bool}{Q:Value×List Value->Shared->Prop}(X:K.In s.heap)(I:ObjM s.heap x dx C mA)(hg:PySem.W.plainGet K C name=true)
  (hf:PySem.W.findIn K (.ref C) name=some (some (.ref f)))(ht:PySem.W.isFn K (.ref f)=true)(hv:mA name=none)(h:Q (.ref f,[.ref x]) s):
  wpAny (model prog w) A (getMethod (.ref x) name pl) Q E s:=by
 obtain⟨od,J,hl⟩:=I.look
 exact PySem.W.method_fn X J (PySem.W.plainGet_of hg).1 (PySem.W.plainGet_of hg).2 hf (beq_iff_eq.mp ht) (by show(PySem.W.lookIn name od).map (·.isSome)=some false;rw[hl,hv];rfl) h
theorem set_map {ns:List Str}{Q:Unit->Shared->Prop}(X:K.In s.heap)(I:ObjM s.heap x dx C mA)
  (hs:PySem.W.findIn K (.ref C) "__setattr__"=some (some (.builtin "object.__setattr__")))(hp:PySem.W.plainOver K C=true)(ht:PySem.W.takerIn K C name=some none)(hh:PySem.W.hasDictIn K C=true)
  (hw:PySem.Within mA ns)(hsz:ns.length<=sizeLine)
  (h:∀h',ObjM h' x dx C (fun y=>if y=name then some v else mA y)->Heap.SameBut dx s.heap h'->Q () {s with heap:=h',toks:=s.toks+2}):
  wpAny (model prog w) A (setAttr (.ref x) name v) Q E s:=by
 obtain⟨od,J,hl⟩:=I.look
 refine PySem.W.set_plain X J hs (PySem.W.osa_open (s:={s with toks:=s.toks+1}) (r:=none) X J hp ht fun b=>?_)
 obtain⟨cd,hc,hd'⟩:=PySem.W.any_some hh
 have hx:s.heap.get? x=some ⟨.ref C,some dx,.plain,#[]⟩:=I.obj
 refine yD (wpAny_pure (yD (yD (wpAny_loadPart hx (yD (PySem.W.Looks.here (s:={s with toks:=s.toks+1}) (PySem.W.looks_clsIn X hc) ?_))))))
 rw[hd']
 refine wpAny_pure (a:=some dx) (yD (wpAny_pure (yD ?_)))
 refine wpAny_nsSet1 (s:={s with toks:=s.toks+1}) I.ns fun h' hn2 hs2=>?_
 obtain⟨oD,esD,epD,hoD,hdD,hcD⟩:=hn2.count (PySem.Within.cons name v hw)
 refine yD (wpAny_lookBehind hoD (by rw[hdD];exact pastItsLine_dict (Nat.le_trans hcD (by rw[List.length_cons];omega))) ?_)
 exact wpAny_pure (h _ ⟨(hs2.2 _ (Ne.symm I.ne)).trans I.obj,hn2,I.ne⟩ hs2)
theorem qa5 {R:Result->Shared->Prop}{vs:List Value}{kw:List (Str×Value)}(X:K.In s.heap)(hm:PySem.W.makesIn K C=true)
  (hi:PySem.W.findIn K (.ref C) "__init__"=some (some (.ref f)))(hf:PySem.W.typeIn K (.ref f)=some (.type "function"))
  (h:codeAny (model prog w) (A.under (.builtin "type.__call__" ⟨.ref C::vs,kw⟩)) (.call (.ref f) ⟨.ref (s.heap.objs.size+1)::vs,kw⟩) (PySem.W.InitBack (s.heap.objs.size+1) R)
   {s with heap:=(s.heap.push PySem.W.emptyDict).push (PySem.W.instObj C s.heap.objs.size)}):
  codeAny (model prog w) A (.call (.ref C) ⟨vs,kw⟩) R s:=by
 obtain⟨hh,g,d,t,os⟩:=s
 exact PySem.W.make_core (PySem.W.makes_of X hm) (PySem.W.looks_findIn X hi) (fun self=>PySem.W.bind_fn X self hf) (.inl rfl) h
end
def putF (f:Str)(v:V):List (Str×V)->List (Str×V)
 |[]=>[(f,v)]
 |(g,x)::r=>if g=f then(g,v)::r else(g,x)::putF f v r
theorem qQ (f g:Str)(v:V):∀fs:List (Str×V),(putF f v fs).lookup g=if g=f then some v else fs.lookup g
 |[]=>by
  show List.lookup g [(f,v)]=_
  by_cases h:g=f
  ·have hb:(g==f)=true:=beq_iff_eq.mpr h
   simp only[List.lookup,hb,if_pos h]
  ·have hb:(g==f)=false:=beq_eq_false_iff_ne.mpr h
   simp only[List.lookup,hb,if_neg h]
 |(k,x)::r=>by
  have ih:=qQ f g v r
  rw[show putF f v ((k,x)::r)=(if k=f then(k,v)::r else(k,x)::putF f v r) from rfl]
  by_cases hk:k=f
  ·rw [if_pos hk]
   by_cases h:g=k
   ·have hb:(g==k)=true:=beq_iff_eq.mpr h
    simp only[List.lookup,hb,if_pos (h.trans hk)]
   ·have hb:(g==k)=false:=beq_eq_false_iff_ne.mpr h
    simp only[List.lookup,hb,if_neg (fun e:g=f=>h (e.trans hk.symm))]
  ·rw [if_neg hk]
   by_cases h:g=k
   ·have hb:(g==k)=true:=beq_iff_eq.mpr h
    simp only[List.lookup,hb,if_neg (fun e:g=f=>hk (h.symm.trans e))]
   ·have hb:(g==k)=false:=beq_eq_false_iff_ne.mpr h
    simp only[List.lookup,hb]
    exact ih
theorem q1Z (f:Str)(v:V):∀fs:List (Str×V),f∈(putF f v fs).map (·.1)/\∀g,g∈fs.map (·.1)->g∈(putF f v fs).map (·.1)
 |[]=>⟨by simp[putF],fun g h=>by simp at h⟩
 |(k,x)::r=>by
  obtain⟨i1,i2⟩:=q1Z f v r
  rw[show putF f v ((k,x)::r)=(if k=f then(k,v)::r else(k,x)::putF f v r) from rfl]
  by_cases hk:k=f
  ·rw [if_pos hk]
   subst hk
   exact⟨by simp,fun g h=>by simpa using h⟩
  ·rw [if_neg hk]
   refine⟨?_,fun g h=>?_⟩
   ·rw [List.map_cons]
    exact List.mem_cons_of_mem _ i1
   ·rw [List.map_cons] at h ⊢
    rcases List.mem_cons.mp h with e|e
    ·exact List.mem_cons.mpr (.inl e)
    ·exact List.mem_cons_of_mem _ (i2 g e)
theorem q2p (f:Str)(v:V):∀fs:List (Str×V),(putF f v fs).length<=fs.length+1
 |[]=>by simp[putF]
 |(k,x)::r=>by
  have ih:=q2p f v r
  rw[show putF f v ((k,x)::r)=(if k=f then(k,v)::r else(k,x)::putF f v r) from rfl]
  by_cases hk:k=f
  ·rw [if_pos hk,List.length_cons,List.length_cons];omega
  ·rw [if_neg hk,List.length_cons,List.length_cons];omega
theorem RelO.some_of {v:V}{o:Option Value}(r:RelO (some v) o):∃u,o=some u/\RelV v u:=by
 cases o with
 |none=>exact(show False from r).elim
 |some u=>exact⟨u,rfl,r⟩
theorem RelO.none_of {o:Option Value}(r:RelO none o):o=none:=by
 cases o with
 |none=>rfl
 |some u=>exact(show False from r).elim
theorem q5n {v:V}{u:Value}(r:RelV v u):PySem.W.handedIn u=true:=by
 cases v with
 |non=>cases(show u=Value.none from r);rfl
 |bl b=>cases(show u=Value.bool b from r);rfl
 |int i=>obtain⟨t,e⟩:=(show∃t,u=Value.int i t from r);cases e;rfl
 |str x=>obtain⟨t,e⟩:=(show∃t,u=Value.str x t from r);cases e;rfl
 |byt b=>obtain⟨t,e⟩:=(show∃t,u=Value.bytes b t from r);cases e;rfl
 |flt b=>obtain⟨t,e⟩:=(show∃t,u=Value.float b t from r);cases e;rfl
 |ref a=>cases(show u=Value.ref a from r);rfl
 |ty n=>cases(show u=Value.type n from r);rfl
section
variable {P:Program}{w:World}{H H':Hp}{h h':Heap}{a C dx:Addr}{fs fs':List (Str×V)}
theorem q4o (hok:HOk P w H h)(e:H a=some (.ins C dx fs)):∃mA,ObjM h a dx C mA/\(∀f,RelO (fs.lookup f) (mA f))/\PySem.Within mA (fs.map (·.1))/\fs.length<=1000/\H dx=some (.own a):=by
 obtain⟨d,z,ne,ob,mA,n,r,q⟩:=(show q01 P w H h a (.ins C dx fs) from hok a _ e)
 exact⟨mA,⟨ob,n,ne⟩,r,q,z,d⟩
end
structure Cls (K:W.Frag)(C:Addr):Prop where
 pg:PySem.W.plainGet K C Str.empty=true
 hd:PySem.W.hasDictIn K C=true
 po:PySem.W.plainOver K C=true
 sa:PySem.W.findIn K (.ref C) "__setattr__"=some (some (.builtin "object.__setattr__"))
theorem Cls.get {K:W.Frag}{C:Addr}(c:Cls K C)(f:Str):PySem.W.plainGet K C f=true:=c.pg
def qH (K:W.Frag)(C:Addr)(f:Str):Prop:=PySem.W.findIn K (.ref C) f=some none
theorem qH.taker {K:W.Frag}{C:Addr}{f:Str}(n:qH K C f):PySem.W.takerIn K C f=some none:=by
 unfold PySem.W.takerIn
 rw[show PySem.W.findIn K (.ref C) f=some none from n]
 rfl
structure Meth (K:W.Frag)(C:Addr)(m:Str)(f:Addr):Prop where
 at_:PySem.W.findIn K (.ref C) m=some (some (.ref f))
 fn:PySem.W.isFn K (.ref f)=true
 kp:PySem.W.keepIn K (.ref f)=true
section
variable {X:Cx}{pins:List (Addr×Obj)}{σ:St}{H:Hp}{s:Shared}{a C dx:Addr}{fs:List (Str×V)}{f:Str}{v:V}{A:Around}{E:Value->Shared->Prop}
theorem q7e {b:Bool}{Q:Value->Shared->Prop}(I:Inv X pins σ H s)(e:H a=some (.ins C dx fs))(c:Cls X.K C)(n:qH X.K C f)(l:fs.lookup f=some v)
  (h:∀u s',Inv X pins σ H s'->RelV v u->Q u s'):wpAny (model X.prog X.w) A (getAttr (.ref a) f b) Q E s:=by
 obtain⟨mA,O,r,_,_,_⟩:=q4o I.hok e
 obtain⟨u,hu,ru⟩:=RelO.some_of (v:=v) (o:=mA f) (by rw[<-l];exact r f)
 exact qcc I.kIn O (c.get f) c.hd n hu (q5n ru) (h u _ (I.tok _) ru)
theorem q40 {m:Str}{g:Addr}{pl:Sem Bool}{Q:Value×List Value->Shared->Prop}(I:Inv X pins σ H s)(e:H a=some (.ins C dx fs))(c:Cls X.K C)(k:Meth X.K C m g)(l:fs.lookup m=none)
  (h:Q (.ref g,[.ref a]) s):wpAny (model X.prog X.w) A (getMethod (.ref a) m pl) Q E s:=by
 obtain⟨mA,O,r,_,_,_⟩:=q4o I.hok e
 have hn:mA m=none:=RelO.none_of (by rw[<-l];exact r m)
 exact qad I.kIn O (c.get m) k.at_ k.fn hn h
theorem q6X {y:V}{u:Value}{Q:Unit->Shared->Prop}(I:Inv X pins σ H s)(e:H a=some (.ins C dx fs))(c:Cls X.K C)(n:qH X.K C f)(hl:fs.length<1000)(ry:RelV y u)
  (h:∀s',Inv X pins σ (upd H a (.ins C dx (putF f y fs))) s'->Q () s'):wpAny (model X.prog X.w) A (setAttr (.ref a) f u) Q E s:=by
 obtain⟨mA,O,r,wi,_,ho⟩:=q4o I.hok e
 have hz:(fs.map (·.1)).length<=sizeLine:=by rw[yC,sizeLine_eq];omega
 refine set_map I.kIn O c.sa c.po n.taker c.hd wi hz fun h' O' sb=>h _ ?_
 have hd:∃o,h'.get? dx=some o:=let ⟨o,_,_,e',_⟩:=O'.ns;⟨o,e'⟩
 refine I.write (x:=a) (e:=dx) (by rw[e];exact True.intro) (.inr ho) (fun b q hb z=>(sb.2 b hb).trans z) hd ?_
 refine⟨by rw[ql O.ne];exact ho,?_,O.ne,O'.obj,_,O'.ns,fun g=>?_,fun g hg=>?_⟩
 ·have:=q2p f y fs;omega
 ·show RelO ((putF f y fs).lookup g) (if g=f then some u else mA g)
  rw[qQ]
  by_cases q:g=f
  ·rw [if_pos q,if_pos q];exact ry
  ·rw [if_neg q,if_neg q];exact r g
 ·by_cases q:g=f
  ·rw [q];exact(q1Z f y fs).1
  ·refine (q1Z f y fs).2 g (wi g fun z=>hg ?_)
   show(if g=f then some u else mA g)=none
   rw[if_neg q];exact z
theorem Inv.made (I:Inv X pins σ H s):Inv X pins σ (upd (upd H s.heap.objs.size (.own (s.heap.objs.size+1))) (s.heap.objs.size+1) (.ins C s.heap.objs.size []))
  {s with heap:=(s.heap.push PySem.W.emptyDict).push (PySem.W.instObj C s.heap.objs.size)}:=by
 have e1:(s.heap.push PySem.W.emptyDict).get? s.heap.objs.size=some PySem.W.emptyDict:=Heap.get?_push_size s.heap rfl
 have e2:((s.heap.push PySem.W.emptyDict).push (PySem.W.instObj C s.heap.objs.size)).get? (s.heap.objs.size+1)=some (PySem.W.instObj C s.heap.objs.size):=by
  have:=Heap.get?_push_size (s.heap.push PySem.W.emptyDict) (o:=PySem.W.instObj C s.heap.objs.size) rfl
  rwa [Heap.size_push] at this
 have e3:(s.heap.push PySem.W.emptyDict).Ns s.heap.objs.size (fun _=>none):=⟨PySem.W.emptyDict,#[],_,e1,rfl,(fun e he=>absurd he (by simp)),fun _=>rfl⟩
 have I1:=I.laid (a:=s.heap.objs.size) (o:= .own (s.heap.objs.size+1)) (h':=s.heap.push PySem.W.emptyDict) (t':=s.toks) (fun b u q=>Heap.get?_push_of_some _ q) (Nat.le_refl _) ⟨_,e1⟩
 refine I1.laid (a:=s.heap.objs.size+1) (o:= .ins C s.heap.objs.size []) (t':=s.toks) (fun b u q=>Heap.get?_push_of_some _ q) (Nat.le_of_eq (Heap.size_push _ _)) ?_
 have ne:s.heap.objs.size≠s.heap.objs.size+1:=Nat.ne_of_lt (Nat.lt_succ_self _)
 refine⟨by rw[ql ne,qg],Nat.zero_le _,ne,e2,fun _=>none,(Heap.Ns1.of_empty e3).at fun o q=>Heap.get?_push_of_some _ q,fun _=>True.intro,fun y hy=>absurd rfl hy⟩
theorem q9d {prog:Program}{w:World}{env:Env}{e:Expr}{f:Str}{pos:Pos}{s:Shared}{Q:Value->Shared->Prop}(hb:attributeBase e f env (eval e env)=eval e env)
  (h:wpAny (model prog w) A (eval e env) (fun o s₁=>wpAny (model prog w) A (getAttr o f true) Q E s₁) E s):wpAny (model prog w) A (eval (.Attribute e f pos) env) Q E s:=
 Attribute_any_ h (by rw[arm_eval_Attribute,hb])
end
def tFld (K:W.Frag)(ta:TE)(f:Str):TE:=fun σ H Q=>ta σ H fun x H1=>∃a C dx fs v,x= .ref a/\H1 a=some (.ins C dx fs)/\Cls K C/\qH K C f/\fs.lookup f=some v/\Q v H1
def sFld (K:W.Frag)(ta tv:TE)(f:Str):TS:=fun D σ H=>tv σ H fun y H1=>ta σ H1 fun x H2=>∃a C dx fs,x= .ref a/\H2 a=some (.ins C dx fs)/\Cls K C/\qH K C f/\fs.length<1000/\
 D.nx σ (upd H2 a (.ins C dx (putF f y fs)))
section
variable {X:Cx}{o e value:Expr}{f:Str}{pos pos' tpos:Pos}{ta tv:TE}
theorem pe_fld (he:PE X e ta)(hb:attributeBase e f X.env (eval e X.env)=eval e X.env):PE X (.Attribute e f pos) (tFld X.K ta f):=by
 intro pins s σ H Q I h
 refine q9d hb (thn (he pins s σ H _ I h) fun u s1 ⟨x,H1,I1,rx,a,C,dx,fs,v,ex,ea,c,n,l,q⟩=>?_)
 subst ex
 obtain rfl:u=Value.ref a:=rx
 exact q7e I1 ea c n l fun u' s2 I2 ru=>⟨v,H1,I2,ru,q⟩
theorem ps_fld (ha:PE X o ta)(hv:PE X value tv)(hs:swapsWith value (some (.Attribute o f pos')) pos.line X.env=pure false):PS X (.Assign [.Attribute o f pos'] value pos) (sFld X.K ta tv f):=by
 intro pins s σ H D I h
 refine plainObj_wpAny_Assign_Attribute (thn (hv pins s σ H _ I h) fun u s1 ⟨y,H1,I1,ry,q⟩=>thn (ha pins s1 σ H1 _ I1 q) fun ov s2 ⟨x,H2,I2,rx,a,C,dx,fs,ex,ea,c,n,l,q2⟩=>?_) hs
 subst ex
 obtain rfl:ov=Value.ref a:=rx
 exact q6X I2 ea c n l ry fun s3 I3=>⟨σ,_,I3,q2⟩
end
section
variable {X:Cx}{pins:List (Addr×Obj)}{σ:St}{H:Hp}{s:Shared}{A:Around}{E:Value->Shared->Prop}{Q:Value->Shared->Prop}{c:Value}{b:Bool}
inductive TyOf (K:W.Frag)(H:Hp):V->Value->Prop where
 |non:TyOf K H .non (.type "NoneType")
 |bl (x:Bool):TyOf K H (.bl x) (.type "bool")
 |int (i:Int):TyOf K H (.int i) (.type "int")
 |str (x:Str):TyOf K H (.str x) (.type "str")
 |flt (x:UInt64):TyOf K H (.flt x) (.type "float")
 |lst {a:Addr} {xs:List V} (e:H a=some (.lst xs)):TyOf K H (.ref a) (.type "list")
 |frz {a:Addr} {o:Obj} {xs:List V} (e:H a=some (.frz o (.lst xs))):TyOf K H (.ref a) (.type "list")
 |tup {a:Addr} {xs:List V} (e:H a=some (.tup xs)):TyOf K H (.ref a) (.type "tuple")
 |dK {a:Addr} {kvs:List (Key×V)} (e:H a=some (.dK kvs)):TyOf K H (.ref a) (.type "dict")
 |dT {a:Addr} {kvs:List (List Key×V)} (e:H a=some (.dT kvs)):TyOf K H (.ref a) (.type "dict")
 | ins {a C dx:Addr} {fs:List (Str×V)} (e:H a=some (.ins C dx fs)) (cl:Cls K C) (ha:PySem.W.findIn K (.ref C) "__class__"=some (some (.builtin "object.__class__")))
   (hn:PySem.W.specialIn K (.builtin "object.__class__") "__get__"=some (some (.builtin "getset_descriptor.__get__"))) (htk:PySem.W.takesIn K (.builtin "object.__class__")=some true)
   (hm:PySem.W.mroIn K C (.type "object")=some true):TyOf K H (.ref a) (.ref C)
theorem q8v {x:V}{u t:Value}(I:Inv X pins σ H s)(rx:RelV x u)(ty:TyOf X.K H x t)(e:PySem.W.kitOne X.K t c=some b)(h:∀tk,Q (.bool b) {s with toks:=tk}):
  wpAny (model X.prog X.w) A (call (.builtin "isinstance") [u,c]) Q E s:=by
 cases ty with
 |non=>cases(show u=Value.none from rx);exact PySem.W.kia_one PySem.W.kitx_none I.kIn True.intro e (fun z=>nomatch z) h
 |bl y=>cases(show u=Value.bool y from rx);exact PySem.W.kia_one PySem.W.kitx_bool I.kIn True.intro e (fun z=>nomatch z) h
 |int i=>obtain⟨t,q⟩:=(show∃t,u=Value.int i t from rx);cases q;exact PySem.W.kia_one PySem.W.kitx_int I.kIn True.intro e (fun z=>nomatch z) h
 |str y=>obtain⟨t,q⟩:=(show∃t,u=Value.str y t from rx);cases q;exact PySem.W.kia_one PySem.W.kitx_str I.kIn True.intro e (fun z=>nomatch z) h
 |flt y=>obtain⟨t,q⟩:=(show∃t,u=Value.float y t from rx);cases q;exact PySem.W.kia_one PySem.W.kitx_float I.kIn True.intro e (fun z=>nomatch z) h
 | @lst a xs ea=>
  cases(show u=Value.ref a from rx)
  obtain⟨_,_,n,_,h1⟩:=(show q01 X.prog X.w H s.heap a (.lst xs) from I.hok a _ ea)
  exact PySem.W.kia_one PySem.W.kitx_list I.kIn ⟨_,h1,rfl⟩ e (fun z=>nomatch z) h
 | @frz a ob xs ea=>
  cases(show u=Value.ref a from rx)
  obtain⟨_,_,_,n,_,h1⟩:=(show q01 X.prog X.w H s.heap a (.frz ob (.lst xs)) from I.hok a _ ea)
  exact PySem.W.kia_one PySem.W.kitx_list I.kIn ⟨_,h1,rfl⟩ e (fun z=>nomatch z) h
 | @tup a xs ea=>
  cases(show u=Value.ref a from rx)
  obtain⟨_,_,_,p⟩:=(show q01 X.prog X.w H s.heap a (.tup xs) from I.hok a _ ea)
  obtain⟨o,h1,h2,_⟩:=p
  exact PySem.W.kia_one PySem.W.kitx_tuple I.kIn ⟨o,h1,h2⟩ e (fun z=>nomatch z) h
 | @dK a kvs ea=>
  cases(show u=Value.ref a from rx)
  obtain⟨_,_,vs,_,p⟩:=(show q01 X.prog X.w H s.heap a (.dK kvs) from I.hok a _ ea)
  obtain⟨o,es,ep,h1,h2,_⟩:=p
  exact PySem.W.kia_one PySem.W.kitx_dict I.kIn ⟨o,h1,h2.1⟩ e (fun z=>nomatch z) h
 | @dT a kvs ea=>
  cases(show u=Value.ref a from rx)
  obtain⟨_,_,xs,_,o,es,ep,h1,h2,_⟩:=(show q01 X.prog X.w H s.heap a (.dT kvs) from I.hok a _ ea)
  exact PySem.W.kia_one PySem.W.kitx_dict I.kIn ⟨o,h1,h2.1⟩ e (fun z=>nomatch z) h
 | @ins a C dx fs ea cl ha hn htk hm=>
  cases(show u=Value.ref a from rx)
  obtain⟨mA,O,_⟩:=q4o I.hok ea
  obtain⟨od,J,_⟩:=O.look
  exact PySem.W.kia_one (PySem.W.kitx_own (cl.get _) cl.hd ha hn htk hm) I.kIn J e (fun z=>nomatch z) h
end
structure Room (k:Nat)(A:Around):Prop where
 hd:A.handled=none
 dp:A.depth+3*k+5<recursionLimit
 un:A.units+16*k+200<cLine
 gd:A.guards=some []
theorem Room.mono {j k:Nat}{A:Around}(r:Room k A)(h:j<=k):Room j A:=⟨r.hd,by have:=r.dp;omega,by have:=r.un;omega,r.gd⟩
theorem Room.deeper {k:Nat}{A:Around}(r:Room (k+1) A)(env:Env):Room k (A.deeper env):=
 ⟨r.hd,by have:=r.dp;show A.depth+1+3*k+5<_;omega,by have:=r.un;show A.units+3+16*k+200<_;omega,r.gd⟩
theorem q7c {A:Around}{C:Addr}{us:List Value}{kw:List (Str×Value)}:(A.under (.builtin "type.__call__" ⟨.ref C::us,kw⟩)).depth=A.depth+1:=by
 first|rfl|simp[Around.under,Code.weight,Code.isCreation,Code.isGuard,Code.isCaller,Code.frames,Code.isFrame,guardIds]
theorem q7b {A:Around}{C:Addr}{us:List Value}{kw:List (Str×Value)}:(A.under (.builtin "type.__call__" ⟨.ref C::us,kw⟩)).units=A.units+1:=by
 first|rfl|simp[Around.under,Code.cUnits,Code.frames,Code.isFrame]
theorem Room.make {k:Nat}{A:Around}(r:Room (k+1) A)(C:Addr)(us:List Value)(kw:List (Str×Value)):Room k (A.under (.builtin "type.__call__" ⟨.ref C::us,kw⟩)):=
 ⟨r.hd,by have:=r.dp;rw[q7c];omega,by have:=r.un;rw[q7b];omega,by simp[Around.under,Code.guards,Code.isGuard,guardIds,pushGuards,r.gd]⟩
theorem Room.depth {k:Nat}{A:Around}(r:Room k A):A.depth<recursionLimit:=by have:=r.dp;omega
theorem Room.units {k:Nat}{A:Around}(r:Room k A):A.units+64<cLine:=by have:=r.un;omega
def tNil:TA:=fun _ H Q=>Q [] H
def qb4 (ta:TE)(tr:TA):TA:=fun σ H Q=>ta σ H fun x H1=>tr σ H1 fun xs H2=>Q (x::xs) H2
section
variable {X:Cx}{e:Expr}{es:List Expr}{te:TE}{t:TA}{pos:Pos}
theorem qe:PA X [] tNil:=fun _ _ _ _ H Q I h=>Calls.spliced_nil ⟨[],H,I,.nil,h⟩
theorem qa (ha:PE X e te)(hr:PA X es t)(hs:starEach (e::es) X.env=(false,eval e X.env)::starEach es X.env:=by rfl):PA X (e::es) (qb4 te t):=by
 intro pos pins s σ H Q I h
 rw[hs]
 show wpAny _ _ (spliced ((false,eval e X.env)::backTo pos (starEach es X.env))) _ _ s
 refine Calls.spliced_cons (thn (ha pins s σ H _ I h) fun u s1 ⟨x,H1,I1,r1,q1⟩=>?_)
 exact thn (hr pos pins s1 σ H1 _ I1 q1) fun us s2 ⟨xs,H2,I2,r2,q2⟩=>⟨x::xs,H2,I2,.cons r1 r2,q2⟩
def tTup (t:TA):TE:=fun σ H Q=>t σ H fun xs H1=>xs.length<=sizeLine/\∀p,H1 p=none->Q (.ref p) (upd H1 p (.tup xs))
def tLst (t:TA):TE:=fun σ H Q=>t σ H fun xs H1=>xs.length<=sizeLine/\∀p,H1 p=none->Q (.ref p) (upd H1 p (.lst xs))
theorem qG {x1}(h:PA X es t):PE X (.Tuple es x1 pos) (tTup t):=by
 intro pins s σ H Q I hq
 refine wpAny_Tuple_spliced (thn (h pos pins s σ H _ I hq) fun us s1 ⟨xs,H1,I1,r,z,q⟩=>⟨by rw[<-r.length];exact z,?_⟩)
 have hf:H1 s1.heap.objs.size=none:=I1.hok.fresh (Nat.le_refl _)
 refine⟨.ref s1.heap.objs.size,upd H1 s1.heap.objs.size (.tup xs),I1.laid (t':=s1.toks) (fun b u e=>Heap.get?_push_of_some _ e) (Nat.le_refl _) ?_,rfl,q _ hf⟩
 exact⟨z,us,r,⟨_,Heap.get?_push_size _ rfl,rfl,_,rfl⟩⟩
theorem q0w (h:PA X es t):PE X (.List es pos) (tLst t):=by
 intro pins s σ H Q I hq
 refine wpAny_List_spliced (thn (h pos pins s σ H _ I hq) fun us s1 ⟨xs,H1,I1,r,z,q⟩=>⟨by rw[<-r.length];exact z,?_⟩)
 have hf:H1 s1.heap.objs.size=none:=I1.hok.fresh (Nat.le_refl _)
 refine⟨.ref s1.heap.objs.size,upd H1 s1.heap.objs.size (.lst xs),I1.laid (t':=s1.toks) (fun b u e=>Heap.get?_push_of_some _ e) (Nat.le_refl _) ?_,rfl,q _ hf⟩
 exact⟨z,us,0,r,Heap.get?_push_size _ rfl⟩
end
abbrev Sp:=List V->Hp->VK->XK->Prop
abbrev CXT:=List Env->Hp->Shared->XK->Value->Shared->Prop
structure Env0 (P:Program)(w:World)(K:W.Frag)(mg:Str->Option Value)(base:Heap)(A:Around)(outer:List Env)(s:Shared)(H:Hp):Prop where
 frames:A.frames=some outer
 mod:Mod K mg base
 bs:∀b o,base.get? b=some o->s.heap.get? b=some o/\H b=none
 bsz:base.objs.size<=s.heap.objs.size
 funs:s.heap.FunFrames base outer
 frf:∀b∈frs outer,H b=none
 hok:HOk P w H s.heap
 bare:AllBare s.gens
def CE (outer:List Env)(P:Program)(w:World)(H:Hp)(s:Shared)(Q:VK)(u:Value)(s':Shared):Prop:=
 ∃v H',s'.os=s.os/\AllBare s'.gens/\Un (frs outer) [] H H' s.heap s'.heap/\HOk P w H' s'.heap/\RelV v u/\Q v H'
def CR (CX:CXT)(outer:List Env)(P:Program)(w:World)(H:Hp)(s:Shared)(Q:VK)(E:XK)(r:Result)(s':Shared):Prop:=
 match r with
 | .ok (.ret u)=>CE outer P w H s Q u s'
 | .ok _=>False
 | .error e=>CX outer H s E e s'
structure FnOk (P:Program)(w:World)(K:W.Frag)(mg:Str->Option Value)(base:Heap)(CX:CXT)(k:Nat)(f:Addr)(fd:FuncData)(ps:List Str)(sp:Sp):Prop where
 len:∀vs H Q E,sp vs H Q E->vs.length=ps.length
 run:∀(A:Around) (outer:List Env) (s:Shared) (H:Hp) (args:Args) (us:List Value) (vs:List V) (Q:VK) (E:XK),Room k A->Env0 P w K mg base A outer s H->BindsTo s fd args (ps.zip us)->Vals vs us->sp vs H Q E->
  codeAny (model P w) A (.call (.ref f) args) (CR CX outer P w H s Q E) s
theorem Env0.make {P:Program}{w:World}{K:W.Frag}{mg:Str->Option Value}{base:Heap}{A:Around}{outer:List Env}{s:Shared}{H:Hp}(e:Env0 P w K mg base A outer s H)(C:Addr)(us:List Value)(kw:List (Str×Value)):
  Env0 P w K mg base (A.under (.builtin "type.__call__" ⟨.ref C::us,kw⟩)) outer s H:=⟨by first|exact e.frames|(simpa[Around.under,Code.envs,Code.isFrame,pushEnvs] using e.frames),e.mod,e.bs,e.bsz,e.funs,e.frf,e.hok,e.bare⟩
section
variable {X:Cx}{pins:List (Addr×Obj)}{σ:St}{H:Hp}{s s':Shared}
theorem Inv.env0 (I:Inv X pins σ H s):Env0 X.prog X.w X.K X.mg X.base X.A X.stack s H:=
 ⟨I.ok.frames,I.ok.mod,I.bs,Nat.le_trans I.ok.bsz I.sz,I.stack,I.stkFree,I.hok,I.bare⟩
theorem Inv.after {Q:VK}{u:Value}(I:Inv X pins σ H s)(h:CE X.stack X.prog X.w H s Q u s'):EP X pins σ Q u s':=by
 obtain⟨v,H',os,bare,un,hok,r,q⟩:=h
 obtain⟨hh,g,d,t,os'⟩:=s'
 obtain rfl:os'=s.os:=os
 exact⟨v,H',I.call (h':=hh) (g':=g) (d':=d) (t':=t) (ch:=[]) un hok bare (fun b z=>absurd z (by simp)),r,q⟩
end
def q7x (sp:Sp)(dvs:List V)(E:XK)(t:TA):TE:=fun σ H Q=>t σ H fun vs H1=>sp (vs++dvs) H1 Q E
def q7v (C:Addr)(sp:Sp)(dvs:List V)(E:XK)(t:TA):TE:=fun σ H Q=>t σ H fun vs H1=>∀x dx,H1 x=none->H1 dx=none->dx≠x->
 sp (.ref x::(vs++dvs)) (upd (upd H1 dx (.own x)) x (.ins C dx [])) (fun v H2=>v= .non/\Q (.ref x) H2) E
def q0W (K:W.Frag)(fd:FuncData)(ps:List Str)(ds:List Value):Prop:=
 ∀(s:Shared) (us:List Value),K.In s.heap->(us++ds).length=ps.length->BindsTo s fd ⟨us,[]⟩ (ps.zip (us++ds))
theorem q0W.all {K:W.Frag}{fd:FuncData}{ps:List Str}(h:∀us:List Value,us.length=ps.length->bindArgs fd ⟨us,[]⟩=pure (ps.zip us)):q0W K fd ps []:=fun s us _ hl=>by
 rw[List.append_nil] at hl ⊢
 exact .of_eq (h us hl)
def q31 (CX:CXT)(X:Cx)(E:XK):Prop:=∀(pins:List (Addr×Obj)) (σ:St) (H:Hp) (s:Shared) (e:Value) (s':Shared),Inv X pins σ H s->CX X.stack H s E e s'->X.xe e s'
section
variable {X:Cx}{CX:CXT}{k:Nat}{f C:Addr}{fd:FuncData}{ps:List Str}{sp:Sp}{dvs:List V}{ds:List Value}{E:XK}{x m:Str}{p pos apos:Pos}{e o:Expr}{es:List Expr}{ta:TE}{t:TA}
theorem q6p {pins:List (Addr×Obj)}{σ:St}{H:Hp}{s:Shared}{Q:VK}{us:List Value}{vs:List V}(F:FnOk X.prog X.w X.K X.mg X.base CX k f fd ps sp)(hr:Room k X.A)(hb:q0W X.K fd ps ds)(hd:Vals dvs ds)(hx:q31 CX X E)
  (I:Inv X pins σ H s)(r:Vals vs us)(h:sp (vs++dvs) H Q E):wpAny (model X.prog X.w) X.A (call (.ref f) us) (EP X pins σ Q) X.xe s:=by
 have r2:Vals (vs++dvs) (us++ds):=r.append hd
 have hl:(us++ds).length=ps.length:=by rw[<-r2.length];exact F.len _ _ _ _ h
 refine wpAny_call (codeAny_mono (F.run X.A X.stack s H ⟨us,[]⟩ (us++ds) (vs++dvs) Q E hr I.env0 (hb s us I.kIn hl) r2 h) fun r s' hq=>?_)
 cases r with
 |error e=>exact hx pins σ H s e s' I hq
 |ok fl=>
  cases fl with
  |ret u=>exact I.after hq
  |next=>exact False.elim hq
  |brk=>exact False.elim hq
  |cont=>exact False.elim hq
theorem q87 (F:FnOk X.prog X.w X.K X.mg X.base CX k f fd ps sp)(hr:Room k X.A)(hg:Gl X x)(hm:X.mg x=some (.ref f))(hk:PySem.W.keepIn X.K (.ref f)=true)(hb:q0W X.K fd ps ds)(hd:Vals dvs ds)(hx:q31 CX X E)
  (ha:PA X (e::es) t)(hdb:(x==("__debug__":Str))=false:=by decide)(he:starEach (e::es) X.env=(false,eval e X.env)::starEach es X.env:=by rfl)(hpl:(backTo pos (starEach es X.env)).any (·.1)=false:=by rfl):
  PE X (.Call (.Name x p) (e::es) [] pos) (q7x sp dvs E t):=by
 intro pins s σ H Q I h
 refine wpAny_Call_Name_kw (q1J I hg hm ?_ hdb)
 refine PySem.W.callWith_K (h₀:=X.base) I.ok.mod.kin hk (thn (ha pos pins s σ H _ I h) fun us s1 ⟨vs,H1,I1,r,q⟩=>⟨I1.kIn,?_⟩) he hpl
 exact q6p F hr hb hd hx I1 r q
structure Mk (K:W.Frag)(C f:Addr):Prop where
 makes:PySem.W.makesIn K C=true
 init:PySem.W.findIn K (.ref C) "__init__"=some (some (.ref f))
 fn:PySem.W.isFn K (.ref f)=true
 kp:PySem.W.keepIn K (.ref C)=true
theorem q6o {pins:List (Addr×Obj)}{σ:St}{H:Hp}{s:Shared}{Q:VK}{us:List Value}{vs:List V}(M:Mk X.K C f)(F:FnOk X.prog X.w X.K X.mg X.base CX k f fd ps sp)(hr:Room (k+1) X.A)(hb:q0W X.K fd ps ds)(hd:Vals dvs ds)
  (hx:q31 CX X E)(I:Inv X pins σ H s)(r:Vals vs us)
  (h:∀x dx,H x=none->H dx=none->dx≠x->sp (.ref x::(vs++dvs)) (upd (upd H dx (.own x)) x (.ins C dx [])) (fun v H2=>v= .non/\Q (.ref x) H2) E):
  wpAny (model X.prog X.w) X.A (call (.ref C) us) (EP X pins σ Q) X.xe s:=by
 have hq:=h (s.heap.objs.size+1) s.heap.objs.size (I.hok.fresh (Nat.le_succ _)) (I.hok.fresh (Nat.le_refl _)) (Nat.ne_of_lt (Nat.lt_succ_self _))
 have I2:=Inv.made (C:=C) I
 have r2:Vals (V.ref (s.heap.objs.size+1)::(vs++dvs)) (Value.ref (s.heap.objs.size+1)::(us++ds)):= .cons rfl (r.append hd)
 have hl:(Value.ref (s.heap.objs.size+1)::us++ds).length=ps.length:=by
  have e:=r2.length
  rw[F.len _ _ _ _ hq] at e
  exact e.symm
 refine wpAny_call (qa5 (f:=f) I.kIn M.makes M.init (beq_iff_eq.mp M.fn) (codeAny_mono (F.run _ X.stack _ _ ⟨Value.ref (s.heap.objs.size+1)::us,[]⟩ (Value.ref (s.heap.objs.size+1)::(us++ds)) _ _ E (hr.make C us [])
  (I2.env0.make C us []) (hb _ (Value.ref (s.heap.objs.size+1)::us) I2.kIn hl) r2 hq) fun r s' hq'=>?_))
 cases r with
 |error e=>exact hx pins σ _ _ e s' I2 hq'
 |ok fl=>
  cases fl with
  |ret u=>
   obtain⟨v,H',I3,rv,ev,q3⟩:=I2.after hq'
   subst ev
   exact⟨rv,⟨V.ref (s.heap.objs.size+1),H',I3,rfl,q3⟩⟩
  |next=>exact False.elim hq'
  |brk=>exact False.elim hq'
  |cont=>exact False.elim hq'
theorem qby (M:Mk X.K C f)(F:FnOk X.prog X.w X.K X.mg X.base CX k f fd ps sp)(hr:Room (k+1) X.A)(hg:Gl X x)(hm:X.mg x=some (.ref C))(hb:q0W X.K fd ps ds)(hd:Vals dvs ds)(hx:q31 CX X E)
  (ha:PA X (e::es) t)(hdb:(x==("__debug__":Str))=false:=by decide)(he:starEach (e::es) X.env=(false,eval e X.env)::starEach es X.env:=by rfl)(hpl:(backTo pos (starEach es X.env)).any (·.1)=false:=by rfl):
  PE X (.Call (.Name x p) (e::es) [] pos) (q7v C sp dvs E t):=by
 intro pins s σ H Q I h
 refine wpAny_Call_Name_kw (q1J I hg hm ?_ hdb)
 refine PySem.W.callWith_K (h₀:=X.base) I.ok.mod.kin M.kp (thn (ha pos pins s σ H _ I h) fun us s1 ⟨vs,H1,I1,r,q⟩=>⟨I1.kIn,?_⟩) he hpl
 exact q6o M F hr hb hd hx I1 r q
theorem q9F (M:Mk X.K C f)(F:FnOk X.prog X.w X.K X.mg X.base CX k f fd ps sp)(hr:Room (k+1) X.A)(hg:Gl X x)(hm:X.mg x=some (.ref C))(hb:q0W X.K fd ps ds)(hd:Vals dvs ds)(hx:q31 CX X E)
  (hdb:(x==("__debug__":Str))=false:=by decide):PE X (.Call (.Name x p) [] [] pos) (q7v C sp dvs E tNil):=by
 intro pins s σ H Q I h
 refine wpAny_Call_Name_kw (q1J I hg hm ?_ hdb)
 exact PySem.W.callWith_K0 I.kIn M.kp (q6o (us:=[]) M F hr hb hd hx I .nil h)
end
structure FnScope (N P:List Str)(sc:Scope):Prop where
 kind:sc.kind= .function
 co:sc.isCoroutine=false
 gen:sc.isGenerator=false
 nd:N.Nodup
 pre:N.take P.length=P
 par:∀x∈P,sc.names.lookup x=some .local\/sc.names.lookup x=some .cell
 nofree:∀y∈sc.names,y.2≠ .free
theorem q5x {kindOf:Str->Option NameKind}{x:Str}:∀{binds:List (Str×Value)} {m:Str->Option Value},(∀v,(x,v)∉binds)->bindL kindOf binds m x=m x
 |[],_,_=>rfl
 |(n,v)::r,m,h=>by
  unfold bindL
  rw[q5x fun w hw=>h w (List.mem_cons_of_mem _ hw)]
  split
  ·have:x≠n:=by rintro rfl;exact h v List.mem_cons_self
   simp[this]
  ·rfl
theorem q5z {kindOf:Str->Option NameKind}{x:Str}:∀{binds:List (Str×Value)} {m:Str->Option Value},(∀v,(x,v)∉binds)->bindC kindOf binds m x=m x
 |[],_,_=>rfl
 |(n,v)::r,m,h=>by
  unfold bindC
  rw[q5z fun w hw=>h w (List.mem_cons_of_mem _ hw)]
  split
  ·rfl
  ·have:x≠n:=by rintro rfl;exact h v List.mem_cons_self
   simp[this]
theorem q5y {kindOf:Str->Option NameKind}{x:Str}{v:Value}:∀{P:List Str} {vs:List Value} {i:Nat} {m:Str->Option Value},P.Nodup->P[i]? =some x->vs[i]? =some v->kindOf x=some .local->
  bindL kindOf (P.zip vs) m x=some v
 |[],_,_,_,_,h,_,_=>by simp at h
 |_::_,[],_,_,_,_,h,_=>by simp at h
 |p::P,w::vs,0,m,nd,h1,h2,hk=>by
  simp at h1 h2;subst h1;subst h2
  show bindL kindOf ((p,w)::P.zip vs) m p=_
  unfold bindL
  rw[q5x fun v hv=>(List.nodup_cons.mp nd).1 (List.of_mem_zip hv).1,if_pos hk]
  simp
 |p::P,w::vs,i+1,m,nd,h1,h2,hk=>by
  show bindL kindOf ((p,w)::P.zip vs) m x=_
  unfold bindL
  exact q5y (i:=i) (List.nodup_cons.mp nd).2 (by simpa using h1) (by simpa using h2) hk
theorem q5A {kindOf:Str->Option NameKind}{x:Str}{v:Value}:∀{P:List Str} {vs:List Value} {i:Nat} {m:Str->Option Value},P.Nodup->P[i]? =some x->vs[i]? =some v->kindOf x≠some .local->
  bindC kindOf (P.zip vs) m x=some v
 |[],_,_,_,_,h,_,_=>by simp at h
 |_::_,[],_,_,_,_,h,_=>by simp at h
 |p::P,w::vs,0,m,nd,h1,h2,hk=>by
  simp at h1 h2;subst h1;subst h2
  show bindC kindOf ((p,w)::P.zip vs) m p=_
  unfold bindC
  rw[q5z fun v hv=>(List.nodup_cons.mp nd).1 (List.of_mem_zip hv).1,if_neg hk]
  simp
 |p::P,w::vs,i+1,m,nd,h1,h2,hk=>by
  show bindC kindOf ((p,w)::P.zip vs) m x=_
  unfold bindC
  exact q5A (i:=i) (List.nodup_cons.mp nd).2 (by simpa using h1) (by simpa using h2) hk
def start (N:List Str)(vs:List V):St:=vs.map some++List.replicate (N.length - vs.length) none
def cxOf (CX:CXT)(P:Program)(w:World)(K:W.Frag)(mg:Str->Option Value)(base:Heap)(N:List Str)(qual:Str)(scope:Scope)(f:Addr)(cd:Value)(A:Around)(outer:List Env)(s:Shared)(H:Hp)(E:XK):Cx where
 prog:=P
 w:=w
 K:=K
 mg:=mg
 base:=base
 A:=A.deeper (envOfC qual scope s.heap.objs.size f cd)
 N:=N
 s₀:=s
 H₀:=H
 env:=envOfC qual scope s.heap.objs.size f cd
 outer:=outer
 stack:=envOfC qual scope s.heap.objs.size f cd::outer
 ex:=[]
 calm:=true
 fn:=fun _=>true
 pn:=[]
 xe:=fun e s'=>wpAny (model P w) (A.deeper (envOfC qual scope s.heap.objs.size f cd)) (leaving (envOfC qual scope s.heap.objs.size f cd) e) (fun _ s''=>CX outer H s E e s'') (fun e' s''=>CX outer H s E e' s'') s'
theorem q6L {sc:Scope}{n:Nat}{x:Str}(h:sc.names.lookup x=some .cell):∃c,(cellsFrom n sc.names []).lookup x=some c:=by
 have q:=PySem.W.cellsFrom_some sc.names n [] (.inl h)
 exact Option.isSome_iff_exists.mp q
theorem q8x {CX:CXT}{P:Program}{w:World}{K:W.Frag}{mg:Str->Option Value}{base:Heap}{N ps:List Str}{qual:Str}{scope:Scope}{f:Addr}{cd:Value}{A:Around}{outer:List Env}{s s1:Shared}{H:Hp}{E:XK}{us:List Value}{vs:List V}
  (S:FnScope N ps scope)(hd:A.handled=none)(e0:Env0 P w K mg base A outer s H)(hl:vs.length=ps.length)(r:Vals vs us)
  (x:InCallC s s.heap.objs.size (bindL (envOfC qual scope s.heap.objs.size f cd).kindOf (ps.zip us) fun _=>none) (cellsFrom (s.heap.objs.size+1) scope.names []) (bindC (envOfC qual scope s.heap.objs.size f cd).kindOf (ps.zip us) fun _=>none) s1):
  Inv (cxOf CX P w K mg base N qual scope f cd A outer s H E) [] (start N vs) H s1:=by
 have hpl:ps.length<=N.length:=by have:=congrArg List.length S.pre;rw[List.length_take] at this;omega
 obtain⟨h1,tk,rfl,hk⟩:=x.done
 have noA:∀b:Addr,b∉(cxOf CX P w K mg base N qual scope f cd A outer s H E).ex:=fun b z=>absurd (show b∈([]:List Addr) from z) (by simp)
 refine⟨⟨e0.mod,S.kind,rfl,rfl,Nat.le_refl _,fun y z c h1 h2=>?_,fun y hy=>?_,fun y c _ h=>?_,fun _=>hd,Around.frames_deeper e0.frames,.inr ⟨rfl,rfl⟩,fun b z=>absurd z (noA b),e0.bs,e0.bsz,fun b _ _=>noA b,fun b z=>absurd z (noA b),e0.funs,e0.frf⟩,
  rfl,e0.bare,Un.kept hk,⟨_,x.toInCall.ns,fun i y v h1 h2 h3=>?_⟩,fun y c h=>⟨_,x.cell y c h⟩,e0.hok.fresh (Nat.le_refl _),fun y c h=>?_,fun p hp=>absurd (show p∈([]:List (Addr×Obj)) from hp) (by simp),e0.hok.kept hk,?_⟩
 ·exact name_of_addr x.apart (PySem.mem_of_lookup h1) (PySem.mem_of_lookup h2)
 ·have hy:scope.names.lookup y=some .cell\/scope.names.lookup y=some .free:=hy
  rcases hy with hy|hy
  ·exact q6L hy
  ·exact absurd rfl (S.nofree _ (PySem.mem_of_lookup hy))
 ·exact Nat.le_of_lt (x.above y c (PySem.mem_of_lookup h))
 ·have hi:i<vs.length:=by
   unfold start at h2
   by_cases hi:i<vs.length
   ·exact hi
   ·rw [List.getElem?_append_right (by simpa using hi)] at h2
    rw[List.getElem?_replicate] at h2
    split at h2<;>cases h2
  have ha:vs[i]? =some v:=by
   unfold start at h2
   rw[List.getElem?_append_left (by simpa using hi),List.getElem?_map] at h2
   cases e:vs[i]? with
   |none=>rw[e] at h2;cases h2
   |some a=>rw[e] at h2;cases h2;rfl
  obtain⟨u,hu,rv⟩:=r.get ha
  have hp:ps[i]? =some y:=by
   rw[<-S.pre,List.getElem?_take_of_lt (by omega)];exact h1
  have ndP:ps.Nodup:=by rw[<-S.pre];exact S.nd.sublist (List.take_sublist _ _)
  refine⟨u,rv,?_⟩
  rcases S.par y (List.mem_of_getElem? hp) with k|k
  ·exact .inl ⟨k,q5y ndP hp hu k⟩
  ·obtain ⟨c,e⟩:=q6L (n:=s.heap.objs.size+1) k
   refine .inr ⟨.inl k,c,e,?_⟩
   have q:=x.cell y c e
   rw[q5A ndP hp hu (by show scope.names.lookup y≠_;rw[k];decide)] at q
   exact q
 ·exact e0.hok.fresh (Nat.le_of_lt (x.above y c (PySem.mem_of_lookup h)))
 ·unfold start
  show _=N.length
  rw[List.length_append,yC,List.length_replicate]
  omega
theorem qce {CX:CXT}{P:Program}{w:World}{K:W.Frag}{mg:Str->Option Value}{base:Heap}{k:Nat}{f:Addr}{name qual:Str}{params:Arguments}{body:List Stmt}{scope:Scope}{dV kV doc pm cdv ct oc:Value}{an od:Option Addr}
  {osl:Array (Option Value)}{N ps:List Str}{sp:Sp}(lk:K.lookup f=some ⟨oc,od,.func (PySem.W.fnOf name qual params body scope dV kV doc pm an cdv ct),osl⟩)(hcd:PySem.W.codeIn K cdv qual=true)(S:FnScope N ps scope)
  (len:∀vs H Q E,sp vs H Q E->vs.length=ps.length)
  (hbody:∀(A:Around) (outer:List Env) (s:Shared) (H:Hp) (vs:List V) (Q:VK) (E:XK),Room k (A.deeper (envOfC qual scope s.heap.objs.size f cdv))->sp vs H Q E->
   ∃t,PSs (cxOf CX P w K mg base N qual scope f cdv A outer s H E) body t/\t {nx:=fun _ H'=>Q .non H',rt:=Q} (start N vs) H):
  FnOk P w K mg base CX (k+1) f (PySem.W.fnOf name qual params body scope dV kV doc pm an cdv ct) ps sp:=by
 refine⟨len,fun A outer s H args us vs Q E hr e0 hb r hsp=>?_⟩
 have hl:=len _ _ _ _ hsp
 have KX:K.In s.heap:=e0.mod.kin.keeps fun b o e=>(e0.bs b o e).1
 have lim:s.heap.NoLimit:=e0.mod.nolimit.keeps fun b o e=>(e0.bs b o e).1
 have hkind:∀y∈ps.zip us,scope.names.lookup y.1=some .local\/(scope.names.lookup y.1=some .cell/\((cellsFrom (s.heap.objs.size+1) scope.names []).lookup y.1).isSome=true):=fun⟨n,v⟩ hy=>by
  rcases S.par n (List.of_mem_zip hy).1 with q|q
  ·exact .inl q
  ·exact .inr ⟨q,PySem.W.cellsFrom_some _ _ _ (.inl q)⟩
 refine codeAny_call_function hr.depth (KX _ _ lk) rfl S.co S.gen rfl (PySem.W.codeRec_of KX hcd) (hb _ _ _ _ ?_)
 refine wpAny_newFunctionEnv_cells S.kind hkind fun env he s1 x=>?_
 subst he
 refine⟨lim.keeps x.toInCall.keep,codeAny_func ?_⟩
 obtain⟨t,ht,hq⟩:=hbody A outer s H vs Q E (hr.deeper _) hsp
 have I:Inv (cxOf CX P w K mg base N qual scope f cdv A outer s H E) [] (start N vs) H s1:=q8x S hr.hd e0 hl r x
 refine wpAny_mono (ht [] s1 (start N vs) H _ I hq) (fun fl s' hs=>?_) fun e s' hs=>hs
 have fin:∀{σ':St} {H':Hp} {v:V} {u:Value},Inv (cxOf CX P w K mg base N qual scope f cdv A outer s H E) [] σ' H' s'->RelV v u->Q v H'->CE outer P w H s Q u s':=
  fun {σ' H' v u} J rv q=>⟨v,H',J.os,J.bare,J.base,J.hok,rv,q⟩
 cases fl with
 |ret u=>
  obtain⟨v,σ',H',J,rv,q⟩:=hs
  exact fin J rv q
 |next=>
  obtain⟨σ',H',J,q⟩:=hs
  exact fin (v:=V.non) (u:=Value.none) J rfl q
 |brk=>
  obtain⟨_,_,_,q⟩:=hs
  exact False.elim q
 |cont=>
  obtain⟨_,_,_,q⟩:=hs
  exact False.elim q
section
variable {X:Cx}{x:Str}{p pos:Pos}{e:Expr}{es:List Expr}{t:TA}{id T:String}{r:List V->Hp->VK->Prop}
def tCB (r:List V->Hp->VK->Prop)(t:TA):TE:=fun σ H Q=>t σ H fun vs H1=>r vs H1 Q
theorem qI (hc:q24 X (.builtin id) r)(hg:Gl X x)(hm:X.mg x=none)(hv:bootBuiltins x=some (.builtin id))(ha:PA X (e::es) t)(hn:x≠"__name__":=by decide)(hdb:(x==("__debug__":Str))=false:=by decide)
  (he:starEach (e::es) X.env=(false,eval e X.env)::starEach es X.env:=by rfl)(hpl:(backTo pos (starEach es X.env)).any (·.1)=false:=by rfl):PE X (.Call (.Name x p) (e::es) [] pos) (tCB r t):=by
 intro pins s σ H Q I h
 refine wpAny_Call_Name_kw (q3Y I hg hm hv ?_ hn hdb)
 exact PyProof.Rows.callWith_builtin1 (thn (ha pos pins s σ H _ I h) fun us s1 ⟨vs,H1,I1,r1,q1⟩=>hc pins s1 σ H1 vs us Q I1 r1 q1) he hpl
theorem q0V (hc:q24 X (.type T) r)(hg:Gl X x)(hm:X.mg x=none)(hv:bootBuiltins x=some (.type T))(ha:PA X (e::es) t)(hn:x≠"__name__":=by decide)(hdb:(x==("__debug__":Str))=false:=by decide)
  (he:starEach (e::es) X.env=(false,eval e X.env)::starEach es X.env:=by rfl)(hpl:(backTo pos (starEach es X.env)).any (·.1)=false:=by rfl):PE X (.Call (.Name x p) (e::es) [] pos) (tCB r t):=by
 intro pins s σ H Q I h
 refine wpAny_Call_Name_kw (q3Y I hg hm hv ?_ hn hdb)
 exact PyProof.Rows.callWith_type1 (thn (ha pos pins s σ H _ I h) fun us s1 ⟨vs,H1,I1,r1,q1⟩=>hc pins s1 σ H1 vs us Q I1 r1 q1) he hpl
end
end L2
namespace HT
open PySem PyProof.Rows
section
variable {prog:Program}{w:World}{A:Around}{E:Value->Shared->Prop}{s:Shared}
theorem qcw {t b:Addr}{vs ws:List Value}{Q:Value->Shared->Prop}(ht:IsTup s.heap t vs.toArray)(hb:IsTup s.heap b ws.toArray)(hv:vs≠[])
  (h1:ws=[]->Q (.ref t) s)(h2:ws≠[]->Q (.ref s.heap.objs.size) {s with heap:=s.heap.push {cls:= .type "tuple",data:= .seq (vs++ws).toArray}})
  (hsz:vs.length+ws.length<=sizeLine):wpAny (model prog w) A (binaryOp .Add (.ref t) (.ref b)) Q E s:=by
 obtain⟨⟨cls,dd,data,sl⟩,ho,hc,n,hd⟩:=id ht
 obtain⟨⟨cls2,dd2,data2,sl2⟩,ho2,hc2,n2,hd2⟩:=id hb
 simp only at hc hd hc2 hd2
 subst hc hd hc2 hd2
 have e:vs.toArray++ws.toArray=(vs++ws).toArray:=by simp
 by_cases hw:ws=[]
 ·exact concat_meets ⟨_,ho,rfl⟩ ⟨_,ho2,rfl⟩ noFill_tuple_add seq_tuple_add PySem.F.slot_tuple_add PySem.F.entry_tuple_add (PySem.F.args_tuple_add_2 _ _)
   (tuple_addW1 t b vs.toArray ws.toArray n n2 dd dd2 sl sl2 (by simpa using hv) (by simp[hw])) ⟨ho,ho2,h1 hw⟩
 ·refine concat_meets ⟨_,ho,rfl⟩ ⟨_,ho2,rfl⟩ noFill_tuple_add seq_tuple_add PySem.F.slot_tuple_add PySem.F.entry_tuple_add (PySem.F.args_tuple_add_2 _ _)
   (tuple_addW2 t b vs.toArray ws.toArray n n2 dd dd2 sl sl2 (by simpa using hv) (by simpa using hw) (by rw[List.size_toArray,List.size_toArray];exact hsz)) ⟨ho,ho2,?_⟩
  rw[e]
  exact h2 hw
def sIx (n d:Nat):Option Int->Nat
 |none=>d
 |some v=>if v<0 then(v+(n:Int)).toNat else min v.toNat n
theorem sIx_le (n d:Nat)(hd:d<=n)(o:Option Int):sIx n d o<=n:=by
 cases o with
 |none=>exact hd
 |some v=>
  show(if v<0 then(v+(n:Int)).toNat else min v.toNat n)<=n
  by_cases hv:v<0
  ·rw [if_pos hv];omega
  ·rw [if_neg hv];exact Nat.min_le_right _ _
theorem q90 (v:Int)(n d:Nat):(if v<0 then max (v+(n:Int)) 0 else min v (n:Int))=((sIx n d (some v):Nat):Int):=by
 show(if v<0 then max (v+(n:Int)) 0 else min v (n:Int))=(((if v<0 then(v+(n:Int)).toNat else min v.toNat n):Nat):Int)
 by_cases hv:v<0
 ·simp only[if_pos hv];omega
 ·simp only[if_neg hv];omega
theorem q7k (lo hi:Option Int)(n:Nat):Builtin.Slice.sliceAdjust lo hi 1 (n:Int)=(((sIx n 0 lo:Nat):Int),((sIx n n hi:Nat):Int)):=by
 have h1:¬((1:Int)<0):=by omega
 unfold Builtin.Slice.sliceAdjust
 simp only[h1,if_false]
 refine Prod.ext ?_ ?_
 ·cases lo with
  |none=>rfl
  |some v=>exact q90 v n 0
 ·cases hi with
  |none=>rfl
  |some v=>exact q90 v n n
theorem q74 (i j:Nat):Builtin.Slice.slicePlaces (i:Int) (j:Int) 1=j - i:=by
 unfold Builtin.Slice.slicePlaces
 have h1:(1:Int)>0:=by omega
 simp only[h1,if_true,Int.ediv_one]
 split<;>omega
theorem q3Q {v:Value}{o:Option Int}{Q:Option Int->Shared->Prop}(p:IsPart v o)(h:Q o s):wpAny (model prog w) A (Builtin.Slice.slicePartIndex v) Q E s:=by
 cases p with
 |none=>exact slicePart_none h
 |int i t=>exact slicePart_int h
theorem q1M {sl:Addr}{vl vu:Value}{lo hi:Option Int}{n:Nat}{Q:Int×Int×Nat->Shared->Prop}(hs:s.heap.IsSliceOf sl vl vu .none)(pl:IsPart vl lo)(pu:IsPart vu hi)
  (h:Q (((sIx n 0 lo:Nat):Int),1,sIx n n hi - sIx n 0 lo) s):wpAny (model prog w) A (Builtin.Slice.sliceApplied (.ref sl) (pure (n:Int))) Q E s:=by
 obtain⟨os,hos,hcs,hds⟩:=id hs
 unfold Builtin.Slice.sliceApplied Builtin.Slice.sliceFields
 refine yD (yD (wpAny_field hos hds (x:=vl) rfl (yD (wpAny_field hos hds (x:=vu) rfl (yD (wpAny_field hos hds (x:= .none) rfl (wpAny_pure ?_)))))))
 refine yD (slicePart_none ?_)
 show wpAny _ _ (if ((1:Int)==0)=true then _ else _) _ _ s
 rw[if_neg (by decide)]
 refine yD (q3Q pl (yD (q3Q pu (yD (wpAny_pure ?_)))))
 show wpAny _ _ (match Builtin.Slice.sliceAdjust lo hi 1 (n:Int) with|(lo,hi)=>pure (lo,(1:Int),Builtin.Slice.slicePlaces lo hi 1)) _ _ s
 rw[q7k lo hi n]
 show wpAny _ _ (pure (((sIx n 0 lo:Nat):Int),(1:Int),Builtin.Slice.slicePlaces ((sIx n 0 lo:Nat):Int) ((sIx n n hi:Nat):Int) 1)) _ _ s
 rw[q74]
 exact wpAny_pure h
theorem q9A (xs:Array Value)(i k:Nat):((List.range k).filterMap fun(m:Nat)=>xs[((i:Int)+(m:Int)*1).toNat]?).toArray=((xs.toList.drop i).take k).toArray:=by
 have e:(fun(m:Nat)=>xs[((i:Int)+(m:Int)*1).toNat]?)=fun m=>xs[i+m]? :=by
  funext m
  have:((i:Int)+(m:Int)*1).toNat=i+m:=by omega
  rw[this]
 rw[e]
 have:=pick_run xs i k
 rw[List.filterMap_map] at this
 have e2:((fun x=>xs[x]?) ∘ fun x=>i+x)=fun m=>xs[i+m]? :=rfl
 rw[e2] at this
 rw[this]
theorem q2O {t sl:Addr}{items:Array Value}{vl vu:Value}{lo hi:Option Int}{Q:Value->Shared->Prop}(ht:IsTup s.heap t items)(hs:s.heap.IsSliceOf sl vl vu .none)(pl:IsPart vl lo)(pu:IsPart vu hi)
  (hw:¬(sIx items.size 0 lo=0/\sIx items.size items.size hi=items.size))
  (h:Q (.ref s.heap.objs.size) {s with heap:=s.heap.push {cls:= .type "tuple",data:= .seq ((items.toList.drop (sIx items.size 0 lo)).take (sIx items.size items.size hi - sIx items.size 0 lo)).toArray}})
  (hsz:items.size<=sizeLine):wpAny (model prog w) A (getItem (.ref t) (.ref sl)) Q E s:=by
 have htake:sizeOk (.seq ((items.toList.drop (sIx items.size 0 lo)).take (sIx items.size items.size hi - sIx items.size 0 lo)).toArray):=by
  show((items.toList.drop (sIx items.size 0 lo)).take (sIx items.size items.size hi - sIx items.size 0 lo)).toArray.size<=sizeLine
  rw[List.size_toArray,List.length_take,List.length_drop,Array.length_toList]
  omega
 have hj:sIx items.size items.size hi<=items.size:=sIx_le _ _ (Nat.le_refl _) hi
 obtain⟨os,hos,hcs,hds⟩:=id hs
 have hTs:s.TypeIs (.ref sl) "slice":=⟨os,hos,hcs⟩
 unfold getItem
 try with_reducible refine wpAny_holding ?_
 first|refine yD (wpAny_pure ?_)|skip
 refine yD (wpAny_sequenceKey ht.typeIs (by decide) ?_)
 refine yD (wpAny_callSpecial?_slot (name:=Str.ofString "__getitem__") ht.typeIs PyProof.Rows.slot_tuple_getitem
  (wpAny_call_entry PyProof.Rows.slot_tuple_getitem ht.typeIs entry_tuple_getitem ?_ (args_tuple_getitem _ _)))
 show wpAny _ _ (Builtin.Tuple.tupleItemsOf (.ref t) >>= _) _ _ s
 refine yD (tupleItemsOf_ ht ?_)
 refine yD (wpAny_typeOf hTs ?_)
 rw[if_pos (by decide)]
 refine yD (q1M hs pl pu ?_)
 have hno:¬((((sIx items.size 0 lo:Nat):Int)==0&&(1:Int)==1&&(sIx items.size items.size hi - sIx items.size 0 lo)==items.size)=true):=by
  intro q
  rw[Bool.and_eq_true,Bool.and_eq_true] at q
  have q1:((sIx items.size 0 lo:Nat):Int)=0:=eq_of_beq q.1.1
  have q2:sIx items.size items.size hi - sIx items.size 0 lo=items.size:=eq_of_beq q.2
  exact hw ⟨by omega,by omega⟩
 show wpAny _ _ (if (((sIx items.size 0 lo:Nat):Int)==0&&(1:Int)==1&&(sIx items.size items.size hi - sIx items.size 0 lo)==items.size)=true then _ else _) _ _ s
 rw[if_neg hno,q9A]
 first
  |exact yD (m:=Builtin.Tuple.tupleExact _) (wpAny_newObj_type (wpAny_pure ⟨_,rfl,wpAny_pure h⟩) htake)
  |exact yD (m:=Builtin.Tuple.tupleExact _) (wpAny_newObj_type (yD (wpAny_pure (wpAny_pure ⟨_,rfl,wpAny_pure h⟩))) htake)
  |exact yD (yD (m:=Builtin.Tuple.tupleExact _) (wpAny_newObj_type (wpAny_pure (wpAny_pure ⟨_,rfl,wpAny_pure h⟩)) htake))
  |exact yD (yD (m:=Builtin.Tuple.tupleExact _) (wpAny_newObj_type (wpAny_pure ⟨_,rfl,wpAny_pure h⟩) htake))
end
end HT
namespace L2
open PySem PySem.Spec PyProof.Rows
abbrev TO:=St->Hp->(Option Int->Hp->Prop)->Prop
def PO (X:Cx)(e:Option Expr)(t:TO):Prop:=
 ∀(pins:List (Addr×Obj)) (s:Shared) (σ:St) (H:Hp) (Q:Option Int->Hp->Prop),Inv X pins σ H s->t σ H Q->
  wpAny (model X.prog X.w) X.A (evalPart e X.env) (fun u s'=>∃o H',Inv X pins σ H' s'/\IsPart u o/\Q o H') X.xe s
def q7u:TO:=fun _ H Q=>Q none H
def tPart (t:TE):TO:=fun σ H Q=>t σ H fun x H1=>∃i,x= .int i/\Q (some i) H1
section
variable {X:Cx}{e:Expr}{te:TE}{lo hi:Option Expr}{tl th:TO}{pos p2:Pos}
theorem q82:PO X none q7u:=by
 intro pins s σ H Q I h
 rw[evalPart_none]
 exact wpAny_pure ⟨none,H,I,.none,h⟩
theorem q81 (h:PE X e te):PO X (some e) (tPart te):=by
 intro pins s σ H Q I hw
 rw[evalPart_some]
 refine thn (h pins s σ H _ I hw) fun u s1 ⟨x,H1,I1,r1,q1⟩=>?_
 obtain⟨i,rfl,q⟩:=q1
 obtain⟨t,rfl⟩:=r1
 exact⟨some i,H1,I1,.int i t,q⟩
def SlR (X:Cx)(r:V->Option Int->Option Int->Hp->VK->Prop):Prop:=
 ∀(pins:List (Addr×Obj)) (s:Shared) (σ:St) (H:Hp) (x:V) (v vl vu:Value) (lo hi:Option Int) (sl:Addr) (Q:VK),Inv X pins σ H s->RelV x v->s.heap.IsSliceOf sl vl vu .none->IsPart vl lo->IsPart vu hi->r x lo hi H Q->
  ∃T id,typeLookup (.type T) "__getitem__"=pure (some (.builtin id))/\s.TypeIs v T/\wpAny (model X.prog X.w) X.A (getItem v (.ref sl)) (EP X pins σ Q) X.xe s
def tSl (r:V->Option Int->Option Int->Hp->VK->Prop)(te:TE)(tl th:TO):TE:=fun σ H Q=>te σ H fun x H1=>tl σ H1 fun l H2=>th σ H2 fun u H3=>r x l u H3 Q
theorem q6v {r:V->Option Int->Option Int->Hp->VK->Prop}(hr:SlR X r)(he:PE X e te)(hl:PO X lo tl)(hu:PO X hi th):PE X (.Subscript e (.Slice lo hi none p2) pos) (tSl r te tl th):=by
 intro pins s σ H Q I h
 refine Subscript_ (thn (he pins s σ H _ I h) fun v s1 ⟨x,H1,I1,r1,q1⟩=>?_)
 refine wpAny_Slice (thn (hl pins s1 σ H1 _ I1 q1) fun vl s2 ⟨l,H2,I2,pl,q2⟩=>thn (hu pins s2 σ H2 _ I2 q2) fun vu s3 ⟨u,H3,I3,pu,q3⟩=>?_)
 rw[evalPart_none]
 refine wpAny_pure ?_
 have I4:Inv X pins σ H3 {s3 with heap:=s3.heap.push {cls:= .type "slice",data:= .fields #[vl,vu,.none]}}:=I3.kept (t':=s3.toks) fun b ob q=>Heap.get?_push_of_some _ q
 obtain⟨T,id,hT,ht,hg⟩:=hr pins {s3 with heap:=s3.heap.push {cls:= .type "slice",data:= .fields #[vl,vu,.none]}} σ H3 x v vl vu l u s3.heap.objs.size Q I4 r1 (Heap.IsSliceOf.new ..) pl pu q3
 show wpAny (model X.prog X.w) X.A (subscriptTail e (.Slice lo hi none p2) v (.ref s3.heap.objs.size)) (EP X pins σ Q) X.xe {s3 with heap:=s3.heap.push {cls:= .type "slice",data:= .fields #[vl,vu,.none]}}
 exact tail_any (ops:=[.ref s3.heap.objs.size,v]) ht hT hg (by with_unfolding_all rfl)
def cutV (xs:List V)(lo hi:Option Int):List V:=(xs.drop (HT.sIx xs.length 0 lo)).take (HT.sIx xs.length xs.length hi - HT.sIx xs.length 0 lo)
theorem q64 (xs:List V)(lo hi:Option Int):(cutV xs lo hi).length<=xs.length:=by
 unfold cutV
 rw[List.length_take,List.length_drop]
 omega
def rSlT (K:W.Frag):V->Option Int->Option Int->Hp->VK->Prop:=fun x lo hi H Q=>∃a xs,x= .ref a/\SqT K H a xs/\
 ¬(HT.sIx xs.length 0 lo=0/\HT.sIx xs.length xs.length hi=xs.length)/\∀p,H p=none->Q (.ref p) (upd H p (.tup (cutV xs lo hi)))
theorem sl_tup:SlR X (rSlT X.K):=by
 intro pins s σ H x v vl vu lo hi sl Q I rx hs pl pu h
 obtain⟨a,xs,rfl,hx,hw,q⟩:=h
 cases rx
 obtain⟨its,r,ht,hz⟩:=I.tuple hx
 have hlen:its.toArray.size=xs.length:=by rw[List.size_toArray];exact r.length.symm
 refine⟨"tuple",_,PyProof.Rows.slot_tuple_getitem.lookup,ht.typeIs,?_⟩
 refine HT.q2O ht hs pl pu (by rw[hlen];exact hw) ?_ (by rw[hlen];exact hz)
 rw[hlen]
 refine⟨.ref s.heap.objs.size,_,I.laid (t':=s.toks) (o:= .tup (cutV xs lo hi)) (fun b ob q=>Heap.get?_push_of_some _ q) (Nat.le_refl _) ?_,rfl,q _ (I.hok.fresh (Nat.le_refl _))⟩
 exact⟨Nat.le_trans (q64 xs lo hi) hz,_,(r.drop (HT.sIx xs.length 0 lo)).take (HT.sIx xs.length xs.length hi - HT.sIx xs.length 0 lo),IsTup.new _ _⟩
def qbq (K:W.Frag):R2:=fun x y H Q=>∃a b xs ys,x= .ref a/\y= .ref b/\SqT K H a xs/\SqT K H b ys/\xs≠[]/\xs.length+ys.length<=sizeLine/\
 (ys=[]->Q (.ref a) H)/\(ys≠[]->∀p,H p=none->Q (.ref p) (upd H p (.tup (xs++ys))))
theorem Vals.nil_iff {xs:List V}{us:List Value}(r:Vals xs us):us=[]↔xs=[]:=by
 cases r with
 |nil=>simp
 |cons _ _=>simp
theorem q8d:OpR X (binaryOp .Add) (qbq X.K):=by
 intro pins s σ H x y v u Q I rx ry h
 obtain⟨a,b,xs,ys,rfl,rfl,ha,hb,hx,hz,q1,q2⟩:=h
 cases rx
 cases ry
 obtain⟨its,r1,p1,_⟩:=I.tuple ha
 obtain⟨its2,r2,p2,_⟩:=I.tuple hb
 refine HT.qcw p1 p2 (fun z=>hx (r1.nil_iff.mp z)) (fun z=>⟨.ref a,H,I,rfl,q1 (r2.nil_iff.mp z)⟩) (fun z=>?_) (by rw[<-r1.length,<-r2.length];exact hz)
 refine⟨.ref s.heap.objs.size,_,I.laid (t':=s.toks) (o:= .tup (xs++ys)) (fun b ob q=>Heap.get?_push_of_some _ q) (Nat.le_refl _) ?_,rfl,q2 (fun w=>z (r2.nil_iff.mpr w)) _ (I.hok.fresh (Nat.le_refl _))⟩
 exact⟨by rw[List.length_append];exact hz,_,r1.append r2,IsTup.new _ _⟩
end
def ixN (n:Nat)(i:Int):Option Nat:=if 0<=i then(if i<n then some i.toNat else none) else if -(n:Int)<=i then some (i+n).toNat else none
def atI {α:Type}(xs:List α)(i:Int):Option α:=(ixN xs.length i).bind fun j=>xs[j]?
theorem q8u {n:Nat}{i:Int}{j:Nat}(h:ixN n i=some j):seqIndex? i n=some j/\j<n/\ -(n:Int)<=i/\i<n:=by
 unfold ixN at h
 by_cases h0:0<=i
 ·rw [if_pos h0] at h
  by_cases h1:i<n
  ·rw [if_pos h1] at h
   have e:i.toNat=j:=Option.some.inj h
   exact⟨by rw[seqIndex_of h0 h1,e],by omega,by omega,h1⟩
  ·rw [if_neg h1] at h;cases h
 ·rw [if_neg h0] at h
  by_cases h1: -(n:Int)<=i
  ·rw [if_pos h1] at h
   have e:(i+n).toNat=j:=Option.some.inj h
   exact⟨by rw[seqIndex_neg (by omega) h1,e],by omega,h1,by omega⟩
  ·rw [if_neg h1] at h;cases h
theorem q6b {α:Type}{xs:List α}{i:Int}{v:α}(h:atI xs i=some v):∃j,seqIndex? i xs.length=some j/\xs[j]? =some v/\j<xs.length/\ -(xs.length:Int)<=i/\i<xs.length:=by
 unfold atI at h
 cases e:ixN xs.length i with
 |none=>rw[e] at h;cases h
 |some j=>
  rw[e] at h
  obtain⟨h1,h2,h3,h4⟩:=q8u e
  exact⟨j,h1,h,h2,h3,h4⟩
theorem q0m {α:Type}{xs:List α}{j:Nat}{v:α}(h:xs[j]? =some v):atI xs (j:Int)=some v:=by
 have hj:j<xs.length:=(yA h).1
 have e:ixN xs.length (j:Int)=some j:=by
  unfold ixN
  rw[if_pos (by omega),if_pos (by omega)];simp
 unfold atI;rw[e];exact h
def qcC (b:Expr):Prop:=∀o i,subscripted b false o i=operate [o,i] (getItem o i)
def IxR (X:Cx)(r:R2):Prop:=
 ∀(value slice:Expr) (pins:List (Addr×Obj)) (s:Shared) (σ:St) (H:Hp) (x y:V) (v u:Value) (Q:VK),Inv X pins σ H s->RelV x v->RelV y u->r x y H Q->
  subscripted slice false v u=operate [v,u] (getItem v u)->wpAny (model X.prog X.w) X.A (subscriptTail value slice v u) (EP X pins σ Q) X.xe s
def MtR (X:Cx)(id:String)(r:V->List V->Hp->VK->Prop):Prop:=
 ∀(pins:List (Addr×Obj)) (s:Shared) (σ:St) (H:Hp) (x:V) (xs:List V) (v:Value) (us:List Value) (Q:VK),Inv X pins σ H s->RelV x v->Vals xs us->r x xs H Q->
  wpAny (model X.prog X.w) X.A (call (.builtin id) (v::us)) (EP X pins σ Q) X.xe s
section
variable {X:Cx}{a b:Expr}{ta tb:TE}{pos:Pos}
theorem qm {r:R2}(hr:IxR X r)(ha:PE X a ta)(hb:PE X b tb)(hs:qcC b):PE X (.Subscript a b pos) (tOp r ta tb):=by
 intro pins s σ H Q I h
 exact Subscript_ (binT ha hb I h fun v u s2 x y H2 I2 rx ry q=>hr a b pins s2 σ H2 x y v u Q I2 rx ry q (hs _ _))
def rIxL (K:W.Frag):R2:=fun x y H Q=>∃p xs i v,x= .ref p/\y= .int i/\SqL K H p xs/\atI xs i=some v/\Q v H
def rIxT (K:W.Frag):R2:=fun x y H Q=>∃p xs i v,x= .ref p/\y= .int i/\SqT K H p xs/\atI xs i=some v/\Q v H
theorem qc3:IxR X (rIxL X.K):=by
 intro value slice pins s σ H x y v u Q I rx ry h hs
 obtain⟨p,xs,i,z,rfl,rfl,hq,he,q⟩:=h
 cases rx
 obtain⟨t,rfl⟩:=ry
 obtain⟨its,r,pl,hz⟩:=I.list hq
 obtain⟨j,h1,h2,h3,h4,h5⟩:=q6b he
 obtain⟨w,ew,rw'⟩:=r.get h2
 have hl:=r.length
 have hn:=q5l
 have fin:EP X pins σ Q w s:=⟨z,H,I,rw',q⟩
 by_cases h0:0<=i
 ·have hj:i.toNat=j:=by
   rw[seqIndex_of h0 h5] at h1
   exact Option.some.inj h1
  exact item_listR pl.isList h0 (by omega) (by rw[hj];simpa using ew) fin hs
 ·have hj:(i+(its.toArray.size:Int)).toNat=j:=by
   rw[seqIndex_neg (by omega) h4] at h1
   rw[List.size_toArray,<-hl]
   exact Option.some.inj h1
  exact subscriptTail_builtinR (x:=w) pl.isList.typeIs slot_list_getitem.lookup
   (wpAny_getItem_list_neg (Q:=fun r s'=>r=w/\EP X pins σ Q r s') pl.isList (by omega) (by rw[List.size_toArray]<;>omega) (by omega) (by rw[hj];simpa using ew) ⟨rfl,fin⟩) hs
theorem ix_tup:IxR X (rIxT X.K):=by
 intro value slice pins s σ H x y v u Q I rx ry h hs
 obtain⟨p,xs,i,z,rfl,rfl,hq,he,q⟩:=h
 cases rx
 obtain⟨t,rfl⟩:=ry
 obtain⟨its,r,pl,hz⟩:=I.tuple hq
 obtain⟨j,h1,h2,h3,h4,h5⟩:=q6b he
 obtain⟨w,ew,rw'⟩:=r.get h2
 have hl:=r.length
 have hn:=q5l
 have fin:EP X pins σ Q w s:=⟨z,H,I,rw',q⟩
 exact subscriptTail_builtinR (x:=w) pl.typeIs slot_tuple_getitem.lookup
  (getItem_tuple (j:=j) (Q:=fun r s'=>r=w/\EP X pins σ Q r s') pl (by omega) (by omega) (by rw[List.size_toArray,<-hl];exact h1) (by simpa using ew) ⟨rfl,fin⟩) hs
theorem q7a (its:List Value)(n j:Nat)(u:Value):Obj.mapSeq (·.setIfInBounds j u) {cls:= .type "list",data:= .seq its.toArray n}={cls:= .type "list",data:= .seq (its.set j u).toArray n}:=by
 simp[Obj.mapSeq]
theorem Inv.lst {pins:List (Addr×Obj)}{σ:St}{H:Hp}{s:Shared}{p:Addr}{xs:List V}(I:Inv X pins σ H s)(h:H p=some (.lst xs)):
  ∃(its:List Value) (n:Nat),Vals xs its/\s.heap.get? p=some {cls:= .type "list",data:= .seq its.toArray n}/\xs.length<=sizeLine:=by
 obtain⟨z,its,n,r,e⟩:=I.hok p _ h
 exact⟨its,n,r,e,z⟩
theorem Inv.lstUpd {pins:List (Addr×Obj)}{σ:St}{H:Hp}{s:Shared}{p:Addr}{xs ys:List V}{its its':List Value}{n n':Nat}{f:Obj->Obj}(I:Inv X pins σ H s)(h:H p=some (.lst xs))
  (ho:s.heap.get? p=some {cls:= .type "list",data:= .seq its.toArray n})(hf:f {cls:= .type "list",data:= .seq its.toArray n}={cls:= .type "list",data:= .seq its'.toArray n'})(r:Vals ys its')(hz:ys.length<=sizeLine)(t:Nat):
  Inv X pins σ (upd H p (.lst ys)) {s with heap:=s.heap.update p f,toks:=t}:=by
 have e:(s.heap.update p f).get? p=some {cls:= .type "list",data:= .seq its'.toArray n'}:=by
  rw[Heap.get?_update_self f ho (by rw[hf]<;>rfl),hf]
 refine I.write (x:=p) (e:=p) (by rw[h];trivial) (.inl rfl) (fun b u hb q=>(Heap.get?_update_other _ _ (Ne.symm hb)).trans q) ⟨_,e⟩ ?_
 exact⟨hz,its',n',r,e⟩
def rSetL:V->V->V->Hp->(Hp->Prop)->Prop:=fun o i v H Q=>∃p xs k j,o= .ref p/\i= .int k/\H p=some (.lst xs)/\ixN xs.length k=some j/\Q (upd H p (.lst (xs.set j v)))
theorem q6m:PSet X rSetL:=by
 intro pins s σ H o i v ov iv u Q I ro ri rv h
 obtain⟨p,xs,k,j,rfl,rfl,hp,hj,q⟩:=h
 cases ro
 obtain⟨t,rfl⟩:=ri
 obtain⟨its,n,r,ho,hz⟩:=I.lst hp
 obtain⟨h1,h2,h3,h4⟩:=q8u hj
 have hl:=r.length
 have hn:=q5l
 have I':Inv X pins σ (upd H p (.lst (xs.set j v))) {s with heap:=s.heap.update p (Obj.mapSeq (·.setIfInBounds j u))}:=
  I.lstUpd hp ho (q7a its n j u) (r.set rv j) (by rw[List.length_set];exact hz) s.toks
 by_cases h0:0<=k
 ·have hk:k.toNat=j:=by
   rw[seqIndex_of h0 h4] at h1
   exact Option.some.inj h1
  exact PySem.W.ki_setAt ho h0 (by omega) (by rw[List.size_toArray,<-hl];exact h4) (by rw[hk];exact⟨_,I',q⟩)
 ·have hk:(k+(its.toArray.size:Int)).toNat=j:=by
   rw[seqIndex_neg (by omega) h3] at h1
   rw[List.size_toArray,<-hl]
   exact Option.some.inj h1
  exact PySem.W.ki_setBack ho (by omega) (by rw[List.size_toArray,<-hl];exact h3) (by omega) (by rw[hk];exact⟨_,I',q⟩)
def q1P:V->Bool
 | .non=>true
 | .bl _=>true
 | .int _=>true
 | .str _=>true
 |_=>false
def eqV:V->V->Bool
 | .non,.non=>true
 | .bl a,.bl b=>a==b
 | .bl a,.int b=>(if a then 1 else 0)==b
 | .int a,.bl b=>a==(if b then 1 else 0)
 | .int a,.int b=>a==b
 | .str a,.str b=>a==b
 |_,_=>false
theorem q8K {A:Around}{s:Shared}{y x:V}{u v:Value}(ry:RelV y u)(rx:RelV x v)(fy:q1P y=true)(fx:q1P x=true):SeqAt.EqAt A s u v (eqV y x):=by
 cases y with
 |non=>
  cases ry
  cases x with
  |non=>cases rx;exact SeqAt.EqAt.same _
  |bl b=>cases rx;exact SeqAt.EqAt.none_bool b
  |int b=>obtain⟨t,rfl⟩:=rx;exact SeqAt.EqAt.none_int b t
  |str b=>obtain⟨t,rfl⟩:=rx;exact SeqAt.EqAt.none_str b t
  |_=>exact absurd (show false=true from fx) Bool.false_ne_true
 |bl a=>
  cases ry
  cases x with
  |non=>cases rx;exact SeqAt.EqAt.bool_none a
  |bl b=>cases rx;exact SeqAt.EqAt.bool_bool a b
  |int b=>obtain⟨t,rfl⟩:=rx;exact SeqAt.EqAt.bool_int a b t
  |str b=>obtain⟨t,rfl⟩:=rx;exact SeqAt.EqAt.bool_str a b t
  |_=>exact absurd (show false=true from fx) Bool.false_ne_true
 |int a=>
  obtain⟨t',rfl⟩:=ry
  cases x with
  |non=>cases rx;exact SeqAt.EqAt.int_none a t'
  |bl b=>cases rx;exact SeqAt.EqAt.int_bool a t' b
  |int b=>obtain⟨t,rfl⟩:=rx;exact SeqAt.EqAt.int_int a t' b t
  |str b=>obtain⟨t,rfl⟩:=rx;exact SeqAt.EqAt.int_str a t' b t
  |_=>exact absurd (show false=true from fx) Bool.false_ne_true
 |str a=>
  obtain⟨t',rfl⟩:=ry
  cases x with
  |non=>cases rx;exact SeqAt.EqAt.str_none a t'
  |bl b=>cases rx;exact SeqAt.EqAt.str_bool a t' b
  |int b=>obtain⟨t,rfl⟩:=rx;exact SeqAt.EqAt.str_int a t' b t
  |str b=>obtain⟨t,rfl⟩:=rx;exact SeqAt.EqAt.str_str a t' b t
  |_=>exact absurd (show false=true from fx) Bool.false_ne_true
 |_=>exact absurd (show false=true from fy) Bool.false_ne_true
theorem q5w:q24 X (.builtin "len") (fun xs H Q=>∃p ys,xs=[.ref p]/\(SqL X.K H p ys\/SqT X.K H p ys)/\Q (.int ys.length) H):=by
 intro pins s σ H xs us Q I r h
 obtain⟨p,ys,rfl,hq,q⟩:=h
 obtain⟨u,rfl,rx⟩:=q4O r
 cases rx
 have hn:=q5l
 rcases hq with hq|hq
 ·obtain ⟨its,r',pl,hz⟩:=I.list hq
  have hlen:=r'.length
  exact Calls.call_len_list pl.isList (by simp only[List.size_toArray]<;>omega) ⟨.int ys.length,H,I.tok _,⟨s.toks+1,by rw[List.size_toArray,hlen]⟩,q⟩
 ·obtain ⟨its,r',pl,hz⟩:=I.tuple hq
  have hlen:=r'.length
  exact len_tuple pl (by simp only[List.size_toArray]<;>omega) ⟨.int ys.length,H,I.tok _,⟨s.toks+1,by rw[List.size_toArray,hlen]⟩,q⟩
theorem q5v:q24 X (.type "list") (fun xs H Q=>∃p ys,xs=[.ref p]/\(SqL X.K H p ys\/SqT X.K H p ys)/\∀l,H l=none->Q (.ref l) (upd H l (.lst ys))):=by
 intro pins s σ H xs us Q I r h
 obtain⟨p,ys,rfl,hq,q⟩:=h
 obtain⟨u,rfl,rx⟩:=q4O r
 cases rx
 have fin:∀(its:List Value),Vals ys its->ys.length<=sizeLine->∀(h':Heap) (c':Nat),(∀b o',s.heap.get? b=some o'->h'.get? b=some o')->
   h'.get? s.heap.objs.size=some {cls:= .type "list",dict:=none,data:= .seq its.toArray c',slots:= #[]}->EP X pins σ Q (.ref s.heap.objs.size) {s with heap:=h'}:=fun its r' hz h' c' kp e=>
  ⟨.ref s.heap.objs.size,_,I.laid (t':=s.toks) kp (Nat.le_refl _) (show q01 X.prog X.w _ h' _ (.lst ys) from⟨hz,its,c',r',e⟩),rfl,q _ (I.hok.fresh (Nat.le_refl _))⟩
 rcases hq with hq|hq
 ·obtain ⟨its,r',pl,hz⟩:=I.list hq
  have hlen:=r'.length
  obtain⟨o,ho,hc,n,hd⟩:=pl.isList
  exact call_list_seq p (.inl rfl) ho hc hd (fun h' c' kp e=>fin its r' hz h' c' kp e) (by simp only[List.size_toArray]<;>omega)
 ·obtain ⟨its,r',pl,hz⟩:=I.tuple hq
  have hlen:=r'.length
  obtain⟨o,ho,hc,n,hd⟩:=pl
  exact call_list_seq p (.inr rfl) ho hc hd (fun h' c' kp e=>fin its r' hz h' c' kp e) (by simp only[List.size_toArray]<;>omega)
theorem q4x:q24 X (.type "tuple") (fun xs H Q=>∃p ys,xs=[.ref p]/\((SqL X.K H p ys/\∀l,H l=none->Q (.ref l) (upd H l (.tup ys)))\/(SqT X.K H p ys/\Q (.ref p) H))):=by
 intro pins s σ H xs us Q I r h
 obtain⟨p,ys,rfl,h⟩:=h
 obtain⟨u,rfl,rx⟩:=q4O r
 cases rx
 rcases h with⟨hq,q⟩|⟨hq,q⟩
 ·obtain ⟨its,r',pl,hz⟩:=I.list hq
  have hlen:=r'.length
  refine call_tuple_list pl.isList (fun h' kp=>?_) (by simp only[List.size_toArray]<;>omega)
  have I1:Inv X pins σ H {s with heap:=h'}:=I.kept (t':=s.toks) kp
  have I2:Inv X pins σ (upd H h'.objs.size (.tup ys)) {s with heap:=h'.push {cls:= .type "tuple",data:= .seq its.toArray}}:=
   I1.laid (t':=s.toks) (fun b o e=>Heap.get?_push_of_some _ e) (Nat.le_refl _) (show q01 X.prog X.w _ _ _ (.tup ys) from⟨hz,its,r',IsTup.new _ _⟩)
  exact⟨.ref h'.objs.size,_,I2,rfl,q _ (I1.hok.fresh (Nat.le_refl _))⟩
 ·obtain ⟨its,r',pl,hz⟩:=I.tuple hq
  exact call_tuple_same pl ⟨.ref p,H,I,rfl,q⟩
def tyV (K:W.Frag)(T:String)(x:V)(H:Hp):Prop:=match x with
 | .str _=>T="str"
 | .int _=>T="int"
 | .ref p=>(T="list"/\∃xs,SqL K H p xs)\/(T="tuple"/\∃o,K.lookup p=some o/\o.cls= .type "tuple"/\o.dict=none)\/
   (T="dict"/\((∃kvs,H p=some (.dK kvs))\/∃kvs,H p=some (.dT kvs)))\/(T="set"/\∃S n,H p=some (.set S n))
 |_=>False
theorem tyV_is {pins:List (Addr×Obj)}{σ:St}{H:Hp}{s:Shared}{T:String}{x:V}{v:Value}(I:Inv X pins σ H s)(r:RelV x v)(ty:tyV X.K T x H):
  s.TypeIs v T/\∀a,v= .ref a->∃ob,s.heap.get? a=some ob/\ob.dict=none:=by
 cases x with
 |str z=>
  obtain⟨t,rfl⟩:=r
  cases(show T="str" from ty)
  exact⟨typeIs_str s z t,fun _ e=>nomatch e⟩
 |int i=>
  obtain⟨t,rfl⟩:=r
  cases(show T="int" from ty)
  exact⟨typeIs_int s i t,fun _ e=>nomatch e⟩
 |ref p=>
  cases r
  rcases ty with⟨rfl,xs,hq⟩|⟨rfl,o,hk,hc,hd⟩|⟨rfl,hk⟩|⟨rfl,S,n,hk⟩
  ·obtain ⟨its,_,pl,_⟩:=I.list hq
   refine⟨pl.isList.typeIs,fun a e=>?_⟩
   cases e
   obtain⟨o,n,e,c,hd,_⟩:=pl
   exact⟨o,e,hd⟩
  ·refine ⟨⟨o,I.kIn p o hk,hc⟩,fun a e=>?_⟩
   cases e
   exact⟨o,I.kIn _ o hk,hd⟩
  ·have z:∃o,s.heap.get? p=some o/\o.ExactDict:=by
    rcases hk with⟨kvs,hk⟩|⟨kvs,hk⟩
    ·obtain ⟨_,_,_,_,o,_,_,e,ex,_⟩:=I.hok p _ hk
     exact⟨o,e,ex⟩
    ·obtain ⟨_,_,_,_,o,_,_,e,ex,_⟩:=I.hok p _ hk
     exact⟨o,e,ex⟩
   obtain⟨o,e,ex⟩:=z
   refine⟨⟨o,e,ex.1⟩,fun a e2=>?_⟩
   cases e2
   exact⟨o,e,ex.2.1⟩
  ·obtain ⟨o,_,_,_,e,ex,_⟩:=I.hok p _ hk
   refine⟨⟨o,e,ex.1⟩,fun a e2=>?_⟩
   cases e2
   exact⟨o,e,ex.2.1⟩
 |_=>exact False.elim ty
def tBM (K:W.Frag)(T:String)(r:V->List V->Hp->VK->Prop)(to:TE)(t:TA):TE:=fun σ H Q=>to σ H fun x H1=>tyV K T x H1/\t σ H1 fun xs H2=>r x xs H2 Q
variable {o e:Expr}{es:List Expr}{to:TE}{t:TA}{name:Str}{apos cpos:Pos}{T id:String}{r:V->List V->Hp->VK->Prop}
theorem q3r (pa:PlainAttrs T)(slot:Slot T name id)(hty:typeOf (.builtin id)=pure (.type "method_descriptor"))(hm:MtR X id r)(ho:PE X o to)(ha:PA X (e::es) t)
  (hbase:attributeBase o name X.env (eval o X.env)=eval o X.env:=by rfl)
  (hfew:((backTo cpos (starEach (e::es) X.env)).all (fun x=> !x.1)&&(backToKw cpos (keywordEach [] X.env)).all (fun x=>x.1.isSome)
   &&decide ((e::es).length+([]:List Keyword).length+(if ([]:List Keyword).isEmpty then 0 else 1)<30))=true:=by rfl)
  (hline:(apos.endLine==cpos.line)=true:=by rfl)(hs:starEach (e::es) X.env=(false,eval e X.env)::starEach es X.env:=by rfl)(hplain:(backTo cpos (starEach es X.env)).any (·.1)=false:=by rfl):
  PE X (.Call (.Attribute o name apos) (e::es) [] cpos) (tBM X.K T r to t):=by
 intro pins s σ H Q I h
 refine wpAny_Call_method_late hbase hfew hline rfl (thn (ho pins s σ H _ I h) fun v s1 ⟨x,H1,I1,r1,ty,q1⟩=>?_)
 obtain⟨h1,h2⟩:=tyV_is I1 r1 ty
 refine⟨T,id,pa,slot,hty,h1,h2,?_⟩
 have hA:=ha cpos pins s1 σ H1 _ I1 q1
 rw[hs] at hA ⊢
 refine Calls.callWith_builtin (by show(false||(backTo cpos (starEach es X.env)).any (·.1))=false;rw[hplain]<;>rfl) (Calls.evalArgs_plain ?_)
 exact thn hA fun us s2 ⟨vs,H2,I2,r2,q2⟩=>hm pins s2 σ H2 x vs v us Q I2 r1 r2 q2
end
def MtM (X:Cx)(id:String)(r:V->List V->Hp->VK->Prop):Prop:=
 ∀(pins:List (Addr×Obj)) (s:Shared) (σ:St) (H:Hp) (x:V) (xs:List V) (v:Value) (us:List Value) (Q:VK),Inv X pins σ H s->RelV x v->Vals xs us->r x xs H Q->
  wpAny (model X.prog X.w) X.A (call (.builtin id) (v::us)) (EP X pins σ Q) X.xe s
theorem Vals.one:∀{x:V} {us:List Value},Vals [x] us->∃u,us=[u]/\RelV x u
 |_,_,.cons r .nil=>⟨_,rfl,r⟩
theorem Vals.rep {xs:List V}{us:List Value}(h:Vals xs us):∀k:Nat,Vals (List.replicate k xs).flatten (List.replicate k us).flatten
 |0=> .nil
 |k+1=>by
  rw[List.replicate_succ,List.replicate_succ,List.flatten_cons,List.flatten_cons]
  exact Vals.append h (Vals.rep h k)
theorem q5p (its:List Value):∀(k:Nat) (acc:List Value),
  List.foldl (fun x1 x2=>x1++x2) acc.toArray (List.replicate k its.toArray)=(acc++(List.replicate k its).flatten).toArray
 |0,acc=>by simp
 |k+1,acc=>by
  have e:acc.toArray++its.toArray=(acc++its).toArray:=by simp
  have e2:(acc++its)++(List.replicate k its).flatten=acc++(List.replicate (k+1) its).flatten:=by
   rw[List.replicate_succ,List.flatten_cons,List.append_assoc]
  rw[<-e2,<-q5p its k (acc++its),<-e,List.replicate_succ,List.foldl_cons]
section
variable {X:Cx}{pins:List (Addr×Obj)}{σ:St}{H:Hp}{s:Shared}{l b:Addr}{xs ys zs:List V}
theorem Inv.lset {its its':List Value}{n:Nat}{f:Array Value->Array Value}{t':Nat}(I:Inv X pins σ H s)(hH:H l=some (.lst xs))
  (e:s.heap.get? l=some {cls:= .type "list",data:= .seq its.toArray n})(hf:f its.toArray=its'.toArray)(hv:Vals ys its')(hz:ys.length<=sizeLine):
  Inv X pins σ (upd H l (.lst ys)) {s with heap:=s.heap.update l (Obj.mapSeq f),toks:=t'}:=by
 have q:=PySem.IsL.update e f
 rw[hf] at q
 refine I.write (x:=l) (e:=l) (by rw[hH];exact trivial) (.inl rfl) (fun b' u hb hu=>(Heap.get?_update_other s.heap (Obj.mapSeq f) (Ne.symm hb)).trans hu) ⟨_,q⟩ ?_
 exact⟨hz,its',_,hv,q⟩
theorem Inv.lnew {its:List Value}{t':Nat}(I:Inv X pins σ H s)(hv:Vals ys its)(hz:ys.length<=sizeLine):
  Inv X pins σ (upd H s.heap.objs.size (.lst ys)) {s with heap:=s.heap.push {cls:= .type "list",data:= .seq its.toArray},toks:=t'}:=
 I.laid (fun _ _ q=>Heap.get?_push_of_some _ q) (Nat.le_refl _) ⟨hz,its,0,hv,Heap.get?_push_size _ rfl⟩
theorem Inv.fresh (I:Inv X pins σ H s):H s.heap.objs.size=none:=I.hok.fresh (Nat.le_refl _)
theorem Inv.lstM (I:Inv X pins σ H s)(hH:H l=some (.lst xs)):xs.length<=sizeLine/\∃(its:List Value) (n:Nat),Vals xs its/\xs.length=its.length/\s.heap.get? l=some {cls:= .type "list",data:= .seq its.toArray n}:=by
 obtain⟨z,its,n,r,e⟩:=I.hok l _ hH
 exact⟨z,its,n,r,r.length,e⟩
theorem qa0 {n:Nat}(h:n<=sizeLine):Builtin.List.listTooLong n=false:=by
 unfold Builtin.List.listTooLong
 exact decide_eq_false (by omega)
end
section
variable {X:Cx}
def q7T:V->List V->Hp->VK->Prop:=fun x vs H Q=>∃l xs y,x= .ref l/\vs=[y]/\H l=some (.lst xs)/\xs.length<sizeLine/\Q .non (upd H l (.lst (xs++[y])))
theorem q0h:MtM X "list.append" q7T:=by
 intro pins s σ H x vs v us Q I rx rv h
 obtain⟨l,xs,y,rfl,rfl,hH,hz,q⟩:=h
 cases rx
 obtain⟨u,rfl,ru⟩:=rv.one
 obtain⟨z,its,n,r,hl,e⟩:=I.lstM hH
 refine call_meets F.slot_list_append ⟨_,e,rfl⟩ F.entry_list_append (F.args_list_append_2 _ _) (PySem.list_append l its.toArray n u (by rw[List.size_toArray];omega)) ⟨e,?_⟩
 refine⟨.non,_,I.lset (its':=its++[u]) hH e (by simp) (r.append (.cons ru .nil)) ?_,rfl,q⟩
 rw[List.length_append,List.length_singleton]
 omega
def rCat:R2:=fun x y H Q=>∃l b xs zs,x= .ref l/\y= .ref b/\H l=some (.lst xs)/\H b=some (.lst zs)/\xs.length+zs.length<=sizeLine/\∀p,H p=none->Q (.ref p) (upd H p (.lst (xs++zs)))
theorem q2D:OpR X (binaryOp .Add) rCat:=by
 intro pins s σ H x y v u Q I rx ry h
 obtain⟨l,b,xs,zs,rfl,rfl,hH,hB,hz,q⟩:=h
 cases rx
 cases ry
 obtain⟨z,its,n,r,hl,e⟩:=I.lstM hH
 obtain⟨z2,its2,n2,r2,hl2,e2⟩:=I.lstM hB
 refine PySem.P.add_list e e2 ?_ (by rw[List.size_toArray,List.size_toArray];omega)
 have ea:its.toArray++its2.toArray=(its++its2).toArray:=by simp
 rw[ea]
 exact⟨.ref _,_,I.lnew (t':=s.toks) (r.append r2) (by rw[List.length_append];omega),rfl,q _ I.fresh⟩
def rRep:R2:=fun x y H Q=>∃l k xs,x= .ref l/\y= .int k/\H l=some (.lst xs)/\ -(2 ^ 63)<=k/\k<2 ^ 63/\xs.length*k.toNat<=sizeLine/\
 ∀p,H p=none->Q (.ref p) (upd H p (.lst (List.replicate k.toNat xs).flatten))
theorem qbX {α:Type}(xs:List α)(k:Nat):(List.replicate k xs).flatten.length=k*xs.length:=by
 induction k with
 |zero=>simp
 |succ k ih=>rw[List.replicate_succ,List.flatten_cons,List.length_append,ih,Nat.succ_mul,Nat.add_comm]
theorem op_rep:OpR X (binaryOp .Mult) rRep:=by
 intro pins s σ H x y v u Q I rx ry h
 obtain⟨l,k,xs,rfl,rfl,hH,h1,h2,hz,q⟩:=h
 cases rx
 obtain⟨t,rfl⟩:=ry
 obtain⟨z,its,n,r,hl,e⟩:=I.lstM hH
 have hlen:its.toArray.size*k.toNat<=sizeLine:=by rw[List.size_toArray,<-hl];exact hz
 have hcap:¬its.toArray.size*k.toNat>(2 ^ 63 - 1) / 8:=by
  have:(sizeLine:Nat)<=(2 ^ 63 - 1) / 8:=by decide
  omega
 have hfit:¬(!Builtin.List.listFitsIndex k)=true:=by
  rw[fitsIndex_both h1 h2]
  exact Bool.false_ne_true
 have hlong:¬Builtin.List.listTooLong (its.toArray.size*k.toNat)=true:=by
  rw[qa0 hlen]
  exact Bool.false_ne_true
 have hnew:List.foldl (fun x1 x2=>x1++x2) #[] (List.replicate (if its.toArray.isEmpty=true then 0 else k.toNat) its.toArray)=(List.replicate k.toNat its).flatten.toArray:=by
  have f0:∀m:Nat,List.foldl (fun x1 x2=>x1++x2) #[] (List.replicate m its.toArray)=(List.replicate m its).flatten.toArray:=fun m=>by
   have:=q5p its m []
   rw[List.nil_append] at this
   exact this
  rw[f0]
  cases its with
  |nil=>simp
  |cons a r'=>rw[if_neg (by simp)]
 refine wpAny_binaryOp_repeat_ref (T:="list") (U:="int") (by decide) ⟨_,e,rfl⟩ (fun s'=>typeIs_int s' k t) noFill_list_mul F.fills_int_mul F.slot_int_rmul repeat_list F.slot_int_index.lookup
  (call_meets F.slot_int_rmul (typeIs_int s k t) F.entry_int_rmul (F.args_int_rmul_2 _ _) (int___rmul___int_list k t l its.toArray n)
   ⟨e,rfl,⟨_,e,rfl⟩,call_meets F.slot_list_mul ⟨_,e,rfl⟩ F.entry_list_mul (F.args_list_mul_2 _ _) (AutoListH.list___mul___list_int_3 l its.toArray n k t hfit hcap hlong) ⟨e,?_⟩⟩)
 rw[hnew]
 exact⟨.ref _,_,I.lnew (t':=s.toks) (r.rep k.toNat) (by rw[qbX,Nat.mul_comm];exact hz),rfl,q _ I.fresh⟩
end
end L2
namespace Att
open PySem PySem.W PySem.Calls PyProof.Rows
theorem q3w {P:Params}{h:Heap}:∀(ns:List Int) (vs:List Value),WellAll P h vs (ns.map WData.int)->IntsAre vs ns:=by
 intro ns
 induction ns with
 |nil=>
  intro vs w
  rw[List.map_nil] at w
  cases w
  exact .nil
 |cons n ns ih=>
  intro vs w
  rw[List.map_cons] at w
  cases w with
  |cons a b=>
   cases a
   exact .cons _ _ (ih _ b)
theorem q7K {l:OpenLaw}{n:Nat}(hn:l.most=some n){P:Params}{h:Heap}{args:List WData}{vals:List Value}
  (hpre:l.row.toRowW.claim.pre args=true)(hwl:WellAll P h vals args):
  ∃a vs ns,vals=[Value.ref a]/\args=[WData.list (ns.map WData.int)]/\h.get? a=some {cls:= .type "list",data:= .seq vs.toArray}/\IntsAre vs ns/\ns.length<=n:=by
 have hsh:WShape.hasAll [] args [.list .int]=true:=(pre_splitW hpre).1
 have hc:l.pre.holds [] {args:=args}=true:=(pre_splitW hpre).2
 obtain⟨d,r,rfl,h1,h2⟩:=hasAllW_cons hsh
 obtain rfl:=hasAllW_nil h2
 obtain⟨xs,rfl,h3⟩:=hasW_list h1
 obtain⟨ns,rfl⟩:=items_int h3
 have hlen:ns.length<=n:=by
  unfold OpenLaw.pre at hc
  have h4:(WTm.not (.lt (.lit (.int (n:Int))) (.len (.arg 0)))).holds [] {args:=[.list (ns.map .int)]}=true:=by
   have h4:=(holds_andW hc).1
   rw[hn] at h4
   exact h4
  have h5:=condW_of h4 (w_not (w_lt w_lit (w_len_list (w_arg rfl))))
  rw[yC] at h5
  refine Nat.le_of_not_lt fun q=>?_
  have q':(n:Int)<((ns.length:Nat):Int):=by omega
  first
   |(rw[decide_eq_true q'] at h5;exact absurd h5 (by decide))
   |(simp at h5;omega)
 cases hwl with
 |cons w1 w2=>
  cases w2
  cases w1 with
  |list ho hall=>exact⟨_,_,ns,rfl,rfl,ho,q3w ns _ hall,hlen⟩
theorem q80 (l:OpenLaw)(args:List WData):l.row.toRowW.claim.post args (.bool true) args=true:=
 postW_of (r:=l.row.toRowW) (X:=(true==true))
  (show WShape.has [] (.bool true) .bool=true by first|rfl|decide|simp[WShape.has,WShape.arms,WShape.armsAll])
  (show(WTm.eq .res (.lit (.bool true))).value [] {args:=args,res:=some (.bool true),after:=args}=some (.bool (true==true)) from w_eq_bool (w_res rfl) w_lit) rfl
theorem q6a {l:OpenLaw}{n:Nat}{q:Program}{loose:List Str}{XP:(Str->Option Value)->Heap->Prop}{YP:World->Heap->Prop}{d:DefRec}
  (hn:l.most=some n)(hdf:d.params.defaults=[])
  (call:∀(w:World) (s₀ s₁:Shared) (mg mb:Str->Option Value) (fa:Addr) (o:Obj) (pm cd doc:Value) (a:Addr) (vs:List Value) (ns:List Int),
   Ground q loose [] XP w s₀ mg mb s₁.heap->YP w s₁.heap->
   s₁.heap.get? fa=some o->o.data= .func (docDef d.name d.params d.body d.scope pm cd doc)->s₁.heap.CodeRec cd d.name->mg d.name=some (.ref fa)->
   s₁.heap.get? a=some {cls:= .type "list",data:= .seq vs.toArray}->IntsAre vs ns->ns.length<=n->s₁.gens= #[]->
   codeAny (model l.prog w) callerA (.call (.ref fa) ⟨[.ref a],[]⟩) (fun r s'=>r= .ok (.ret (.bool true))/\OldK s₁.heap s'.heap/\s'.os=s₁.os/\AllBare s'.gens) s₁):
  WalkO q loose XP YP l.row.toRowW d [] (fun f vs=>PySem.call f vs):=by
 intro w s₀ s₁ mg mb G Y fa o pm cd doc dV kV ho hd hcd hD hmg hg args vals as hpre hlay hrd hwl hlo
 obtain rfl:dV= .none:=Dflts.none hD hdf
 obtain rfl:kV= .none:=Dflts.noKw hD
 obtain⟨a,vs,ns,rfl,rfl,hobj,hints,hlen⟩:=q7K hn hpre hwl
 refine enter_call (codeAny_mono (call w s₀ s₁ mg mb fa o pm cd doc a vs ns G Y ho (fd_plain hd) hcd hmg hobj hints hlen hg) fun r s' hq=>?_)
 obtain⟨rfl,h2,h3,h4⟩:=hq
 exact⟨.inl ⟨.bool true,.bool true,[],rfl,fun _=>rfl,.bool true,q80 l _,fun _=>⟨List.Pairwise.nil,fun _ hm=>(nomatch hm)⟩⟩,h2,h3,h4⟩
end Att
namespace L2
open PySem PySem.Spec PyProof.Rows
theorem q4N:∀{vs:List Value} {ns:List Int},IntsAre vs ns->Vals (ns.map V.int) vs
 |_,_,.nil=> .nil
 |_,_,.cons n t h=> .cons ⟨t,rfl⟩ (q4N h)
def Only (H:Hp):Prop:=∀b,H b=none\/∃o xs,H b=some (.frz o (.lst xs))
theorem qa7 {P:Program}{w:World}{K:W.Frag}{mg mb:Str->Option Value}{CX:CXT}{k:Nat}{fa a:Addr}{fd:FuncData}{x:Str}{sp:Sp}{s₁:Shared}{vs:List Value}{ns:List Int}
  (KX:K.In s₁.heap)(hns:s₁.heap.Ns mainGlobals mg)(hb:s₁.heap.Ns builtinsNs mb)(hbb:∀x:Str,x≠"__name__"->mb x=bootBuiltins x)(hlim:s₁.heap.NoLimit)(hg:s₁.gens= #[])
  (ha:s₁.heap.get? a=some {cls:= .type "list",data:= .seq vs.toArray})(hi:IntsAre vs ns)(hl:ns.length<=sizeLine)(hr:Room k callerA)
  (F:∀base:Heap,K.In base->base.Ns mainGlobals mg->FnOk P w K mg base CX k fa fd [x] sp)(hbind:∀(s:Shared) (u:Value),BindsTo s fd ⟨[u],[]⟩ [(x,u)])
  (hsp:∀H:Hp,Only H->SqL K H a (ns.map V.int)->sp [.ref a] H (fun v _=>v= .bl true) fun _ _ _=>False)
  (hCX:∀H e s',CX [] H s₁ (fun _ _ _=>False) e s'->False):
  codeAny (model P w) callerA (.call (.ref fa) ⟨[.ref a],[]⟩) (fun r s'=>r= .ok (.ret (.bool true))/\OldK s₁.heap s'.heap/\s'.os=s₁.os/\AllBare s'.gens) s₁:=by
 have rv:=q4N hi
 have lenV:=hi.length
 -- from an abstract heap in which nothing but the script may be tracked
 have core:∀H:Hp,Only H->SqL K H a (ns.map V.int)->HOk P w H s₁.heap->(∀b,H b≠none->b=a)->(H a≠none->K.lookup a=none)->
   codeAny (model P w) callerA (.call (.ref fa) ⟨[.ref a],[]⟩) (fun r s'=>r= .ok (.ret (.bool true))/\OldK s₁.heap s'.heap/\s'.os=s₁.os/\AllBare s'.gens) s₁:=by
  intro H hO hS hok hA hK
  have base_of:∀{b:Addr} {o:Obj},s₁.heap.get? b=some o->H b=none->(hidT s₁.heap H).get? b=some o:=fun e n=>qac e n
  have noA:∀{b:Addr} {o:Obj} {es:Array DictEntry} {ep:Nat},s₁.heap.get? b=some o->o.data= .dict es ep->H b=none:=fun {b o es ep} e d=>by
   cases q:H b with
   |none=>rfl
   |some u=>
    have e':b=a:=hA b (by rw[q];simp)
    subst e'
    rw[ha] at e;cases e
    have d':Data.seq vs.toArray _=Data.dict es ep:=d
    cases d'
  have nsK:∀{b:Addr} {m:Str->Option Value},s₁.heap.Ns b m->(hidT s₁.heap H).Ns b m:=fun {b m} ⟨o,es,ep,e,d,r⟩=>⟨o,es,ep,base_of e (noA e d),d,r⟩
  have hKb:K.In (hidT s₁.heap H):=fun b o e=>base_of (KX b o e) (by
   cases q:H b with
   |none=>rfl
   |some u=>
    have e':b=a:=hA b (by rw[q];simp)
    subst e'
    rw[hK (by rw[q];simp)] at e;cases e)
  have hM:Mod K mg (hidT s₁.heap H):=⟨hKb,nsK hns,⟨mb,nsK hb,hbb⟩,let ⟨mc,h1,h2⟩:=hlim;⟨mc,nsK h1,h2⟩⟩
  have e0:Env0 P w K mg (hidT s₁.heap H) callerA [] s₁ H:=⟨rfl,hM,fun b o e=>qbO e,Nat.le_of_eq (q8C _ _),trivial,fun b hb=>absurd (show b∈([]:List Addr) from hb) (by simp),hok,.of_eq hg⟩
  refine codeAny_mono ((F _ hKb (nsK hns)).run callerA [] s₁ H ⟨[.ref a],[]⟩ [.ref a] [.ref a] _ _ hr e0 (hbind s₁ (.ref a)) (.cons rfl .nil) (hsp H hO hS)) fun r s' h=>?_
  cases r with
  |error e=>exact(hCX H e s' h).elim
  |ok fl=>
   cases fl with
   |next=>exact False.elim h
   |brk=>exact False.elim h
   |cont=>exact False.elim h
   |ret u=>
    obtain⟨v,H',os,bare,un,hok',r',q⟩:=h
    have q':v= .bl true:=q
    subst q'
    obtain rfl:u=Value.bool true:=r'
    refine⟨rfl,OldK.of_keep fun b o e=>?_,os,bare⟩
    cases q:H b with
    |none=>exact un.keep b o e q (by intro z;exact absurd (show b∈([]:List Addr) from z) (by simp)) (by simp)
    |some u=>
     rcases hO b with z|⟨ob,xs,z⟩
     ·rw [q] at z;cases z
     ·have z2:=un.frzs b ob _ z
      obtain⟨e1,_⟩:=hok b _ z
      obtain⟨e2,_⟩:=hok' b _ z2
      rw[e] at e1;cases e1
      exact e2
 cases hk:K.lookup a with
 |some o=>
  -- the script is one of the module's own objects
  have e:=KX a o hk
  rw[ha] at e
  cases e
  refine core (fun _=>none) (fun _=> .inl rfl) (.inr ⟨_,vs.toArray,_,hk,rfl,rfl,rfl,by rw[List.size_toArray,lenV];exact hl,by simpa using rv⟩) (fun b u z=>by have z':(none:Option HO)=some u:=z;cases z') (fun b z=>absurd rfl z) fun z=>absurd rfl z
 |none=>
  refine core (fun b=>if b=a then some (.frz {cls:= .type "list",data:= .seq vs.toArray} (.lst (ns.map V.int))) else none) (fun b=>?_) (.inl (.inr ⟨{cls:= .type "list",data:= .seq vs.toArray},if_pos rfl⟩)) (fun b u z=>?_) (fun b z=>?_) fun _=>hk
  ·by_cases hb:b=a
   ·exact .inr ⟨_,_,if_pos hb⟩
   ·exact .inl (if_neg hb)
  ·by_cases hb:b=a
   ·have z':=(if_pos hb).symm.trans z
    cases z'
    subst hb
    exact⟨ha,by rw[yC];exact hl,vs,_,rv,ha⟩
   ·have z':=(if_neg hb).symm.trans z
    cases z'
  ·by_cases hb:b=a
   ·exact hb
   ·exact absurd (if_neg hb) z
theorem qaW {l:PySem.W.OpenLaw}{n k:Nat}{q:Program}{loose:List Str}{XP:(Str->Option Value)->Heap->Prop}{YP:World->Heap->Prop}{d:DefRec}{K:Params->W.Frag}{CX:World->CXT}{sp:World->Sp}{x:Str}
  (hn:l.most=some n)(hn2:n<=sizeLine)(hdf:d.params.defaults=[])(hr:Room k callerA)
  (hY:∀(w:World) (h:Heap),YP w h->(K w.params).In h)
  (F:∀(w:World) (mg:Str->Option Value) (fa:Addr) (h:Heap),(K w.params).In h->h.Ns mainGlobals mg->mg d.name=some (.ref fa)->
   ∃fd:FuncData,(∀(s:Shared) (u:Value),BindsTo s fd ⟨[u],[]⟩ [(x,u)])/\
    ∀base:Heap,(K w.params).In base->base.Ns mainGlobals mg->FnOk l.prog w (K w.params) mg base (CX w) k fa fd [x] (sp w))
  (hsp:∀(w:World) (H:Hp) (a:Addr) (ns:List Int),ns.length<=n->Only H->SqL (K w.params) H a (ns.map V.int)->sp w [.ref a] H (fun v _=>v= .bl true) fun _ _ _=>False)
  (hCX:∀(w:World) (H:Hp) (s:Shared) (e:Value) (s':Shared),CX w [] H s (fun _ _ _=>False) e s'->False):
  PySem.W.WalkO q loose XP YP l.row.toRowW d [] (fun f vs=>PySem.call f vs):=by
 refine Att.q6a hn hdf fun w s₀ s₁ mg mb fa o pm cd doc a vs ns G Y ho hd hcd hmg hobj hints hlen hg=>?_
 have KX:=hY w _ Y
 obtain⟨fd,hb,hF⟩:=F w mg fa _ KX G.T.g hmg
 exact qa7 KX G.T.g G.T.b G.T.builtins G.T.nolimit hg hobj hints (Nat.le_trans hlen hn2) hr hF hb (fun H hO hS=>hsp w H a ns hlen hO hS) fun H e s'=>hCX w H s₁ e s'
def qL (s:Stmt)(j:Nat):Stmt:=match s with
 | .ClassDef _ _ _ body _ _ _ _ _ _ _=>body.getD j (.Pass ⟨0,0,0,0⟩)
 |_=> .Pass ⟨0,0,0,0⟩
def q0j (s:Stmt):Arguments:=match s with
 | .FunctionDef _ a _ _ _ _ _ _ _ _=>a
 |_=>{posonlyargs:=[],args:=[],vararg:=none,kwonlyargs:=[],kw_defaults:=[],kwarg:=none,defaults:=[]}
def qR (s:Stmt):List Stmt:=match s with
 | .FunctionDef _ _ b _ _ _ _ _ _ _=>b
 |_=>[]
def qh (s:Stmt):Scope:=match s with
 | .FunctionDef _ _ _ _ _ _ sc _ _ _=>sc
 |_=>{kind:= .function,names:=[],isGenerator:=false,isCoroutine:=false}
abbrev CX0:CXT:=fun _ _ _ _ _ _=>False
abbrev E0:XK:=fun _ _ _=>False
theorem q5Q {X:Cx}:q31 CX0 X E0:=fun _ _ _ _ _ _ _ h=>h.elim
structure Fun (K:W.Frag)(x qual:Str)(st:Stmt)(f:Addr)(fd:FuncData):Prop where
 ex:∃(oc:Value) (od:Option Addr) (kV doc pm:Value) (an:Option Addr) (cdv ct:Value) (osl:Array (Option Value)),
  fd=PySem.W.fnOf x qual (q0j st) (qR st) (qh st) .none kV doc pm an cdv ct/\K.lookup f=some ⟨oc,od,.func fd,osl⟩/\PySem.W.codeIn K cdv qual=true
 kp:PySem.W.keepIn K (.ref f)=true
section
variable {P:Program}{w:World}{K:W.Frag}{mg:Str->Option Value}{base:Heap}
theorem Fun.ok {x qual:Str}{st:Stmt}{f:Addr}{fd:FuncData}{N ps:List Str}{k:Nat}{sp:Sp}(F:Fun K x qual st f fd)(S:FnScope N ps (qh st))(len:∀vs H Q E,sp vs H Q E->vs.length=ps.length)
  (hbody:∀(cdv:Value) (A:Around) (outer:List Env) (s:Shared) (H:Hp) (vs:List V) (Q:VK) (E:XK),Room k (A.deeper (envOfC qual (qh st) s.heap.objs.size f cdv))->sp vs H Q E->
   ∃t,PSs (cxOf CX0 P w K mg base N qual (qh st) f cdv A outer s H E).nox (qR st) t/\t {nx:=fun _ H'=>Q .non H',rt:=Q} (start N vs) H):FnOk P w K mg base CX0 (k+1) f fd ps sp:=by
 obtain⟨oc,od,kV,doc,pm,an,cdv,ct,osl,rfl,lk,hcd⟩:=F.ex
 refine qce lk hcd S len fun A outer s H vs Q E hr hsp=>?_
 obtain⟨t,h,q⟩:=hbody cdv A outer s H vs Q E hr hsp
 exact⟨t,h.nox,q⟩
theorem Fun.binds {x qual:Str}{st:Stmt}{f:Addr}{fd:FuncData}{ps:List Str}(F:Fun K x qual st f fd)
  (h:∀(kV doc pm:Value) (an:Option Addr) (cdv ct:Value) (us:List Value),us.length=ps.length->bindArgs (PySem.W.fnOf x qual (q0j st) (qR st) (qh st) .none kV doc pm an cdv ct) ⟨us,[]⟩=pure (ps.zip us)):q0W K fd ps []:=by
 obtain⟨oc,od,kV,doc,pm,an,cdv,ct,osl,rfl,lk,hcd⟩:=F.ex
 exact .all (h kV doc pm an cdv ct)
theorem q20 {x qual:Str}{st:Stmt}{f:Addr}{oc:Value}{od an:Option Addr}{osl:Array (Option Value)}{kV doc pm cdv ct:Value}(l:K.lookup f=some ⟨oc,od,.func (PySem.W.fnOf x qual (q0j st) (qR st) (qh st) .none kV doc pm an cdv ct),osl⟩)
  (c:PySem.W.codeIn K cdv qual=true)(k:PySem.W.keepIn K (.ref f)=true):Fun K x qual st f (PySem.W.fnOf x qual (q0j st) (qR st) (qh st) .none kV doc pm an cdv ct):=⟨⟨oc,od,kV,doc,pm,an,cdv,ct,osl,rfl,l,c⟩,k⟩
end
theorem qc9 {A:Around}{k:Nat}(hr:Room k A):A.units+1<cLine:=Nat.lt_of_le_of_lt (Nat.add_le_add_left (by decide:1<=64) _) hr.units
section
variable {X:Cx}
theorem pv (i:Nat){x:Str}{pos:Pos}(hN:X.N[i]? =some x:=by rfl)(hv:Vis X.env.scope x:=by first|exact Or.inl rfl|exact Or.inr (Or.inl rfl)|exact Or.inr (Or.inr rfl))(hd:(x==("__debug__":Str))=false:=by decide)
  (hcd:(x==("__classdict__":Str))=false:=by decide):PE X (.Name x pos) (tVar i):=pe_var hN hv hd hcd
end
theorem iteF {A B:Prop}(h:B):if false=true then A else B:=by
 rw[if_neg Bool.false_ne_true]
 exact h
theorem iteT {A B:Prop}(h:A):if true=true then A else B:=by
 rw[if_pos rfl]
 exact h
theorem ite2 {c A B:Prop}[Decidable c](h1:c->A)(h2:¬c->B):if c then A else B:=by
 by_cases h:c
 ·rw [if_pos h]
  exact h1 h
 ·rw [if_neg h]
  exact h2 h
def Same (H H':Hp):Prop:=∀b o,H b=some o->H' b=some o
theorem Same.refl (H:Hp):Same H H:=fun _ _ h=>h
theorem Same.trans {H H1 H2:Hp}(a:Same H H1)(b:Same H1 H2):Same H H2:=fun c o h=>b c o (a c o h)
theorem Same.free {H H':Hp}(e:Same H H'){l:Addr}(h:H' l=Option.none):H l=Option.none:=by
 cases q:H l with
 |none=>rfl
 |some o=>
  rw[e l o q] at h
  cases h
theorem Same.seq {K:W.Frag}{H H':Hp}{a:Addr}{xs:List V}(e:Same H H')(h:SqL K H a xs):SqL K H' a xs:=by
 rcases h with(h|⟨o,h⟩)|h
 ·exact .inl (.inl (e _ _ h))
 ·exact .inl (.inr ⟨o,e _ _ h⟩)
 ·exact .inr h
end L2
set_option maxHeartbeats 4000000
namespace L2
open PySem PySem.Spec PyProof.Rows
theorem fls {α:Type}{M:Model}{A:Around}{t:Sem α}{Q:α->Shared->Prop}{E:Value->Shared->Prop}{s:Shared}(h:wpAny M A t Q (fun _ _=>False) s):wpAny M A t Q E s:=
 wpAny_mono h (fun _ _ q=>q) fun _ _ z=>z.elim
section
variable {prog:Program}{w:World}{A:Around}{R:Result->Shared->Prop}{s:Shared}
theorem q5s {elt target iter:Expr}{ifs:List Expr}{scope:Scope}{pos:Pos}{it acc:Value}{env:Env}(J:Nat->Shared->Prop)
  (turn:∀n s,J n s->wpAny (model prog w) A (pyNext it) (fun r s₁=>match r with
   |none=>R (.ok .next) s₁
   | some v=>wpAny (model prog w) A (letOwnedTupleGo target it v) (fun _ s₂=>wpAny (model prog w) A (assign target env v) (fun _ s₃=>
     wpAny (model prog w) A (forIn ifs true fun c r=>if r=true then do let ok<-isTrue c env (eval c env);pure (ForInStep.yield ok) else pure (ForInStep.yield r)) (fun ok s₄=>
      if ok=true then wpAny (model prog w) A (eval elt env) (fun x s₅=>
       wpAny (model prog w) A (call (.builtin "list.append") [acc,x]) (fun _ s₆=>∃m,m<n/\J m s₆) (fun _ _=>False) s₅) (fun _ _=>False) s₄
      else∃m,m<n/\J m s₄) (fun _ _=>False) s₃) (fun _ _=>False) s₂) (fun _ _=>False) s₁) (fun _ _=>False) s)
  (n:Nat)(h:J n s):
  codeAny (model prog w) A (.compLoop (.ListComp elt [⟨target,iter,ifs,0⟩] scope pos) 0 it acc env) R s:=by
 refine codeAny_loop rfl J (fun n s hI=>?_) n h
 show wpAny _ A ((compTurn (.ListComp elt [⟨target,iter,ifs,0⟩] scope pos) 0 it acc env).onRaise (fun x=>do noteFrame x env;theTreesLotGoes x)) _ _ s
 refine wpAny_noted (fls ?_)
 rw[compTurn_list]
 refine yD (wpAny_standAt (yD (wpAny_mono (turn n s hI) (fun r s₁ h₁=>?_) fun _ _ h'=>h')))
 cases r with
 |none=>exact wpAny_pure h₁
 |some v=>
  refine yD (wpAny_mono h₁ (fun _ s₂ h₂=>yD (wpAny_mono h₂ (fun _ s₃ h₃=>yD (wpAny_mono h₃ (fun ok s₄ h₄=>?_) fun _ _ h'=>h')) fun _ _ h'=>h')) fun _ _ h'=>h')
  cases ok with
  |false=>exact wpAny_pure ⟨rfl,h₄⟩
  |true=>exact yD (yD (wpAny_mono h₄ (fun x s₅ h₅=>yD (wpAny_mono h₅ (fun _ s₆ h₆=>wpAny_pure (wpAny_pure ⟨rfl,h₆⟩)) fun _ _ h'=>h')) fun _ _ h'=>h'))
end
def clOf (scope:Scope)(env:Env):List (Str×Addr):=(scope.names.filter fun y=>y.2== .free).reverse.map fun y=>(y.1,(env.cells.lookup y.1).getD 0)
theorem q3B {scope:Scope}{env:Env}(h:∀y∈scope.names,y.2= .free->∃c,env.cells.lookup y.1=some c):closureFor scope env=pure (clOf scope env):=by
 unfold closureFor clOf
 have key:∀(l:List (Str×NameKind)) (cs:List (Str×Addr)),(∀y∈l,y.2= .free->∃c,env.cells.lookup y.1=some c)->
   (forIn l cs (fun x r=>match x with
    |(name,kind)=>if (kind==NameKind.free)=true then do let a<-cellOf env name;pure (ForInStep.yield ((name,a)::r)) else pure (ForInStep.yield r)):Sem (List (Str×Addr)))=
    pure ((l.filter fun y=>y.2== .free).reverse.map (fun y=>(y.1,(env.cells.lookup y.1).getD 0))++cs):=by
  intro l
  induction l with
  |nil=>intro cs _;rfl
  |cons y l ih=>
   intro cs hl
   obtain⟨n,k⟩:=y
   have ih':=fun cs=>ih cs fun y hy=>hl y (List.mem_cons_of_mem _ hy)
   rw[List.forIn_cons]
   by_cases hk:k= .free
   ·subst hk
    obtain⟨c,hc⟩:=hl (n,.free) List.mem_cons_self rfl
    have e:cellOf env n=pure c:=by unfold cellOf;rw[hc]
    simp only[beq_self_eq_true,if_true,e,pure_bind]
    rw[ih']
    rw[List.filter_cons_of_pos (by rfl),List.reverse_cons,List.map_append,List.append_assoc]
    simp[hc]
   ·have hb:(k==NameKind.free)=false:=by simpa using hk
    simp only[hb,Bool.false_eq_true,if_false,pure_bind]
    rw[ih',List.filter_cons_of_neg (by simp[hb])]
 have:=key scope.names [] h
 rw[List.append_nil] at this
 first
  |exact this
  |(rw[this];rfl)
  |(simp only[bind_pure];exact this)
theorem q2g {f:Str->Addr}{x:Str}{c:Addr}:∀{l:List (Str×NameKind)},(l.map fun y=>(y.1,f y.1)).lookup x=some c->c=f x/\∃k,(x,k)∈l
 |[],h=>by simp at h
 |(n,k)::l,h=>by
  rw[List.map_cons,List.lookup_cons] at h
  cases e:x==n with
  |true=>
   rw[e] at h
   have e':x=n:=by simpa using e
   subst e'
   exact⟨(Option.some.inj h).symm,k,List.mem_cons_self⟩
  |false=>
   rw[e] at h
   obtain⟨h1,k',h2⟩:=q2g h
   exact⟨h1,k',List.mem_cons_of_mem _ h2⟩
theorem q2h {f:Str->Addr}{x:Str}{k:NameKind}:∀{l:List (Str×NameKind)},(x,k)∈l->(l.map fun y=>(y.1,f y.1)).lookup x=some (f x)
 |[],h=>nomatch h
 |(n,k')::l,h=>by
  rw[List.map_cons,List.lookup_cons]
  cases e:x==n with
  |true=>
   have e':x=n:=by simpa using e
   subst e'
   rfl
  |false=>
   rcases List.mem_cons.mp h with q|q
   ·cases q
    simp at e
   ·exact q2h q
theorem q6J {scope:Scope}{env:Env}(h:∀y∈scope.names,y.2= .free->∃c,env.cells.lookup y.1=some c){x:Str}{c:Addr}(e:(clOf scope env).lookup x=some c):env.cells.lookup x=some c:=by
 obtain⟨h1,k,h2⟩:=q2g (f:=fun x=>(env.cells.lookup x).getD 0) e
 have h3:=List.mem_filter.mp (List.mem_reverse.mp h2)
 obtain⟨c',hc⟩:=h (x,k) h3.1 (by simpa using h3.2)
 have hc':env.cells.lookup x=some c':=hc
 rw[hc'] at h1 ⊢
 rw[h1]
 rfl
theorem q6K {scope:Scope}{env:Env}{x:Str}(h:(x,NameKind.free)∈scope.names):(clOf scope env).lookup x=some ((env.cells.lookup x).getD 0):=
 q2h (f:=fun x=>(env.cells.lookup x).getD 0) (k:= .free) (List.mem_reverse.mpr (List.mem_filter.mpr ⟨h,rfl⟩))
theorem q2c {scope:Scope}{env:Env}{x:Str}:(relabel scope env).names.lookup x=(scope.names.lookup x).map fun k=>if (k== .free&&env.scope.kind== .function&&env.kindOf x==some .cell)=true then .cell else k:=by
 unfold relabel
 show List.lookup x (scope.names.map _)=_
 induction scope.names with
 |nil=>rfl
 |cons y l ih=>
  obtain⟨n,k⟩:=y
  rw[List.map_cons]
  show List.lookup x ((if (k==NameKind.free&&env.scope.kind==ScopeKind.function&&env.kindOf n==some NameKind.cell)=true then(n,NameKind.cell) else(n,k))::_)=_
  cases e:x==n with
  |true=>
   have e':x=n:=by simpa using e
   subst e'
   by_cases hc:(k==NameKind.free&&env.scope.kind==ScopeKind.function&&env.kindOf x==some NameKind.cell)=true
   ·rw [if_pos hc,List.lookup_cons,List.lookup_cons,e]
    show some _=some (if _ then _ else _)
    rw[if_pos hc]
   ·rw [if_neg hc,List.lookup_cons,List.lookup_cons,e]
    show some _=some (if _ then _ else _)
    rw[if_neg hc]
  |false=>
   by_cases hc:(k==NameKind.free&&env.scope.kind==ScopeKind.function&&env.kindOf n==some NameKind.cell)=true
   ·rw [if_pos hc,List.lookup_cons,List.lookup_cons,e]
    exact ih
   ·rw [if_neg hc,List.lookup_cons,List.lookup_cons,e]
    exact ih
def q0v (X:Cx)(N:List Str)(scope:Scope)(C:Addr)(s:Shared)(H:Hp)(fp:List Addr):Cx where
 prog:=X.prog
 w:=X.w
 K:=X.K
 mg:=X.mg
 base:=X.base
 A:=X.A
 N:=N
 s₀:=s
 H₀:=H
 env:=compEnvC scope (clOf scope X.env) C X.env
 outer:=X.stack
 stack:=X.stack
 ex:=fp
 fn:=fun _=>false
 calm:=X.calm
 pn:=[]
 xe:=fun _ _=>False
def q30 (own:Nat)(caps:List Nat)(σ:St):St:=List.replicate own none++caps.map fun j=>(σ[j]?).getD none
structure CompOk (X:Cx)(N:List Str)(scope:Scope)(own:Nat)(caps:List Nat):Prop where
 kind:scope.kind= .function
 names:∀y∈scope.names,y.2= .local->scope.names.lookup y.1=some .local
 nocell:∀y∈scope.names,y.2≠ .cell
 free:∀y∈scope.names,y.2= .free->X.env.kindOf y.1=some .cell\/X.env.kindOf y.1=some .free
 len:N.length=own+caps.length
 cap:∀(i j:Nat) (x:Str),caps[i]? =some j->N[own+i]? =some x->X.N[j]? =some x/\scope.names.lookup x=some .free
theorem CompOk.cells {X:Cx}{N:List Str}{scope:Scope}{own:Nat}{caps:List Nat}(O:CompOk X N scope own caps)(ok:X.Ok):∀y∈scope.names,y.2= .free->∃c,X.env.cells.lookup y.1=some c:=
 fun y hy hf=>ok.has y.1 (O.free y hy hf)
section
variable {X:Cx}{pins:List (Addr×Obj)}{σ:St}{H:Hp}{s:Shared}{N:List Str}{scope:Scope}{own:Nat}{caps:List Nat}
theorem Inv.block {h₁:Heap}{tk:Nat}{fp:List Addr}(O:CompOk X N scope own caps)(I:Inv X pins σ H s)(hf:∀b∈fp,FpOk X pins H b)(hlt:∀b∈fp,b<s.heap.objs.size){m:Str->Option Value}(hns:h₁.Ns s.heap.objs.size m)
  (hk:∀b o,s.heap.get? b=some o->h₁.get? b=some o):Inv (q0v X N scope s.heap.objs.size s H fp) [] (q30 own caps σ) H {s with heap:=h₁,toks:=tk}:=by
 have hcl:=O.cells I.ok
 have sub:∀x c,(clOf scope X.env).lookup x=some c->X.env.cells.lookup x=some c:=fun x c e=>q6J hcl e
 have stk:∀b∈fp,b∉frs X.stack:=fun b hb z=>by
  obtain⟨_,f1,f2,_⟩:=hf b hb
  rcases List.mem_cons.mp (I.stkSub b z) with q|q
  ·exact f1 q
  ·exact f2 q
 have nocl:∀x,(relabel scope X.env).names.lookup x=some .cell\/(relabel scope X.env).names.lookup x=some .free->(x,NameKind.free)∈scope.names:=fun x hx=>by
  rw[q2c] at hx
  cases e:scope.names.lookup x with
  |none=>rw[e] at hx;rcases hx with hx|hx<;>cases hx
  |some k=>
   have hm:=PySem.mem_of_lookup e
   have hc:=O.nocell _ hm
   cases k with
   |free=>exact hm
   |cell=>exact absurd rfl hc
   |_=>rw[e] at hx;rcases hx with hx|hx<;>simp at hx
 have ok:(q0v X N scope s.heap.objs.size s H fp).Ok:=
  {mod:=I.ok.mod
   kind:=O.kind
   glob:=I.ok.glob
   blt:=I.ok.blt
   above:=Nat.le_refl _
   inj:=fun x y c h1 h2=>I.ok.inj x y c (sub x c h1) (sub y c h2)
   has:=fun x hx=>⟨_,q6K (nocl x hx)⟩
   cab:=fun x c h _=>by cases h
   hd:=I.ok.hd
   frames:=I.ok.frames
   stk:= .inl rfl
   exf:=fun b hb=>⟨Nat.ne_of_lt (hlt b hb),fun x c e=>(hf b hb).2.2.2.2.1 x c (sub x c e)⟩
   bs:=I.bs
   bsz:=Nat.le_trans I.ok.bsz I.sz
   noex:=fun b o e hb=>by
    rcases(hf b hb).2.2.2.1 with z|z
    ·exact I.ok.noex b o e z
    ·exact absurd (Nat.lt_of_lt_of_le (Heap.lt_size e) (Nat.le_trans I.ok.bsz z)) (Nat.lt_irrefl _)
   exfs:=stk
   funs:=I.stack
   frf:=I.stkFree}
 have hC:H s.heap.objs.size=none:=I.hok.fresh (Nat.le_refl _)
 refine⟨ok,rfl,I.bare,Un.kept hk,⟨m,hns,fun i x v h1 h2 h3=>?_⟩,fun x c e=>?_,hC,fun x c e=>I.freeC x c (sub x c e),fun p hp=>absurd (show p∈([]:List (Addr×Obj)) from hp) (by simp),I.hok.kept hk,?_⟩
 ·-- a name of the def
  have hi:own<=i:=by
   by_cases q:own<=i
   ·exact q
   ·unfold q30 at h2
    rw[List.getElem?_append_left (by simp;omega),List.getElem?_replicate] at h2
    split at h2<;>cases h2
  obtain⟨k,rfl⟩:∃k,i=own+k:=⟨i - own,by omega⟩
  unfold q30 at h2
  rw[List.getElem?_append_right (by simp),List.length_replicate,Nat.add_sub_cancel_left,List.getElem?_map] at h2
  cases e:caps[k]? with
  |none=>rw[e] at h2;cases h2
  |some j=>
   rw[e] at h2
   have h2':(σ[j]?).getD none=some v:=Option.some.inj h2
   obtain⟨e1,e2⟩:=O.cap k j x e h1
   have e3:=PySem.mem_of_lookup e2
   have hkd:=O.free _ e3 rfl
   have h4:σ[j]? =some (some v):=by
    cases q:σ[j]? with
    |none=>rw[q] at h2';cases h2'
    |some o=>rw[q] at h2';rw[show o=some v from h2']
   have hvis:Vis X.env.scope x:= .inr hkd
   obtain⟨mo,_,hl⟩:=I.loc
   obtain⟨u,r,l⟩:=hl j x v e1 h4 hvis
   refine⟨u,r,.inr ⟨?_,?_⟩⟩
   ·show (relabel scope X.env).names.lookup x=some .cell\/(relabel scope X.env).names.lookup x=some .free
    rw[q2c,e2]
    show some (if _ then NameKind.cell else NameKind.free)=_\/some (if _ then NameKind.cell else NameKind.free)=_
    split
    ·exact .inl rfl
    ·exact .inr rfl
   ·rcases l with⟨q,_⟩|⟨_,c,hc,z⟩
    ·have hkd':X.env.kindOf x=some .cell\/X.env.kindOf x=some .free:=hkd
     rw[q] at hkd'
     rcases hkd' with hkd'|hkd'<;>cases hkd'
    ·refine ⟨c,?_,z.keeps hk⟩
     show(clOf scope X.env).lookup x=some c
     rw[q6K e3,hc]
     rfl
 ·obtain ⟨v,z⟩:=I.cell x c (sub x c e)
  exact⟨v,z.keeps hk⟩
 ·show (q30 own caps σ).length=N.length
  unfold q30
  rw[List.length_append,List.length_replicate,yC,O.len]
theorem Inv.blockEnd {fp:List Addr}{σ':St}{H':Hp}{s':Shared}(I:Inv X pins σ H s)(hf:∀b∈fp,FpOk X pins H b)(J:Inv (q0v X N scope s.heap.objs.size s H fp) [] σ' H' s'):Inv X pins σ H' s':=
 I.call' (ch:=fp) J.os J.base J.hok J.bare fun b hb=>⟨(hf b hb).2.2.2.1,(hf b hb).2.1,(hf b hb).2.2.2.2.1,(hf b hb).2.2.2.2.2⟩
theorem Inv.off {h':Heap}{C:Addr}(I:Inv X pins σ H s)(hC:H C=none)(hL:C≠X.env.locals)(h1:X.s₀.heap.objs.size<=C)(h2:∀x c,X.env.cells.lookup x=some c->c≠C)(h3:∀p∈X.pn++pins,p.1≠C)(sb:Heap.SameBut C s.heap h'):
  Inv X pins σ H {s with heap:=h'}:=
 I.turned (t':=s.toks) (it:=C) (fun b o hb e=>(sb.2 b hb).trans e) hC hL (.inr h1) h2 h3
end
def PIfs (X:Cx)(ifs:List Expr)(t:TT):Prop:=
 ∀(pins:List (Addr×Obj)) (s:Shared) (σ:St) (H:Hp) (Q:Bool->Hp->Prop),Inv X pins σ H s->t σ H Q->
  wpAny (model X.prog X.w) X.A (forIn ifs true fun c r=>if r=true then do let ok<-isTrue c X.env (eval c X.env);pure (ForInStep.yield ok) else pure (ForInStep.yield r)) (TP X pins σ Q) X.xe s
def tYes:TT:=fun _ H Q=>Q true H
theorem q1N {X:Cx}:PIfs X [] tYes:=fun _ _ _ H _ I h=>wpAny_tests_nil ⟨H,I,h⟩
theorem q3U {X:Cx}{c:Expr}{t:TT}(h:PT X c t):PIfs X [c] t:=fun pins s σ H Q I hw=>wpAny_tests_one (h pins s σ H Q I hw)
def q9j (wi:TI)(g:TG)(tc:TT)(te:TE)(own:Nat)(caps:List Nat):TE:=fun σ H Q=>wi σ H fun J H1=>∀D,H1 D=none->∃W:Nat->Nat->St->Hp->Prop,(∃m,W 0 m (q30 own caps σ) (upd H1 D (.lst [])))/\∀i m σ' H',W i m σ' H'->
 (J.stop i H'/\Q (.ref D) H')\/(J.go i H'/\∃N:St->Hp->Prop,(∀σ'' H'',N σ'' H''->∃m',m'<m/\W (i+1) m' σ'' H'')/\∀x H2,J.yld i H' x H2->g x σ' H2 fun σ3 H3=>tc σ3 H3 fun b H4=>
  if b=true then te σ3 H4 fun y H5=>∃ys,H5 D=some (.lst ys)/\ys.length<sizeLine/\N σ3 (upd H5 D (.lst (ys++[y]))) else N σ3 H4)
section
variable {X:Cx}{N:List Str}{scope:Scope}{own:Nat}{caps:List Nat}{tg iter elt:Expr}{ifs:List Expr}{wi:TI}{g:TG}{tc:TT}{te:TE}{pos:Pos}
theorem q6H {use:Option (Value->Sem Unit)}{QQ:Value->Shared->Prop}(O:CompOk X N scope own caps)(hc:X.calm=true)(hi:PI X tg iter wi)(hg:∀C s H fp,PG (q0v X N scope C s H fp) tg g)(ht:∀C s H fp,PIfs (q0v X N scope C s H fp) ifs tc)
  (he:∀C s H fp,PE (q0v X N scope C s H fp) elt te)(hs:∀x,foldedSetIterable iter X.env x=pure x)
  {pins:List (Addr×Obj)}{s:Shared}{σ:St}{H:Hp}{Q:VK}(I:Inv X pins σ H s)(h:q9j wi g tc te own caps σ H Q)
  (fin:∀D C H' s' m,Inv X pins σ H' s'->Q (.ref D) H'->s'.heap.Ns C m->H' C=none->C≠X.env.locals->X.s₀.heap.objs.size<=C->(∀x c,X.env.cells.lookup x=some c->c≠C)->(∀p∈X.pn++pins,p.1≠C)->
   compPost (model X.prog X.w) X.A X.xe use QQ (.ref D) C (.ok .next) s'):
  wpAny (model X.prog X.w) X.A (comprehension (.ListComp elt [⟨tg,iter,ifs,0⟩] scope pos) scope X.env (firstIterPos [⟨tg,iter,ifs,0⟩] pos) (newList []) false (eval iter X.env) use) QQ X.xe s:=by
 refine wpAny_comprehension_free (use:=use) rfl hs (q3B (O.cells I.ok)) O.kind O.names (thn (hi pins s σ H _ I h) fun v s1 h1=>thn h1 fun itv s2 h2=>?_)
 obtain⟨it,fp,tn,J,H2,e,I2,T,st2,f2,q⟩:=h2
 subst e
 refine wpAny_newObj_type (wpAny_newFunctionEnv O.nocell (by intro y hy;simp at hy) (fun h₁ hns hsb=>?_) O.kind)
 dsimp only at hns hsb ⊢
 have hD:H2 s2.heap.objs.size=none:=I2.hok.fresh (Nat.le_refl _)
 obtain⟨W,⟨m0,w0⟩,turn⟩:=q s2.heap.objs.size hD
 have I3:Inv X pins σ (upd H2 s2.heap.objs.size (.lst [])) {s2 with heap:=s2.heap.push {cls:= .type "list",dict:=none,data:= .seq ([]:List Value).toArray}}:=
  I2.lnew (its:=[]) (t':=s2.toks) .nil (Nat.zero_le _)
 generalize hs3:({s2 with heap:=s2.heap.push {cls:= .type "list",dict:=none,data:= .seq ([]:List Value).toArray}}:Shared)=s3 at I3
 have hsz3:s3.heap.objs.size=s2.heap.objs.size+1:=by rw[<-hs3];exact Heap.size_push ..
 have hns':h₁.Ns s3.heap.objs.size (fun x=>([]:List (Str×Value)).reverse.lookup x):=by rw[<-hs3];exact hns
 have hk:∀b o,s3.heap.get? b=some o->h₁.get? b=some o:=fun b o e=>by
  rw[<-hs3] at e
  exact hsb.extBut b o (Nat.ne_of_lt (Heap.lt_size e)) (Heap.get?_push_of_some _ e)
 have f3:∀b∈fp,FpOk X pins (upd H2 s2.heap.objs.size (.lst [])) b:=fun b hb=>by
  obtain⟨o,ho,_⟩:=T.obj _ _ st2 b hb
  exact⟨by rw[ql (Nat.ne_of_lt (Heap.lt_size ho))];exact(f2 b hb).1,(f2 b hb).2⟩
 have hlt:∀b∈fp,b<s3.heap.objs.size:=fun b hb=>by
  obtain⟨o,ho,_⟩:=T.obj _ _ st2 b hb
  rw[hsz3]
  exact Nat.lt_succ_of_lt (Heap.lt_size ho)
 have st3:tn 0 h₁:=T.keep _ _ _ st2 fun b hb o e=>hk b o (by rw[<-hs3];exact Heap.get?_push_of_some _ e)
 have C3:∀tk,Inv (q0v X N scope s3.heap.objs.size s3 (upd H2 s2.heap.objs.size (.lst [])) fp) [] (q30 own caps σ) (upd H2 s2.heap.objs.size (.lst [])) {s3 with heap:=h₁,toks:=tk}:=fun tk=>I3.block O f3 hlt hns' hk
 have nf3:∀b∈fp,(upd H2 s2.heap.objs.size (.lst [])) b=none:=fun b hb=>(f3 b hb).1
 have hCL:s3.heap.objs.size≠X.env.locals:=Nat.ne_of_gt I3.lt
 have hC1:X.s₀.heap.objs.size<=s3.heap.objs.size:=I3.sz
 have hC2:∀x c,X.env.cells.lookup x=some c->c≠s3.heap.objs.size:=fun x c e=>by
  obtain⟨v,z⟩:=I3.cell x c e
  exact Nat.ne_of_lt z.lt
 have hC3:∀p∈X.pn++pins,p.1≠s3.heap.objs.size:=fun p hp=>Nat.ne_of_lt (Heap.lt_size (I3.pin p hp).1)
 have hst:∀{H':Hp},(∀b∈fp,H' b=none)->∀b∈fp,FpOk (q0v X N scope s3.heap.objs.size s3 (upd H2 s2.heap.objs.size (.lst [])) fp) [] H' b:=fun hn b hb=>by
  refine⟨hn b hb,Nat.ne_of_lt (hlt b hb),fun z=>?_,.inl hb,fun x c e=>(f3 b hb).2.2.2.2.1 x c (q6J (O.cells I.ok) e),fun p hp=>absurd (show p∈([]:List (Addr×Obj)) from hp) (by simp)⟩
  exact(C3 0).ok.exfs b hb z
 have loop:∀s4:Shared,(∃tk,s4={s3 with heap:=h₁,toks:=tk})->
   codeAny (model X.prog X.w) X.A (.compLoop (.ListComp elt [⟨tg,iter,ifs,0⟩] scope pos) 0 (.ref it) (.ref s2.heap.objs.size) (compEnvC scope (clOf scope X.env) s3.heap.objs.size X.env))
    (compPost (model X.prog X.w) X.A X.xe use QQ (.ref s2.heap.objs.size) s3.heap.objs.size) s4:=by
  rintro s4 ⟨tk,rfl⟩
  refine q5s (fun n s'=>∃i σ' H',Inv (q0v X N scope s3.heap.objs.size s3 (upd H2 s2.heap.objs.size (.lst [])) fp) [] σ' H' s'/\tn i s'.heap/\(∀b∈fp,H' b=none)/\W i n σ' H') ?_ m0 ⟨0,_,_,C3 tk,st3,nf3,w0⟩
  rintro n s5 ⟨i,σ5,H5,I5,st5,fr5,w5⟩
  rcases turn i n σ5 H5 w5 with⟨stop,qn⟩|⟨go,NN,hN,step⟩
  ·refine thn (T.done (q0v X N scope s3.heap.objs.size s3 (upd H2 s2.heap.objs.size (.lst [])) fp) rfl rfl rfl hc i [] s5 σ5 H5 _ I5 (hst fr5) st5 stop) fun r s6 ⟨hr,I6⟩=>?_
   subst hr
   obtain⟨m6,hn6,_⟩:=id I6.loc
   exact fin _ _ H5 s6 m6 (I3.blockEnd f3 I6) qn hn6 I6.free hCL hC1 hC2 hC3
  ·refine thn (T.item (q0v X N scope s3.heap.objs.size s3 (upd H2 s2.heap.objs.size (.lst [])) fp) rfl rfl rfl hc i [] s5 σ5 H5 _ I5 (hst fr5) st5 go) fun r s6 ⟨u,hr,h6⟩=>?_
   subst hr
   refine thn h6 fun _ s7 ⟨x,H7,I7,r7,y7,st7,fr7⟩=>?_
   have I7':=I7.pinned (hst fr7) (T.obj _ _ st7)
   refine thn (hg _ _ _ _ _ s7 σ5 H7 x u _ I7' r7 (step x H7 y7)) fun _ s8 ⟨σ8,H8,I8,q8⟩=>?_
   refine thn (ht _ _ _ _ _ s8 σ8 H8 _ I8 q8) fun ok s9 ⟨H9,I9,q9⟩=>?_
   have again:∀{s10:Shared} {σ10:St} {H10:Hp},Inv (q0v X N scope s3.heap.objs.size s3 (upd H2 s2.heap.objs.size (.lst [])) fp) ([]++q5h fp s7.heap) σ10 H10 s10->NN σ10 H10->
     ∃m,m<n/\∃i σ' H',Inv (q0v X N scope s3.heap.objs.size s3 (upd H2 s2.heap.objs.size (.lst [])) fp) [] σ' H' s10/\tn i s10.heap/\(∀b∈fp,H' b=none)/\W i m σ' H':=fun {s10 σ10 H10} I10 n10=>by
    obtain⟨m',hm,w10⟩:=hN σ10 H10 n10
    refine⟨m',hm,i+1,σ10,H10,I10.unpinned,T.keep _ _ _ st7 fun b hb o e=>(I10.pin (b,o) (List.mem_append_right _ (List.mem_append_right _ (q29 hb e)))).1,fun b hb=>?_,w10⟩
    obtain⟨o,e,d⟩:=T.obj _ _ st7 b hb
    exact(I10.pin (b,o) (List.mem_append_right _ (List.mem_append_right _ (q29 hb e)))).2.1
   cases ok with
   |false=>
    rw[if_neg Bool.false_ne_true] at q9 ⊢
    exact again I9 q9
   |true=>
    rw[if_pos rfl] at q9 ⊢
    refine thn (he _ _ _ _ _ s9 σ8 H9 _ I9 q9) fun y s10 ⟨vy,H10,I10,r10,ys,hys,hyl,q10⟩=>?_
    refine thn (q0h (X:=q0v X N scope s3.heap.objs.size s3 (upd H2 s2.heap.objs.size (.lst [])) fp) _ s10 σ8 H10 (.ref s2.heap.objs.size) [vy] (.ref s2.heap.objs.size) [y] (fun _ H11=>NN σ8 H11) I10 rfl (.cons r10 .nil) ⟨_,ys,vy,rfl,rfl,hys,hyl,q10⟩) fun _ s11 ⟨_,H11,I11,_,q11⟩=>?_
    exact again I11 q11
 subst hs3
 exact codeAny_compStart_list (loop _ ⟨_,rfl⟩) (T.self _ _ _ _ _ st3 (loop _ ⟨_,rfl⟩))
theorem q2n (O:CompOk X N scope own caps)(hc:X.calm=true)(hi:PI X tg iter wi)(hg:∀C s H fp,PG (q0v X N scope C s H fp) tg g)(ht:∀C s H fp,PIfs (q0v X N scope C s H fp) ifs tc)
  (he:∀C s H fp,PE (q0v X N scope C s H fp) elt te)(hs:∀x,foldedSetIterable iter X.env x=pure x:=by intro _;rfl):PE X (.ListComp elt [⟨tg,iter,ifs,0⟩] scope pos) (q9j wi g tc te own caps):=by
 intro pins s σ H Q I h
 rw[eval_ListComp]
 refine q6H (use:=none) O hc hi hg ht he hs I h fun D C H' s' m I' q hn h0 h1 h2 h3 h4=>?_
 exact⟨m,hn,fun h' sb=>⟨.ref D,H',I'.off h0 h1 h2 h3 h4 sb,rfl,q⟩⟩
theorem q0U {i:Nat}{y:Str}{py spos:Pos}(hN:X.N.Nodup)(hi':X.N[i]? =some y)(hy:X.env.scope.names.lookup y=some .local)(O:CompOk X N scope own caps)(hc:X.calm=true)(hi:PI X tg iter wi)(hg:∀C s H fp,PG (q0v X N scope C s H fp) tg g)
  (ht:∀C s H fp,PIfs (q0v X N scope C s H fp) ifs tc)(he:∀C s H fp,PE (q0v X N scope C s H fp) elt te)
  (hsw:swapsWith (.ListComp elt [⟨tg,iter,ifs,0⟩] scope pos) (some (.Name y py)) spos.line X.env=pure true:=by rfl)(hs:∀x,foldedSetIterable iter X.env x=pure x:=by intro _;rfl):
  PS X (.Assign [.Name y py] (.ListComp elt [⟨tg,iter,ifs,0⟩] scope pos) spos) (tAsg (q9j wi g tc te own caps) (qaf i)):=by
 intro pins s σ H D I h
 rw[exec_Assign_Name_used _ _ _ _ hsw]
 refine yD (wpAny_standAt (yD ?_))
 show wpAny _ _ (do let _<-comprehension (.ListComp elt [⟨tg,iter,ifs,0⟩] scope pos) scope X.env _ (newList []) false (eval iter X.env) (some (assign (.Name y py) X.env))) _ _ s
 refine yD (wpAny_mono (q6H (use:=some (assign (.Name y py) X.env)) (QQ:=fun _ s'=>SP X pins D .next s') O hc hi hg ht he hs I h fun L C H' s' m I' q hn h0 h1 h2 h3 h4=>?_) (fun _ s' hq=>wpAny_pure (wpAny_pure hq)) fun _ _ e=>e)
 refine wpAny_assign_Name (q4R I' hN hi' (.inl hy) (v:= .ref L) rfl (fun s2 I2 ⟨a,sb,ha⟩=>?_) (.inr hy))
 have hac:C≠a:=by
  rcases ha with ha|ha
  ·rw [ha];exact h1
  ·exact (h3 _ _ ha).symm
 exact⟨m,hn.sameBut sb hac,fun h' sb'=>⟨_,H',I2.off h0 h1 h2 h3 h4 sb',q⟩⟩
end
end L2
namespace PySem
open Sem (wp)
section
variable {prog:Program}{w:World}{A:Around}{E:Value->Shared->Prop}{s:Shared}
theorem q79 {I T:Addr}{k:Nat}{vals:Array Value}{y:Value}{Q:Value->Shared->Prop}(st:s.heap.IsTupleIter I T k)(tp:s.heap.IsTuple T vals)(hy:vals[k]? =some y)
  (hQ:∀h',h'.IsTupleIter I T (k+1)->Heap.SameBut I s.heap h'->Q y {s with heap:=h'}):wpAny (model prog w) A (Builtin.SmallTypes.nextOf (.ref I)) Q E s:=by
 obtain⟨oI,eI,cI,dI⟩:=id st
 obtain⟨oT,eT,_,nT,dT⟩:=tp
 unfold Builtin.SmallTypes.nextOf
 refine yD (wpAny_callSpecial?_slot (name:=Str.ofString "__next__") st.typeIs F.slot_tuple_iterator_next (wpAny_call_entry F.slot_tuple_iterator_next st.typeIs F.entry_tuple_iterator_next ?_ (F.args_tuple_iterator_next_1 _)))
 show wpAny _ _ (field (.ref I) 0 >>= _) _ _ s
 refine yD (wpAny_field eI dI (x:= .ref T) rfl ?_)
 show wpAny _ _ (if (Value.ref T==Value.none)=true then _ else _) _ _ s
 rw[if_neg (show¬((Value.ref T==Value.none)=true) from Bool.false_ne_true)]
 show wpAny _ _ (field (.ref I) 1 >>= _) _ _ s
 refine yD (wpAny_field eI dI (x:= .int k 0) rfl ?_)
 show wpAny _ _ (seqItems? (.ref T) >>= _) _ _ s
 refine yD (wpAny_seqItems eT dT ?_)
 simp only[Int.toNat_natCast,hy]
 refine yD (wpAny_setField eI dI (by simp) (wpAny_pure ⟨y,rfl,wpAny_pure (hQ _ ?_ (Heap.SameBut.update ..))⟩))
 exact⟨_,Heap.get?_update_self _ eI (Obj.isFreed_of_fields (Obj.data_mapFields dI _)),(Obj.cls_mapFields ..).trans cI,by rw[Obj.data_mapFields dI];simp[rawInt]⟩
theorem q2f {I T:Addr}{k:Nat}{vals:Array Value}{Q:Value->Shared->Prop}(hh:A.handled=none)(st:s.heap.IsTupleIter I T k)(tp:s.heap.IsTuple T vals)(hy:vals[k]? =none)
  (hE:∀h' e,Heap.ExtBut I s.heap h'->(∃o,h'.get? e=some o/\o.cls= .type "StopIteration")->E (.ref e) {s with heap:=h'}):wpAny (model prog w) A (Builtin.SmallTypes.nextOf (.ref I)) Q E s:=by
 obtain⟨oI,eI,cI,dI⟩:=id st
 obtain⟨oT,eT,_,nT,dT⟩:=tp
 unfold Builtin.SmallTypes.nextOf
 refine yD (wpAny_callSpecial?_slot (name:=Str.ofString "__next__") st.typeIs F.slot_tuple_iterator_next (wpAny_call_entry F.slot_tuple_iterator_next st.typeIs F.entry_tuple_iterator_next ?_ (F.args_tuple_iterator_next_1 _)))
 show wpAny _ _ (field (.ref I) 0 >>= _) _ _ s
 refine yD (wpAny_field eI dI (x:= .ref T) rfl ?_)
 show wpAny _ _ (if (Value.ref T==Value.none)=true then _ else _) _ _ s
 rw[if_neg (show¬((Value.ref T==Value.none)=true) from Bool.false_ne_true)]
 show wpAny _ _ (field (.ref I) 1 >>= _) _ _ s
 refine yD (wpAny_field eI dI (x:= .int k 0) rfl ?_)
 show wpAny _ _ (seqItems? (.ref T) >>= _) _ _ s
 refine yD (wpAny_seqItems eT dT ?_)
 simp only[Int.toNat_natCast,hy]
 refine yD (wpAny_rule (yD (wpAny_setField eI dI (by simp) ?_)))
 show wpAny _ _ (newExc (.type "StopIteration") [] >>= _) _ _ _
 refine yD ?_
 simp only[newExc,newTuple]
 refine yD (wpAny_newObj_type ?_ (by size_fits))
 refine yD (m:=firstArgMember _ _) (wpAny_of_eq (a:=Value.none) (by first|rfl|(simp only[firstArgMember];rfl)) ?_)
 refine wpAny_newObj_type ?_ (by size_fits)
 simp only[raiseNew]
 refine yD (wpAny_handled ?_)
 first|rw[show A.in1.handled=none from hh]|rw[hh]
 refine yD (wpAny_pure (wpAny_throw ?_))
 exact hE _ _ (((Heap.SameBut.update ..).extBut.push _).push _) ⟨_,Heap.get?_push_size _ rfl,rfl⟩
end
theorem Heap.IsTuple.at2 {h h':Heap}{a:Addr}{vals:Array Value}(x:h.IsTuple a vals)(e:∀o,h.get? a=some o->h'.get? a=some o):h'.IsTuple a vals:=let ⟨o,q,r⟩:=x;⟨o,e o q,r⟩
theorem Heap.IsTupleIter.at2 {h h':Heap}{a t:Addr}{i:Nat}(x:h.IsTupleIter a t i)(e:∀o,h.get? a=some o->h'.get? a=some o):h'.IsTupleIter a t i:=let ⟨o,q,r⟩:=x;⟨o,e o q,r⟩
theorem Draws.tup {prog:Program}{w:World}{A:Around}(hh:A.handled=none)(I T:Addr)(hne:T≠I)(vals:Array Value):
  Draws prog w A I [I,T] vals.size (fun i v=>vals[i]? =some v) (fun i h=>h.IsTupleIter I T i/\h.IsTuple T vals) where
 live:=fun _ _ st=>let ⟨o,ho,_⟩:=st.1;⟨o,ho⟩
 frame:=fun _ _ _ st hk=>⟨st.1.at2 fun o e=>hk I (by simp) o e,st.2.at2 fun o e=>hk T (by simp) o e⟩
 item:=fun i s Q E hi st hQ=>q79 st.1 st.2 (y:=vals[i]) (by simp[hi]) fun h' st' sb=>hQ _ h' s.toks (by simp[hi]) ⟨st',st.2.extBut sb.extBut hne⟩ sb
 done:=fun s Q E st hE=>q2f hh st.1 st.2 (by simp) hE
section
open AutoSeq1 (wpAny_loadPart')
theorem q3t (l:Addr)(items:Array Value)(n:Nat)(dct:Option Addr)(sl:Array (Option Value)):
  Meets (Builtin.«enumerate.__new__» ⟨[.type "enumerate",.ref l],[]⟩) (fun _ R s=>s.heap.get? l=some {cls:= .type "tuple",dict:=dct,data:= .seq items n,slots:=sl}/\
   R (.ok (.ret (.ref (s.heap.push {cls:= .type "tuple_iterator",data:= .fields #[.ref l,.int 0 0]}).objs.size)))
    {s with heap:=(s.heap.push {cls:= .type "tuple_iterator",data:= .fields #[.ref l,.int 0 0]}).push {cls:= .type "enumerate",data:= .fields #[.none,.bool false,.ref s.heap.objs.size,rawInt 0,.none,.none]}}):=
 .of_wp fun prog w A R s h=>by
  obtain⟨hp,g,d,tk,os⟩:=s;obtain⟨hl,h⟩:=h
  have hsub:=sub_enumerate
  have hL:Heap.IsTuple (Shared.heap ⟨hp,g,d,tk,os⟩) l items:=⟨_,hl,rfl,n,rfl⟩
  wp_walk using wpAny_loadPart' hl
  refine wpAny_stack_any fun st=>wpAny_pure ?_
  split
  ·rename_i c _ _ _ _ _
   cases(c==Value.type "enumerate")
   ·wp_walk using wpAny_loadPart' hl,wpAny_pyIter_tuple hL
    exact⟨_,rfl,h⟩
   ·wp_walk using wpAny_loadPart' hl,wpAny_pyIter_tuple hL
    exact⟨_,rfl,h⟩
  ·wp_walk using wpAny_loadPart' hl,wpAny_pyIter_tuple hL
   exact⟨_,rfl,h⟩
variable {prog:Program}{w:World}{A:Around}{E:Value->Shared->Prop}{s:Shared}
theorem q3D {l:Addr}{items:Array Value}{Q:Value->Shared->Prop}(hL:s.heap.IsTuple l items)
  (h:∀h',IsEnum h' (s.heap.objs.size+1) s.heap.objs.size 0 .none->h'.IsTupleIter s.heap.objs.size l 0->h'.objs.size=s.heap.objs.size+2->
   (∀b o,s.heap.get? b=some o->h'.get? b=some o)->Q (.ref (s.heap.objs.size+1)) {s with heap:=h'}):
  wpAny (model prog w) A (call (.type "enumerate") [.ref l]) Q E s:=by
 obtain⟨⟨c,dct,dt,sl⟩,hl,hc,n,hd⟩:=hL
 replace hc:c= .type "tuple":=hc
 replace hd:dt= .seq items n:=hd
 subst hc hd
 refine callType_new F.called_enumerate (by decide) (F.typeCall_enumerate_1 _) (F.newCall_enumerate_1 _) (fun obj=>F.args_object_init_2 obj _) F.entry_enumerate_new (q3t l items n dct sl) ⟨hl,?_⟩
 have hz:(s.heap.push {cls:= .type "tuple_iterator",data:= .fields #[.ref l,.int 0 0]}).objs.size=s.heap.objs.size+1:=Heap.size_push ..
 show _/\_
 rw[hz]
 have he:IsEnum ((s.heap.push {cls:= .type "tuple_iterator",data:= .fields #[.ref l,.int 0 0]}).push
   {cls:= .type "enumerate",data:= .fields #[.none,.bool false,.ref s.heap.objs.size,rawInt 0,.none,.none]}) (s.heap.objs.size+1) s.heap.objs.size 0 .none:=by
  have q:=Heap.get?_push_size (s.heap.push {cls:= .type "tuple_iterator",data:= .fields #[.ref l,.int 0 0]})
   (o:={cls:= .type "enumerate",data:= .fields #[.none,.bool false,.ref s.heap.objs.size,rawInt 0,.none,.none]}) rfl
  rw[hz] at q;exact q
 refine⟨⟨_,he,rfl⟩,h _ he ⟨_,Heap.get?_push_of_some _ (Heap.get?_push_size _ rfl),rfl,rfl⟩ (by rw[Heap.size_push,hz]) fun b o x=>Heap.get?_push_of_some _ (Heap.get?_push_of_some _ x)⟩
end
end PySem
namespace L2
open PySem PySem.Spec PyProof.Rows
section
variable {X:Cx}{pins:List (Addr×Obj)}{σ:St}{H:Hp}{s:Shared}
theorem Inv.turnedL {h':Heap}{t':Nat}{ch:List Addr}(I:Inv X pins σ H s)(hf:∀b∈ch,FpOk X pins H b)(k:∀b o,b∉ch->s.heap.get? b=some o->h'.get? b=some o):Inv X pins σ H {s with heap:=h',toks:=t'}:=by
 have nit:∀b u,H b=some u->b∉ch:=fun b u e z=>by rw[(hf b z).1] at e;cases e
 refine I.step (g':=s.gens) (d':=s.drawn) (ch:=ch) (fun b hb=>⟨(hf b hb).2.2.2.1,(hf b hb).2.1,(hf b hb).2.2.2.2.1,(hf b hb).2.2.2.2.2⟩) (fun b o _ _ hc e _=>k b o hc e) (fun b o _ _ hc e _=>⟨o.slots,k b o hc e⟩) (fun _ _ _ _ n=>n)
  (fun b o hc e=>⟨o,k b o hc e⟩) (fun _ _ e=>e) (fun _ _ _ e=>e) (fun b ps e=>⟨#[],by rw[e];simp⟩) (fun m hm=>?_) (fun b u e=>?_) I.bare
 ·obtain ⟨o,es,ep,ho,r⟩:=hm
  exact⟨o,es,ep,k _ o (fun z=>(hf _ z).2.1 rfl) ho,r⟩
 ·refine (I.hok b u e).stay (fun c v hc q=>k c v ?_ q) (fun _ q=>q) fun _ _ q=>q
  rcases hc with z|z
  ·rw [z];exact nit b u e
  ·exact nit c _ z
theorem Inv.track {a:Addr}{o:HO}(I:Inv X pins σ H s)(ha:X.s₀.heap.objs.size<=a)(hn:H a=none)(hL:a≠X.env.locals)(hc:∀x c,X.env.cells.lookup x=some c->c≠a)(hp:∀p∈X.pn++pins,p.1≠a)
  (new:q01 X.prog X.w (upd H a o) s.heap a o):Inv X pins σ (upd H a o) s:=by
 have ne:∀b ob,X.s₀.heap.get? b=some ob->b≠a:=fun b ob e=>Nat.ne_of_lt (Nat.lt_of_lt_of_le (Heap.lt_size e) ha)
 refine⟨I.ok,I.os,I.bare,⟨I.base.keep,I.base.slot,fun b ob e n hx=>by rw[ql (ne b ob e)];exact I.base.free b ob e n hx,I.base.there,fun b xs e=>?_,fun b ob u e=>?_,fun b ps e=>?_⟩,I.loc,I.cell,by rw[ql hL.symm];exact I.free,
  fun x c e=>by rw[ql (hc x c e)];exact I.freeC x c e,fun p hpp=>?_,fun b u e=>?_,I.len⟩
 ·have q:=I.base.tups b xs e
  rw[ql (qp q hn)];exact q
 ·have q:=I.base.frzs b ob u e
  rw[ql (qp q hn)];exact q
 ·obtain ⟨more,q⟩:=I.base.tbls b ps e
  exact⟨more,by rw[ql (qp q hn)];exact q⟩
 ·obtain ⟨e1,n1,r⟩:=I.pin p hpp
  exact⟨e1,by rw[ql (hp p hpp)];exact n1,r⟩
 ·by_cases hb:b=a
  ·subst hb;rw[qg] at e;cases e;exact new
  ·rw [ql hb] at e
   exact(I.hok b u e).stay (fun c v _ q=>q) (fun c q=>by rw[ql (qp q hn)];exact q) fun c xs q=>by rw[ql (qp q hn)];exact q
theorem Inv.yields {h':Heap}{t':Nat}{ch:List Addr}{T:Addr}{xs:List V}{vals:List Value}(I:Inv X pins σ H s)(hf:∀b∈ch,FpOk X pins H b)(k:∀b o,b∉ch->s.heap.get? b=some o->h'.get? b=some o)
  (hT:s.heap.objs.size<=T)(tp:h'.IsTuple T vals.toArray)(r:Vals xs vals)(hz:xs.length<=sizeLine):Inv X pins σ (upd H T (.tup xs)) {s with heap:=h',toks:=t'}:=by
 have f:FpOk X pins H T:=I.fpOk hT (I.hok.fresh hT)
 have I1:Inv X pins σ H {s with heap:=h',toks:=t'}:=I.turnedL hf k
 exact I1.track (Nat.le_trans I.sz hT) f.1 f.2.1 f.2.2.2.2.1 f.2.2.2.2.2 ⟨hz,vals,r,tp⟩
theorem q8E {ch:List Addr}{T:Addr}{o:HO}(hf:∀b∈ch,FpOk X pins H b)(hT:∀b∈ch,b≠T):∀b∈ch,FpOk X pins (upd H T o) b:=fun b hb=>⟨by rw[ql (hT b hb)];exact(hf b hb).1,(hf b hb).2⟩
end
def Ite (Sq:Hp->List V->Prop):It:=
 ⟨fun i H=>∃xs x,Sq H xs/\xs[i]? =some x,fun i H y H'=>∃T,H T=none/\y= .ref T/\∀xs x,Sq H xs->xs[i]? =some x->H'=upd H T (.tup [.int i,x]),fun i H=>∃xs,Sq H xs/\xs.length<=i⟩
theorem q6W {P:Program}{w:World}{K:W.Frag}{elts:List Expr}{k:Nat}{tp:Pos}(a e it:Addr)(hei:e≠it):Turn P w K (.Tuple elts k tp) (Ite fun H xs=>SqL K H a xs) [e,it] e (fun i h=>(∃old,IsEnum h e it i old)/\h.IsListIter it a i) where
 mem:=by simp
 obj:=fun i h st b hb=>by
  obtain⟨⟨old,q⟩,o,q2,c,d⟩:=st
  rcases List.mem_cons.mp hb with rfl|hb
  ·exact ⟨_,q,fun v z=>by cases z⟩
  ·rw [List.mem_singleton.mp hb]
   exact⟨o,q2,fun v z=>by rw[d] at z;cases z⟩
 keep:=fun i h h' st kk=>⟨⟨st.1.choose,kk e (by simp) _ st.1.choose_spec⟩,st.2.at fun o q=>kk it (by simp) o q⟩
 item:=by
  intro X hP hw hK hc i pins s σ H E I hf st hg
  subst hP hw hK
  obtain⟨xs,x,hq,hx⟩:=hg
  obtain⟨⟨old,he⟩,hit⟩:=st
  obtain⟨its,rv,p,hz⟩:=I.list hq
  obtain⟨u,hu,ru⟩:=rv.get hx
  have hlen:=rv.length
  have hi:i<its.toArray.size:=by rw[List.size_toArray];exact(yA hu).1
  have hai:a≠it:=fun z=>by
   obtain⟨o,q,c,d⟩:=hit
   obtain⟨o',q',c',_⟩:=p.isList
   rw[z] at q';rw[q] at q';cases q';rw[c] at c';simp at c'
  have hae:e≠a:=fun z=>by
   obtain⟨o',q',c',_⟩:=p.isList
   rw[<-z,he] at q';cases q';simp at c'
  refine wpAny_pyNext_enum_itemD (Draws.list (A:=X.A.in1) (I.ok.hd hc) it a hai its.toArray) he ⟨hit,p.isList⟩ hi hei (by simp[hei,hae]) fun y h' tk hy ho st' hT hsz hk=>?_
  have hyu:y=u:=by
   have:its[i]? =some y:=by simpa using hy
   rw[hu] at this;exact(Option.some.inj this).symm
  subst hyu
  have ne:∀b∈[e,it],b≠s.heap.objs.size:=fun b hb=>by
   rcases List.mem_cons.mp hb with rfl|hb
   ·exact Nat.ne_of_lt (Heap.lt_size he)
   ·rw [List.mem_singleton.mp hb];obtain⟨o,q,_⟩:=hit;exact Nat.ne_of_lt (Heap.lt_size q)
  have kk:∀b o,b∉[e,it]->s.heap.get? b=some o->h'.get? b=some o:=fun b o hb q=>hk b o (fun z=>hb (by simp[z])) (fun z=>hb (by simp[z])) q
  have I1:Inv X pins σ (upd H s.heap.objs.size (.tup [.int i,x])) {s with heap:=h',toks:=tk+1}:=I.yields (vals:=[.int i tk,y]) hf kk (Nat.le_refl _) ⟨_,hT,rfl,_,rfl⟩ (.cons ⟨tk,rfl⟩ (.cons ru .nil)) (by show 2<=sizeLine;decide)
  have hf1:=q8E (o:= .tup [.int i,x]) hf ne
  refine⟨_,rfl,wpAny_letOwnedTupleGo_enum ho fun h'' he'' sb=>?_⟩
  have I2:Inv X pins σ (upd H s.heap.objs.size (.tup [.int i,x])) {s with heap:=h'',toks:=tk+1}:=I1.turnedL (t':=tk+1) hf1 fun b o hb q=>(sb.2 b fun z=>hb (by simp[z])).trans q
  refine⟨.ref s.heap.objs.size,_,I2,rfl,⟨_,I.hok.fresh (Nat.le_refl _),rfl,fun ys y' hy' hx'=>?_⟩,⟨⟨_,by simpa using he''⟩,st'.1.at fun o q=>(sb.2 it hei.symm).trans q⟩,fun b hb=>(hf1 b hb).1⟩
  have:=I.list_inj hy' hq
  subst this
  rw[hx] at hx'
  rw[Option.some.inj hx']
 done:=by
  intro X hP hw hK hc i pins s σ H E I hf st hg
  subst hP hw hK
  obtain⟨xs,hq,hx⟩:=hg
  obtain⟨⟨old,he⟩,hit⟩:=st
  obtain⟨its,rv,p,hz⟩:=I.list hq
  have hlen:=rv.length
  have hai:a≠it:=fun z=>by
   obtain⟨o,q,c,d⟩:=hit
   obtain⟨o',q',c',_⟩:=p.isList
   rw[z] at q';rw[q] at q';cases q';rw[c] at c';simp at c'
  have D:Draws X.prog X.w X.A.in1 it [it,a] i (fun _ _=>False) (fun k h=>k=i/\h.IsListIter it a i/\h.IsList a its.toArray):=
   {live:=fun _ _ st=>let ⟨o,ho,_⟩:=st.2.1;⟨o,ho⟩
    frame:=fun _ _ _ st hk=>⟨st.1,st.2.1.at fun o q=>hk it (by simp) o q,st.2.2.at fun o q=>hk a (by simp) o q⟩
    item:=fun k s Q E hk st _=>absurd st.1 (Nat.ne_of_lt hk)
    done:=fun s Q E st hE=>wpAny_nextOf_list_end (I.ok.hd hc) st.2.1 st.2.2 (by simp;omega) hE}
  refine wpAny_pyNext_enum_endD D he ⟨rfl,hit,p.isList⟩ fun h' eb=>⟨rfl,I.turnedL (t':=s.toks) (ch:=[e,it]) hf fun b o hb q=>eb b o (fun z=>hb (by simp[z])) q⟩
 self:=fun _ _ _ _ _ st h=>wpAny_pyIter_enum st.1.choose_spec h
theorem q6V {P:Program}{w:World}{K:W.Frag}{elts:List Expr}{k:Nat}{tp:Pos}(a e it:Addr)(hei:e≠it):Turn P w K (.Tuple elts k tp) (Ite fun H xs=>SqT K H a xs) [e,it] e (fun i h=>(∃old,IsEnum h e it i old)/\h.IsTupleIter it a i) where
 mem:=by simp
 obj:=fun i h st b hb=>by
  obtain⟨⟨old,q⟩,o,q2,c,d⟩:=st
  rcases List.mem_cons.mp hb with rfl|hb
  ·exact ⟨_,q,fun v z=>by cases z⟩
  ·rw [List.mem_singleton.mp hb]
   exact⟨o,q2,fun v z=>by rw[d] at z;cases z⟩
 keep:=fun i h h' st kk=>⟨⟨st.1.choose,kk e (by simp) _ st.1.choose_spec⟩,st.2.at2 fun o q=>kk it (by simp) o q⟩
 item:=by
  intro X hP hw hK hc i pins s σ H E I hf st hg
  subst hP hw hK
  obtain⟨xs,x,hq,hx⟩:=hg
  obtain⟨⟨old,he⟩,hit⟩:=st
  obtain⟨its,rv,p,hz⟩:=I.tuple hq
  have p:s.heap.IsTuple a its.toArray:=p
  obtain⟨u,hu,ru⟩:=rv.get hx
  have hlen:=rv.length
  have hi:i<its.toArray.size:=by rw[List.size_toArray];exact(yA hu).1
  have hai:a≠it:=fun z=>by
   obtain⟨o,q,c,d⟩:=hit
   obtain⟨o',q',c',_⟩:=p
   rw[z] at q';rw[q] at q';cases q';rw[c] at c';simp at c'
  have hae:e≠a:=fun z=>by
   obtain⟨o',q',c',_⟩:=p
   rw[<-z,he] at q';cases q';simp at c'
  refine wpAny_pyNext_enum_itemD (Draws.tup (A:=X.A.in1) (I.ok.hd hc) it a hai its.toArray) he ⟨hit,p⟩ hi hei (by simp[hei,hae]) fun y h' tk hy ho st' hT hsz hk=>?_
  have hyu:y=u:=by
   have:its[i]? =some y:=by simpa using hy
   rw[hu] at this;exact(Option.some.inj this).symm
  subst hyu
  have ne:∀b∈[e,it],b≠s.heap.objs.size:=fun b hb=>by
   rcases List.mem_cons.mp hb with rfl|hb
   ·exact Nat.ne_of_lt (Heap.lt_size he)
   ·rw [List.mem_singleton.mp hb];obtain⟨o,q,_⟩:=hit;exact Nat.ne_of_lt (Heap.lt_size q)
  have kk:∀b o,b∉[e,it]->s.heap.get? b=some o->h'.get? b=some o:=fun b o hb q=>hk b o (fun z=>hb (by simp[z])) (fun z=>hb (by simp[z])) q
  have I1:Inv X pins σ (upd H s.heap.objs.size (.tup [.int i,x])) {s with heap:=h',toks:=tk+1}:=I.yields (vals:=[.int i tk,y]) hf kk (Nat.le_refl _) ⟨_,hT,rfl,_,rfl⟩ (.cons ⟨tk,rfl⟩ (.cons ru .nil)) (by show 2<=sizeLine;decide)
  have hf1:=q8E (o:= .tup [.int i,x]) hf ne
  refine⟨_,rfl,wpAny_letOwnedTupleGo_enum ho fun h'' he'' sb=>?_⟩
  have I2:Inv X pins σ (upd H s.heap.objs.size (.tup [.int i,x])) {s with heap:=h'',toks:=tk+1}:=I1.turnedL (t':=tk+1) hf1 fun b o hb q=>(sb.2 b fun z=>hb (by simp[z])).trans q
  refine⟨.ref s.heap.objs.size,_,I2,rfl,⟨_,I.hok.fresh (Nat.le_refl _),rfl,fun ys y' hy' hx'=>?_⟩,⟨⟨_,by simpa using he''⟩,st'.1.at2 fun o q=>(sb.2 it hei.symm).trans q⟩,fun b hb=>(hf1 b hb).1⟩
  have:=I.tuple_inj hy' hq
  subst this
  rw[hx] at hx'
  rw[Option.some.inj hx']
 done:=by
  intro X hP hw hK hc i pins s σ H E I hf st hg
  subst hP hw hK
  obtain⟨xs,hq,hx⟩:=hg
  obtain⟨⟨old,he⟩,hit⟩:=st
  obtain⟨its,rv,p,hz⟩:=I.tuple hq
  have p:s.heap.IsTuple a its.toArray:=p
  have hlen:=rv.length
  have D:Draws X.prog X.w X.A.in1 it [it,a] i (fun _ _=>False) (fun k h=>k=i/\h.IsTupleIter it a i/\h.IsTuple a its.toArray):=
   {live:=fun _ _ st=>let ⟨o,ho,_⟩:=st.2.1;⟨o,ho⟩
    frame:=fun _ _ _ st hk=>⟨st.1,st.2.1.at2 fun o q=>hk it (by simp) o q,st.2.2.at2 fun o q=>hk a (by simp) o q⟩
    item:=fun k s Q E hk st _=>absurd st.1 (Nat.ne_of_lt hk)
    done:=fun s Q E st hE=>q2f (I.ok.hd hc) st.2.1 st.2.2 (by simp;omega) hE}
  refine wpAny_pyNext_enum_endD D he ⟨rfl,hit,p⟩ fun h' eb=>⟨rfl,I.turnedL (t':=s.toks) (ch:=[e,it]) hf fun b o hb q=>eb b o (fun z=>hb (by simp[z])) q⟩
 self:=fun _ _ _ _ _ st h=>wpAny_pyIter_enum st.1.choose_spec h
theorem q2j:bootBuiltins "enumerate"=some (.type "enumerate"):=by walk_at "k"
section
variable {X:Cx}{elts:List Expr}{k:Nat}{tp:Pos}
def q8z (K:W.Frag)(ta:TA):TI:=fun σ H R=>ta σ H fun vs H1=>∃a,vs=[.ref a]/\(∃xs,SqL K H1 a xs)/\R (Ite fun H xs=>SqL K H a xs) H1
def q8y (K:W.Frag)(ta:TA):TI:=fun σ H R=>ta σ H fun vs H1=>∃a,vs=[.ref a]/\(∃xs,SqT K H1 a xs)/\R (Ite fun H xs=>SqT K H a xs) H1
theorem q9C {a:Expr}{ta:TA}{p pos:Pos}(hg:Gl X "enumerate")(hm:X.mg "enumerate"=none)(ha:PA X [a] ta)(hs:starEach [a] X.env=[(false,eval a X.env)]:=by rfl):PI X (.Tuple elts k tp) (.Call (.Name "enumerate" p) [a] [] pos) (q8z X.K ta):=by
 intro pins s σ H R I h
 refine Call_ (q3Y I hg hm q2j (PyProof.Rows.callWith_type1 (thn (ha pos pins s σ H _ I h) fun us s1 ⟨vs,H1,I1,r1,q1⟩=>?_) hs rfl))
 obtain⟨l,e,⟨xs,hq⟩,q⟩:=q1
 subst e
 obtain⟨u,rfl,rx⟩:=q4O r1
 cases rx
 obtain⟨its,rv,pl,hz⟩:=I1.list hq
 refine call_enumerate_list pl.isList fun h' he hit hsz hk=>wpAny_pyIter_enum he ?_
 refine⟨_,[s1.heap.objs.size+1,s1.heap.objs.size],_,_,H1,rfl,I1.kept (t':=s1.toks) hk,q6W l _ _ (Nat.succ_ne_self _),⟨⟨_,he⟩,hit⟩,fun b hb=>?_,q⟩
 rcases List.mem_cons.mp hb with rfl|hb
 ·exact I1.fpOk (Nat.le_succ _) (I1.hok.fresh (Nat.le_succ _))
 ·rw [List.mem_singleton.mp hb];exact I1.fpOk (Nat.le_refl _) (I1.hok.fresh (Nat.le_refl _))
theorem q9B {a:Expr}{ta:TA}{p pos:Pos}(hg:Gl X "enumerate")(hm:X.mg "enumerate"=none)(ha:PA X [a] ta)(hs:starEach [a] X.env=[(false,eval a X.env)]:=by rfl):PI X (.Tuple elts k tp) (.Call (.Name "enumerate" p) [a] [] pos) (q8y X.K ta):=by
 intro pins s σ H R I h
 refine Call_ (q3Y I hg hm q2j (PyProof.Rows.callWith_type1 (thn (ha pos pins s σ H _ I h) fun us s1 ⟨vs,H1,I1,r1,q1⟩=>?_) hs rfl))
 obtain⟨l,e,⟨xs,hq⟩,q⟩:=q1
 subst e
 obtain⟨u,rfl,rx⟩:=q4O r1
 cases rx
 obtain⟨its,rv,pl,hz⟩:=I1.tuple hq
 refine q3D (show s1.heap.IsTuple l its.toArray from pl) fun h' he hit hsz hk=>wpAny_pyIter_enum he ?_
 refine⟨_,[s1.heap.objs.size+1,s1.heap.objs.size],_,_,H1,rfl,I1.kept (t':=s1.toks) hk,q6V l _ _ (Nat.succ_ne_self _),⟨⟨_,he⟩,hit⟩,fun b hb=>?_,q⟩
 rcases List.mem_cons.mp hb with rfl|hb
 ·exact I1.fpOk (Nat.le_succ _) (I1.hok.fresh (Nat.le_succ _))
 ·rw [List.mem_singleton.mp hb];exact I1.fpOk (Nat.le_refl _) (I1.hok.fresh (Nat.le_refl _))
end
end L2
namespace PySem
open Sem (wp)
end PySem
namespace L2
open PySem PySem.Spec PyProof.Rows
theorem kit_is (K:W.Frag):PySem.W.kitOne K (.type "int") (.type "str")=some false:=by kernel_rfl
section
variable {X:Cx}
def rIsiT (K:W.Frag):List V->Hp->VK->Prop:=fun xs H Q=>∃x n t b,xs=[x,.ty n]/\TyOf K H x t/\PySem.W.kitOne K t (.type n)=some b/\Q (.bl b) H
theorem q97:q24 X (.builtin "isinstance") (rIsiT X.K):=by
 intro pins s σ H xs us Q I r h
 obtain⟨x,n,t,b,rfl,ty,e,q⟩:=h
 obtain⟨u,v,rfl,rx,ry⟩:=qaX r
 cases ry
 exact q8v I rx ty e fun tk=>⟨.bl b,H,I.tok _,rfl,q⟩
theorem q9h {bs:List Bool}:∀{us:List Value},Vals (bs.map V.bl) us->us=bs.map Value.bool:=by
 induction bs with
 |nil=>intro us r;cases r;rfl
 |cons b bs ih=>
  intro us r
  rw[List.map_cons] at r
  cases r with
  |cons r1 r2=>
   cases(show _=Value.bool b from r1)
   rw[ih r2]
   rfl
end
end L2
namespace HT
open PySem PyProof.Rows
section
variable {prog:Program}{w:World}{A:Around}{E:Value->Shared->Prop}{s:Shared}
theorem q2P {t sl:Addr}{items:Array Value}{vl vu:Value}{lo hi:Option Int}{Q:Value->Shared->Prop}(ht:IsTup s.heap t items)(hs:s.heap.IsSliceOf sl vl vu .none)(pl:IsPart vl lo)(pu:IsPart vu hi)
  (hw:sIx items.size 0 lo=0/\sIx items.size items.size hi=items.size)(h:Q (.ref t) s):wpAny (model prog w) A (getItem (.ref t) (.ref sl)) Q E s:=by
 obtain⟨os,hos,hcs,hds⟩:=id hs
 have hTs:s.TypeIs (.ref sl) "slice":=⟨os,hos,hcs⟩
 unfold getItem
 try with_reducible refine wpAny_holding ?_
 first|refine yD (wpAny_pure ?_)|skip
 refine yD (wpAny_sequenceKey ht.typeIs (by decide) ?_)
 refine yD (wpAny_callSpecial?_slot (name:=Str.ofString "__getitem__") ht.typeIs PyProof.Rows.slot_tuple_getitem (wpAny_call_entry PyProof.Rows.slot_tuple_getitem ht.typeIs entry_tuple_getitem ?_ (args_tuple_getitem _ _)))
 show wpAny _ _ (Builtin.Tuple.tupleItemsOf (.ref t) >>= _) _ _ s
 refine yD (tupleItemsOf_ ht (yD (wpAny_typeOf hTs ?_)))
 rw[if_pos (by decide)]
 refine yD (q1M hs pl pu ?_)
 have yes:(((sIx items.size 0 lo:Nat):Int)==0&&(1:Int)==1&&(sIx items.size items.size hi - sIx items.size 0 lo)==items.size)=true:=by
  rw[hw.1,hw.2];simp
 show wpAny _ _ (if (((sIx items.size 0 lo:Nat):Int)==0&&(1:Int)==1&&(sIx items.size items.size hi - sIx items.size 0 lo)==items.size)=true then _ else _) _ _ s
 rw[if_pos yes]
 refine yD (m:=Builtin.Tuple.tupleIsExact _) ?_
 unfold Builtin.Tuple.tupleIsExact
 refine yD (wpAny_typeOf ht.typeIs (wpAny_pure ?_))
 simp only[beq_self_eq_true,if_true]
 first
  |exact yD (wpAny_rule (wpAny_pure ⟨_,rfl,wpAny_pure h⟩))
  |exact yD (wpAny_rule (yD (wpAny_pure (wpAny_pure ⟨_,rfl,wpAny_pure h⟩))))
  |exact yD (wpAny_rule (yD (wpAny_pure ⟨_,rfl,wpAny_pure h⟩)))
  |(trace_state;fail)
end
end HT
namespace L2
open PySem PySem.Spec PyProof.Rows
section
variable {X:Cx}
def rSlTA (K:W.Frag):V->Option Int->Option Int->Hp->VK->Prop:=fun x lo hi H Q=>∃a xs,x= .ref a/\SqT K H a xs/\(cutV xs lo hi=xs->Q (.ref a) H)/\∀p,H p=none->Q (.ref p) (upd H p (.tup (cutV xs lo hi)))
theorem qbd:SlR X (rSlTA X.K):=by
 intro pins s σ H x v vl vu lo hi sl Q I rx hs pl pu h
 obtain⟨a,xs,rfl,hx,h1,h2⟩:=h
 by_cases hw:HT.sIx xs.length 0 lo=0/\HT.sIx xs.length xs.length hi=xs.length
 ·have e:cutV xs lo hi=xs:=by unfold cutV;rw[hw.1,hw.2];simp
  cases rx
  obtain⟨its,r,ht,hz⟩:=I.tuple hx
  have hlen:its.toArray.size=xs.length:=by rw[List.size_toArray];exact r.length.symm
  exact⟨"tuple",_,PyProof.Rows.slot_tuple_getitem.lookup,ht.typeIs,HT.q2P ht hs pl pu (by rw[hlen];exact hw) ⟨.ref a,H,I,rfl,h1 e⟩⟩
 ·exact sl_tup pins s σ H (.ref a) v vl vu lo hi sl Q I rx hs pl pu ⟨a,xs,rfl,hx,hw,h2⟩
end
theorem q4v {J:It}{g:TG}{tc:TT}{te:TE}{R:Hp->Prop}{σ:St}{H:Hp}{D:Addr}(n:Nat)(Pv:Nat->St->Hp->Prop)(h0:Pv 0 σ H)
  (go:∀i σ H,i<n->Pv i σ H->J.go i H/\∀x H',J.yld i H x H'->g x σ H' fun σ3 H3=>tc σ3 H3 fun b H4=>
   if b=true then te σ3 H4 fun y H5=>∃ys,H5 D=some (.lst ys)/\ys.length<sizeLine/\Pv (i+1) σ3 (upd H5 D (.lst (ys++[y]))) else Pv (i+1) σ3 H4)(stop:∀σ H,Pv n σ H->J.stop n H/\R H):
  ∃W:Nat->Nat->St->Hp->Prop,(∃m,W 0 m σ H)/\∀i m σ H,W i m σ H->
   (J.stop i H/\R H)\/(J.go i H/\∃N:St->Hp->Prop,(∀σ' H',N σ' H'->∃m',m'<m/\W (i+1) m' σ' H')/\∀x H',J.yld i H x H'->g x σ H' fun σ3 H3=>tc σ3 H3 fun b H4=>
    if b=true then te σ3 H4 fun y H5=>∃ys,H5 D=some (.lst ys)/\ys.length<sizeLine/\N σ3 (upd H5 D (.lst (ys++[y]))) else N σ3 H4):=by
 refine⟨fun i m σ H=>m=n - i/\i<=n/\Pv i σ H,⟨n,by simp,Nat.zero_le _,h0⟩,?_⟩
 rintro i m σ H ⟨rfl,hi,p⟩
 by_cases hlt:i<n
 ·obtain ⟨q1,q2⟩:=go i σ H hlt p
  exact .inr ⟨q1,Pv (i+1),fun σ' H' p'=>⟨n - (i+1),by omega,rfl,hlt,p'⟩,q2⟩
 ·have e:i=n:=by omega
  subst e
  exact .inl (stop σ H p)
theorem Same.upd {H:Hp}{a:Addr}{o:HO}(h:H a=none):Same H (upd H a o):=fun b u e=>by rw[ql (qp e h)];exact e
theorem Same.put {H H':Hp}{a:Addr}{o:HO}(e:Same H H')(h:H a=none):Same H (L2.upd H' a o):=fun b u q=>by rw[ql (qp q h)];exact e b u q
def isFun:ScopeKind->Bool
 | .function=>true
 |_=>false
theorem qab {k:ScopeKind}(h:isFun k=true):k= .function:=by
 cases k<;>first|rfl|cases h
def q8T (Nx:List Str)(scx:Scope)(N:List Str)(scope:Scope)(own:Nat)(caps:List Nat):Bool:=
 isFun scope.kind&&scope.names.all (fun y=>(y.2 != .local||scope.names.lookup y.1==some .local)&&y.2 != .cell&&(y.2 != .free||scx.names.lookup y.1==some .cell||scx.names.lookup y.1==some .free))&&
  N.length==own+caps.length&&(caps.zip (N.drop own)).all fun p=>decide (Nx[p.1]? =some p.2)&&scope.names.lookup p.2==some .free
theorem q0y {X:Cx}{N:List Str}{scope:Scope}{own:Nat}{caps:List Nat}(Nx:List Str)(scx:Scope)(h:q8T Nx scx N scope own caps=true)(hN:X.N=Nx:=by rfl)(hs:X.env.scope=scx:=by rfl):CompOk X N scope own caps:=by
 unfold q8T at h
 simp only[Bool.and_eq_true,List.all_eq_true] at h
 obtain⟨⟨⟨h1,h2⟩,h3⟩,h4⟩:=h
 refine⟨qab h1,fun y hy hl=>?_,fun y hy hc=>?_,fun y hy hf=>?_,by simpa using h3,fun i j x e1 e2=>?_⟩
 ·have:=(h2 y hy).1.1
  simpa[hl] using this
 ·have:=(h2 y hy).1.2
  simp[hc] at this
 ·have:=(h2 y hy).2
  show X.env.scope.names.lookup y.1=some .cell\/X.env.scope.names.lookup y.1=some .free
  rw[hs]
  simpa[hf] using this
 ·have hm:(j,x)∈caps.zip (N.drop own):=by
   have e3:(N.drop own)[i]? =some x:=by rw[List.getElem?_drop];exact e2
   exact List.mem_iff_getElem?.mpr ⟨i,by rw[List.getElem?_zip_eq_some];exact⟨e1,e3⟩⟩
  have:=h4 _ hm
  rw[hN]
  exact⟨of_decide_eq_true this.1,by simpa using this.2⟩
structure Cal (P:Program)(w:World)(K:W.Frag)(mg:Str->Option Value)(base:Heap)(k:Nat)(x:Str)(ps:List Str)(sp:Sp):Prop where
 ex:∃f fd,FnOk P w K mg base CX0 k f fd ps sp/\mg x=some (.ref f)/\PySem.W.keepIn K (.ref f)=true/\q0W K fd ps []
structure Laid (K:W.Frag)(mg:Str->Option Value)(x:Str)(st:Stmt)(ps:List Str):Prop where
 ex:∃f fd,Fun K x x st f fd/\mg x=some (.ref f)/\q0W K fd ps []
section
variable {P:Program}{w:World}{K:W.Frag}{mg:Str->Option Value}{base:Heap}
theorem Laid.cal {x:Str}{st:Stmt}{N ps:List Str}{k:Nat}{sp:Sp}(L:Laid K mg x st ps)(S:FnScope N ps (qh st))(len:∀vs H Q E,sp vs H Q E->vs.length=ps.length)
  (hbody:∀(f:Addr) (cdv:Value) (A:Around) (outer:List Env) (s:Shared) (H:Hp) (vs:List V) (Q:VK) (E:XK),Room k (A.deeper (envOfC x (qh st) s.heap.objs.size f cdv))->sp vs H Q E->
   ∃t,PSs (cxOf CX0 P w K mg base N x (qh st) f cdv A outer s H E).nox (qR st) t/\t {nx:=fun _ H'=>Q .non H',rt:=Q} (start N vs) H):Cal P w K mg base (k+1) x ps sp:=by
 obtain⟨f,fd,F,m,b⟩:=L.ex
 exact⟨f,fd,F.ok S len (fun cdv A outer s H vs Q E hr h=>hbody f cdv A outer s H vs Q E hr h),m,F.kp,b⟩
theorem qbZ {h:Heap}{x:Str}{st:Stmt}{ps:List Str}{f:Addr}{oc:Value}{od an:Option Addr}{osl:Array (Option Value)}{kV doc pm cdv ct:Value}(X:K.In h)(G:h.Ns mainGlobals mg)(a:PySem.W.nsIn K mainGlobals x=some (some (.ref f)))
  (l:K.lookup f=some ⟨oc,od,.func (PySem.W.fnOf x x (q0j st) (qR st) (qh st) .none kV doc pm an cdv ct),osl⟩)(c:PySem.W.codeIn K cdv x=true)(k:PySem.W.keepIn K (.ref f)=true)
  (hb:∀(kV doc pm:Value) (an:Option Addr) (cdv ct:Value) (us:List Value),us.length=ps.length->bindArgs (PySem.W.fnOf x x (q0j st) (qR st) (qh st) .none kV doc pm an cdv ct) ⟨us,[]⟩=pure (ps.zip us)):Laid K mg x st ps:=
 ⟨f,_,q20 l c k,PySem.W.mg_of X G a,(q20 l c k).binds hb⟩
end
section
variable {X:Cx}{k k':Nat}{x:Str}{ps:List Str}{sp:Sp}{p pos:Pos}{e:Expr}{es:List Expr}{t:TA}
theorem qB (c:Cal X.prog X.w X.K X.mg X.base k x ps sp)(hr:Room k' X.A)(hk:k<=k')(hg:Gl X x)(ha:PA X (e::es) t)(hdb:(x==("__debug__":Str))=false:=by decide)(he:starEach (e::es) X.env=(false,eval e X.env)::starEach es X.env:=by rfl)
  (hpl:(backTo pos (starEach es X.env)).any (·.1)=false:=by rfl):PE X (.Call (.Name x p) (e::es) [] pos) (q7x sp [] E0 t):=by
 obtain⟨f,fd,F,m,kp,b⟩:=c.ex
 exact q87 F (hr.mono hk) hg m kp b .nil q5Q ha hdb he hpl
end
def tyS (H:Hp):V->Option String
 | .non=>some "NoneType"
 | .bl _=>some "bool"
 | .int _=>some "int"
 | .str _=>some "str"
 | .ref p=>match H p with
  |some (.lst _)=>some "list"
  |some (.tup _)=>some "tuple"
  |some (.frz _ (.lst _))=>some "list"
  |_=>none
 |_=>none
def subS (a n:String):Bool:=a==n||(a=="bool"&&n=="int")
def q8p (n:String):Bool:=n=="bool"||n=="int"||n=="str"||n=="list"||n=="tuple"
theorem qc0 (K:W.Frag):∀a∈["NoneType","bool","int","str","list","tuple"],∀n∈["bool","int","str","list","tuple"],PySem.W.kitOne K (.type a) (.type n)=some (subS a n):=by
 intro a ha n hn
 simp only[List.mem_cons,List.not_mem_nil,or_false] at ha hn
 rcases ha with rfl|rfl|rfl|rfl|rfl|rfl<;>rcases hn with rfl|rfl|rfl|rfl|rfl<;>kernel_rfl
theorem tyS_ty {K:W.Frag}{H:Hp}{x:V}{a:String}(h:tyS H x=some a):TyOf K H x (.type a)/\a∈["NoneType","bool","int","str","list","tuple"]:=by
 unfold tyS at h
 split at h
 ·cases h;exact⟨.non,by simp⟩
 ·cases h;exact⟨.bl _,by simp⟩
 ·cases h;exact⟨.int _,by simp⟩
 ·cases h;exact⟨.str _,by simp⟩
 ·split at h
  ·rename_i e;cases h;exact⟨.lst e,by simp⟩
  ·rename_i e;cases h;exact⟨.tup e,by simp⟩
  ·rename_i e;cases h;exact⟨.frz e,by simp⟩
  ·cases h
 ·cases h
section
variable {X:Cx}
def q73:List V->Hp->VK->Prop:=fun xs H Q=>∃x n a,xs=[x,.ty n]/\tyS H x=some a/\q8p n=true/\Q (.bl (subS a n)) H
theorem q3C:q24 X (.builtin "isinstance") q73:=by
 intro pins s σ H xs us Q I r h
 obtain⟨x,n,a,rfl,ty,kn,q⟩:=h
 obtain⟨t1,t2⟩:=tyS_ty (K:=X.K) ty
 refine q97 pins s σ H _ us Q I r ⟨x,n,_,_,rfl,t1,qc0 X.K a t2 n ?_,q⟩
 unfold q8p at kn
 simp only[Bool.or_eq_true,beq_iff_eq] at kn
 simp only[List.mem_cons,List.not_mem_nil,or_false]
 rcases kn with(((kn|kn)|kn)|kn)|kn<;>simp[kn]
theorem qaZ {H:Hp}{p:Addr}{xs:List V}(h:H p=some (.lst xs)):tyS H (.ref p)=some "list":=by simp only[tyS,h]
end
theorem q0x:bootBuiltins "isinstance"=some (.builtin "isinstance"):=by walk_at "k"
theorem q0p:bootBuiltins "len"=some (.builtin "len"):=by walk_at "k"
theorem bt_any:bootBuiltins "any"=some (.builtin "any"):=by walk_at "k"
theorem bt_max:bootBuiltins "max"=some (.builtin "max"):=by walk_at "k"
theorem q9a:bootBuiltins "int"=some (.type "int"):=by walk_at "k"
theorem qcx:bootBuiltins "bool"=some (.type "bool"):=by walk_at "k"
theorem q99:bootBuiltins "list"=some (.type "list"):=by walk_at "k"
theorem q3g:bootBuiltins "tuple"=some (.type "tuple"):=by walk_at "k"
structure VMeth (P:Program)(w:World)(K:W.Frag)(mg:Str->Option Value)(base:Heap)(k:Nat)(C:Addr)(m:Str)(ps:List Str)(sp:Sp):Prop where
 cl:Cls K C
 ex:∃f fd,Meth K C m f/\FnOk P w K mg base CX0 k f fd ps sp/\q0W K fd ps []
def tVM (P:Program)(w:World)(K:W.Frag)(mg:Str->Option Value)(base:Heap)(k:Nat)(m:Str)(ta:TE)(t:TA):TE:=fun σ H Q=>ta σ H fun x H1=>∃a C dx fs ps sp,x= .ref a/\H1 a=some (.ins C dx fs)/\VMeth P w K mg base k C m ps sp/\fs.lookup m=none/\
 t σ H1 fun vs H2=>sp (x::vs) H2 Q E0
structure CMeth (K:W.Frag)(C:Addr)(m:Str)(f:Addr):Prop where
 rd:PySem.W.readsIn K C (.type "type")=true
 fc:PySem.W.findCls K (.ref C) (.type "type") m=some (.val (.ref f))
 sg:PySem.W.specialIn K (.ref C) "__getattribute__"=some (some (.builtin "type.__getattribute__"))
 kp:PySem.W.keepIn K (.ref f)=true
structure CCal (P:Program)(w:World)(K:W.Frag)(mg:Str->Option Value)(base:Heap)(k:Nat)(x m:Str)(ps:List Str)(sp:Sp):Prop where
 ex:∃C f fd,mg x=some (.ref C)/\CMeth K C m f/\FnOk P w K mg base CX0 k f fd ps sp/\q0W K fd ps []
structure Makes (P:Program)(w:World)(K:W.Frag)(mg:Str->Option Value)(base:Heap)(k:Nat)(x:Str)(C:Addr)(ps:List Str)(sp:Sp):Prop where
 ex:∃f fd,Mk K C f/\FnOk P w K mg base CX0 k f fd ps sp/\q0W K fd ps []
 at_:mg x=some (.ref C)
section
variable {X:Cx}{k k':Nat}{C:Addr}{ps:List Str}{sp:Sp}{x m:Str}{p pos apos:Pos}{e o:Expr}{es:List Expr}{ta:TE}{t:TA}
theorem q3p {pl:Sem Bool}(hr:Room k X.A)(he:PE X o ta)(ha:PA X (e::es) t)(hst:starEach (e::es) X.env=(false,eval e X.env)::starEach es X.env:=by rfl)(hpl:(backTo pos (starEach es X.env)).any (·.1)=false:=by rfl)
  (ht:eval (.Call (.Attribute o m apos) (e::es) [] pos) X.env=(do
   let ov<-eval o X.env
   standAt apos.atName
   let (f,first)<-holding [ov] (getMethod ov m pl)
   callWith pos f first (backTo pos (starEach (e::es) X.env)) (backToKw pos (keywordEach [] X.env))):=by rfl):
  PE X (.Call (.Attribute o m apos) (e::es) [] pos) (tVM X.prog X.w X.K X.mg X.base k m ta t):=by
 intro pins s σ H Q I h
 refine PySem.W.methodCall_KW (pl:=pl) (thn (he pins s σ H _ I h) fun u s1 ⟨x,H1,I1,rx,a,C,dx,fs,ps,sp,ex,ea,vm,l,q⟩=>?_) ht
 subst ex
 obtain rfl:u=Value.ref a:=rx
 obtain⟨f,fd,hm,F,hb⟩:=vm.ex
 refine q40 I1 ea vm.cl hm l ?_
 refine PySem.W.callWith_K (first:=[.ref a]) (h₀:=X.base) I.ok.mod.kin hm.kp (thn (ha pos pins s1 σ H1 _ I1 q) fun us s2 ⟨vs,H2,I2,r,q2⟩=>⟨I2.kIn,?_⟩) hst hpl
 exact q6p (us:= .ref a::us) (vs:= .ref a::vs) (ds:=[]) (dvs:=[]) F hr hb .nil q5Q I2 (.cons rfl r) (by rw[List.append_nil];exact q2)
theorem pe_vm0 {pl:Sem Bool}(hr:Room k X.A)(he:PE X o ta)
  (ht:eval (.Call (.Attribute o m apos) [] [] pos) X.env=(do
   let ov<-eval o X.env
   standAt apos.atName
   let (f,first)<-holding [ov] (getMethod ov m pl)
   callWith pos f first (backTo pos (starEach [] X.env)) (backToKw pos (keywordEach [] X.env))):=by rfl):
  PE X (.Call (.Attribute o m apos) [] [] pos) (tVM X.prog X.w X.K X.mg X.base k m ta tNil):=by
 intro pins s σ H Q I h
 refine PySem.W.methodCall_KW (pl:=pl) (thn (he pins s σ H _ I h) fun u s1 ⟨x,H1,I1,rx,a,C,dx,fs,ps,sp,ex,ea,vm,l,q⟩=>?_) ht
 subst ex
 obtain rfl:u=Value.ref a:=rx
 obtain⟨f,fd,hm,F,hb⟩:=vm.ex
 refine q40 I1 ea vm.cl hm l ?_
 exact PySem.W.callWith_K0 (first:=[.ref a]) I1.kIn hm.kp (q6p (us:=[.ref a]) (vs:=[.ref a]) (ds:=[]) (dvs:=[]) F hr hb .nil q5Q I1 (.cons rfl .nil) q)
theorem q3q {pl:Sem Bool}{op:Pos}(c:CCal X.prog X.w X.K X.mg X.base k x m ps sp)(hr:Room k' X.A)(hk:k<=k')(hg:Gl X x)(ha:PA X (e::es) t)(hdb:(x==("__debug__":Str))=false:=by decide)
  (hst:starEach (e::es) X.env=(false,eval e X.env)::starEach es X.env:=by rfl)(hpl:(backTo pos (starEach es X.env)).any (·.1)=false:=by rfl)
  (ht:eval (.Call (.Attribute (.Name x op) m apos) (e::es) [] pos) X.env=(do
   let ov<-eval (.Name x op) X.env
   standAt apos.atName
   let (f,first)<-holding [ov] (getMethod ov m pl)
   callWith pos f first (backTo pos (starEach (e::es) X.env)) (backToKw pos (keywordEach [] X.env))):=by rfl):
  PE X (.Call (.Attribute (.Name x op) m apos) (e::es) [] pos) (q7x sp [] E0 t):=by
 intro pins s σ H Q I h
 obtain⟨C,f,fd,hm,cm,F,hb⟩:=c.ex
 refine PySem.W.methodCall_KW (pl:=pl) (q1J I hg hm ?_ hdb) ht
 refine PySem.W.method_cls I.kIn cm.sg (PySem.W.cls_value I.kIn cm.rd cm.fc rfl ?_)
 have I1:=I.tok (s.toks+1)
 refine PySem.W.callWith_K (first:=[]) (h₀:=X.base) I.ok.mod.kin cm.kp (thn (ha pos pins _ σ H _ I1 h) fun us s2 ⟨vs,H2,I2,r,q2⟩=>⟨I2.kIn,?_⟩) hst hpl
 exact q6p F (hr.mono hk) hb .nil q5Q I2 r q2
theorem q2e (c:Makes X.prog X.w X.K X.mg X.base k x C ps sp)(hr:Room k' X.A)(hk:k+1<=k')(hg:Gl X x)(ha:PA X (e::es) t)(hdb:(x==("__debug__":Str))=false:=by decide)(he:starEach (e::es) X.env=(false,eval e X.env)::starEach es X.env:=by rfl)
  (hpl:(backTo pos (starEach es X.env)).any (·.1)=false:=by rfl):PE X (.Call (.Name x p) (e::es) [] pos) (q7v C sp [] E0 t):=by
 obtain⟨f,fd,M,F,b⟩:=c.ex
 exact qby M F (hr.mono hk) hg c.at_ b .nil q5Q ha hdb he hpl
theorem qbz (c:Makes X.prog X.w X.K X.mg X.base k x C ps sp)(hr:Room k' X.A)(hk:k+1<=k')(hg:Gl X x)(hdb:(x==("__debug__":Str))=false:=by decide):PE X (.Call (.Name x p) [] [] pos) (q7v C sp [] E0 tNil):=by
 obtain⟨f,fd,M,F,b⟩:=c.ex
 exact q9F M F (hr.mono hk) hg c.at_ b .nil q5Q hdb
def eqVs (xs ys:List V):Bool:=xs.length==ys.length&&(List.zipWith eqV xs ys).all id
theorem q2H (xs ys:List V):((List.range (min xs.length ys.length)).all fun j=>eqV (xs.getD j .non) (ys.getD j .non))=(List.zipWith eqV xs ys).all id:=by
 rw[Bool.eq_iff_iff]
 simp only[List.all_eq_true,List.mem_range,id]
 constructor
 ·intro h b hb
  obtain⟨i,hi,rfl⟩:=List.mem_iff_getElem.mp hb
  rw[List.length_zipWith] at hi
  have:=h i hi
  simpa[List.getD,show i<xs.length by omega,show i<ys.length by omega] using this
 ·intro h i hi
  have:=h _ (List.mem_iff_getElem.mpr ⟨i,by rw[List.length_zipWith];exact hi,rfl⟩)
  simpa[List.getD,show i<xs.length by omega,show i<ys.length by omega] using this
theorem q0F {xs:List V}{us:List Value}(r:Vals xs us){j:Nat}(h:j<us.toArray.size):RelV (xs.getD j .non) us.toArray[j]:=by
 have hj:j<us.length:=by simpa using h
 have hx:j<xs.length:=by rw[r.length];exact hj
 obtain⟨u,hu,ru⟩:=r.get (i:=j) (x:=xs[j]) (by simp[hx])
 have e1:us.toArray[j]=u:=by
  have:us[j]? =some us[j]:=by simp[hj]
  rw[this] at hu
  simpa using Option.some.inj hu
 rw[e1]
 simpa[List.getD,hx] using ru
theorem q4p {xs:List V}(h:xs.all q1P=true)(j:Nat):q1P (xs.getD j .non)=true:=by
 by_cases hj:j<xs.length
 ·rw [List.all_eq_true] at h
  have:=h xs[j] (List.getElem_mem hj)
  simpa[List.getD,hj] using this
 ·simp [List.getD,show xs.length<=j by omega,q1P]
def rEqTs (K:W.Frag):R2:=fun x y H Q=>∃p q xs ys,x= .ref p/\y= .ref q/\SqT K H p xs/\SqT K H q ys/\xs.all q1P=true/\ys.all q1P=true/\Q (.bl (eqVs xs ys)) H
theorem op_eqT (hu:X.A.units<cLine):OpR X (compareOp .Eq) (rEqTs X.K):=by
 intro pins s σ H x y v u Q I rx ry h
 obtain⟨p,q,xs,ys,rfl,rfl,hp,hq,fx,fy,k⟩:=h
 cases rx
 cases ry
 obtain⟨ia,ra,pa,_⟩:=I.tuple hp
 obtain⟨ib,rb,pb,_⟩:=I.tuple hq
 have la:=ra.length
 have lb:=rb.length
 refine SeqAt.eq_tupleAt (e:=fun j=>eqV (xs.getD j .non) (ys.getD j .non)) (show s.heap.IsTuple p ia.toArray from pa) (show s.heap.IsTuple q ib.toArray from pb) hu (fun j h1 h2=>q8K (q0F ra h1) (q0F rb h2) (q4p fx j) (q4p fy j)) ⟨.bl (eqVs xs ys),H,I,?_,k⟩
 show Value.bool _=Value.bool _
 unfold eqVs
 rw[<-q2H,Bool.and_comm]
 simp[la,lb]
theorem qak {x:V}(h:q1P x=true):eqV x x=true:=by
 cases x<;>first|rfl|(simp[eqV];done)|(simp[q1P] at h)
end
section
variable {X:Cx}{e o:Expr}{es:List Expr}{ta:TE}{t:TA}{pos apos:Pos}{m f:Str}
theorem q0n (K:W.Frag)(h:X.K=K:=by rfl):IxR X (rIxL K):=by subst h;exact qc3
theorem qk (K:W.Frag)(h:X.K=K:=by rfl):IxR X (rIxT K):=by subst h;exact ix_tup
theorem q6k (K:W.Frag)(h:X.K=K:=by rfl):SlR X (rSlTA K):=by subst h;exact qbd
theorem q9J (K:W.Frag)(h:X.K=K:=by rfl):OpR X (binaryOp .Add) (qbq K):=by subst h;exact q8d
theorem q8c (K:W.Frag)(hu:X.A.units<cLine)(h:X.K=K:=by rfl):OpR X (compareOp .Eq) (rEqTs K):=by subst h;exact op_eqT hu
theorem q0H {k:Nat}{g:TGs}{n:Nat}(K:W.Frag)(hc:X.calm=true)(h:PGs X es g)(hK:X.K=K:=by rfl)(hn:(assignEach es X.env).length=n:=by rfl)(hst:(assignEach es X.env).findIdx? (·.1)=none:=by rfl):PG X (.Tuple es k pos) (gTup K n g):=by
 subst hK
 exact pg_tup hc h hn hst
theorem q0q (K:W.Frag)(he:PE X e ta)(hb:attributeBase e f X.env (eval e X.env)=eval e X.env)(hK:X.K=K:=by rfl):PE X (.Attribute e f pos) (tFld K ta f):=by
 subst hK
 exact pe_fld he hb
end
section
variable {X:Cx}{pos:Pos}
theorem qae:PGet X (rIxL X.K):=by
 intro pins s σ H o i ov iv Q I ro ri h
 obtain⟨p,xs,i,z,rfl,rfl,hq,he,q⟩:=h
 cases ro
 obtain⟨t,rfl⟩:=ri
 obtain⟨its,r,pl,hz⟩:=I.list hq
 obtain⟨j,h1,h2,h3,h4,h5⟩:=q6b he
 obtain⟨w,ew,rw'⟩:=r.get h2
 have hl:=r.length
 have hn:=q5l
 have fin:EP X pins σ Q w s:=⟨z,H,I,rw',q⟩
 by_cases h0:0<=i
 ·have hj:i.toNat=j:=by
   rw[seqIndex_of h0 h5] at h1
   exact Option.some.inj h1
  exact wpAny_getItem_list pl.isList h0 (by omega) (by rw[hj];simpa using ew) fin
 ·have hj:(i+(its.toArray.size:Int)).toNat=j:=by
   rw[seqIndex_neg (by omega) h4] at h1
   rw[List.size_toArray,<-hl]
   exact Option.some.inj h1
  exact wpAny_getItem_list_neg pl.isList (by omega) (by rw[List.size_toArray]<;>omega) (by omega) (by rw[hj];simpa using ew) fin
end
def rLen (K:W.Frag):List V->Hp->VK->Prop:=fun xs H Q=>∃p ys,xs=[.ref p]/\(SqL K H p ys\/SqT K H p ys)/\Q (.int ys.length) H
def qaB (K:W.Frag):List V->Hp->VK->Prop:=fun xs H Q=>∃p ys,xs=[.ref p]/\((SqL K H p ys/\∀l,H l=none->Q (.ref l) (upd H l (.tup ys)))\/(SqT K H p ys/\Q (.ref p) H))
def rLstOf (K:W.Frag):List V->Hp->VK->Prop:=fun xs H Q=>∃p ys,xs=[.ref p]/\(SqL K H p ys\/SqT K H p ys)/\∀l,H l=none->Q (.ref l) (upd H l (.lst ys))
def rMax2:List V->Hp->VK->Prop:=fun xs H Q=>∃i j,xs=[.int i,.int j]/\Q (.int (if j>i then j else i)) H
def rInt1:List V->Hp->VK->Prop:=fun xs H Q=>(∃i,xs=[.int i]/\Q (.int i) H)\/∃k,xs=[.bl k]/\Q (.int (if k then 1 else 0)) H
section
variable {X:Cx}
theorem lenK (K:W.Frag)(h:X.K=K:=by rfl):q24 X (.builtin "len") (rLen K):=by subst h;exact q5w
theorem q6f (K:W.Frag)(h:X.K=K:=by rfl):q24 X (.type "tuple") (qaB K):=by subst h;exact q4x
theorem lstOfK (K:W.Frag)(h:X.K=K:=by rfl):q24 X (.type "list") (rLstOf K):=by subst h;exact q5v
theorem max2 (hc:X.calm=true):q24 X (.builtin "max") rMax2:=q95 hc
theorem int1:q24 X (.type "int") rInt1:=q98
end
section
variable {σ:St}{H:Hp}{Q:VK}{B:Bool->Hp->Prop}{L:List V->Hp->Prop}{ta tb:TE}{t:TA}{c d:TT}{nx bk ct:St->Hp->Prop}{rt:VK}{g:TG}{K:W.Frag}
theorem r_var {i:Nat}{v:V}(h:σ[i]? =some (some v))(q:Q v H):tVar i σ H Q:=⟨v,h,q⟩
theorem r_c {v:V}(q:Q v H):tC v σ H Q:=q
theorem r_op {r:R2}(q:ta σ H fun x H1=>tb σ H1 fun y H2=>r x y H2 Q):tOp r ta tb σ H Q:=q
theorem r_I0 {f:Int->Int->V}{i j:Int}(q:Q (f i j) H):rI0 f (.int i) (.int j) H Q:=⟨i,j,rfl,rfl,q⟩
theorem r_I {C:Int->Int->Prop}{f:Int->Int->V}{i j:Int}(h:C i j)(q:Q (f i j) H):rI C f (.int i) (.int j) H Q:=⟨i,j,rfl,rfl,h,q⟩
theorem r_isN (q:ta σ H fun x H1=>Q (.bl (decide (x= .non))) H1):tIsN ta σ H Q:=q
theorem r_B (q:ta σ H fun x H1=>∃k,x= .bl k/\B k H1):tB ta σ H B:=q
theorem r_test (q:ta σ H fun x H1=>∃k,x= .bl k/\B k H1):tTest ta σ H B:=q
theorem r_bl {b:Bool}{P:Bool->Prop}(q:P b):∃k,V.bl b=V.bl k/\P k:=⟨b,rfl,q⟩
theorem r_and (q:c σ H fun k H1=>if k=true then d σ H1 B else B false H1):tAnd c d σ H B:=q
theorem r_or (q:c σ H fun k H1=>if k=true then B true H1 else d σ H1 B):tOr c d σ H B:=q
theorem r_not (q:c σ H fun k H1=>B (!k) H1):tNot c σ H B:=q
theorem r_andV (q:ta σ H fun x H1=>∃k,x= .bl k/\if k=true then tb σ H1 Q else Q (.bl false) H1):tAndV ta tb σ H Q:=q
theorem r_orV (q:ta σ H fun x H1=>∃k,x= .bl k/\if k=true then Q (.bl true) H1 else tb σ H1 Q):tOrV ta tb σ H Q:=q
theorem r_notV (q:ta σ H fun x H1=>∃k,x= .bl k/\Q (.bl (!k)) H1):tNotV ta σ H Q:=q
theorem r_if (q:c σ H fun k H1=>if k=true then ta σ H1 Q else tb σ H1 Q):tIf c ta tb σ H Q:=q
theorem r_cons (q:ta σ H fun x H1=>t σ H1 fun xs H2=>L (x::xs) H2):qb4 ta t σ H L:=q
theorem r_nil (q:L [] H):tNil σ H L:=q
theorem r_tup (q:t σ H fun xs H1=>xs.length<=sizeLine/\∀p,H1 p=none->Q (.ref p) (upd H1 p (.tup xs))):tTup t σ H Q:=q
theorem r_lst (q:t σ H fun xs H1=>xs.length<=sizeLine/\∀p,H1 p=none->Q (.ref p) (upd H1 p (.lst xs))):tLst t σ H Q:=q
theorem r_al {n:Nat}{P:Prop}(h:Nat.ble n sizeLine=true)(q:P):n<=sizeLine/\P:=⟨Nat.le_of_ble_eq_true h,q⟩
theorem r_call {sp:Sp}{E:XK}(q:t σ H fun vs H1=>sp (vs++[]) H1 Q E):q7x sp [] E t σ H Q:=q
theorem r_cb {r:List V->Hp->VK->Prop}(q:t σ H fun vs H1=>r vs H1 Q):tCB r t σ H Q:=q
theorem r_bm {T:String}{r:V->List V->Hp->VK->Prop}(q:ta σ H fun x H1=>tyV K T x H1/\t σ H1 fun xs H2=>r x xs H2 Q):tBM K T r ta t σ H Q:=q
theorem r_sl {r:V->Option Int->Option Int->Hp->VK->Prop}{tl th:TO}(q:ta σ H fun x H1=>tl σ H1 fun l H2=>th σ H2 fun u H3=>r x l u H3 Q):tSl r ta tl th σ H Q:=q
theorem r_np {P:Option Int->Hp->Prop}(q:P none H):q7u σ H P:=q
theorem r_pt {P:Option Int->Hp->Prop}(q:ta σ H fun x H1=>∃i,x= .int i/\P (some i) H1):tPart ta σ H P:=q
theorem r_int {i:Int}{P:Int->Prop}(q:P i):∃k,V.int i=V.int k/\P k:=⟨i,rfl,q⟩
theorem r_eqI {i j:Int}(q:Q (.bl (decide (i=j))) H):rEq (.int i) (.int j) H Q:=⟨rfl,by rw[show decide (V.int i=V.int j)=decide (i=j) by simp];exact q⟩
theorem r_eqS {i j:Str}(q:Q (.bl (decide (i=j))) H):rEq (.str i) (.str j) H Q:=⟨rfl,by rw[show decide (V.str i=V.str j)=decide (i=j) by simp];exact q⟩
theorem r_neI {i j:Int}(q:Q (.bl (!decide (i=j))) H):rNe (.int i) (.int j) H Q:=⟨rfl,by rw[show decide (V.int i=V.int j)=decide (i=j) by simp];exact q⟩
theorem r_neS {i j:Str}(q:Q (.bl (!decide (i=j))) H):rNe (.str i) (.str j) H Q:=⟨rfl,by rw[show decide (V.str i=V.str j)=decide (i=j) by simp];exact q⟩
theorem q33 {p:Addr}{xs:List V}{i:Int}{v:V}(h:SqT K H p xs)(e:atI xs i=some v)(q:Q v H):rIxT K (.ref p) (.int i) H Q:=⟨p,xs,i,v,rfl,rfl,h,e,q⟩
theorem q4f {p:Addr}{xs:List V}{i:Int}{v:V}(h:SqL K H p xs)(e:atI xs i=some v)(q:Q v H):rIxL K (.ref p) (.int i) H Q:=⟨p,xs,i,v,rfl,rfl,h,e,q⟩
theorem r_lenT {p:Addr}{xs:List V}(h:SqT K H p xs)(q:Q (.int xs.length) H):rLen K [.ref p] H Q:=⟨p,xs,rfl,.inr h,q⟩
theorem r_lenL {p:Addr}{xs:List V}(h:SqL K H p xs)(q:Q (.int xs.length) H):rLen K [.ref p] H Q:=⟨p,xs,rfl,.inl h,q⟩
theorem r_catT {p q:Addr}{xs ys:List V}(h1:SqT K H p xs)(h2:SqT K H q ys)(h:xs≠[])(hy:ys≠[])(hz:Nat.ble (xs.length+ys.length) sizeLine=true)(k:∀r,H r=none->Q (.ref r) (upd H r (.tup (xs++ys)))):qbq K (.ref p) (.ref q) H Q:=
 ⟨p,q,xs,ys,rfl,rfl,h1,h2,h,Nat.le_of_ble_eq_true hz,fun e=>(hy e).elim,fun _=>k⟩
theorem atI0 {v:V}{l:List V}:atI (v::l) 0=some v:=q0m (j:=0) rfl
theorem qcz {xs:List V}{j:Nat}{v:V}(h:xs[j]? =some v):atI xs (0+(j:Int))=some v:=by rw[Int.zero_add];exact q0m h
theorem q7t {α β:Type}(f:α->β)(xs:List α){i:Nat}(hi:i<xs.length):(xs.take i).map f++[f xs[i]]=(xs.take (i+1)).map f:=by rw[List.take_succ_eq_append_getElem hi,List.map_append];rfl
theorem q9x {x:V}{n a:String}{b:Bool}(h:tyS H x=some a)(k:q8p n=true)(e:subS a n=b)(q:Q (.bl b) H):q73 [x,.ty n] H Q:=⟨x,n,a,rfl,h,k,by rw[e];exact q⟩
theorem q9w {i:Int}(q:Q (.bl false) H):q73 [.int i,.ty "bool"] H Q:=q9x rfl (by walk_at "k") (by walk_at "k") q
theorem q9v {i:Int}(q:Q (.bl true) H):q73 [.int i,.ty "int"] H Q:=q9x rfl (by walk_at "k") (by walk_at "k") q
theorem q9t (q:Q (.bl false) H):q73 [.non,.ty "list"] H Q:=q9x rfl (by walk_at "k") (by walk_at "k") q
theorem q9u {p:Addr}{xs:List V}(h:H p=some (.lst xs))(q:Q (.bl true) H):q73 [.ref p,.ty "list"] H Q:=q9x (qaZ h) (by walk_at "k") (by walk_at "k") q
theorem r_seq {t u:TS}(q:t ⟨u ⟨nx,rt,bk,ct⟩,rt,bk,ct⟩ σ H):tSeq t u ⟨nx,rt,bk,ct⟩ σ H:=q
theorem r_asg (q:ta σ H fun x H1=>g x σ H1 nx):tAsg ta g ⟨nx,rt,bk,ct⟩ σ H:=q
theorem r_name {i:Nat}{v:V}{N:St->Hp->Prop}(q:N (σ.set i (some v)) H):qaf i v σ H N:=q
theorem r_ifS {t u:TS}{D:Ends}(q:c σ H fun k H1=>if k=true then t D σ H1 else u D σ H1):tIfS c t u D σ H:=q
theorem r_ret (q:ta σ H rt):tRet ta ⟨nx,rt,bk,ct⟩ σ H:=q
theorem r_next (q:nx σ H):tNext ⟨nx,rt,bk,ct⟩ σ H:=q
theorem r_drop (q:ta σ H fun _ H1=>nx σ H1):tDrop ta ⟨nx,rt,bk,ct⟩ σ H:=q
theorem r_augS {to ti te:TE}{tget:V->V->Hp->VK->Prop}{tip:TIp}{tset:TSet}(q:to σ H fun o H1=>ti σ H1 fun i H2=>tget o i H2 fun x H3=>te σ H3 fun y H4=>tip x y H4 fun z H5=>tset o i z H5 fun H6=>nx σ H6):tAugS to ti te tget tip tset ⟨nx,rt,bk,ct⟩ σ H:=q
theorem r_ipI {f:Int->Int->Int}{i j:Int}(q:Q (.int (f i j)) H):ipI f (.int i) (.int j) H Q:=⟨i,j,rfl,rfl,q⟩
theorem qaA {p:Addr}{xs:List V}{k:Int}{j:Nat}{v:V}{R:Hp->Prop}(h:H p=some (.lst xs))(e:ixN xs.length k=some j)(q:R (upd H p (.lst (xs.set j v)))):rSetL (.ref p) (.int k) v H R:=⟨p,xs,k,j,rfl,rfl,h,e,q⟩
theorem r_gT {n:Nat}{gs:TGs}{p:Addr}{xs:List V}{N:St->Hp->Prop}(h:SqT K H p xs)(e:xs.length=n)(q:gs xs σ H N):gTup K n gs (.ref p) σ H N:=⟨p,xs,rfl,h,e,q⟩
theorem r_gc {gs:TGs}{v:V}{vs:List V}{N:St->Hp->Prop}(q:g v σ H fun σ' H'=>gs vs σ' H' N):gCons g gs (v::vs) σ H N:=⟨v,vs,rfl,q⟩
theorem r_gn {N:St->Hp->Prop}(q:N σ H):gNil [] σ H N:=⟨rfl,q⟩
theorem q4g {p:Addr}{xs:List V}{y:V}(h:H p=some (.lst xs))(hz:xs.length<sizeLine)(q:Q .non (upd H p (.lst (xs++[y])))):q7T (.ref p) [y] H Q:=⟨p,xs,y,rfl,rfl,h,hz,q⟩
theorem r_tyL {p:Addr}{xs:List V}{P:Prop}(h:H p=some (.lst xs))(q:P):tyV K "list" (.ref p) H/\P:=⟨.inl ⟨rfl,_,SqL.of h⟩,q⟩
theorem ifd {p:Prop}[Decidable p]{A B:Prop}(h1:p->A)(h2:¬p->B):if decide p=true then A else B:=by
 by_cases h:p
 ·rw [if_pos (decide_eq_true h)];exact h1 h
 ·rw [if_neg (by simp[h])];exact h2 h
theorem ifn {p:Prop}[Decidable p]{A B:Prop}(h1:¬p->A)(h2:p->B):if (!decide p)=true then A else B:=by
 by_cases h:p
 ·rw [if_neg (by simp[h])];exact h2 h
 ·rw [if_pos (by simp[h])];exact h1 h
theorem r_max2 {x y:Int}(q:Q (.int (if y>x then y else x)) H):rMax2 [.int x,.int y] H Q:=⟨x,y,rfl,q⟩
theorem r_intb {x:Bool}(q:Q (.int (if x then 1 else 0)) H):rInt1 [.bl x] H Q:= .inr ⟨x,rfl,q⟩
theorem q9r {p:Addr}{ys:List V}(h:SqL K H p ys)(q:∀l,H l=none->Q (.ref l) (upd H l (.tup ys))):qaB K [.ref p] H Q:=⟨p,ys,rfl,.inl ⟨h,q⟩⟩
theorem ifnT {A B:Prop}(h:B):if (!true)=true then A else B:=iteF h
theorem ifnF {A B:Prop}(h:A):if (!false)=true then A else B:=iteT h
theorem q17 {a b:Addr}{o u:HO}(h:H b=some u)(n:H a=none):upd H a o b=some u:=by rw[ql (qp h n)];exact h
theorem up_oth {a b:Addr}{o u:HO}(h:H b=some u)(n:b≠a):upd H a o b=some u:=by rw[ql n];exact h
end
section
variable {σ:St}{H:Hp}{g:TG}{tb:TS}{nx bk ct:St->Hp->Prop}{rt:VK}{t:TA}{wi:TI}
theorem r_for (q:wi σ H fun J H1=>∃W:Nat->Nat->St->Hp->Prop,(∃m,W 0 m σ H1)/\∀i m σ H,W i m σ H->
  (J.stop i H/\nx σ H)\/(J.go i H/\∃N:St->Hp->Prop,(∀σ' H',N σ' H'->∃m',m'<m/\W (i+1) m' σ' H')/\∀x H',J.yld i H x H'->g x σ H' fun σ2 H2=>tb ⟨N,rt,nx,N⟩ σ2 H2)):tFor wi g tb ⟨nx,rt,bk,ct⟩ σ H:=q
def rRg (R:It->Hp->Prop):List V->Hp->Prop:=fun vs H1=>∃j:Int,vs=[.int j]/\ -(2 ^ 62)<=j/\j<2 ^ 62/\R (Itr 0 j.toNat) H1
theorem r_rng1 {R:It->Hp->Prop}(q:t σ H (rRg R)):iRng1 t σ H R:=q
theorem r_comp {tc:TT}{te:TE}{own:Nat}{caps:List Nat}{Q:VK}(q:wi σ H fun J H1=>∀D,H1 D=none->∃W:Nat->Nat->St->Hp->Prop,(∃m,W 0 m (q30 own caps σ) (upd H1 D (.lst [])))/\∀i m σ' H',W i m σ' H'->
  (J.stop i H'/\Q (.ref D) H')\/(J.go i H'/\∃N:St->Hp->Prop,(∀σ'' H'',N σ'' H''->∃m',m'<m/\W (i+1) m' σ'' H'')/\∀x H2,J.yld i H' x H2->g x σ' H2 fun σ3 H3=>tc σ3 H3 fun b H4=>
   if b=true then te σ3 H4 fun y H5=>∃ys,H5 D=some (.lst ys)/\ys.length<sizeLine/\N σ3 (upd H5 D (.lst (ys++[y]))) else N σ3 H4)):q9j wi g tc te own caps σ H Q:=q
theorem r_yes {B:Bool->Hp->Prop}(q:B true H):tYes σ H B:=q
theorem r_iL {K:W.Frag}{tl:TE}{R:It->Hp->Prop}(q:tl σ H fun x H1=>∃a,x= .ref a/\(∃xs,SqL K H1 a xs)/\R (Itl K a) H1):qc8 K tl σ H R:=q
theorem r_iT {K:W.Frag}{tl:TE}{R:It->Hp->Prop}(q:tl σ H fun x H1=>∃a,x= .ref a/\(∃xs,SqT K H1 a xs)/\R (Itt K a) H1):iTup K tl σ H R:=q
theorem r_eL {K:W.Frag}{R:It->Hp->Prop}(q:t σ H fun vs H1=>∃a,vs=[.ref a]/\(∃xs,SqL K H1 a xs)/\R (Ite fun H xs=>SqL K H a xs) H1):q8z K t σ H R:=q
theorem r_eT {K:W.Frag}{R:It->Hp->Prop}(q:t σ H fun vs H1=>∃a,vs=[.ref a]/\(∃xs,SqT K H1 a xs)/\R (Ite fun H xs=>SqT K H a xs) H1):q8y K t σ H R:=q
theorem r_refL {K:W.Frag}{p:Addr}{xs:List V}{R:Addr->Prop}(h:SqL K H p xs)(q:R p):∃a,V.ref p= .ref a/\(∃xs,SqL K H a xs)/\R a:=⟨p,rfl,⟨xs,h⟩,q⟩
theorem r_refT {K:W.Frag}{p:Addr}{xs:List V}{R:Addr->Prop}(h:SqT K H p xs)(q:R p):∃a,V.ref p= .ref a/\(∃xs,SqT K H a xs)/\R a:=⟨p,rfl,⟨xs,h⟩,q⟩
theorem qbk {K:W.Frag}{p:Addr}{xs:List V}{R:Addr->Prop}(h:SqL K H p xs)(q:R p):∃a,[V.ref p]=[.ref a]/\(∃xs,SqL K H a xs)/\R a:=⟨p,rfl,⟨xs,h⟩,q⟩
theorem qbj {K:W.Frag}{p:Addr}{xs:List V}{R:Addr->Prop}(h:SqT K H p xs)(q:R p):∃a,[V.ref p]=[.ref a]/\(∃xs,SqT K H a xs)/\R a:=⟨p,rfl,⟨xs,h⟩,q⟩
theorem r_rg {j:Int}{R:It->Hp->Prop}(h: -1000000<=j/\j<=1000000)(q:R (Itr 0 j.toNat) H):rRg R [.int j] H:=⟨j,rfl,by omega,by omega,q⟩
end
section
variable {J:It}{g:TG}{tb:TS}{nx:St->Hp->Prop}{rt:VK}{σ:St}{H:Hp}{K:W.Frag}{a:Addr}{xs:List V}{tc:TT}{te:TE}{R:Hp->Prop}{D:Addr}
abbrev ForG (J:It)(g:TG)(tb:TS)(nx:St->Hp->Prop)(rt:VK)(σ:St)(H:Hp):Prop:=∃W:Nat->Nat->St->Hp->Prop,(∃m,W 0 m σ H)/\∀i m σ H,W i m σ H->
  (J.stop i H/\nx σ H)\/(J.go i H/\∃N:St->Hp->Prop,(∀σ' H',N σ' H'->∃m',m'<m/\W (i+1) m' σ' H')/\∀x H',J.yld i H x H'->g x σ H' fun σ2 H2=>tb ⟨N,rt,nx,N⟩ σ2 H2)
theorem q3x (n:Nat)(Pv:Nat->St->Hp->Prop)(h0:Pv 0 σ H)
  (go:∀i σ H,i<n->Pv i σ H->J.go i H/\∀x H',J.yld i H x H'->g x σ H' fun σ2 H2=>tb ⟨Pv (i+1),rt,nx,Pv (i+1)⟩ σ2 H2)(stop:∀σ H,Pv n σ H->J.stop n H/\nx σ H):ForG J g tb nx rt σ H:=by
 refine⟨fun i m σ H=>m=n - i/\i<=n/\Pv i σ H,⟨n,by simp,Nat.zero_le _,h0⟩,?_⟩
 rintro i m σ H ⟨rfl,hi,p⟩
 by_cases hlt:i<n
 ·obtain ⟨q1,q2⟩:=go i σ H hlt p
  exact .inr ⟨q1,Pv (i+1),fun σ' H' p'=>⟨n - (i+1),by omega,rfl,hlt,p'⟩,q2⟩
 ·have e:i=n:=by omega
  subst e
  exact .inl (stop σ H p)
theorem q1K {lo:Int}{n:Nat}(Pv:Nat->St->Hp->Prop)(h0:Pv 0 σ H)(go:∀i σ H,i<n->Pv i σ H->g (.int (lo+(i:Nat))) σ H fun σ2 H2=>tb ⟨Pv (i+1),rt,nx,Pv (i+1)⟩ σ2 H2)(stop:∀σ H,Pv n σ H->nx σ H):ForG (Itr lo n) g tb nx rt σ H:=
 q3x n Pv h0 (fun i σ H hi p=>⟨hi,fun x H' ⟨e1,e2⟩=>by subst e1 e2;exact go i σ _ hi p⟩) fun σ H p=>⟨Nat.le_refl _,stop σ H p⟩
theorem q21 (xs:List V)(Pv:Nat->St->Hp->Prop)(h0:Pv 0 σ H)(hl:∀i σ H,Pv i σ H->SqL K H a xs)(go:∀i x σ H,xs[i]? =some x->Pv i σ H->g x σ H fun σ2 H2=>tb ⟨Pv (i+1),rt,nx,Pv (i+1)⟩ σ2 H2)(stop:∀σ H,Pv xs.length σ H->nx σ H):ForG (Itl K a) g tb nx rt σ H:=
 q3x xs.length Pv h0 (fun i σ H hi p=>⟨⟨xs,xs[i],hl i σ H p,by simp[hi]⟩,fun x H' ⟨e1,e2⟩=>by subst e1;exact go i x σ _ (e2 xs (hl i σ _ p)) p⟩) fun σ H p=>⟨⟨xs,hl _ σ H p,Nat.le_refl _⟩,stop σ H p⟩
theorem q8F {Sq:Hp->List V->Prop}(xs:List V)(Pv:Nat->St->Hp->Prop)(h0:Pv 0 σ H)(hl:∀i σ H,Pv i σ H->Sq H xs)(go:∀i x σ H T,xs[i]? =some x->Pv i σ H->H T=none->g (.ref T) σ (upd H T (.tup [.int (i:Nat),x])) fun σ2 H2=>tb ⟨Pv (i+1),rt,nx,Pv (i+1)⟩ σ2 H2)
  (stop:∀σ H,Pv xs.length σ H->nx σ H):ForG (Ite Sq) g tb nx rt σ H:=
 q3x xs.length Pv h0 (fun i σ H hi p=>⟨⟨xs,xs[i],hl i σ H p,by simp[hi]⟩,fun x H' ⟨T,hT,e1,e2⟩=>by
  have hx:xs[i]? =some xs[i]:=by simp[hi]
  have e3:=e2 xs xs[i] (hl i σ _ p) hx
  subst e1 e3
  exact go i _ σ _ T hx p hT⟩) fun σ H p=>⟨⟨xs,hl _ σ H p,Nat.le_refl _⟩,stop σ H p⟩
abbrev qap (J:It)(g:TG)(tc:TT)(te:TE)(R:Hp->Prop)(D:Addr)(σ:St)(H:Hp):Prop:=∃W:Nat->Nat->St->Hp->Prop,(∃m,W 0 m σ H)/\∀i m σ H,W i m σ H->
   (J.stop i H/\R H)\/(J.go i H/\∃N:St->Hp->Prop,(∀σ' H',N σ' H'->∃m',m'<m/\W (i+1) m' σ' H')/\∀x H',J.yld i H x H'->g x σ H' fun σ3 H3=>tc σ3 H3 fun b H4=>
    if b=true then te σ3 H4 fun y H5=>∃ys,H5 D=some (.lst ys)/\ys.length<sizeLine/\N σ3 (upd H5 D (.lst (ys++[y]))) else N σ3 H4)
theorem q15 {lo:Int}{n:Nat}(Pv:Nat->St->Hp->Prop)(h0:Pv 0 σ H)(go:∀i σ H,i<n->Pv i σ H->g (.int (lo+(i:Nat))) σ H fun σ3 H3=>tc σ3 H3 fun b H4=>
   if b=true then te σ3 H4 fun y H5=>∃ys,H5 D=some (.lst ys)/\ys.length<sizeLine/\Pv (i+1) σ3 (upd H5 D (.lst (ys++[y]))) else Pv (i+1) σ3 H4)(stop:∀σ H,Pv n σ H->R H):qap (Itr lo n) g tc te R D σ H:=
 q4v n Pv h0 (fun i σ H hi p=>⟨hi,fun x H' ⟨e1,e2⟩=>by subst e1 e2;exact go i σ _ hi p⟩) fun σ H p=>⟨Nat.le_refl _,stop σ H p⟩
theorem q16 (xs:List V)(Pv:Nat->St->Hp->Prop)(h0:Pv 0 σ H)(hl:∀i σ H,Pv i σ H->SqL K H a xs)(go:∀i x σ H,xs[i]? =some x->Pv i σ H->g x σ H fun σ3 H3=>tc σ3 H3 fun b H4=>
   if b=true then te σ3 H4 fun y H5=>∃ys,H5 D=some (.lst ys)/\ys.length<sizeLine/\Pv (i+1) σ3 (upd H5 D (.lst (ys++[y]))) else Pv (i+1) σ3 H4)(stop:∀σ H,Pv xs.length σ H->R H):qap (Itl K a) g tc te R D σ H:=
 q4v xs.length Pv h0 (fun i σ H hi p=>⟨⟨xs,xs[i],hl i σ H p,by simp[hi]⟩,fun x H' ⟨e1,e2⟩=>by subst e1;exact go i x σ _ (e2 xs (hl i σ _ p)) p⟩) fun σ H p=>⟨⟨xs,hl _ σ H p,Nat.le_refl _⟩,stop σ H p⟩
theorem qan (xs:List V)(Pv:Nat->St->Hp->Prop)(h0:Pv 0 σ H)(hl:∀i σ H,Pv i σ H->SqT K H a xs)(go:∀i x σ H,xs[i]? =some x->Pv i σ H->g x σ H fun σ3 H3=>tc σ3 H3 fun b H4=>
   if b=true then te σ3 H4 fun y H5=>∃ys,H5 D=some (.lst ys)/\ys.length<sizeLine/\Pv (i+1) σ3 (upd H5 D (.lst (ys++[y]))) else Pv (i+1) σ3 H4)(stop:∀σ H,Pv xs.length σ H->R H):qap (Itt K a) g tc te R D σ H:=
 q4v xs.length Pv h0 (fun i σ H hi p=>⟨⟨xs,xs[i],hl i σ H p,by simp[hi]⟩,fun x H' ⟨e1,e2⟩=>by subst e1;exact go i x σ _ (e2 xs (hl i σ _ p)) p⟩) fun σ H p=>⟨⟨xs,hl _ σ H p,Nat.le_refl _⟩,stop σ H p⟩
end
section
variable {X:Cx}{pos:Pos}{tg:Expr}{es:List Expr}{e o l:Expr}{ta te tl:TE}{t:TA}{K:W.Frag}
theorem q5o (K:W.Frag)(h:X.K=K:=by rfl):PGet X (rIxL K):=by subst h;exact qae
theorem q0c (K:W.Frag)(hl:PE X l tl)(h:X.K=K:=by rfl):PI X tg l (qc8 K tl):=by subst h;exact qbw hl
theorem qbv (K:W.Frag)(hl:PE X l tl)(h:X.K=K:=by rfl):PI X tg l (iTup K tl):=by subst h;exact pi_tup hl
theorem q84 {elts:List Expr}{k:Nat}{tp:Pos}{a:Expr}{p pos:Pos}(K:W.Frag)(hg:Gl X "enumerate")(hm:X.mg "enumerate"=none)(ha:PA X [a] t)(h:X.K=K:=by rfl)(hs:starEach [a] X.env=[(false,eval a X.env)]:=by rfl):PI X (.Tuple elts k tp) (.Call (.Name "enumerate" p) [a] [] pos) (q8z K t):=by subst h;exact q9C hg hm ha hs
theorem q83 {elts:List Expr}{k:Nat}{tp:Pos}{a:Expr}{p pos:Pos}(K:W.Frag)(hg:Gl X "enumerate")(hm:X.mg "enumerate"=none)(ha:PA X [a] t)(h:X.K=K:=by rfl)(hs:starEach [a] X.env=[(false,eval a X.env)]:=by rfl):PI X (.Tuple elts k tp) (.Call (.Name "enumerate" p) [a] [] pos) (q8y K t):=by subst h;exact q9B hg hm ha hs
theorem qC:1000000<sizeLine:=by decide
end
def q0f (H H':Hp):Prop:=∀p xs,H p=some (.tup xs)->H' p=some (.tup xs)
theorem q0f.trans {H H1 H2:Hp}(a:q0f H H1)(b:q0f H1 H2):q0f H H2:=fun p xs h=>b p xs (a p xs h)
theorem Same.ts {H H':Hp}(s:Same H H'):q0f H H':=fun p _ h=>s p _ h
theorem q0f.lst {H:Hp}{a:Addr}{ys:List V}{o:HO}(h:H a=some (.lst ys)):q0f H (upd H a o):=fun p xs e=>by rw[ql (q2o e h (by intro z;cases z))];exact e
end L2
namespace Ce
open PySem L2
def bit (x:Int)(t:Nat):Bool:=decide (x / 2 ^ t % 2=1)
def cnt (P:Nat->Bool):Nat->Nat
 |0=>0
 |n+1=>cnt P n+(if P n=true then 1 else 0)
theorem q3z {P R:Nat->Bool}:∀{n:Nat},(∀i,i<n->P i=R i)->cnt P n=cnt R n
 |0,_=>rfl
 |n+1,h=>by
  show cnt P n+_=cnt R n+_
  rw[q3z fun i hi=>h i (Nat.lt_succ_of_lt hi),h n (Nat.lt_succ_self n)]
theorem q8W {P:Nat->Bool}:∀{n:Nat},(∀i,i<n->P i=false)->cnt P n=0
 |0,_=>rfl
 |n+1,h=>by
  show cnt P n+_=0
  rw[q8W fun i hi=>h i (Nat.lt_succ_of_lt hi),h n (Nat.lt_succ_self n)]
  rfl
theorem q28 (w:Nat):(0:Int)<2 ^ w:=Int.pow_pos (by decide)
theorem q4z (t:Nat):bit 0 t=false:=by simp[bit]
theorem q9b {x:Int}{w t:Nat}(h0:0<=x)(h:x<2 ^ w)(ht:w<=t):bit x t=false:=by
 have h2:(2:Int) ^ w<=2 ^ t:=by
  have:(2:Int) ^ t=2 ^ w*2 ^ (t - w):=by rw[<-Int.pow_add];congr 1;omega
  rw[this]
  have:=q28 (t - w)
  have h3:=q28 w
  calc (2:Int) ^ w=2 ^ w*1:=by omega
   _<=2 ^ w*2 ^ (t - w):=Int.mul_le_mul_of_nonneg_left (by omega) (by omega)
 have:x / 2 ^ t=0:=Int.ediv_eq_zero_of_lt h0 (by omega)
 simp[bit,this]
theorem set_map {α:Type}(f:Nat->α)(n j:Nat)(v:α):((List.range n).map f).set j v=(List.range n).map fun k=>if k=j then v else f k:=by
 apply List.ext_getElem?
 intro i
 rw[List.getElem?_set]
 simp only[List.getElem?_map,yC,List.length_range]
 by_cases h:j=i
 ·subst h
  by_cases hj:j<n
  ·simp [hj]
  ·simp [hj]
 ·have h':¬i=j:=fun e=>h e.symm
  by_cases hi:i<n
  ·simp [h,h',hi]
  ·simp [h,hi]
def dP (ds:Nat->Option Int)(op k:Int)(w:Nat):Bool:=decide (ds w=some k)&&bit op w
theorem qct (ds:Nat->Option Int)(k:Int)(w:Nat):dP ds 0 k w=false:=by simp[dP,q4z]
theorem q09 (x:Int){n:Int}(h:0<n):0<=x % n:=Int.emod_nonneg _ (by omega)
theorem q0e (x:Int){n:Int}(h:0<n):x % n<n:=Int.emod_lt_of_pos _ h
theorem q8j (x:Int)(n:Nat)(h:0<n):∃j:Nat,j<n/\x % (n:Int)=(j:Int):=⟨(x % n).toNat,by have:=q09 x (n:=n) (by omega);have:=q0e x (n:=n) (by omega);omega,by have:=q09 x (n:=n) (by omega);omega⟩
theorem q1e (x:Int)(t:Nat):decide (Builtin.bitAnd (x / 2 ^ t) 1=1)=bit x t:=by
 unfold bit
 rw[PyProof.Rows.bitAnd_m1]
inductive Gt where
 |plain|door (k:Int)|need (k:Int)|bar (b:Int)|wade (h k:Int)|float (h:Int)
def Gt.vs:Gt->List V
 | .plain=>[.str "plain"]
 | .door k=>[.str "door",.int k]
 | .need k=>[.str "need",.int k]
 | .bar b=>[.str "bar",.int b]
 | .wade h k=>[.str "wade",.int h,.int k]
 | .float h=>[.str "float",.int h]
def Gt.ok:Gt->Prop
 | .plain=>True
 | .door k=>0<=k/\k<12
 | .need k=>0<=k/\k<12
 | .bar b=>0<=b/\b<8
 | .wade h k=>(0<=h/\h<10)/\0<=k/\k<12
 | .float h=>0<=h/\h<10
def Gt.dk:Gt->Option Int
 | .door k=>some k
 |_=>none
def Gt.word:Gt->Str
 | .plain=>"plain"
 | .door _=>"door"
 | .need _=>"need"
 | .bar _=>"bar"
 | .wade _ _=>"wade"
 | .float _=>"float"
def Gt.ns:Gt->List Int
 | .plain=>[]
 | .door k=>[k]
 | .need k=>[k]
 | .bar b=>[b]
 | .wade h k=>[h,k]
 | .float h=>[h]
theorem Gt.vs_eq (g:Gt):g.vs= .str g.word::g.ns.map V.int:=by cases g<;>rfl
theorem Gt.flat (g:Gt):g.vs.all q1P=true:=by cases g<;>rfl
theorem q6h:("need":Str)≠"door":=by walk_at "k"
theorem q7A:("bar":Str)≠"door":=by walk_at "k"
theorem q4Q:("float":Str)≠"door":=by walk_at "k"
theorem q7z:("plain":Str)≠"door":=by walk_at "k"
theorem q9k:("wade":Str)≠"door":=by walk_at "k"
theorem q4B (g:Gt):decide (g.word="door")=g.dk.isSome:=by
 cases g with
 |plain=>exact decide_eq_false q7z
 |door k=>exact decide_eq_true rfl
 |need k=>exact decide_eq_false q6h
 |bar k=>exact decide_eq_false q7A
 |wade h k=>exact decide_eq_false q9k
 |float k=>exact decide_eq_false q4Q
theorem q8M {g:Gt}(h:g.word="door"):∃k,g= .door k:=by
 have:=q4B g
 rw[h] at this
 cases g with
 |door k=>exact⟨k,rfl⟩
 |_=>simp[Gt.dk] at this
theorem q8J {a b:Str}(h:a≠b):eqV (.str a) (.str b)=false:=by
 simp[eqV,h]
theorem qck (g:Gt)(k:Int):eqVs g.vs [.str "door",.int k]=decide (g.dk=some k):=by
 cases g with
 |plain=>simp[eqVs,Gt.vs,Gt.dk]
 |door j=>
  simp[eqVs,Gt.vs,Gt.dk,eqV]
  rw[Bool.beq_eq_decide_eq]
 |need j=>simp[eqVs,Gt.vs,Gt.dk,q8J q6h]
 |bar j=>simp[eqVs,Gt.vs,Gt.dk,q8J q7A]
 |wade h j=>simp[eqVs,Gt.vs,Gt.dk]
 |float j=>simp[eqVs,Gt.vs,Gt.dk,q8J q4Q]
structure Way where
 a:Int
 b:Int
 g:Gt
 back:Bool
structure Cl where
 rooms:Int
 fst:Int
 lst:Int
 ways:List Way
 things:List (Int×Int)
 levers:List (Int×Int)
 wheels:List (Int×Int)
 bars:Int
 water:Int
structure ClOk (C:Cl):Prop where
 r1:1<=C.rooms
 r2:C.rooms<=14
 f:0<=C.fst/\C.fst<C.rooms
 l:0<=C.lst/\C.lst<C.rooms
 wl:C.ways.length<=20
 tl:C.things.length<=8
 ll:C.levers.length<=4
 vl:C.wheels.length<=4
 w:∀x∈C.ways,(0<=x.a/\x.a<C.rooms)/\(0<=x.b/\x.b<C.rooms)/\x.a≠x.b/\x.g.ok
 t:∀x∈C.things,(0<=x.1/\x.1<C.rooms)/\0<=x.2/\x.2<12
 lv:∀x∈C.levers,(0<=x.1/\x.1<C.rooms)/\1<=x.2/\x.2<=255
 wh:∀x∈C.wheels,(0<=x.1/\x.1<C.rooms)/\0<=x.2/\x.2<=9
 b:0<=C.bars/\C.bars<=255
 wa:0<=C.water/\C.water<=9
def qN (H:Hp)(p:Addr)(x:Int×Int):Prop:=H p=some (.tup [.int x.1,.int x.2])
def q2I (H:Hp)(p:Addr)(x:Way):Prop:=∃g,H p=some (.tup [.int x.a,.int x.b,.ref g,.bl x.back])/\H g=some (.tup x.g.vs)
def Rows {α:Type}(At:Hp->Addr->α->Prop)(H:Hp)(ps:List Addr)(xs:List α):Prop:=ps.length=xs.length/\∀(i:Nat) (p:Addr) (x:α),ps[i]? =some p->xs[i]? =some x->At H p x
def q3P {α:Type}(At:Hp->Addr->α->Prop)(H:Hp)(q:Addr)(xs:List α):Prop:=∃ps,H q=some (.tup (ps.map V.ref))/\Rows At H ps xs
def qJ {α:Type}(At:Hp->Addr->α->Prop)(H:Hp)(q:Addr)(xs:List α):Prop:=∃ps,H q=some (.lst (ps.map V.ref))/\Rows At H ps xs
section
variable {α:Type}{At:Hp->Addr->α->Prop}{H H':Hp}{ps:List Addr}{xs:List α}{p q:Addr}{x:α}
theorem qN.mono (s:q0f H H'){p:Addr}{x:Int×Int}(h:qN H p x):qN H' p x:=s _ _ h
theorem q2I.mono (s:q0f H H'){p:Addr}{x:Way}(h:q2I H p x):q2I H' p x:=let ⟨g,h1,h2⟩:=h;⟨g,s _ _ h1,s _ _ h2⟩
theorem Rows.mono (m:∀p x,At H p x->At H' p x)(h:Rows At H ps xs):Rows At H' ps xs:=⟨h.1,fun i p x h1 h2=>m p x (h.2 i p x h1 h2)⟩
theorem Rows.nil:Rows At H [] []:=⟨rfl,fun i p x h _=>by simp at h⟩
theorem Rows.snoc (h:Rows At H ps xs)(hx:At H p x):Rows At H (ps++[p]) (xs++[x]):=by
 refine⟨by simp[h.1],fun i q y h1 h2=>?_⟩
 by_cases hi:i<ps.length
 ·rw [List.getElem?_append_left hi] at h1
  rw[List.getElem?_append_left (by rw[<-h.1];exact hi)] at h2
  exact h.2 i q y h1 h2
 ·have e:i=ps.length:=by
   have:=(yA h1).1
   simp at this
   omega
  subst e
  rw[List.getElem?_append_right (Nat.le_refl _)] at h1
  rw[List.getElem?_append_right (by rw[h.1];exact Nat.le_refl _),<-h.1] at h2
  simp at h1 h2
  rw[<-h1,<-h2]
  exact hx
theorem Rows.get (h:Rows At H ps xs){i:Nat}(hi:i<xs.length):∃p,(ps.map V.ref)[i]? =some (.ref p)/\At H p xs[i]:=by
 have hp:i<ps.length:=by rw[h.1];exact hi
 exact⟨ps[i],by simp[hp],h.2 i _ _ (by simp[hp]) (by simp[hi])⟩
theorem q3P.mono (s:q0f H H')(m:∀p x,At H p x->At H' p x)(h:q3P At H q xs):q3P At H' q xs:=let ⟨ps,h1,h2⟩:=h;⟨ps,s _ _ h1,h2.mono m⟩
theorem q3P.get (h:q3P At H q xs):∃vs,H q=some (.tup vs)/\vs.length=xs.length/\∀i (hi:i<xs.length),∃p,vs[i]? =some (.ref p)/\At H p xs[i]:=by
 obtain⟨ps,h1,h2⟩:=h
 exact⟨_,h1,by simp[h2.1],fun i hi=>h2.get hi⟩
end
structure ClAt (H:Hp)(c:Addr)(C:Cl):Prop where
 ex:∃w t l v,H c=some (.tup [.int C.rooms,.int C.fst,.int C.lst,.ref w,.ref t,.ref l,.ref v,.int C.bars,.int C.water])/\q3P q2I H w C.ways/\q3P qN H t C.things/\q3P qN H l C.levers/\q3P qN H v C.wheels
theorem ClAt.mono {H H':Hp}(s:q0f H H'){c:Addr}{C:Cl}(h:ClAt H c C):ClAt H' c C:=by
 obtain⟨w,t,l,v,h0,h1,h2,h3,h4⟩:=h.ex
 exact⟨w,t,l,v,s _ _ h0,h1.mono s (fun _ _=>q2I.mono s),h2.mono s (fun _ _=>qN.mono s),h3.mono s (fun _ _=>qN.mono s),h4.mono s (fun _ _=>qN.mono s)⟩
def WOk (r:Int)(x:Way):Prop:=(0<=x.a/\x.a<r)/\(0<=x.b/\x.b<r)/\x.a≠x.b/\x.g.ok
def POk (r lo hi:Int)(x:Int×Int):Prop:=(0<=x.1/\x.1<r)/\lo<=x.2/\x.2<=hi
def tP (C:Cl)(tk k:Int)(t:Nat):Bool:=decide ((C.things.getD t (0,0)).2=k)&&bit tk t
def dsOf (C:Cl)(w:Nat):Option Int:=(C.ways[w]?).bind fun x=>x.g.dk
def hold (C:Cl)(tk op k:Int):Int:=(cnt (tP C tk k) C.things.length:Int) - (cnt (dP (dsOf C) op k) C.ways.length:Int)
def cl (f:Int->Int):List V:=(List.range 12).map fun k:Nat=>V.int (f k)
theorem q8A (C:Cl)(k:Int):hold C 0 0 k=0:=by
 unfold hold
 rw[q8W fun i _=>by simp[tP,q4z],q8W fun i _=>qct _ _ _]
 rfl
theorem cl_len (f:Int->Int):(cl f).length=12:=by simp[cl]
theorem q91 {f:Int->Int}{k:Int}(h0:0<=k)(h1:k<12):atI (cl f) k=some (.int (f k)):=by
 obtain⟨j,rfl⟩:∃j:Nat,k=(j:Int):=⟨k.toNat,by omega⟩
 exact q0m (by simp[cl,show j<12 by omega])
theorem cl_ix {f:Int->Int}{k:Int}(h0:0<=k)(h1:k<12):ixN (cl f).length k=some k.toNat:=by
 rw[cl_len]
 unfold ixN
 rw[if_pos h0,if_pos (by omega)]
theorem qaO {f:Int->Int}{k v:Int}(h0:0<=k)(h1:k<12):(cl f).set k.toNat (.int v)=cl fun j=>if j=k then v else f j:=by
 unfold cl
 rw[set_map]
 refine List.map_congr_left fun j _=>?_
 by_cases e:(j:Int)=k
 ·rw [if_pos (by omega)]
  show _=V.int (if (j:Int)=k then v else f j)
  rw[if_pos e]
 ·rw [if_neg (by omega)]
  show _=V.int (if (j:Int)=k then v else f j)
  rw[if_neg e]
theorem q2G {f g:Int->Int}(h:∀k,0<=k->k<12->f k=g k):cl f=cl g:=by
 unfold cl
 refine List.map_congr_left fun j hj=>?_
 rw[List.mem_range] at hj
 rw[h j (by omega) (by omega)]
structure StOk (C:Cl)(rm tk op b wt:Int):Prop where
 hrm:0<=rm/\rm<C.rooms
 htk:0<=tk/\tk<2 ^ C.things.length
 hop:0<=op/\op<2 ^ C.ways.length
 dr:∀i,i<C.ways.length->bit op i=true->(dsOf C i).isSome=true
 hb:0<=b/\b<=255
 hwt:0<=wt/\wt<=9
 held:∀k,0<=k->k<12->0<=hold C tk op k
end Ce
namespace L2
open PySem PySem.Spec PyProof.Rows
section
variable {H:Hp}{Q:VK}{K:W.Frag}{σ:St}
theorem qbn {r r':R2}{ta tb tc:TE}(q:ta σ H fun x H1=>tb σ H1 fun y H2=>r x y H2 fun z H3=>∃k,z= .bl k/\(if k=true then tc σ H3 fun w' H4=>r' y w' H4 Q else Q (.bl false) H3)):qav r r' ta tb tc σ H Q:=q
end
end L2
namespace Ce
open PySem L2
theorem q1L {x:Int}(h:0<=x)(t:Nat):bit x t=x.toNat.testBit t:=by
 unfold bit
 rw[Nat.testBit_eq_decide_div_mod_eq]
 obtain⟨n,rfl⟩:∃n:Nat,x=(n:Int):=⟨x.toNat,by omega⟩
 rw[Int.toNat_natCast]
 congr 1
 have e:((n:Int) / 2 ^ t % 2=1)=((((n / 2 ^ t % 2:Nat):Int))=((1:Nat):Int)):=by
  rw[Int.natCast_emod,Int.natCast_ediv,Int.natCast_pow]
  rfl
 rw[e,Int.natCast_inj]
def drs (ds:Nat->Option Int)(m:Nat)(op:Int):Bool:=(List.range m).all fun w=> !bit op w||(ds w).isSome
theorem q9l {C:Cl}(ok:ClOk C):StOk C C.fst 0 0 C.bars C.water:=
 ⟨ok.f,⟨by decide,q28 _⟩,⟨by decide,q28 _⟩,fun i _ hb=>(by rw[q4z] at hb;cases hb),ok.b,ok.wa,fun k _ _=>(by rw[q8A];exact Int.le_refl 0)⟩
end Ce
namespace L2
open PySem PySem.Spec PyProof.Rows
structure LaidM (K:W.Frag)(C:Addr)(m qual:Str)(st:Stmt)(ps:List Str):Prop where
 ex:∃f fd,Fun K m qual st f fd/\Meth K C m f/\q0W K fd ps []
structure LaidI (K:W.Frag)(mg:Str->Option Value)(x:Str)(C:Addr)(qual:Str)(st:Stmt)(ps:List Str):Prop where
 ex:∃f fd,Fun K "__init__" qual st f fd/\Mk K C f/\q0W K fd ps []
 at_:mg x=some (.ref C)
structure LaidC (K:W.Frag)(mg:Str->Option Value)(x m qual:Str)(st:Stmt)(ps:List Str):Prop where
 ex:∃C f fd,mg x=some (.ref C)/\Fun K m qual st f fd/\CMeth K C m f/\q0W K fd ps []
section
variable {P:Program}{w:World}{K:W.Frag}{mg:Str->Option Value}{base:Heap}
theorem LaidM.vm {C:Addr}{m qual:Str}{st:Stmt}{N ps:List Str}{k:Nat}{sp:Sp}(L:LaidM K C m qual st ps)(cl:Cls K C)(S:FnScope N ps (qh st))(len:∀vs H Q E,sp vs H Q E->vs.length=ps.length)
  (hbody:∀(f:Addr) (cdv:Value) (A:Around) (outer:List Env) (s:Shared) (H:Hp) (vs:List V) (Q:VK) (E:XK),Room k (A.deeper (envOfC qual (qh st) s.heap.objs.size f cdv))->sp vs H Q E->
   ∃t,PSs (cxOf CX0 P w K mg base N qual (qh st) f cdv A outer s H E).nox (qR st) t/\t {nx:=fun _ H'=>Q .non H',rt:=Q} (start N vs) H):VMeth P w K mg base (k+1) C m ps sp:=by
 obtain⟨f,fd,F,hm,b⟩:=L.ex
 exact⟨cl,f,fd,hm,F.ok S len (fun cdv A outer s H vs Q E hr h=>hbody f cdv A outer s H vs Q E hr h),b⟩
theorem LaidI.makes {x:Str}{C:Addr}{qual:Str}{st:Stmt}{N ps:List Str}{k:Nat}{sp:Sp}(L:LaidI K mg x C qual st ps)(S:FnScope N ps (qh st))(len:∀vs H Q E,sp vs H Q E->vs.length=ps.length)
  (hbody:∀(f:Addr) (cdv:Value) (A:Around) (outer:List Env) (s:Shared) (H:Hp) (vs:List V) (Q:VK) (E:XK),Room k (A.deeper (envOfC qual (qh st) s.heap.objs.size f cdv))->sp vs H Q E->
   ∃t,PSs (cxOf CX0 P w K mg base N qual (qh st) f cdv A outer s H E).nox (qR st) t/\t {nx:=fun _ H'=>Q .non H',rt:=Q} (start N vs) H):Makes P w K mg base (k+1) x C ps sp:=by
 obtain⟨f,fd,F,M,b⟩:=L.ex
 exact⟨⟨f,fd,M,F.ok S len (fun cdv A outer s H vs Q E hr h=>hbody f cdv A outer s H vs Q E hr h),b⟩,L.at_⟩
theorem LaidC.cc {x m qual:Str}{st:Stmt}{N ps:List Str}{k:Nat}{sp:Sp}(L:LaidC K mg x m qual st ps)(S:FnScope N ps (qh st))(len:∀vs H Q E,sp vs H Q E->vs.length=ps.length)
  (hbody:∀(f:Addr) (cdv:Value) (A:Around) (outer:List Env) (s:Shared) (H:Hp) (vs:List V) (Q:VK) (E:XK),Room k (A.deeper (envOfC qual (qh st) s.heap.objs.size f cdv))->sp vs H Q E->
   ∃t,PSs (cxOf CX0 P w K mg base N qual (qh st) f cdv A outer s H E).nox (qR st) t/\t {nx:=fun _ H'=>Q .non H',rt:=Q} (start N vs) H):CCal P w K mg base (k+1) x m ps sp:=by
 obtain⟨C,f,fd,hm,F,cm,b⟩:=L.ex
 exact⟨C,f,fd,hm,cm,F.ok S len (fun cdv A outer s H vs Q E hr h=>hbody f cdv A outer s H vs Q E hr h),b⟩
end
def rFld (K:W.Frag)(f:Str)(x:V)(H:Hp)(Q:VK):Prop:=∃a C dx fs v,x= .ref a/\H a=some (.ins C dx fs)/\Cls K C/\qH K C f/\fs.lookup f=some v/\Q v H
def rSetF (K:W.Frag)(f:Str)(x y:V)(H:Hp)(R:Hp->Prop):Prop:=∃a C dx fs,x= .ref a/\H a=some (.ins C dx fs)/\Cls K C/\qH K C f/\fs.length<1000/\R (upd H a (.ins C dx (putF f y fs)))
def rVM (P:Program)(w:World)(K:W.Frag)(mg:Str->Option Value)(base:Heap)(k:Nat)(m:Str)(σ:St)(t:TA)(x:V)(H:Hp)(Q:VK):Prop:=∃a C dx fs ps sp,x= .ref a/\H a=some (.ins C dx fs)/\VMeth P w K mg base k C m ps sp/\fs.lookup m=none/\t σ H fun vs H2=>sp (x::vs) H2 Q E0
section
variable {σ:St}{H:Hp}{Q:VK}{K:W.Frag}{ta tv:TE}{t:TA}{f m:Str}{nx bk ct:St->Hp->Prop}{rt:VK}{P:Program}{w:World}{mg:Str->Option Value}{base:Heap}{k:Nat}
theorem r_fld0 (q:ta σ H fun x H1=>rFld K f x H1 Q):tFld K ta f σ H Q:=q
theorem qbh (q:tv σ H fun y H1=>ta σ H1 fun x H2=>rSetF K f x y H2 fun H3=>nx σ H3):sFld K ta tv f ⟨nx,rt,bk,ct⟩ σ H:=q
theorem r_vm0 (q:ta σ H fun x H1=>rVM P w K mg base k m σ t x H1 Q):tVM P w K mg base k m ta t σ H Q:=q
theorem q1d {a C dx:Addr}{fs:List (Str×V)}{v:V}(h:H a=some (.ins C dx fs))(c:Cls K C)(n:qH K C f)(l:fs.lookup f=some v)(q:Q v H):rFld K f (.ref a) H Q:=⟨a,C,dx,fs,v,rfl,h,c,n,l,q⟩
theorem q2d {a C dx:Addr}{fs:List (Str×V)}{y:V}{R:Hp->Prop}(h:H a=some (.ins C dx fs))(c:Cls K C)(n:qH K C f)(l:fs.length<1000)(q:R (upd H a (.ins C dx (putF f y fs)))):rSetF K f (.ref a) y H R:=⟨a,C,dx,fs,rfl,h,c,n,l,q⟩
theorem r_vm {a C dx:Addr}{fs:List (Str×V)}{ps:List Str}{sp:Sp}(h:H a=some (.ins C dx fs))(v:VMeth P w K mg base k C m ps sp)(l:fs.lookup m=none)(q:t σ H fun vs H2=>sp (.ref a::vs) H2 Q E0):rVM P w K mg base k m σ t (.ref a) H Q:=⟨a,C,dx,fs,ps,sp,rfl,h,v,l,q⟩
theorem r_make {C:Addr}{sp:Sp}{E:XK}(q:t σ H fun vs H1=>∀x dx,H1 x=none->H1 dx=none->dx≠x->sp (.ref x::(vs++[])) (upd (upd H1 dx (.own x)) x (.ins C dx [])) (fun v H2=>v= .non/\Q (.ref x) H2) E):q7v C sp [] E t σ H Q:=q
end
section
variable {X:Cx}
theorem q19 {o value:Expr}{ta tv:TE}{f:Str}{pos pos':Pos}(K:W.Frag)(ha:PE X o ta)(hv:PE X value tv)(hs:swapsWith value (some (.Attribute o f pos')) pos.line X.env=pure false)(hK:X.K=K:=by rfl):PS X (.Assign [.Attribute o f pos'] value pos) (sFld K ta tv f):=by subst hK;exact ps_fld ha hv hs
end
inductive Deq (K:W.Frag)(H:Hp):Nat->V->V->Bool->Prop where
 |flat {n:Nat} {x y:V} (fx:q1P x=true) (fy:q1P y=true):Deq K H n x y (eqV x y)
 |same {n:Nat} (a:Addr):Deq K H n (.ref a) (.ref a) true
 | tup {n:Nat} {a b:Addr} {xs ys:List V} {e:Nat->Bool} (hne:a≠b) (ha:SqT K H a xs) (hb:SqT K H b ys) (h:∀j,j<xs.length->j<ys.length->Deq K H n (xs.getD j .non) (ys.getD j .non) (e j)):
   Deq K H (n+1) (.ref a) (.ref b) ((List.range (min xs.length ys.length)).all e&&xs.length==ys.length)
 | lst {n:Nat} {a b:Addr} {xs ys:List V} {e:Nat->Bool} (hne:a≠b) (ha:SqL K H a xs) (hb:SqL K H b ys) (hl:xs.length=ys.length) (h:∀j,j<xs.length->j<ys.length->Deq K H n (xs.getD j .non) (ys.getD j .non) (e j)):
   Deq K H (n+1) (.ref a) (.ref b) ((List.range xs.length).all e)
 |lstn {n:Nat} {a b:Addr} {xs ys:List V} (hne:a≠b) (ha:SqL K H a xs) (hb:SqL K H b ys) (hl:xs.length≠ys.length):Deq K H (n+1) (.ref a) (.ref b) false
section
variable {X:Cx}{pins:List (Addr×Obj)}{σ:St}{H:Hp}{s:Shared}
theorem qaL (I:Inv X pins σ H s){n:Nat}{x y:V}{b:Bool}(d:Deq X.K H n x y b):∀{A:Around} {u v:Value},A.units+n<cLine->RelV x u->RelV y v->SeqAt.EqAt A s u v b:=by
 induction d with
 |flat fx fy=>intro A u v _ rx ry;exact q8K rx ry fx fy
 |same a=>intro A u v _ rx ry;cases rx;cases ry;exact SeqAt.EqAt.same _
 | @tup n a b xs ys e hne ha hb h ih=>
  intro A u v hu rx ry
  cases rx
  cases ry
  obtain⟨ia,ra,pa,_⟩:=I.tuple ha
  obtain⟨ib,rb,pb,_⟩:=I.tuple hb
  have la:=ra.length
  have lb:=rb.length
  refine SeqAt.EqAt.of_refs hne ?_
  have q:=SeqAt.RcAt.tuples (A:=A) (e:=e) (show s.heap.IsTuple a ia.toArray from pa) (show s.heap.IsTuple b ib.toArray from pb) (by omega) (fun j h1 h2=>ih j (by simpa[la] using h1) (by simpa[lb] using h2) (by show A.units+1+n<cLine;omega) (q0F ra h1) (q0F rb h2))
  simpa[la,lb] using q
 | @lst n a b xs ys e hne ha hb hl h ih=>
  intro A u v hu rx ry
  cases rx
  cases ry
  obtain⟨ia,ra,pa,_⟩:=I.list ha
  obtain⟨ib,rb,pb,_⟩:=I.list hb
  have la:=ra.length
  have lb:=rb.length
  refine SeqAt.EqAt.of_refs hne ?_
  have q:=SeqAt.RcAt.lists (A:=A) (e:=e) pa.isList pb.isList (by simp;omega) (by omega) (fun j h1 h2=>ih j (by simpa[la] using h1) (by simpa[lb] using h2) (by show A.units+1+n<cLine;omega) (q0F ra h1) (q0F rb h2))
  simpa[la] using q
 | @lstn n a b xs ys hne ha hb hl=>
  intro A u v hu rx ry
  cases rx
  cases ry
  obtain⟨ia,ra,pa,_⟩:=I.list ha
  obtain⟨ib,rb,pb,_⟩:=I.list hb
  have la:=ra.length
  have lb:=rb.length
  exact SeqAt.EqAt.of_refs hne (SeqAt.RcAt.lists_lengths pa.isList pb.isList (by simp;omega) (by omega))
end
def rEqD (K:W.Frag)(n:Nat):R2:=fun x y H Q=>
 (∃p q xs ys e,x= .ref p/\y= .ref q/\SqT K H p xs/\SqT K H q ys/\(∀j,j<xs.length->j<ys.length->Deq K H n (xs.getD j .non) (ys.getD j .non) (e j))/\Q (.bl ((List.range (min xs.length ys.length)).all e&&xs.length==ys.length)) H)\/
 (∃p q xs ys e,x= .ref p/\y= .ref q/\SqL K H p xs/\SqL K H q ys/\xs.length=ys.length/\(∀j,j<xs.length->j<ys.length->Deq K H n (xs.getD j .non) (ys.getD j .non) (e j))/\Q (.bl ((List.range xs.length).all e)) H)\/
 (∃p q xs ys,x= .ref p/\y= .ref q/\SqL K H p xs/\SqL K H q ys/\xs.length≠ys.length/\Q (.bl false) H)
section
variable {X:Cx}
theorem op_eqD (K:W.Frag)(n:Nat)(hu:X.A.units+n+1<cLine)(hK:X.K=K:=by rfl):OpR X (compareOp .Eq) (rEqD K n):=by
 subst hK
 intro pins s σ H x y v u Q I rx ry h
 rcases h with⟨p,q,xs,ys,e,rfl,rfl,hp,hq,hd,k⟩|⟨p,q,xs,ys,e,rfl,rfl,hp,hq,hl,hd,k⟩|⟨p,q,xs,ys,rfl,rfl,hp,hq,hl,k⟩
 ·cases rx
  cases ry
  obtain⟨ia,ra,pa,_⟩:=I.tuple hp
  obtain⟨ib,rb,pb,_⟩:=I.tuple hq
  have la:=ra.length
  have lb:=rb.length
  refine SeqAt.eq_tupleAt (e:=e) (show s.heap.IsTuple p ia.toArray from pa) (show s.heap.IsTuple q ib.toArray from pb) (by omega) (fun j h1 h2=>qaL I (hd j (by simpa[la] using h1) (by simpa[lb] using h2)) (by show X.A.units+1+n<cLine;omega) (q0F ra h1) (q0F rb h2)) ⟨.bl _,H,I,?_,k⟩
  show Value.bool _=Value.bool _
  simp[la,lb]
 ·cases rx
  cases ry
  obtain⟨ia,ra,pa,_⟩:=I.list hp
  obtain⟨ib,rb,pb,_⟩:=I.list hq
  have la:=ra.length
  have lb:=rb.length
  refine SeqAt.eq_listAt (e:=e) pa.isList pb.isList (by simp;omega) (by omega) (fun j h1 h2=>qaL I (hd j (by simpa[la] using h1) (by simpa[lb] using h2)) (by show X.A.units+1+n<cLine;omega) (q0F ra h1) (q0F rb h2)) ⟨.bl _,H,I,?_,k⟩
  show Value.bool _=Value.bool _
  simp[la]
 ·cases rx
  cases ry
  obtain⟨ia,ra,pa,_⟩:=I.list hp
  obtain⟨ib,rb,pb,_⟩:=I.list hq
  have la:=ra.length
  have lb:=rb.length
  exact SeqAt.eq_list_lengthsAt pa.isList pb.isList (by simp;omega) (by omega) ⟨.bl false,H,I,rfl,k⟩
end
theorem q6O (n:Nat):((List.range n).all fun _=>true)=true:=by simp
section
variable {H:Hp}{Q:VK}{K:W.Frag}{n:Nat}{p q:Addr}{xs ys:List V}
theorem qbm (hp:SqT K H p xs)(hq:SqT K H q ys)(hl:xs.length=ys.length)(h:∀j,j<xs.length->Deq K H n (xs.getD j .non) (ys.getD j .non) true)(k:Q (.bl true) H):rEqD K n (.ref p) (.ref q) H Q:=
 .inl ⟨p,q,xs,ys,fun _=>true,rfl,rfl,hp,hq,fun j h1 _=>h j h1,by rw[q6O,hl];simpa using k⟩
theorem Deq.self {x:V}(h:q1P x=true\/∃a,x= .ref a):Deq K H n x x true:=by
 rcases h with h|⟨a,rfl⟩
 ·have:=Deq.flat (K:=K) (H:=H) (n:=n) h h
  rw[qak h] at this
  exact this
 ·exact .same a
end
section
variable {X:Cx}{a b e:Expr}{ta tb te:TE}{pos:Pos}
theorem q5T (x y:Str):(x++y).length=x.length+y.length:=strLen_append x y
end
structure FunD (K:W.Frag)(x:Str)(st:Stmt)(ds:List Value)(f:Addr)(fd:FuncData):Prop where
 ex:∃(T:Addr) (o:Obj) (n:Nat) (oc:Value) (od:Option Addr) (kV doc pm:Value) (an:Option Addr) (cdv ct:Value) (osl:Array (Option Value)),
  fd=PySem.W.fnOf x x (q0j st) (qR st) (qh st) (.ref T) kV doc pm an cdv ct/\K.lookup f=some ⟨oc,od,.func fd,osl⟩/\PySem.W.codeIn K cdv x=true/\K.lookup T=some o/\o.data= .seq ds.toArray n
 kp:PySem.W.keepIn K (.ref f)=true
structure LaidD (K:W.Frag)(mg:Str->Option Value)(x:Str)(st:Stmt)(ds:List Value):Prop where
 ex:∃f fd,FunD K x st ds f fd/\mg x=some (.ref f)
def BnD (x:Str)(st:Stmt)(ds:List Value)(args:Args)(binds:List (Str×Value)):Prop:=
 ∀(T:Addr) (kV doc pm:Value) (an:Option Addr) (cdv ct:Value),∃k,bindArgs (PySem.W.fnOf x x (q0j st) (qR st) (qh st) (.ref T) kV doc pm an cdv ct) args=seqItems? (.ref T) >>= k/\k (some ds.toArray)=pure binds
section
variable {P:Program}{w:World}{K:W.Frag}{mg:Str->Option Value}{base:Heap}{x:Str}{st:Stmt}{ds:List Value}
theorem FunD.bind {f:Addr}{fd:FuncData}{args:Args}{binds:List (Str×Value)}{s:Shared}(F:FunD K x st ds f fd)(X:K.In s.heap)(h:BnD x st ds args binds):BindsTo s fd args binds:=by
 obtain⟨T,o,n,oc,od,kV,doc,pm,an,cdv,ct,osl,rfl,lk,hcd,ho,hs⟩:=F.ex
 obtain⟨k,h1,h2⟩:=h T kV doc pm an cdv ct
 exact PySem.W.binds_K X rfl ho hs h1 h2
theorem qa8 {h:Heap}{f T:Addr}{oc:Value}{od an:Option Addr}{osl:Array (Option Value)}{kV doc pm cdv ct:Value}{o:Obj}{n:Nat}(X:K.In h)(G:h.Ns mainGlobals mg)(a:PySem.W.nsIn K mainGlobals x=some (some (.ref f)))
  (l:K.lookup f=some ⟨oc,od,.func (PySem.W.fnOf x x (q0j st) (qR st) (qh st) (.ref T) kV doc pm an cdv ct),osl⟩)(c:PySem.W.codeIn K cdv x=true)(k:PySem.W.keepIn K (.ref f)=true)
  (ho:K.lookup T=some o)(hs:o.data= .seq ds.toArray n):LaidD K mg x st ds:=
 ⟨f,_,⟨⟨T,o,n,oc,od,kV,doc,pm,an,cdv,ct,osl,rfl,l,c,ho,hs⟩,k⟩,PySem.W.mg_of X G a⟩
end
end L2
namespace HT
open PySem PyProof.Rows
section
variable {prog:Program}{w:World}{A:Around}{E:Value->Shared->Prop}{s:Shared}
theorem qao {t b:Addr}{vs ws:List Value}{Q:Value->Shared->Prop}(ht:IsTup s.heap t vs.toArray)(hb:IsTup s.heap b ws.toArray)(hv:vs=[])(h:Q (.ref b) s):wpAny (model prog w) A (binaryOp .Add (.ref t) (.ref b)) Q E s:=by
 obtain⟨⟨cls,dd,data,sl⟩,ho,hc,n,hd⟩:=id ht
 obtain⟨⟨cls2,dd2,data2,sl2⟩,ho2,hc2,n2,hd2⟩:=id hb
 simp only at hc hd hc2 hd2
 subst hc hd hc2 hd2
 exact concat_meets ⟨_,ho,rfl⟩ ⟨_,ho2,rfl⟩ noFill_tuple_add seq_tuple_add PySem.F.slot_tuple_add PySem.F.entry_tuple_add (PySem.F.args_tuple_add_2 _ _)
   (tuple_addW0 t b vs.toArray ws.toArray n n2 dd dd2 sl sl2 (by simp[hv])) ⟨ho,ho2,h⟩
end
end HT
namespace L2
open PySem PySem.Spec PyProof.Rows
def q6q (K:W.Frag):R2:=fun x y H Q=>∃a b xs ys,x= .ref a/\y= .ref b/\SqT K H a xs/\SqT K H b ys/\xs.length+ys.length<=sizeLine/\
 (xs=[]->Q (.ref b) H)/\(xs≠[]->ys=[]->Q (.ref a) H)/\(xs≠[]->ys≠[]->∀p,H p=none->Q (.ref p) (upd H p (.tup (xs++ys))))
def rNeTs (K:W.Frag):R2:=fun x y H Q=>∃p q xs ys,x= .ref p/\y= .ref q/\SqT K H p xs/\SqT K H q ys/\xs.all q1P=true/\ys.all q1P=true/\Q (.bl (!eqVs xs ys)) H
section
variable {X:Cx}
theorem q6A (K:W.Frag)(hK:X.K=K:=by rfl):OpR X (binaryOp .Add) (q6q K):=by
 subst hK
 intro pins s σ H x y v u Q I rx ry h
 obtain⟨a,b,xs,ys,e1,e2,ha,hb,hz,q0,q1,q2⟩:=h
 by_cases hx:xs=[]
 ·subst e1 e2
  cases rx
  cases ry
  obtain⟨its,r1,p1,_⟩:=I.tuple ha
  obtain⟨its2,r2,p2,_⟩:=I.tuple hb
  exact HT.qao p1 p2 (r1.nil_iff.mpr hx) ⟨.ref b,H,I,rfl,q0 hx⟩
 ·exact q8d pins s σ H x y v u Q I rx ry ⟨a,b,xs,ys,e1,e2,ha,hb,hx,hz,q1 hx,q2 hx⟩
theorem q8a (K:W.Frag)(hu:X.A.units<cLine)(hK:X.K=K:=by rfl):OpR X (compareOp .NotEq) (rNeTs K):=by
 subst hK
 intro pins s σ H x y v u Q I rx ry h
 obtain⟨p,q,xs,ys,rfl,rfl,hp,hq,fx,fy,k⟩:=h
 cases rx
 cases ry
 obtain⟨ia,ra,pa,_⟩:=I.tuple hp
 obtain⟨ib,rb,pb,_⟩:=I.tuple hq
 have la:=ra.length
 have lb:=rb.length
 refine SeqAt.RcNeAt.tuples (e:=fun j=>eqV (xs.getD j .non) (ys.getD j .non)) (show s.heap.IsTuple p ia.toArray from pa) (show s.heap.IsTuple q ib.toArray from pb) hu (fun j h1 h2=>q8K (q0F ra h1) (q0F rb h2) (q4p fx j) (q4p fy j)) _ _ _ _ ⟨.bl (!eqVs xs ys),H,I,?_,k⟩
 show Value.bool _=Value.bool _
 unfold eqVs
 rw[<-q2H,Bool.and_comm]
 simp[la,lb]
end
section
variable {H:Hp}{Q:VK}{K:W.Frag}
theorem r_neT {p q:Addr}{xs ys:List V}(h1:SqT K H p xs)(h2:SqT K H q ys)(f1:xs.all q1P=true)(f2:ys.all q1P=true)(k:Q (.bl (!eqVs xs ys)) H):rNeTs K (.ref p) (.ref q) H Q:=⟨p,q,xs,ys,rfl,rfl,h1,h2,f1,f2,k⟩
theorem qbp {p q:Addr}{ys:List V}(h1:SqT K H p [])(h2:SqT K H q ys)(hz:ys.length<=sizeLine)(k:Q (.ref q) H):q6q K (.ref p) (.ref q) H Q:=
 ⟨p,q,[],ys,rfl,rfl,h1,h2,by simpa using hz,fun _=>k,fun e=>(e rfl).elim,fun e=>(e rfl).elim⟩
theorem qbo {p q:Addr}{x:V}{xs:List V}(h1:SqT K H p (x::xs))(h2:SqT K H q [])(hz:(x::xs).length<=sizeLine)(k:Q (.ref p) H):q6q K (.ref p) (.ref q) H Q:=
 ⟨p,q,x::xs,[],rfl,rfl,h1,h2,by simpa using hz,fun e=>by simp at e,fun _ _=>k,fun _ e=>(e rfl).elim⟩
theorem q1W {p q:Addr}{x y:V}{xs ys:List V}(h1:SqT K H p (x::xs))(h2:SqT K H q (y::ys))(hz:Nat.ble ((x::xs).length+(y::ys).length) sizeLine=true)(k:∀r,H r=none->Q (.ref r) (upd H r (.tup (x::xs++y::ys)))):q6q K (.ref p) (.ref q) H Q:=
 ⟨p,q,x::xs,y::ys,rfl,rfl,h1,h2,Nat.le_of_ble_eq_true hz,fun e=>by simp at e,fun _ e=>by simp at e,fun _ _=>k⟩
end
theorem qc7 {i:Int}(h:i.natAbs.log2<1920):(Str.ofString (toString i)).length<=1921:=int_text_len_1921 h
end L2
namespace Ce
open PySem L2
def q3u (g:Gt)(f:Int->Int)(op:Bool)(bars wt:Int):Bool:=match g with
 | .plain=>true
 | .door _=>op
 | .need k=>decide (0<f k)
 | .bar b=>bit bars b.toNat
 | .wade h k=>decide (wt<=h)||decide (0<f k)
 | .float h=>decide (h<=wt)
inductive Wd where
 |go|pull|take|turn|unlock
 deriving DecidableEq
def Wd.str:Wd->Str
 | .go=>"go"
 | .pull=>"pull"
 | .take=>"take"
 | .turn=>"turn"
 | .unlock=>"unlock"
def Wd.part:Wd->Int
 | .go=>3
 | .pull=>5
 | .take=>4
 | .turn=>6
 | .unlock=>3
structure Sd where
 rm:Int
 tk:Int
 op:Int
 b:Int
 wt:Int
def Sd.vs (s:Sd):List V:=[.int s.rm,.int s.tk,.int s.op,.int s.b,.int s.wt]
def Sd.ok (C:Cl)(s:Sd):Prop:=StOk C s.rm s.tk s.op s.b s.wt
def q0E (x:Way)(rm:Int):Bool:=decide (rm=x.a)||(decide (rm=x.b)&&x.back)
def canB (C:Cl)(s:Sd)(i:Nat):Wd->Bool
 | .go=>match C.ways[i]? with
  |some x=>q0E x s.rm&&q3u x.g (hold C s.tk s.op) (bit s.op i) s.b s.wt
  |none=>false
 | .pull=>match C.levers[i]? with
  |some x=>decide (s.rm=x.1)
  |none=>false
 | .take=>match C.things[i]? with
  |some x=>decide (s.rm=x.1)&& !bit s.tk i
  |none=>false
 | .turn=>match C.wheels[i]? with
  |some x=>decide (s.rm=x.1)&& !decide (s.wt=x.2)
  |none=>false
 | .unlock=>match C.ways[i]? with
  |some x=>match x.g.dk with
   |some k=>(q0E x s.rm&& !bit s.op i)&&decide (0<hold C s.tk s.op k)
   |none=>false
  |none=>false
def q0P (C:Cl)(s:Sd)(i:Nat):Wd->Sd
 | .go=>match C.ways[i]? with
  |some x=>{s with rm:=if s.rm=x.a then x.b else x.a}
  |none=>s
 | .pull=>match C.levers[i]? with
  |some x=>{s with b:=Builtin.bitXor s.b x.2}
  |none=>s
 | .take=>{s with tk:=s.tk+2 ^ i}
 | .turn=>match C.wheels[i]? with
  |some x=>{s with wt:=x.2}
  |none=>s
 | .unlock=>{s with op:=s.op+2 ^ i}
def Cl.num (C:Cl):Wd->Nat
 | .go=>C.ways.length
 | .pull=>C.levers.length
 | .take=>C.things.length
 | .turn=>C.wheels.length
 | .unlock=>C.ways.length
def canD (C:Cl)(s:Sd)(d:Wd)(n:Int):Bool:= !decide (s.rm=C.lst)&&(decide (0<=n)&&canB C s n.toNat d)
def q00 (C:Cl)(s:Sd)(d:Wd)(n:Int):Sd:=q0P C s n.toNat d
theorem q94 {C:Cl}{s:Sd}{i:Nat}{d:Wd}(h:canB C s i d=true):i<C.num d:=by
 cases d<;>simp only[canB] at h
 ·cases e:C.ways[i]? with
  |none=>rw[e] at h;simp at h
  |some x=>exact(yA e).1
 ·cases e:C.levers[i]? with
  |none=>rw[e] at h;simp at h
  |some x=>exact(yA e).1
 ·cases e:C.things[i]? with
  |none=>rw[e] at h;simp at h
  |some x=>exact(yA e).1
 ·cases e:C.wheels[i]? with
  |none=>rw[e] at h;simp at h
  |some x=>exact(yA e).1
 ·cases e:C.ways[i]? with
  |none=>rw[e] at h;simp at h
  |some x=>exact(yA e).1
theorem q5u {C:Cl}{s:Sd}{d:Wd}{n:Int}(h:s.rm=C.lst):canD C s d n=false:=by simp[canD,h]
theorem q6M {C:Cl}{s:Sd}{d:Wd}{n:Int}(h:n<0):canD C s d n=false:=by
 have:¬0<=n:=by omega
 simp[canD,this]
theorem q66 {C:Cl}{s:Sd}{d:Wd}{n:Int}(h:¬n<C.num d):canD C s d n=false:=by
 by_cases h0:0<=n
 ·have:canB C s n.toNat d=false:=by
   cases e:canB C s n.toNat d with
   |false=>rfl
   |true=>have:=q94 e;omega
  simp[canD,this]
 ·exact q6M (by omega)
theorem q93 {C:Cl}{s:Sd}{d:Wd}{i:Nat}(h:¬s.rm=C.lst):canD C s d (i:Int)=canB C s i d:=by
 have:(0:Int)<=(i:Int):=by omega
 simp[canD,h,this]
theorem q0I {C:Cl}{s:Sd}{d:Wd}{n:Int}(h:canD C s d n=true):¬s.rm=C.lst/\∃i:Nat,n=(i:Int)/\i<C.num d/\canB C s i d=true:=by
 unfold canD at h
 simp only[Bool.and_eq_true,Bool.not_eq_true',decide_eq_false_iff_not,decide_eq_true_eq] at h
 exact⟨h.1,n.toNat,by omega,q94 h.2.2,h.2.2⟩
theorem q67 {x:Int}{w:Nat}(h:bit x w=false):Builtin.bitOr x (2 ^ w)=x+2 ^ w:=by
 rw[PyProof.Rows.bitOr_and,PySem.W.kbt_bit]
 have:x / 2 ^ w % 2=0:=by
  unfold bit at h
  have h':=of_decide_eq_false h
  omega
 rw[this]
 simp
theorem q3F (x y:Nat):x+y=(x ^^^ y)+2*(x &&& y):=by
 have key:∀n x y,x<2 ^ n->y<2 ^ n->x+y=(x ^^^ y)+2*(x &&& y):=by
  intro n
  induction n with
  | zero => intro x y hx hy;have:x=0:=by simpa using hx
            have:y=0:=by simpa using hy
            subst_vars;rfl
  |succ n ih=>
   intro x y hx hy
   have h:=ih (x / 2) (y / 2) (by rw[Nat.pow_succ] at hx;omega) (by rw[Nat.pow_succ] at hy;omega)
   have e1:(x ^^^ y) / 2=(x / 2) ^^^ (y / 2):=Nat.xor_div_two
   have e2:(x &&& y) / 2=(x / 2) &&& (y / 2):=Nat.and_div_two
   have m1:(x ^^^ y) % 2=(x % 2+y % 2) % 2:=by
    have h1:(x ^^^ y) % 2=(x % 2) ^^^ (y % 2):=Nat.xor_mod_two_pow (n:=1)
    rw[h1]
    have a:x % 2=0\/x % 2=1:=by omega
    have b:y % 2=0\/y % 2=1:=by omega
    rcases a with a|a<;>rcases b with b|b<;>simp[a,b]
   have m2:(x &&& y) % 2=(x % 2)*(y % 2):=by
    have h1:(x &&& y) % 2=(x % 2) &&& (y % 2):=Nat.and_mod_two_pow (n:=1)
    rw[h1]
    have a:x % 2=0\/x % 2=1:=by omega
    have b:y % 2=0\/y % 2=1:=by omega
    rcases a with a|a<;>rcases b with b|b<;>simp[a,b]
   have a:x % 2=0\/x % 2=1:=by omega
   have b:y % 2=0\/y % 2=1:=by omega
   rw[<-e1,<-e2] at h
   rcases a with a|a<;>rcases b with b|b<;>rw[a,b] at m1 m2<;>omega
 exact key (x+y) x y (Nat.lt_of_le_of_lt (Nat.le_add_right x y) Nat.lt_two_pow_self) (Nat.lt_of_le_of_lt (Nat.le_add_left y x) Nat.lt_two_pow_self)
theorem q7p {x y:Int}(hx:0<=x)(hy:0<=y):Builtin.bitXor x y=((x.toNat ^^^ y.toNat:Nat):Int):=by
 rw[PyProof.Rows.bitXor_and,PyProof.Rows.bitAnd_pp hx hy]
 have:=q3F x.toNat y.toNat
 omega
theorem q7o {x y:Int}(hx:0<=x)(hx':x<=255)(hy:0<=y)(hy':y<=255):0<=Builtin.bitXor x y/\Builtin.bitXor x y<=255:=by
 rw[q7p hx hy]
 have:x.toNat ^^^ y.toNat<2 ^ 8:=Nat.xor_lt_two_pow (by omega) (by omega)
 omega
theorem go_end {x:Way}{rm:Int}(h:q0E x rm=true):(if rm=x.a then x.b else x.a)=x.a+x.b - rm:=by
 unfold q0E at h
 simp only[Bool.or_eq_true,Bool.and_eq_true,decide_eq_true_eq] at h
 by_cases e:rm=x.a
 ·rw [if_pos e];omega
 ·rw [if_neg e]
  rcases h with h|h
  ·exact absurd h e
  ·omega
theorem q9e {x i:Nat}(h:x.testBit i=false):x+2 ^ i=x ^^^ 2 ^ i:=by
 have h1:=q3F x (2 ^ i)
 have h2:x &&& 2 ^ i=0:=by
  apply Nat.eq_of_testBit_eq
  intro j
  rw[Nat.testBit_and,Nat.testBit_two_pow,Nat.zero_testBit]
  by_cases e:i=j
  ·rw [<-e,h];simp
  ·simp [e]
 omega
theorem q3E {x:Int}{i:Nat}(h0:0<=x)(h:bit x i=false)(j:Nat):bit (x+2 ^ i) j=(decide (i=j) ^^ bit x j):=by
 obtain⟨n,rfl⟩:∃n:Nat,x=(n:Int):=⟨x.toNat,by omega⟩
 have hp:=q28 i
 have e:((n:Int)+2 ^ i)=((n+2 ^ i:Nat):Int):=by rw[Int.natCast_add,Int.natCast_pow];rfl
 rw[q1L h0,Int.toNat_natCast] at h
 rw[e,q1L (by omega),q1L h0,Int.toNat_natCast,Int.toNat_natCast,q9e h,Nat.testBit_xor,Nat.testBit_two_pow,Bool.xor_comm]
theorem qaQ {x:Int}{i m:Nat}(h0:0<=x)(h1:x<2 ^ m)(hi:i<m)(h:bit x i=false):0<=x+2 ^ i/\x+2 ^ i<2 ^ m:=by
 obtain⟨n,rfl⟩:∃n:Nat,x=(n:Int):=⟨x.toNat,by omega⟩
 have hp:=q28 i
 have e:((n:Int)+2 ^ i)=((n+2 ^ i:Nat):Int):=by rw[Int.natCast_add,Int.natCast_pow];rfl
 have em:(2:Int) ^ m=((2 ^ m:Nat):Int):=by rw[Int.natCast_pow];rfl
 rw[q1L h0,Int.toNat_natCast] at h
 rw[em] at h1
 have hn:n<2 ^ m:=by omega
 have:n ^^^ 2 ^ i<2 ^ m:=Nat.xor_lt_two_pow hn (Nat.pow_lt_pow_right (by decide) hi)
 rw[e,em,q9e h]
 omega
theorem q65 {P R:Nat->Bool}{i:Nat}(h:∀j,j≠i->R j=P j)(hi:P i=false):∀m,cnt R m=cnt P m+(if i<m then(if R i=true then 1 else 0) else 0)
 |0=>by simp[cnt]
 |m+1=>by
  show cnt R m+_=cnt P m+_+_
  rw[q65 h hi m]
  by_cases e:m=i
  ·subst e
   rw[if_neg (Nat.lt_irrefl _),if_pos (Nat.lt_succ_self _),hi]
   simp
  ·rw [h m e]
   by_cases h2:i<m
   ·rw [if_pos h2,if_pos (show i<m+1 by omega),Nat.add_right_comm]
   ·rw [if_neg h2,if_neg (show¬i<m+1 by omega),Nat.add_right_comm]
theorem q8B {C:Cl}{tk op:Int}{i:Nat}(h0:0<=tk)(hi:i<C.things.length)(hb:bit tk i=false)(k:Int):hold C (tk+2 ^ i) op k=hold C tk op k+(if C.things[i].2=k then 1 else 0):=by
 unfold hold
 have e:cnt (tP C (tk+2 ^ i) k) C.things.length=cnt (tP C tk k) C.things.length+(if C.things[i].2=k then 1 else 0):=by
  rw[q65 (P:=tP C tk k) (i:=i) (fun j hj=>by simp[tP,q3E h0 hb,show¬i=j from fun z=>hj z.symm]) (by simp[tP,hb]),if_pos hi]
  congr 1
  simp only[tP,q3E h0 hb,hb]
  by_cases ek:C.things[i].2=k
  ·simp [ek,hi]
  ·simp [ek,hi]
 rw[e]
 split<;>omega
theorem q5V {C:Cl}{tk op:Int}{i:Nat}(h0:0<=op)(hi:i<C.ways.length)(hb:bit op i=false)(k:Int):hold C tk (op+2 ^ i) k=hold C tk op k - (if C.ways[i].g.dk=some k then 1 else 0):=by
 unfold hold
 have eds:dsOf C i=C.ways[i].g.dk:=by simp[dsOf,hi]
 have e:cnt (dP (dsOf C) (op+2 ^ i) k) C.ways.length=cnt (dP (dsOf C) op k) C.ways.length+(if C.ways[i].g.dk=some k then 1 else 0):=by
  rw[q65 (P:=dP (dsOf C) op k) (i:=i) (fun j hj=>by simp[dP,q3E h0 hb,show¬i=j from fun z=>hj z.symm]) (by simp[dP,hb]),if_pos hi]
  congr 1
  simp only[dP,q3E h0 hb,hb,eds]
  by_cases ek:C.ways[i].g.dk=some k
  ·simp [ek]
  ·simp [ek]
 rw[e]
 split<;>omega
theorem q61 {C:Cl}{s:Sd}{d:Wd}{n:Int}(ok:ClOk C)(h:s.ok C)(hc:canD C s d n=true):(q00 C s d n).ok C:=by
 obtain⟨hl,i,rfl,hi,hb⟩:=q0I hc
 unfold q00
 rw[Int.toNat_natCast]
 obtain⟨h1,h2,h3,h4,h5,h6,h7⟩:=id h
 cases d with
 |go=>
  have hi':i<C.ways.length:=hi
  have w:=ok.w _ (List.getElem_mem hi')
  simp only[q0P,yB hi']
  refine⟨?_,h2,h3,h4,h5,h6,h7⟩
  by_cases e:s.rm=C.ways[i].a
  ·simp only[e,if_true]
   exact w.2.1
  ·simp only[e,if_false]
   exact w.1
 |pull=>
  have hi':i<C.levers.length:=hi
  have w:=ok.lv _ (List.getElem_mem hi')
  simp only[q0P,yB hi']
  exact⟨h1,h2,h3,h4,q7o h5.1 h5.2 (by omega) w.2.2,h6,h7⟩
 |take=>
  have hi':i<C.things.length:=hi
  have ho:bit s.tk i=false:=by
   simp only[canB,yB hi',Bool.and_eq_true,Bool.not_eq_true'] at hb
   exact hb.2
  refine⟨h1,qaQ h2.1 h2.2 hi' ho,h3,h4,h5,h6,fun k k0 k1=>?_⟩
  show 0<=hold C (s.tk+2 ^ i) s.op k
  rw[q8B h2.1 hi' ho]
  have:=h7 k k0 k1
  split<;>omega
 |turn=>
  have hi':i<C.wheels.length:=hi
  have w:=ok.wh _ (List.getElem_mem hi')
  simp only[q0P,yB hi']
  exact⟨h1,h2,h3,h4,h5,w.2,h7⟩
 |unlock=>
  have hi':i<C.ways.length:=hi
  have eds:dsOf C i=C.ways[i].g.dk:=by simp[dsOf,hi']
  cases hk:C.ways[i].g.dk with
  |none=>simp[canB,hi',hk] at hb
  |some kd=>
   simp only[canB,yB hi',hk,Bool.and_eq_true,Bool.not_eq_true',decide_eq_true_eq] at hb
   refine⟨h1,h2,qaQ h3.1 h3.2 hi' hb.1.2,fun j hj hbj=>?_,h5,h6,fun k k0 k1=>?_⟩
   ·replace hbj:bit (s.op+2 ^ i) j=true:=hbj
    rw[q3E h3.1 hb.1.2] at hbj
    by_cases e:i=j
    ·rw [<-e,eds,hk];rfl
    ·have:bit s.op j=true:=by simpa[e] using hbj
     exact h4 j hj this
   ·show 0<=hold C s.tk (s.op+2 ^ i) k
    rw[q5V h3.1 hi' hb.1.2,hk]
    have:=h7 k k0 k1
    by_cases e:kd=k
    ·rw [if_pos (by rw[e]),<-e];omega
    ·rw [if_neg (by intro z;exact e (Option.some.inj z))];omega
def rowD (d:Wd)(n:Nat):List (Wd×Nat):=(List.range n).map fun i=>(d,i)
theorem qX (d:Wd)(n:Nat):(rowD d n).length=n:=by simp[rowD]
theorem q1V (d:Wd)(n:Nat):rowD d (n+1)=rowD d n++[(d,n)]:=by simp[rowD,List.range_succ]
def allD (C:Cl):List (Wd×Nat):=rowD .go C.ways.length++rowD .pull C.levers.length++rowD .take C.things.length++rowD .turn C.wheels.length++rowD .unlock C.ways.length
def fitD (C:Cl)(s:Sd):List (Wd×Nat):=(allD C).filter fun x=>canD C s x.1 (x.2:Int)
theorem q6P {C:Cl}(ok:ClOk C):(allD C).length<=56:=by
 have:=ok.wl
 have:=ok.tl
 have:=ok.ll
 have:=ok.vl
 simp only[allD,List.length_append,qX]
 omega
theorem q3f {C:Cl}(ok:ClOk C)(s:Sd):(fitD C s).length<=56:=Nat.le_trans (List.length_filter_le _ _) (q6P ok)
theorem q6C {d d':Wd}{n i:Nat}:(d',i)∈rowD d n↔d'=d/\i<n:=by
 simp only[rowD,List.mem_map,List.mem_range,Prod.mk.injEq]
 constructor
 ·rintro ⟨j,h,rfl,rfl⟩;exact⟨rfl,h⟩
 ·rintro ⟨rfl,h⟩;exact⟨i,h,rfl,rfl⟩
theorem qa4 {C:Cl}{d:Wd}{i:Nat}:(d,i)∈allD C↔i<C.num d:=by
 simp only[allD,List.mem_append,q6C]
 cases d<;>simp[Cl.num]
theorem q3d {C:Cl}{s:Sd}{d:Wd}{i:Nat}:(d,i)∈fitD C s↔canD C s d (i:Int)=true:=by
 simp only[fitD,List.mem_filter,qa4]
 constructor
 ·exact fun h=>h.2
 ·intro h
  obtain⟨_,j,e,hj,_⟩:=q0I h
  have:i=j:=by omega
  exact⟨by rw[this];exact hj,h⟩
theorem go_of {C:Cl}{s:Sd}{i:Nat}(hc:canD C s .go (i:Int)=true):∃x,C.ways[i]? =some x/\q0E x s.rm=true/\q3u x.g (hold C s.tk s.op) (bit s.op i) s.b s.wt=true/\¬s.rm=C.lst/\q00 C s .go (i:Int)={s with rm:=if s.rm=x.a then x.b else x.a}:=by
 obtain⟨hl,j,e,hi,hb⟩:=q0I hc
 have e':i=j:=by omega
 subst e'
 have hi':i<C.ways.length:=hi
 have hx:C.ways[i]? =some C.ways[i]:=yB hi'
 simp only[canB,hx,Bool.and_eq_true] at hb
 exact⟨C.ways[i],hx,hb.1,hb.2,hl,by unfold q00;rw[Int.toNat_natCast];simp[q0P,hi']⟩
theorem qbr {C:Cl}{s:Sd}{i:Nat}(hc:canD C s .pull (i:Int)=true):∃x,C.levers[i]? =some x/\s.rm=x.1/\¬s.rm=C.lst/\q00 C s .pull (i:Int)={s with b:=Builtin.bitXor s.b x.2}:=by
 obtain⟨hl,j,e,hi,hb⟩:=q0I hc
 have e':i=j:=by omega
 subst e'
 have hi':i<C.levers.length:=hi
 have hx:C.levers[i]? =some C.levers[i]:=yB hi'
 simp only[canB,hx,decide_eq_true_eq] at hb
 exact⟨C.levers[i],hx,hb,hl,by unfold q00;rw[Int.toNat_natCast];simp[q0P,hi']⟩
theorem qb3 {C:Cl}{s:Sd}{i:Nat}(hc:canD C s .take (i:Int)=true):∃x,C.things[i]? =some x/\q00 C s .take (i:Int)={s with tk:=s.tk+2 ^ i}:=by
 obtain⟨hl,j,e,hi,hb⟩:=q0I hc
 have e':i=j:=by omega
 subst e'
 have hi':i<C.things.length:=hi
 exact⟨C.things[i],yB hi',by unfold q00;rw[Int.toNat_natCast];rfl⟩
theorem qb0 {C:Cl}{s:Sd}{i:Nat}(hc:canD C s .turn (i:Int)=true):∃x,C.wheels[i]? =some x/\¬s.wt=x.2/\q00 C s .turn (i:Int)={s with wt:=x.2}:=by
 obtain⟨hl,j,e,hi,hb⟩:=q0I hc
 have e':i=j:=by omega
 subst e'
 have hi':i<C.wheels.length:=hi
 have hx:C.wheels[i]? =some C.wheels[i]:=yB hi'
 simp only[canB,hx,Bool.and_eq_true,Bool.not_eq_true',decide_eq_false_iff_not] at hb
 exact⟨C.wheels[i],hx,hb.2,by unfold q00;rw[Int.toNat_natCast];simp[q0P,hi']⟩
theorem q7r {C:Cl}{s:Sd}{i:Nat}(hc:canD C s .unlock (i:Int)=true):∃x kd,C.ways[i]? =some x/\x.g= .door kd/\q00 C s .unlock (i:Int)={s with op:=s.op+2 ^ i}:=by
 obtain⟨hl,j,e,hi,hb⟩:=q0I hc
 have e':i=j:=by omega
 subst e'
 have hi':i<C.ways.length:=hi
 cases hg:C.ways[i].g with
 |door kd=>exact⟨C.ways[i],kd,yB hi',hg,by unfold q00;rw[Int.toNat_natCast];rfl⟩
 |_=>simp[canB,hi',hg,Gt.dk] at hb
end Ce
namespace L2
open PySem PySem.Spec PyProof.Rows
section
variable {X:Cx}{o e:Expr}{es:List Expr}{m:Str}{apos pos:Pos}{k k':Nat}{ta:TE}{t:TA}
theorem qaG {pl:Sem Bool}(P:Program)(w:World)(K:W.Frag)(mg:Str->Option Value)(base:Heap)(hr:Room k' X.A)(hk:k<=k')(he:PE X o ta)(ha:PA X (e::es) t)
  (e1:X.prog=P:=by rfl)(e2:X.w=w:=by rfl)(e3:X.K=K:=by rfl)(e4:X.mg=mg:=by rfl)(e5:X.base=base:=by rfl)
  (hst:starEach (e::es) X.env=(false,eval e X.env)::starEach es X.env:=by rfl)(hpl:(backTo pos (starEach es X.env)).any (·.1)=false:=by rfl)
  (ht:eval (.Call (.Attribute o m apos) (e::es) [] pos) X.env=(do
   let ov<-eval o X.env
   standAt apos.atName
   let (f,first)<-holding [ov] (getMethod ov m pl)
   callWith pos f first (backTo pos (starEach (e::es) X.env)) (backToKw pos (keywordEach [] X.env))):=by rfl):
  PE X (.Call (.Attribute o m apos) (e::es) [] pos) (tVM P w K mg base k m ta t):=by
 subst e1 e2 e3 e4 e5
 exact q3p (hr.mono hk) he ha hst hpl ht
theorem qbx {pl:Sem Bool}(P:Program)(w:World)(K:W.Frag)(mg:Str->Option Value)(base:Heap)(hr:Room k' X.A)(hk:k<=k')(he:PE X o ta)
  (e1:X.prog=P:=by rfl)(e2:X.w=w:=by rfl)(e3:X.K=K:=by rfl)(e4:X.mg=mg:=by rfl)(e5:X.base=base:=by rfl)
  (ht:eval (.Call (.Attribute o m apos) [] [] pos) X.env=(do
   let ov<-eval o X.env
   standAt apos.atName
   let (f,first)<-holding [ov] (getMethod ov m pl)
   callWith pos f first (backTo pos (starEach [] X.env)) (backToKw pos (keywordEach [] X.env))):=by rfl):
  PE X (.Call (.Attribute o m apos) [] [] pos) (tVM P w K mg base k m ta tNil):=by
 subst e1 e2 e3 e4 e5
 exact pe_vm0 (hr.mono hk) he ht
end
section
variable {M:Model}{A:Around}{E:Value->Shared->Prop}{env:Env}{nm q:Str}{C N:Addr}{bs bm:List Value}{hdct:Bool}{sn:List Str}{sub:List Value}{ab:Bool}{col:Option Bool}{dd:Option Addr}{k0 k1 k2 k3 k5:Option Value}{newId:String}
theorem q3N {s:Shared}{x:Sem Value}{Q:Flow->Shared->Prop}(hbase:bm.contains (.type "BaseException")=true)(hh:A.handled=none)
  (h:wpAny M A x (fun v s₁=>∃e oe vs,v= .ref e/\s₁.heap.get? C=some (excClassObj nm q C N bs bm hdct sn sub ab col dd k0 k1 k2 k3 k5 newId)/\s₁.heap.get? e=some oe/\oe.cls= .ref C/\oe.data= .fields vs/\vs[1]? =some .none/\E (.ref e) s₁) E s):wpAny M A (raiseStmt env (some x) none) Q E s:=by
 have hcB:(Value.ref C::bm).contains (.type "BaseException")=true:=by rw[List.contains_cons,hbase,Bool.or_true]
 unfold raiseStmt
 refine yD (wpAny_mono h (fun v s₁ h₁=>?_) fun _ _ z=>z)
 obtain⟨e,oe,vs,rfl,hC,he,hc,hd,h1,hE⟩:=h₁
 obtain⟨hp,g,d,tk,os⟩:=s₁
 obtain⟨c0,dct,dt,sl⟩:=oe
 dsimp only at hc hd he hC
 subst hc hd
 refine yD (wpAny_pure ?_)
 refine yD (wpAny_holding ?_)
 unfold excFromValue isExcClass
 refine yD (yD ?_)
 unfold isType
 refine yD (wpAny_loadPart_at he (wpAny_pure ?_))
 refine wpAny_ite_false rfl (wpAny_pure (wpAny_ite_false rfl ?_))
 unfold isInstance typeOf
 refine yD (yD (yD (wpAny_loadPart_at he (wpAny_pure ?_))))
 refine wpAny_isSubtype_exc hC ?_
 rw[hcB]
 refine wpAny_ite_true rfl (wpAny_pure ?_)
 refine yD (yD (wpAny_loadPart_at he (wpAny_pure ?_)))
 refine wpAny_ite_false rfl ?_
 unfold raisedInstance
 refine yD (yD (yD (wpAny_loadPart_at he (wpAny_pure ?_))))
 refine yD (yD (wpAny_loadPart_at hC (wpAny_pure ?_)))
 refine wpAny_ite_true rfl (wpAny_pure ?_)
 refine yD ?_
 unfold setFlight
 refine yD (wpAny_field he rfl h1 ?_)
 exact wpAny_ite_false rfl (wpAny_pure (wpAny_raiseNew_none hh hE))
end
section
variable {prog:Program}{w:World}{A:Around}{E:Value->Shared->Prop}{h:Heap}{g:Array GenState}{d:Drawn}{t:Nat}{os:OsState}{nm q:Str}{C N:Addr}{bs bm bmB:List Value}{hdct:Bool}{sn:List Str}{sub:List Value}{ab:Bool}{col:Option Bool}{dd:Option Addr}{k0 k1 k2 k3 k5:Option Value}{B newId initId:String}{rest:List Value}{fI:Addr}{oI:Obj}
theorem q3h {Q:PySem.Fin->Shared->Prop}(F:ExcBaseFacts B newId initId bmB)(T:OwnTail h bmB bm)(hC:h.get? C=some (excClassObj nm q C N bs bm hdct sn sub ab col dd k0 k1 k2 k3 k5 newId))(hi:PySem.W.Looks (model prog w) h (typeLookup (.ref C) "__init__") (some (.ref fI)))(hfI:h.get? fI=some oI)(hfc:oI.cls= .type "function")
  (hq:∀(h':Heap) (e:Addr),h.MadeExcOf h' e (.ref C) rest->wpAny (model prog w) A (call (.ref fI) (.ref e::rest)) (fun r s'=>r= .none/\Q (.done (.ret (.ref e))) s') E {heap:=h',gens:=g,drawn:=d,toks:=t,os:=os})(hrest:rest.length<=sizeLine):
  wpAny (model prog w) A (Builtin.«type.__call__» {pos:= .ref C::rest}) Q E {heap:=h,gens:=g,drawn:=d,toks:=t,os:=os}:=by
 unfold Builtin.«type.__call__»
 refine wpAny_ite_false rfl ?_
 refine yD ?_
 unfold mroOf
 refine yD (yD (wpAny_load' hC (wpAny_pure (wpAny_pure ?_))))
 refine wpAny_ite_false rfl ?_
 refine yD (wpAny_madeBy_exc hC (yD (wpAny_pure ?_)))
 refine yD (wpAny_holding (wpAny_call (codeAny_call_builtin_code (Code.quiet_builtin {pos:= .ref C::rest} F.quiet) (wpAny_check_new_subT F T hC (codeAny_exc_new_subT F T hC ?_ hrest)))))
 have kp:∀b o,h.get? b=some o->((h.push {cls:= .type "tuple",data:= .seq rest.toArray}).push {cls:= .ref C,data:= .fields #[.ref h.objs.size,.none,.none,.none,.bool false,.none]}).get? b=some o:=fun b o e=>Heap.get?_push_of_some _ (Heap.get?_push_of_some _ e)
 have hget:((h.push {cls:= .type "tuple",data:= .seq rest.toArray}).push {cls:= .ref C,data:= .fields #[.ref h.objs.size,.none,.none,.none,.bool false,.none]}).get? (h.objs.size+1)=some {cls:= .ref C,data:= .fields #[.ref h.objs.size,.none,.none,.none,.bool false,.none]}:=Heap.get?_push_at (by simp) rfl
 have hcC:(Value.ref C::bm).contains (.ref C)=true:=by simp
 unfold isInstance typeOf
 refine yD (yD (yD (wpAny_loadPart_at hget (wpAny_pure ?_))))
 refine wpAny_isSubtype_exc (kp _ _ hC) ?_
 rw[hcC]
 refine wpAny_ite_false rfl ?_
 refine yD (wpAny_holding ?_)
 unfold callSpecial?
 refine yD ?_
 unfold specialOf
 refine yD ?_
 unfold typeOf
 refine yD (wpAny_loadPart_at hget (wpAny_pure ?_))
 refine(hi.keeps kp).at ?_
 refine wpAny_holding (yD ?_)
 unfold bindSpecial
 refine yD (wpAny_typeOf ⟨oI,kp _ _ hfI,hfc⟩ ?_)
 rw[if_pos (by decide)]
 refine wpAny_pure (yD (wpAny_mono (hq _ _ ⟨kp,Heap.get?_none_of_le (Nat.le_succ _),h.objs.size,hget,Heap.get?_none_of_le (Nat.le_refl _),Heap.get?_push_of_some _ (Heap.get?_push_at rfl rfl)⟩) (fun r s' hr=>?_) fun _ _ z=>z))
 obtain⟨rfl,hQ⟩:=hr
 exact wpAny_pure (wpAny_ite_false rfl (wpAny_pure hQ))
theorem q7h {Q:Value->Shared->Prop}(F:ExcBaseFacts B newId initId bmB)(T:OwnTail h bmB bm)(hC:h.get? C=some (excClassObj nm q C N bs bm hdct sn sub ab col dd k0 k1 k2 k3 k5 newId))(hi:PySem.W.Looks (model prog w) h (typeLookup (.ref C) "__init__") (some (.ref fI)))(hfI:h.get? fI=some oI)(hfc:oI.cls= .type "function")
  (hq:∀(h':Heap) (e:Addr),h.MadeExcOf h' e (.ref C) rest->wpAny (model prog w) (A.under (Code.builtin "type.__call__" {pos:= .ref C::rest})) (call (.ref fI) (.ref e::rest)) (fun r s'=>r= .none/\Q (.ref e) s') E {heap:=h',gens:=g,drawn:=d,toks:=t,os:=os})(hrest:rest.length<=sizeLine):
  wpAny (model prog w) A (call (.ref C) rest) Q E {heap:=h,gens:=g,drawn:=d,toks:=t,os:=os}:=by
 have f1:=tc_lookup
 have f2:=tc_bind (.ref C)
 have hT:({heap:=h,gens:=g,drawn:=d,toks:=t,os:=os}:Shared).TypeIs (.ref C) "type":=⟨_,hC,rfl⟩
 refine wpAny_call (codeAny_of_tree ?_)
 refine yD (wpAny_load' hC ?_)
 refine yD (wpAny_specialOf hT f1 ?_)
 refine yD (wpAny_of_eq f2 ?_)
 refine yD (wpAny_pure ?_)
 refine wpAny_ite_true rfl ?_
 refine wpAny_pure ⟨rfl,?_⟩
 exact codeAny_call_builtin_at (Code.quiet_builtin _ (by walk_at "k")) entry_typeCall (wpAny_check_type_call_sub hC (q3h F T hC hi hfI hfc (fun h' e hm=>hq h' e hm) hrest))
end
def q1f (h:Heap)(e:Addr)(od:Option Addr):Prop:=∃o,h.get? e=some o/\o.dict=od
section
variable {M:Model}{A:Around}{E:Value->Shared->Prop}{s:Shared}{base:Heap}{env:Env}{outer:List Env}{L e:Addr}{oe:Obj}{vs:Array Value}{cls head a0:Value}{hadNext:Bool}{od:Option Addr}{Q:Unit->Shared->Prop}
theorem qaM (hfr:A.frames=some (env::outer))(hl:s.heap.FunFrames base (env::outer))(hf:env.frame=some L)(he:s.heap.get? e=some oe)(hkb:base.StaysIn s.heap)(hen:base.get? e=none)(hd:oe.data= .fields vs)(hsz:1<vs.size)(h0:vs[0]? =some a0)
  (h:∀h',base.NotedW (env::outer) e oe.cls a0 (rawInt ↑L) s.heap h'->q1f h' e oe.dict->Q () {s with heap:=h'}):
  wpAny M A (do
   let a<-PySem.frameOf env
   let pl<-entryPlaceOf L hadNext
   let b<-EntryCells.newEntry head a Value.none (rawInt ↑L) Value.none pl
   setField (Value.ref e) 1 b) Q E s:=by
 have hene:e∉List.filterMap (fun x=>x.frame) (env::outer):=fun hm=>by
  obtain⟨_,o,ho,hnf⟩:=Heap.FunFrames.mem hl hm
  rw[he] at ho
  cases ho
  exact hnf vs hd
 refine yD (wpAny_frameOf_fun hfr hl hf fun h₁ hs₁=>?_)
 refine yD (wpAny_entryPlaceOf fun pl hpl=>?_)
 refine yD ?_
 refine wpAny_newObj_type ?_ (IsPlace.sizeOk5 hpl head (Value.ref L) Value.none (rawInt ↑L) Value.none)
 have he₁:h₁.get? e=some oe:=(hs₁.2.1 e hene).trans he
 have kb₁:base.StaysIn h₁:=fun b o hbo=>(hs₁.2.1 b fun hm=>by rw[(Heap.FunFrames.mem hl hm).1] at hbo;cases hbo).trans (hkb b o hbo)
 generalize hT:([head,Value.ref L,Value.none,rawInt ↑L,Value.none]++if pl.isEmpty=true then List.replicate 6 Value.none else pl).toArray=ts
 have ht3:ts[3]? =some (rawInt ↑L):=by rw[<-hT];simp
 have he₂:(h₁.push {cls:= .type "traceback",data:= .fields ts}).get? e=some oe:=Heap.get?_push_of_some _ he₁
 refine wpAny_setField he₂ hd hsz ?_
 have hTe:h₁.objs.size≠e:=Nat.ne_of_gt (Heap.lt_size he₁)
 have hd₃:=Obj.data_mapFields hd fun x=>x.setIfInBounds 1 (Value.ref h₁.objs.size)
 have he₃:=Heap.get?_update_self (Obj.mapFields fun x=>x.setIfInBounds 1 (Value.ref h₁.objs.size)) he₂ (Obj.isFreed_of_fields hd₃)
 have keep:∀b o,b≠e->h₁.get? b=some o->((h₁.push {cls:= .type "traceback",data:= .fields ts}).update e (Obj.mapFields fun x=>x.setIfInBounds 1 (Value.ref h₁.objs.size))).get? b=some o:=fun b o hbe hb=>by
  rw[Heap.get?_update_other _ _ (Ne.symm hbe)]
  exact Heap.get?_push_of_some _ hb
 have hT₃:((h₁.push {cls:= .type "traceback",data:= .fields ts}).update e (Obj.mapFields fun x=>x.setIfInBounds 1 (Value.ref h₁.objs.size))).get? h₁.objs.size=some {cls:= .type "traceback",data:= .fields ts}:=
  (Heap.get?_update_other _ _ (Ne.symm hTe)).trans (Heap.get?_push_size h₁ rfl)
 have noRecord:∀b o,s.heap.get? b=some o->(∀vs,o.data≠ .fields vs)->b≠e:=fun b o hb hnf q=>by
  subst q
  rw[he] at hb
  cases hb
  exact hnf vs hd
 refine h _ ⟨fun b o hbo=>keep b o (fun q=>by subst q;rw[hen] at hbo;cases hbo) (kb₁ b o hbo),Heap.FunFrames.of_keeps (fun b o hb hnf=>?_) hl,⟨_,_,_,_,_,he₃,⟨Obj.cls_mapFields oe _,?_⟩,hd₃,?_,Heap.StaysIn.fresh kb₁,hTe,hT₃,rfl,ht3⟩,fun b o hb hnf=>?_⟩ ⟨_,he₃,?_⟩
 ·obtain ⟨sl,hs⟩:=hs₁.2.2 b o hb
  exact⟨_,keep b _ (noRecord b o hb hnf) hs,rfl⟩
 ·rw [Array.getElem?_setIfInBounds_ne (by decide)]
  exact h0
 ·rw [getElem?_pos _ 1 (by simpa using hsz)]
  simp
 ·obtain ⟨sl,hs⟩:=hs₁.2.2 b o hb
  exact⟨sl,keep b _ (noRecord b o hb hnf) hs⟩
 ·obtain ⟨c0,dct,dt,sl⟩:=oe
  dsimp only at hd
  subst hd
  rfl
theorem q8o {l:List Env}(held:base.HeldW l e cls a0 L s.heap)(hD:q1f s.heap e od)(h:∀h',base.FlyingW l e cls a0 h'->q1f h' e od->s.heap.UpToSlots h'->Q () {s with heap:=h'}):wpAny M A (setFlight (.ref e) none) Q E s:=by
 obtain⟨st,hen,ff,oe,vs,T,oT,ts,j1,j2,j3,j4,j5,j6,j7,j8,j9⟩:=held
 obtain⟨o2,q1,q2⟩:=hD
 rw[j1] at q1
 cases q1
 unfold setFlight
 refine yD (wpAny_field j1 j3 j4 ?_)
 refine wpAny_ite_true rfl ?_
 have h3:3<ts.size:=by
  have:=(Array.getElem?_eq_some_iff.mp j9).1
  exact this
 refine wpAny_setField j7 j8 h3 ?_
 have hd₃:=Obj.data_mapFields j8 fun x=>x.setIfInBounds 3 Value.none
 have hT₃:=Heap.get?_update_self (Obj.mapFields fun x=>x.setIfInBounds 3 Value.none) j7 (Obj.isFreed_of_fields hd₃)
 have keep:∀b o,b≠T->s.heap.get? b=some o->(s.heap.update T (Obj.mapFields fun x=>x.setIfInBounds 3 Value.none)).get? b=some o:=fun b o hb q=>by
  rw[Heap.get?_update_other _ _ (Ne.symm hb)]
  exact q
 have noT:∀b o,s.heap.get? b=some o->(∀vs,o.data≠ .fields vs)->b≠T:=fun b o hb hnf q=>by
  subst q
  rw[j7] at hb
  cases hb
  exact hnf ts j8
 refine h _ ⟨fun b o hb=>keep b o (fun q=>by subst q;rw[j5] at hb;cases hb) (st b o hb),hen,Heap.FunFrames.of_keeps (fun b o hb hnf=>⟨o,keep b o (noT b o hb hnf) hb,rfl⟩) ff,oe,vs,T,_,_,keep _ _ (Ne.symm j6) j1,j2,j3,j4,j5,j6,hT₃,hd₃,?_⟩ ⟨_,keep _ _ (Ne.symm j6) j1,q2⟩ fun b o hb hnf=>⟨o.slots,keep b o (noT b o hb hnf) hb⟩
 rw[getElem?_pos _ 3 (by simpa using h3)]
 simp
theorem q5B {l:List Env}(f:base.FlyingW l e cls a0 s.heap)(hD:q1f s.heap e od)(h:∀h',base.FlyingW l e cls a0 h'->q1f h' e od->s.heap.UpToSlots h'->Q () {s with heap:=h'}):wpAny M A (setFlight (.ref e) none) Q E s:=by
 obtain⟨st,hen,ff,oe,vs,T,oT,ts,j1,j2,j3,j4,j5,j6,j7,j8,j9⟩:=f
 obtain⟨o2,q1,q2⟩:=hD
 rw[j1] at q1
 cases q1
 unfold setFlight
 refine yD (wpAny_field j1 j3 j4 ?_)
 refine wpAny_ite_true rfl ?_
 have h3:3<ts.size:=(Array.getElem?_eq_some_iff.mp j9).1
 refine wpAny_setField j7 j8 h3 ?_
 have hd₃:=Obj.data_mapFields j8 fun x=>x.setIfInBounds 3 Value.none
 have hT₃:=Heap.get?_update_self (Obj.mapFields fun x=>x.setIfInBounds 3 Value.none) j7 (Obj.isFreed_of_fields hd₃)
 have keep:∀b o,b≠T->s.heap.get? b=some o->(s.heap.update T (Obj.mapFields fun x=>x.setIfInBounds 3 Value.none)).get? b=some o:=fun b o hb q=>by
  rw[Heap.get?_update_other _ _ (Ne.symm hb)]
  exact q
 have noT:∀b o,s.heap.get? b=some o->(∀vs,o.data≠ .fields vs)->b≠T:=fun b o hb hnf q=>by
  subst q
  rw[j7] at hb
  cases hb
  exact hnf ts j8
 refine h _ ⟨fun b o hb=>keep b o (fun q=>by subst q;rw[j5] at hb;cases hb) (st b o hb),hen,Heap.FunFrames.of_keeps (fun b o hb hnf=>⟨o,keep b o (noT b o hb hnf) hb,rfl⟩) ff,oe,vs,T,_,_,keep _ _ (Ne.symm j6) j1,j2,j3,j4,j5,j6,hT₃,hd₃,?_⟩ ⟨_,keep _ _ (Ne.symm j6) j1,q2⟩ fun b o hb hnf=>⟨o.slots,keep b o (noT b o hb hnf) hb⟩
 rw[getElem?_pos _ 3 (by simpa using h3)]
 simp
theorem qaI (hfr:A.frames=some (env::outer))(hf:env.frame=some L)(fly:base.FlyingW (env::outer) e cls a0 s.heap)(hD:q1f s.heap e od)
  (h:∀h',base.HeldW (env::outer) e cls a0 L h'->q1f h' e od->s.heap.UpToSlots h'->Q () {s with heap:=h'}):wpAny M A (noteFrame (.ref e) env) Q E s:=by
 obtain⟨st,hen,ff,oe,vs,T,oT,ts,j1,j2,j3,j4,j5,j6,j7,j8,j9⟩:=fly
 obtain⟨o2,q1,q2⟩:=hD
 rw[j1] at q1
 cases q1
 obtain⟨j2,j2'⟩:=j2
 subst j2
 have h3:3<ts.size:=(Array.getElem?_eq_some_iff.mp j9).1
 have h1:1<vs.size:=(Array.getElem?_eq_some_iff.mp j4).1
 unfold noteFrame
 rw[hf]
 refine yD (wpAny_field j1 j3 j4 ?_)
 refine wpAny_ite_true rfl ?_
 refine yD (wpAny_field j7 j8 j9 ?_)
 refine wpAny_ite_false (by simp[rawInt]) ?_
 refine yD (wpAny_setField j7 j8 h3 ?_)
 have hd₃:=Obj.data_mapFields j8 fun x=>x.setIfInBounds 3 Value.none
 have hT₃:=Heap.get?_update_self (Obj.mapFields fun x=>x.setIfInBounds 3 Value.none) j7 (Obj.isFreed_of_fields hd₃)
 have keep:∀b o,b≠T->s.heap.get? b=some o->(s.heap.update T (Obj.mapFields fun x=>x.setIfInBounds 3 Value.none)).get? b=some o:=fun b o hb q=>by
  rw[Heap.get?_update_other _ _ (Ne.symm hb)]
  exact q
 have noT:∀b o,s.heap.get? b=some o->(∀vs,o.data≠ .fields vs)->b≠T:=fun b o hb hnf q=>by
  subst q
  rw[j7] at hb
  cases hb
  exact hnf ts j8
 refine qaM hfr (Heap.FunFrames.of_keeps (fun b o hb hnf=>⟨o,keep b o (noT b o hb hnf) hb,rfl⟩) ff) hf (keep _ _ (Ne.symm j6) j1) (fun b o hb=>keep b o (fun q=>by subst q;rw[j5] at hb;cases hb) (st b o hb)) hen j3 h1 j2' fun h' N D=>?_
 obtain⟨n1,n2,n3,n4⟩:=N
 exact h h' ⟨n1,hen,n2,n3⟩ (q2▸D) fun b o hb hnf=>n4 b o (keep b o (noT b o hb hnf) hb) hnf
theorem qa6 (hfr:A.frames=some (env::outer))(hf:env.frame=some L)(st:base.StaysIn s.heap)(ff:s.heap.FunFrames base (env::outer))(he:s.heap.get? e=some oe)(hen:base.get? e=none)(hd:oe.data= .fields vs)(h1:vs[1]? =some .none)(h0:vs[0]? =some a0)
  (h:∀h',base.FlyingW outer e oe.cls a0 h'->q1f h' e oe.dict->s.heap.UpToSlots h'->Q () {s with heap:=h'}):wpAny M A (leaving env (.ref e)) Q E s:=by
 unfold leaving
 refine yD ?_
 unfold noteFrame
 rw[hf]
 refine yD (wpAny_field he hd h1 ?_)
 refine wpAny_ite_false rfl ?_
 refine qaM hfr ff hf he st hen hd (Array.getElem?_eq_some_iff.mp h1).1 h0 fun h' N D=>?_
 obtain⟨n1,n2,n3,n4⟩:=N
 refine q8o (L:=L) ⟨n1,hen,n2,n3⟩ D fun h2 f2 D2 u2=>h h2 ⟨f2.1,f2.2.1,f2.2.2.1.2.2,f2.2.2.2⟩ D2 (Heap.UpToSlots.trans n4 u2)
theorem qbY (hfr:A.frames=some (env::outer))(hf:env.frame=some L)(fly:base.FlyingW (env::outer) e cls a0 s.heap)(hD:q1f s.heap e od)
  (h:∀h',base.FlyingW outer e cls a0 h'->q1f h' e od->s.heap.UpToSlots h'->Q () {s with heap:=h'}):wpAny M A (leaving env (.ref e)) Q E s:=by
 unfold leaving
 refine yD (qaI hfr hf fly hD fun h1 hl D1 u1=>?_)
 refine q8o hl D1 fun h2 f2 D2 u2=>h h2 ⟨f2.1,f2.2.1,f2.2.2.1.2.2,f2.2.2.2⟩ D2 (u1.trans u2)
end
abbrev q2E (C:Addr)(od:Option Addr)(t:Addr)(sl:Array (Option Value)):Obj:={cls:= .ref C,dict:=od,data:= .fields #[.ref t,.none,.none,.none,.bool false,.none],slots:=sl}
section
variable {prog:Program}{w:World}{A:Around}{E:Value->Shared->Prop}{h:Heap}{g:Array GenState}{d:Drawn}{tk:Nat}{os:OsState}{nm q:Str}{C N e t0:Addr}{bs bm bmB:List Value}{hdct:Bool}{sn:List Str}{sub:List Value}{ab:Bool}{col:Option Bool}{dd od:Option Addr}{k0 k1 k2 k3 k5:Option Value}{B newId initId:String}{sl:Array (Option Value)}{rest:List Value}
theorem q3O {Q:Value->Shared->Prop}(F:ExcBaseFacts B newId initId bmB)(T:OwnTail h bmB bm)(hC:h.get? C=some (excClassObj nm q C N bs bm hdct sn sub ab col dd k0 k1 k2 k3 k5 newId))(he:h.get? e=some (q2E C od t0 sl))(hrest:rest.length<=sizeLine)
  (hq:∀(h':Heap) (t':Addr),(∀b o,b≠e->h.get? b=some o->h'.get? b=some o)->h'.get? e=some (q2E C od t' sl)->Q .none {heap:=h',gens:=g,drawn:=d,toks:=tk,os:=os}):
  wpAny (model prog w) A (call (.builtin initId) (.ref e::rest)) Q E {heap:=h,gens:=g,drawn:=d,toks:=tk,os:=os}:=by
 refine wpAny_call (codeAny_call_builtin F.init.plain F.initEntry (wpAny_check_init_subT F T hC he rfl ?_))
 unfold Builtin.«BaseException.__init__»
 refine wpAny_ite_false rfl ?_
 refine yD ?_
 unfold newTuple
 refine wpAny_ite_false (by simp;omega) ?_
 unfold newObjAsIs
 refine yD (wpAny_alloc' (wpAny_pure ?_))
 have he₂:(h.push {cls:= .type "tuple",data:= .seq rest.toArray}).get? e=some (q2E C od t0 sl):=Heap.get?_push_of_some _ he
 refine yD ?_
 unfold Builtin.BaseException.bexcPut
 refine yD (wpAny_field he₂ rfl rfl ?_)
 refine yD (wpAny_setField he₂ rfl (by simp) ?_)
 refine wpAny_letGo (wpAny_pure ?_)
 have he₃:=Heap.get?_update_self (Obj.mapFields fun x=>x.setIfInBounds 0 (Value.ref h.objs.size)) he₂ rfl
 refine hq _ h.objs.size (fun b o hb q=>?_) he₃
 show((h.push _).update e _).get? b=some o
 rw[Heap.get?_update_other _ _ (Ne.symm hb)]
 exact Heap.get?_push_of_some _ q
end
section
variable {P:Program}{w:World}{H:Hp}{h:Heap}{a:Addr}{o:HO}
theorem q01.there (x:q01 P w H h a o):∃u,h.get? a=some u:=by
 cases o with
 |lst xs=>obtain⟨_,_,_,_,e⟩:=x;exact⟨_,e⟩
 |tup xs=>obtain⟨_,_,_,o,e,_⟩:=x;exact⟨_,e⟩
 |dK kvs=>obtain⟨_,_,_,_,o,_,_,e,_⟩:=x;exact⟨_,e⟩
 |dT kvs=>obtain⟨_,_,_,_,o,_,_,e,_⟩:=x;exact⟨_,e⟩
 |set S n=>obtain⟨o,_,_,_,e,_⟩:=x;exact⟨_,e⟩
 |ins C dx fs=>obtain⟨_,_,_,e,_⟩:=x;exact⟨_,e⟩
 |own y=>obtain⟨_,e⟩:=x;exact⟨_,e⟩
 |xd fs=>obtain⟨_,⟨_,_,_,e,_⟩,_⟩:=x;exact⟨_,e⟩
 |rng lo hi=>obtain⟨_,_,_,e⟩:=x;exact⟨_,e⟩
 |frz ob u=>obtain⟨e,_⟩:=x;exact⟨_,e⟩
 |tbl ps=>exact⟨_,x⟩
 |met f y=>exact⟨_,x⟩
 |ext φ=>obtain⟨_,⟨_,e⟩,_⟩:=x;exact⟨_,e⟩
theorem HOk.none_of (x:HOk P w H h)(e:h.get? a=none):H a=none:=by
 cases q:H a with
 |none=>rfl
 |some o=>obtain⟨u,eu⟩:=(x a o q).there;rw[e] at eu;cases eu
end
section
variable {X:Cx}{pins:List (Addr×Obj)}{σ:St}{H:Hp}{s:Shared}
theorem Inv.frame_data (I:Inv X pins σ H s){b:Addr}(hb:b∈frs X.stack):∃o,s.heap.get? b=some o/\∀vs,o.data≠ .fields vs:=(I.stack.mem hb).2
theorem Inv.noted {h5:Heap}{as:List Addr}(I:Inv X pins σ H s)(up:s.heap.UpToSlots h5)(keep:∀b o,s.heap.get? b=some o->b∉as->b∉frs X.stack->h5.get? b=some o)
  (hf:∀b∈as,∀o,s.heap.get? b=some o->∃vs,o.data= .fields vs)(h0:∀b∈as,X.s₀.heap.get? b=none)(hH:∀b∈as,H b=none)(hp:∀b∈as,∀p∈X.pn++pins,p.1≠b):Inv X pins σ H {s with heap:=h5}:=by
 have n0:∀b o,X.s₀.heap.get? b=some o->b∉as:=fun b o e hb=>by rw[h0 b hb] at e;cases e
 have nl:∀b o,X.s₀.heap.get? b=some o->b∉X.fs->b∉frs X.stack:=fun b o e hb hs=>by
  rcases List.mem_cons.mp (I.stkSub b hs) with z|z
  ·rw [z] at e
   exact absurd (Heap.lt_size e) (Nat.not_lt.mpr I.ok.above)
  ·exact hb z
 obtain⟨m,hn,hl⟩:=id I.loc
 refine⟨I.ok,I.os,I.bare,⟨fun b o e n hb hx=>?_,fun b o e n hb hx=>?_,I.base.free,fun b o e hx=>?_,I.base.tups,I.base.frzs,I.base.tbls⟩,⟨m,up.ns hn,fun i x v e1 e2 e3=>?_⟩,fun x c e=>?_,I.free,I.freeC,fun p hpp=>?_,fun b ob e=>?_,I.len⟩
 ·exact keep b o (I.base.keep b o e n hb hx) (n0 b o e) (nl b o e hb)
 ·obtain ⟨sl,e1⟩:=I.base.slot b o e n hb hx
  have hbs:b∈frs X.stack:=by
   rcases I.ok.stk with z|⟨z,_⟩
   ·rw [z];exact hb
   ·rw [z]
    obtain⟨env',h1,h2⟩:=List.mem_filterMap.mp hb
    exact List.mem_filterMap.mpr ⟨env',List.mem_cons_of_mem _ h1,h2⟩
  obtain⟨o2,e2,d2⟩:=I.frame_data hbs
  rw[e1] at e2
  cases e2
  obtain⟨sl2,e3⟩:=up b _ e1 d2
  exact⟨sl2,e3⟩
 ·obtain ⟨o',e1⟩:=I.base.there b o e hx
  by_cases hb:b∈frs X.stack
  ·obtain ⟨o2,e2,d2⟩:=I.frame_data hb
   obtain⟨sl2,e3⟩:=up b _ e2 d2
   exact⟨_,e3⟩
  ·exact ⟨_,keep b _ e1 (n0 b o e) hb⟩
 ·obtain ⟨u,r,l⟩:=hl i x v e1 e2 e3
  refine⟨u,r,?_⟩
  rcases l with l|⟨k1,c,k2,oc,k3,k4⟩
  ·exact .inl l
  ·obtain ⟨sl,k5⟩:=up c oc k3 (by intro vs z;rw[k4] at z;cases z)
   exact .inr ⟨k1,c,k2,_,k5,k4⟩
 ·obtain ⟨v,oc,k3,k4⟩:=I.cell x c e
  obtain⟨sl,k5⟩:=up c oc k3 (by intro vs z;rw[k4] at z;cases z)
  exact⟨v,_,k5,k4⟩
 ·obtain ⟨e,n,ne,nf,d⟩:=I.pin p hpp
  refine⟨keep _ _ e (fun hb=>hp _ hb p hpp rfl) (fun hb=>?_),n,ne,nf,d⟩
  rcases List.mem_cons.mp (I.stkSub _ hb) with z|z
  ·exact ne z
  ·exact nf z
 ·refine (I.hok b ob e).stay (fun c u hc q=>keep c u q (fun hb=>?_) (fun hb=>?_)) (fun _ q=>q) fun _ _ q=>q
  ·have:=hH c hb
   rcases hc with rfl|hc
   ·rw [this] at e;cases e
   ·rw [this] at hc;cases hc
  ·have:=I.stkFree c hb
   rcases hc with rfl|hc
   ·rw [this] at e;cases e
   ·rw [this] at hc;cases hc
end
structure Fly (h0:Heap)(a:Addr)(cls:Value)(od:Option Addr)(H:Hp)(h:Heap):Prop where
 ex:∃oe vs T oT ts a0,h.get? a=some oe/\(oe.cls=cls/\vs[0]? =some a0)/\oe.data= .fields vs/\vs[1]? =some (.ref T)/\T≠a/\h.get? T=some oT/\oT.data= .fields ts/\ts[3]? =some .none/\h0.get? T=none/\H T=none
 new:h0.get? a=none
 free:H a=none
 dict:q1f h a od
def CXf (P:Program)(w:World):CXT:=fun outer H s E e s'=>∃a cls od H',e= .ref a/\s'.os=s.os/\AllBare s'.gens/\Un (frs outer) [] H H' s.heap s'.heap/\HOk P w H' s'.heap/\Fly s.heap a cls od H' s'.heap/\E cls od H'
section
variable {X:Cx}{pins:List (Addr×Obj)}{σ:St}{H H':Hp}{s s':Shared}{E:XK}
theorem q8D (l:List Env):∀env∈l,∀a,env.frame=some a->a∈frs l:=fun env he a ha=>List.mem_filterMap.mpr ⟨env,he,ha⟩
theorem Inv.zero (I:Inv X pins σ H s){b:Addr}(e:s.heap.get? b=none)(hx:X.ex=[]):X.s₀.heap.get? b=none:=by
 cases q:X.s₀.heap.get? b with
 |none=>rfl
 |some o=>obtain⟨o',e'⟩:=I.base.there b o q (by rw[hx];simp);rw[e] at e';cases e'
end
section
variable {P:Program}{w:World}{K:W.Frag}{mg:Str->Option Value}{base:Heap}{N:List Str}{qual:Str}{scope:Scope}{f:Addr}{cd:Value}{A:Around}{outer:List Env}{s0:Shared}{H0:Hp}{E:XK}
theorem q7Q {pins:List (Addr×Obj)}{σ:St}{H:Hp}{s:Shared}{e:Addr}{oe:Obj}{vs:Array Value}{a0:Value}(I:Inv (cxOf (CXf P w) P w K mg base N qual scope f cd A outer s0 H0 E) pins σ H s)
  (he:s.heap.get? e=some oe)(hd:oe.data= .fields vs)(h1:vs[1]? =some .none)(h0:vs[0]? =some a0)(new:s0.heap.get? e=none)(free:H e=none)(hpn:∀p∈(cxOf (CXf P w) P w K mg base N qual scope f cd A outer s0 H0 E).pn++pins,p.1≠e)(hE:E oe.cls oe.dict H):
  (cxOf (CXf P w) P w K mg base N qual scope f cd A outer s0 H0 E).xe (.ref e) s:=by
 have st:(PySem.W.hideAll s.heap (e::frs (envOfC qual scope s0.heap.objs.size f cd::outer))).StaysIn s.heap:=fun b o q=>PySem.W.of_hideAll _ q
 show wpAny _ _ (leaving _ (.ref e)) _ _ _
 refine qa6 (base:=PySem.W.hideAll s.heap (e::frs (envOfC qual scope s0.heap.objs.size f cd::outer))) I.ok.frames rfl st (PySem.W.funFrames_hide I.stack (fun env he b hb=>List.mem_cons_of_mem _ (q8D _ env he b hb))) he (PySem.W.hideAll_none _ List.mem_cons_self) hd h1 h0 fun h2 fl D2 up=>?_
 obtain⟨f1,f2,f3,oe',vs',T,oT,ts,k1,k2,k3,k4,k5,k6,k7,k8,k9⟩:=fl
 have keep:∀b o,s.heap.get? b=some o->b∉([e]:List Addr)->b∉frs (envOfC qual scope s0.heap.objs.size f cd::outer)->h2.get? b=some o:=fun b o q hb hc=>f1 b o (PySem.W.hideAll_get _ q fun z=>by
  rcases List.mem_cons.mp z with z|z
  ·exact hb (by rw[z];simp)
  ·exact hc z)
 have one:∀{p:Addr->Prop},p e->∀b∈([e]:List Addr),p b:=fun h1 b hb=>by rw[List.mem_singleton.mp hb];exact h1
 have J:=I.noted (as:=[e]) up keep (one fun o q=>by rw[he] at q;cases q;exact⟨_,hd⟩) (one new) (one free) (one fun p hp=>hpn p hp)
 have hT:s.heap.get? T=none:=by
  cases q:s.heap.get? T with
  |none=>rfl
  |some o=>
   by_cases hb:T∈frs (envOfC qual scope s0.heap.objs.size f cd::outer)
   ·obtain ⟨o2,e2,d2⟩:=I.frame_data hb
    obtain⟨sl,e3⟩:=up T o2 e2 d2
    rw[k7] at e3
    cases e3
    exact absurd k8 (d2 ts)
   ·have:=PySem.W.hideAll_get (l:=e::frs (envOfC qual scope s0.heap.objs.size f cd::outer)) q (fun z=>by
     rcases List.mem_cons.mp z with z|z
     ·exact k6 z
     ·exact hb z)
    rw[k5] at this;cases this
 exact⟨e,oe.cls,oe.dict,H,rfl,J.os,J.bare,J.base,J.hok,⟨⟨oe',vs',T,oT,ts,_,k1,k2,k3,k4,k6,k7,k8,k9,I.zero hT rfl,I.hok.none_of hT⟩,new,free,D2⟩,hE⟩
theorem qbC:q31 (CXf P w) (cxOf (CXf P w) P w K mg base N qual scope f cd A outer s0 H0 E) E:=by
 intro pins σ H s e s' I h
 obtain⟨a,cls,od,H',rfl,os,bare,un,hok,fly,hE⟩:=h
 have J:Inv (cxOf (CXf P w) P w K mg base N qual scope f cd A outer s0 H0 E) pins σ H' s':=I.call' os un hok bare fun b z=>absurd z (by simp)
 obtain⟨oe,vs,T,oT,ts,a0,k1,k2,k3,k4,k6,k7,k8,k9,hT0,hTH⟩:=fly.ex
 have st:(PySem.W.hideAll s'.heap (a::T::frs (envOfC qual scope s0.heap.objs.size f cd::outer))).StaysIn s'.heap:=fun b o q=>PySem.W.of_hideAll _ q
 show wpAny _ _ (leaving _ (.ref a)) _ _ _
 refine qbY (base:=PySem.W.hideAll s'.heap (a::T::frs (envOfC qual scope s0.heap.objs.size f cd::outer))) I.ok.frames rfl (cls:=cls) (a0:=a0)
  ⟨st,PySem.W.hideAll_none _ List.mem_cons_self,PySem.W.funFrames_hide J.stack (fun env he b hb=>List.mem_cons_of_mem _ (List.mem_cons_of_mem _ (q8D _ env he b hb))),oe,vs,T,oT,ts,k1,k2,k3,k4,PySem.W.hideAll_none _ (List.mem_cons_of_mem _ List.mem_cons_self),k6,k7,k8,k9⟩ fly.dict fun h2 fl D2 up=>?_
 obtain⟨f1,f2,f3,oe2,vs2,T2,oT2,ts2,j1,j2,j3,j4,j5,j6,j7,j8,j9⟩:=fl
 have keep:∀b o,s'.heap.get? b=some o->b∉([a,T]:List Addr)->b∉frs (envOfC qual scope s0.heap.objs.size f cd::outer)->h2.get? b=some o:=fun b o q hb hc=>f1 b o (PySem.W.hideAll_get _ q fun z=>by
  rcases List.mem_cons.mp z with z|z
  ·exact hb (by rw[z];simp)
  ·rcases List.mem_cons.mp z with z|z
   ·exact hb (by rw[z];simp)
   ·exact hc z)
 have two:∀{p:Addr->Prop},p a->p T->∀b∈([a,T]:List Addr),p b:=fun h1 h2 b hb=>by
  rcases List.mem_cons.mp hb with rfl|hb
  ·exact h1
  ·rw [List.mem_singleton.mp hb];exact h2
 have Z:=J.noted (as:=[a,T]) up keep (two (fun o q=>by rw[k1] at q;cases q;exact⟨_,k3⟩) (fun o q=>by rw[k7] at q;cases q;exact⟨_,k8⟩)) (two (I.zero fly.new rfl) (I.zero hT0 rfl)) (two fly.free hTH)
  (two (fun p hp z=>by have:=(I.pin p hp).1;rw[z,fly.new] at this;cases this) (fun p hp z=>by have:=(I.pin p hp).1;rw[z,hT0] at this;cases this))
 have hT2:s0.heap.get? T2=none/\H' T2=none:=by
  by_cases eT:T2=T
  ·rw [eT];exact⟨I.zero hT0 rfl,hTH⟩
  have hn:s'.heap.get? T2=none:=by
   cases q:s'.heap.get? T2 with
   |none=>rfl
   |some o=>
    by_cases hb:T2∈frs (envOfC qual scope s0.heap.objs.size f cd::outer)
    ·obtain ⟨o2,e2,d2⟩:=J.frame_data hb
     obtain⟨sl,e3⟩:=up T2 o2 e2 d2
     rw[j7] at e3
     cases e3
     exact absurd j8 (d2 ts2)
    ·have:=PySem.W.hideAll_get (l:=a::T::frs (envOfC qual scope s0.heap.objs.size f cd::outer)) q (fun z=>by
      rcases List.mem_cons.mp z with z|z
      ·exact j6 z
      ·rcases List.mem_cons.mp z with z|z
       ·exact eT z
       ·exact hb z)
     rw[j5] at this;cases this
  exact⟨J.zero hn rfl,J.hok.none_of hn⟩
 exact⟨a,cls,od,H',rfl,Z.os,Z.bare,Z.base,Z.hok,⟨⟨oe2,vs2,T2,oT2,ts2,a0,j1,j2,j3,j4,j6,j7,j8,j9,hT2.1,hT2.2⟩,I.zero fly.new rfl,fly.free,D2⟩,hE⟩
end
theorem qcj {K:W.Frag}{h:Heap}{C:Addr}{bmB:List Value}{newId:String}(X:K.In h)(q:PySem.W.excIn K C bmB newId=true):
  ∃bm N nm qn bs hd sn sub ab col dd k0 k1 k2 k3 k5 mN,h.get? C=some (excClassObj nm qn C N bs bm hd sn sub ab col dd k0 k1 k2 k3 k5 newId)/\h.Ns N mN/\mN "__init__"=none/\OwnTail h bmB bm:=by
 unfold PySem.W.excIn at q
 split at q
 case h_2=>cases q
 case h_1 dd cd sl ho=>
  split at q
  case h_2=>cases q
  case h_1 C' bm k0 k1 k2 k3 n k5 hm hs=>
   rw[Bool.and_eq_true,Bool.and_eq_true,Bool.and_eq_true,Bool.and_eq_true,Bool.and_eq_true] at q
   obtain⟨⟨⟨⟨⟨q1,q2⟩,q3⟩,q4⟩,q5⟩,q6⟩:=q
   have e1:C'=C:=by simpa using q1
   have e2:n=newId:=by simpa using q2
   have e3:cd.hasDel=false:=by simpa using q3
   have e6:PySem.W.nsIn K cd.ns "__init__"=some none:=by simpa using q6
   obtain⟨a1,a2,a3,a4,a5,a6,a7,a8,a9,a10,a11⟩:=cd
   dsimp only at hm e3 e6 q4 q5
   have esl:sl= #[k0,k1,k2,k3,some (.builtin n),k5]:=by
    cases sl
    rename_i l
    dsimp only at hs
    rw[hs]
   subst e1 e2 esl hm e3
   exact⟨bm,a4,a1,a5,a2,a6,a7,a8,a9,a10,dd,k0,k1,k2,k3,k5,_,X _ _ ho,.of_isNs (PySem.W.isNs_of_in X q5),PySem.W.nsMap_none_of_in X q5 e6,PySem.W.tail_of_in X q4⟩
structure ExcC (K:W.Frag)(C:Addr):Prop where
 ex:∃(newId initId:String) (bmB:List Value),ExcBaseFacts "ValueError" newId initId bmB/\PySem.W.excIn K C bmB newId=true/\bmB.contains (.type "BaseException")=true
structure FlyX (X:Cx)(pins:List (Addr×Obj))(a:Addr)(cls:Value)(od:Option Addr)(H:Hp)(h:Heap):Prop where
 ex:∃oe vs T oT ts a0,h.get? a=some oe/\(oe.cls=cls/\vs[0]? =some a0)/\oe.data= .fields vs/\vs[1]? =some (.ref T)/\T≠a/\h.get? T=some oT/\oT.data= .fields ts/\ts[3]? =some .none/\X.s₀.heap.get? T=none/\H T=none/\∀p∈X.pn++pins,p.1≠T
 new:X.s₀.heap.get? a=none
 free:H a=none
 pn:∀p∈X.pn++pins,p.1≠a
 dict:q1f h a od
def XP (X:Cx)(pins:List (Addr×Obj))(σ:St)(Ex:Value->Option Addr->Hp->Prop)(e:Value)(s':Shared):Prop:=∃a cls od H',e= .ref a/\Inv X pins σ H' s'/\FlyX X pins a cls od H' s'.heap/\Ex cls od H'
theorem xp_of {X:Cx}{pins:List (Addr×Obj)}{σ:St}{H:Hp}{s s':Shared}{E:XK}{e:Value}(I:Inv X pins σ H s)(hx:X.ex=[])(h:CXf X.prog X.w X.stack H s E e s'):XP X pins σ E e s':=by
 obtain⟨a,cls,od,H',rfl,os,bare,un,hok,fly,hE⟩:=h
 have J:Inv X pins σ H' s':=I.call' os un hok bare fun b z=>absurd z (by simp)
 obtain⟨oe,vs,T,oT,ts,a0,k1,k2,k3,k4,k6,k7,k8,k9,hT0,hTH⟩:=fly.ex
 exact⟨a,cls,od,H',rfl,J,⟨⟨oe,vs,T,oT,ts,a0,k1,k2,k3,k4,k6,k7,k8,k9,I.zero hT0 hx,hTH,fun p hp z=>by have:=(I.pin p hp).1;rw[z,hT0] at this;cases this⟩,I.zero fly.new hx,fly.free,(fun p hp z=>by have:=(I.pin p hp).1;rw[z,fly.new] at this;cases this),fly.dict⟩,hE⟩
abbrev TEx:=St->Hp->VK->(Value->Option Addr->Hp->Prop)->Prop
def PEx (X:Cx)(e:Expr)(t:TEx):Prop:=
 ∀(pins:List (Addr×Obj)) (s:Shared) (σ:St) (H:Hp) (Q:VK) (Ex:Value->Option Addr->Hp->Prop),Inv X pins σ H s->t σ H Q Ex->wpAny (model X.prog X.w) X.A (eval e X.env) (EP X pins σ Q) (XP X pins σ Ex) s
abbrev TSx:=Ends->(St->Value->Option Addr->Hp->Prop)->St->Hp->Prop
def XS (X:Cx)(pins:List (Addr×Obj))(Ex:St->Value->Option Addr->Hp->Prop)(e:Value)(s':Shared):Prop:=∃σ,XP X pins σ (Ex σ) e s'
def PSx (X:Cx)(st:Stmt)(t:TSx):Prop:=
 ∀(pins:List (Addr×Obj)) (s:Shared) (σ:St) (H:Hp) (D:Ends) (Ex:St->Value->Option Addr->Hp->Prop),Inv X pins σ H s->t D Ex σ H->wpAny (model X.prog X.w) X.A (exec st X.env) (SP X pins D) (XS X pins Ex) s
def PSsx (X:Cx)(st:List Stmt)(t:TSx):Prop:=
 ∀(pins:List (Addr×Obj)) (s:Shared) (σ:St) (H:Hp) (D:Ends) (Ex:St->Value->Option Addr->Hp->Prop),Inv X pins σ H s->t D Ex σ H->wpAny (model X.prog X.w) X.A (execs st X.env) (SP X pins D) (XS X pins Ex) s
def qaV (sp:Sp)(dvs:List V)(t:TA):TEx:=fun σ H Q Ex=>t σ H fun vs H1=>sp (vs++dvs) H1 Q Ex
section
variable {X:Cx}{k:Nat}{f:Addr}{fd:FuncData}{ps:List Str}{sp:Sp}{dvs:List V}{ds:List Value}{x:Str}{p pos:Pos}{e:Expr}{es:List Expr}{t:TA}
theorem qbf {pins:List (Addr×Obj)}{σ:St}{H:Hp}{s:Shared}{Q:VK}{E:XK}{us:List Value}{vs:List V}(F:FnOk X.prog X.w X.K X.mg X.base (CXf X.prog X.w) k f fd ps sp)(hr:Room k X.A)(hb:q0W X.K fd ps ds)(hd:Vals dvs ds)(hx:X.ex=[])
  (I:Inv X pins σ H s)(r:Vals vs us)(h:sp (vs++dvs) H Q E):wpAny (model X.prog X.w) X.A (call (.ref f) us) (EP X pins σ Q) (XP X pins σ E) s:=by
 have r2:Vals (vs++dvs) (us++ds):=r.append hd
 have hl:(us++ds).length=ps.length:=by rw[<-r2.length];exact F.len _ _ _ _ h
 refine wpAny_call (codeAny_mono (F.run X.A X.stack s H ⟨us,[]⟩ (us++ds) (vs++dvs) Q E hr I.env0 (hb s us I.kIn hl) r2 h) fun r s' hq=>?_)
 cases r with
 |error e=>exact xp_of I hx hq
 |ok fl=>
  cases fl with
  |ret u=>exact I.after hq
  |next=>exact False.elim hq
  |brk=>exact False.elim hq
  |cont=>exact False.elim hq
theorem q9D (F:FnOk X.prog X.w X.K X.mg X.base (CXf X.prog X.w) k f fd ps sp)(hr:Room k X.A)(hg:Gl X x)(hm:X.mg x=some (.ref f))(hk:PySem.W.keepIn X.K (.ref f)=true)(hb:q0W X.K fd ps ds)(hd:Vals dvs ds)(hx:X.ex=[])
  (ha:PA X.nox (e::es) t)(hdb:(x==("__debug__":Str))=false:=by decide)(he:starEach (e::es) X.env=(false,eval e X.env)::starEach es X.env:=by rfl)(hpl:(backTo pos (starEach es X.env)).any (·.1)=false:=by rfl):
  PEx X (.Call (.Name x p) (e::es) [] pos) (qaV sp dvs t):=by
 intro pins s σ H Q Ex I h
 refine wpAny_Call_Name_kw (q1J I hg hm ?_ hdb)
 refine PySem.W.callWith_K (h₀:=X.base) I.ok.mod.kin hk (wpAny_mono (ha pos pins s σ H _ (I.wish _) h) (fun us s1 ⟨vs,H1,I1,r,q⟩=>⟨I1.kIn,?_⟩) fun _ _ z=>False.elim z) he hpl
 exact qbf F hr hb hd hx I1.unwish r q
theorem q6s {st:Stmt}{t:TSx}(h1:PSx X st t):PSsx X [st] t:=by
 intro pins s σ H D Ex I h
 refine wpAny_execs_cons (thn (h1 pins s σ H D Ex I h) fun f s1 q=>?_)
 cases f with
 |next=>exact wpAny_execs_nil q
 |ret v=>exact q
 |brk=>exact q
 |cont=>exact q
end
abbrev Cx.marked (X:Cx)(v:Value):Cx:={X with A:=X.A.mark (some v),calm:=false,xe:=fun _ _=>False}
section
variable {X:Cx}{pins:List (Addr×Obj)}{σ:St}{H:Hp}{s:Shared}{v:Value}
theorem Cx.Ok.marked (ok:X.Ok)(v:Value):(X.marked v).Ok:=
 ⟨ok.mod,ok.kind,ok.glob,ok.blt,ok.above,ok.inj,ok.has,ok.cab,fun z=>Bool.noConfusion z,ok.frames,ok.stk,ok.exf,ok.bs,ok.bsz,ok.noex,ok.exfs,ok.funs,ok.frf⟩
theorem Inv.marked (I:Inv X pins σ H s)(v:Value):Inv (X.marked v) pins σ H s:=⟨I.ok.marked v,I.os,I.bare,I.base,I.loc,I.cell,I.free,I.freeC,I.pin,I.hok,I.len⟩
theorem Inv.unmarked (ok:X.Ok)(I:Inv (X.marked v) pins σ H s):Inv X pins σ H s:=⟨ok,I.os,I.bare,I.base,I.loc,I.cell,I.free,I.freeC,I.pin,I.hok,I.len⟩
theorem SP.unmarked {D:Ends}{f:Flow}{s':Shared}(ok:X.Ok)(h:SP (X.marked v) pins D f s'):SP X pins D f s':=by
 cases f with
 |next=>obtain⟨σ',H',I,q⟩:=h;exact⟨σ',H',I.unmarked ok,q⟩
 |brk=>obtain⟨σ',H',I,q⟩:=h;exact⟨σ',H',I.unmarked ok,q⟩
 |cont=>obtain⟨σ',H',I,q⟩:=h;exact⟨σ',H',I.unmarked ok,q⟩
 |ret u=>obtain⟨v,σ',H',I,r,q⟩:=h;exact⟨v,σ',H',I.unmarked ok,r,q⟩
end
def q4P:List TE->Nat->TE
 |[],n=>fun _ H Q=>∀z:Str,z.length=n->Q (.str z) H
 |t::ts,n=>fun σ H Q=>t σ H fun x H1=>∃z:Str,x= .str z/\n+z.length<=sizeLine/\q4P ts (n+z.length) σ H1 Q
section
variable {X:Cx}{pos:Pos}{e:Expr}{te:TE}
theorem q8t:∀{es:List Expr} {ts:List TE},Paired (PE X) es ts->∀(acc:Str) (pins:List (Addr×Obj)) (s:Shared) (σ:St) (H:Hp) (Q:VK),acc.length<=sizeLine->Inv X pins σ H s->q4P ts acc.length σ H Q->wpAny (model X.prog X.w) X.A (joinParts acc (evalEach es X.env)) (EP X pins σ Q) X.xe s
 |_,_,.nil,acc,pins,s,σ,H,Q,hz,I,h=>joinParts_nilE (joinParts_nil ⟨.str acc,H,I.tok _,⟨_,rfl⟩,h acc rfl⟩ hz)
 |_,_,.cons p r,acc,pins,s,σ,H,Q,hz,I,h=>by
  refine joinParts_consE (joinParts_cons (thn (p pins s σ H _ I h) fun v s1 ⟨x,H1,I1,rx,z,ez,hl,q⟩=>?_))
  subst ez
  obtain⟨t,rfl⟩:=rx
  have el:(acc++z).length=acc.length+z.length:=q5T acc z
  exact⟨by rw[el];exact hl,q8t r (acc++z) pins s1 σ H1 Q (by rw[el];exact hl) I1 (by rw[el];exact q)⟩
theorem q8L:Str.empty.length=0:=by decide
theorem qbA {a b:Expr}{es:List Expr}{ts:List TE}(h:Paired (PE X) (a::b::es) ts):PE X (.JoinedStr (a::b::es) pos) (q4P ts 0):=by
 intro pins s σ H Q I hw
 refine JoinedStr_many (q8t h Str.empty pins s σ H Q (by decide) I ?_)
 rw[q8L]
 exact hw
end
def q3G:V->Prop
 | .int i=>i.natAbs.log2<1920
 | .str y=>(reprText y).length<=2000
 | .bl _=>True
 | .non=>True
 |_=>False
theorem q7I {h:Heap}{x:V}{u:Value}(r:RelV x u)(hx:q3G x):∃d,Reads h u d []/\d.showable=true/\d.hasDict=false/\d.shown.length<=2000/\d.depth=0:=by
 cases x with
 |non=>cases r;exact⟨.none,.none,rfl,rfl,by walk_at "k",rfl⟩
 |bl b=>cases r;exact⟨.bool b,.bool b,rfl,rfl,by cases b<;>walk_at "k",rfl⟩
 |int i=>
  obtain⟨t,rfl⟩:=r
  exact⟨.int i,.int i t,by simp[PyData.showable];exact hx,rfl,by have:=qc7 hx;show(Str.ofString (toString i)).length<=2000;omega,rfl⟩
 |str y=>
  obtain⟨t,rfl⟩:=r
  exact⟨.str y,.str y t,rfl,rfl,hx,rfl⟩
 |byt b=>exact hx.elim
 |flt b=>exact hx.elim
 |ref a=>exact hx.elim
 |ty n=>exact hx.elim
theorem q4S {h:Heap}:∀{xs:List V} {us:List Value},Vals xs us->(∀x∈xs,q3G x)->∃ds,ReadsAll h us ds []/\PyData.showableAll ds=true/\PyData.hasDictAll ds=false/\piled (PyData.shownAll ds)<=2002*xs.length/\(PyData.shownAll ds).length=xs.length/\PyData.depthAll ds=0
 |_,_,.nil,_=>⟨[],.nil,rfl,rfl,by simp[PyData.shownAll,piled],rfl,rfl⟩
 |_,_,.cons (a:=x) r t,hx=>by
  obtain⟨d,k1,k2,k3,k4,k5⟩:=q7I (h:=h) r (hx x List.mem_cons_self)
  obtain⟨ds,j1,j2,j3,j4,j5,j6⟩:=q4S (h:=h) t fun y hy=>hx y (List.mem_cons_of_mem _ hy)
  refine⟨d::ds,ReadsAll.cons k1 j1,?_,?_,?_,?_,?_⟩
  ·show (d.showable&&PyData.showableAll ds)=true
   rw[k2,j2];rfl
  ·show (d.hasDict||PyData.hasDictAll ds)=false
   rw[k3,j3];rfl
  ·show piled (d.shown::PyData.shownAll ds)<=_
   rw[piled_cons,List.length_cons]
   omega
  ·show (d.shown::PyData.shownAll ds).length=_
   rw[List.length_cons,j5,List.length_cons]
  ·show max d.depth (PyData.depthAll ds)=0
   rw[k5,j6];rfl
theorem q44 {ts:List Str}:(tupleText ts).length<=piled ts+4:=by
 unfold tupleText
 rw[q5T,q5T]
 have h1:((("(":String):Str)).length=1:=by walk_at "k"
 have h2:∀b:Bool,((((if b=true then ",)" else ")"):String):Str)).length<=2:=by intro b;cases b<;>walk_at "k"
 have h3:=h2 (ts.length==1)
 cases ts with
 |nil=>
  have e:(Str.join ((", ":String):Str) []).length=0:=by walk_at "k"
  rw[e]
  omega
 |cons x r=>
  have:=join_length_add (x::r) (by simp)
  omega
section
variable {X:Cx}{pos:Pos}{e:Expr}{te:TE}
def tFt (te:TE):TE:=fun σ H Q=>te σ H fun x H1=>∃p xs,x= .ref p/\H1 p=some (.tup xs)/\xs.length<=20/\(∀y∈xs,q3G y)/\∀z:Str,z.length<=50000->Q (.str z) H1
theorem pe_ft (hg:X.A.guards=some [])(hu:X.A.units+8<cLine)(he:PE X e te):PE X (.FormattedValue e 114 none pos) (tFt te):=by
 intro pins s σ H Q I h
 refine wpAny_FormattedValue_repr (thn (he pins s σ H _ I h) fun v s1 ⟨x,H1,I1,rx,p,xs,ep,hp,hl,hx,q⟩=>?_)
 subst ep
 cases rx
 obtain⟨_,its,r,o,ho,hc,n,hd⟩:=(show q01 X.prog X.w H1 s1.heap p (.tup xs) from I1.hok p _ hp)
 obtain⟨ds,j1,j2,j3,j4,j5,j6⟩:=q4S (h:=s1.heap) r hx
 have big:=qC
 have hz:(PyData.shown (.tuple ds)).length<=50000:=by
  show(tupleText (PyData.shownAll ds)).length<=50000
  have:=q44 (ts:=PyData.shownAll ds)
  omega
 refine pyReprObj_of_reads (h₀:=s1.heap) (d:= .tuple ds) (as:=[]) (.tuple ho hc hd (by simpa using j1)) (by show PyData.showableAll ds=true;exact j2) (fun z=>by rw[show PyData.hasDict (.tuple ds)=PyData.hasDictAll ds from rfl,j3] at z;cases z) hg
  (by show X.A.units+(PyData.depthAll ds+1)<cLine;rw[j6];omega) (fun _ _ z=>z) (fun h' u tk hk=>?_) (by omega)
 exact formatField_str (fun t' tk'=>⟨.str _,H1,(I1.kept (t':=tk') hk),⟨_,rfl⟩,q _ hz⟩) (by omega)
end
structure Caught (X:Cx)(pins:List (Addr×Obj))(a:Addr)(cls:Value)(od:Option Addr)(σ:St)(H:Hp)(s:Shared):Prop where
 inv:Inv X pins σ H s
 fly:FlyX X pins a cls od H s.heap
section
variable {X:Cx}{pins:List (Addr×Obj)}{a:Addr}{cls:Value}{od:Option Addr}{σ:St}{H:Hp}{s:Shared}{h':Heap}
theorem Caught.opened (c:Caught X pins a cls od σ H s)(hx:X.ex=[]):∃base a0,Heap.FlyingW base X.stack a cls a0 s.heap/\∀h5,Heap.FlyingW base X.stack a cls a0 h5->q1f h5 a od->s.heap.UpToSlots h5->Caught X pins a cls od σ H {s with heap:=h5}:=by
 obtain⟨J,fl⟩:=c
 obtain⟨oe,vs,T,oT,ts',a0,j1,j2,j3,j4,j6,j7,j8,j9,hT0,hTH,hTp⟩:=fl.ex
 have st:(PySem.W.hideAll s.heap (a::T::frs X.stack)).StaysIn s.heap:=fun b o w=>PySem.W.of_hideAll _ w
 have two:∀{p:Addr->Prop},p a->p T->∀b∈([a,T]:List Addr),p b:=fun h1 h2 b hb=>by
  rcases List.mem_cons.mp hb with rfl|hb
  ·exact h1
  ·rw [List.mem_singleton.mp hb];exact h2
 have ff:=PySem.W.funFrames_hide (as:=a::T::frs X.stack) J.stack (fun env he b hb=>List.mem_cons_of_mem _ (List.mem_cons_of_mem _ (q8D _ env he b hb)))
 refine⟨_,a0,⟨st,PySem.W.hideAll_none _ List.mem_cons_self,ff,oe,vs,T,oT,ts',j1,j2,j3,j4,PySem.W.hideAll_none _ (List.mem_cons_of_mem _ List.mem_cons_self),j6,j7,j8,j9⟩,fun h5 f D5 up=>?_⟩
 obtain⟨f1,f2,f3,oe2,vs2,T2,oT2,ts2,i1,i2,i3,i4,i5,i6,i7,i8,i9⟩:=f
 have Z:Inv X pins σ H {s with heap:=h5}:=by
  refine J.noted (as:=[a,T]) up (fun b o w hb hc=>f1 b o (PySem.W.hideAll_get _ w fun y=>?_)) (two (fun o w=>by rw[j1] at w;cases w;exact⟨_,j3⟩) (fun o w=>by rw[j7] at w;cases w;exact⟨_,j8⟩)) (two fl.new hT0) (two fl.free hTH) (two fl.pn hTp)
  rcases List.mem_cons.mp y with y|y
  ·exact hb (by rw[y];simp)
  ·rcases List.mem_cons.mp y with y|y
   ·exact hb (by rw[y];simp)
   ·exact hc y
 have hT2:X.s₀.heap.get? T2=none/\H T2=none/\∀p∈X.pn++pins,p.1≠T2:=by
  by_cases eT:T2=T
  ·rw [eT];exact⟨hT0,hTH,hTp⟩
  have hn:s.heap.get? T2=none:=by
   cases q:s.heap.get? T2 with
   |none=>rfl
   |some o=>
    by_cases hb:T2∈frs X.stack
    ·obtain ⟨o2,e2,d2⟩:=J.frame_data hb
     obtain⟨sl,e3⟩:=up T2 o2 e2 d2
     rw[i7] at e3
     cases e3
     exact absurd i8 (d2 ts2)
    ·have:=PySem.W.hideAll_get (l:=a::T::frs X.stack) q (fun z=>by
      rcases List.mem_cons.mp z with z|z
      ·exact i6 z
      ·rcases List.mem_cons.mp z with z|z
       ·exact eT z
       ·exact hb z)
     rw[i5] at this;cases this
  exact⟨J.zero hn hx,J.hok.none_of hn,fun p hp z=>by have:=(J.pin p hp).1;rw[z,hn] at this;cases this⟩
 exact⟨Z,⟨⟨oe2,vs2,T2,oT2,ts2,a0,i1,i2,i3,i4,i6,i7,i8,i9,hT2.1,hT2.2.1,hT2.2.2⟩,fl.new,fl.free,fl.pn,D5⟩⟩
theorem Caught.type {M:Model}(c:Caught X pins a cls od σ H s):PySem.W.Looks M s.heap (typeOf (.ref a)) cls:=by
 obtain⟨oe,vs,T,oT,ts',a0,j1,j2,_⟩:=c.fly.ex
 exact j2.1▸(PySem.W.Looks.ld j1).andThen .now
end
abbrev TH:=Value->Option Addr->TS
def PH (X:Cx)(hs:List ExceptHandler)(t:TH):Prop:=
 ∀(pins:List (Addr×Obj)) (s:Shared) (σ:St) (H:Hp) (D:Ends) (a:Addr) (cls:Value) (od:Option Addr),Caught X pins a cls od σ H s->t cls od D σ H->wpAny (model X.prog X.w) X.A (handleBy (.ref a) X.env hs) (SP X pins D) X.xe s
def tTryH (tb:TSx)(th:TH):TS:=fun D σ H=>tb D (fun σ' cls od H'=>th cls od D σ' H') σ H
theorem q7V {X:Cx}{body:List Stmt}{h0:ExceptHandler}{hs:List ExceptHandler}{tb:TSx}{th:TH}{pos:Pos}(hst:X.stack=X.env::X.outer)(hfr:X.env.frame=some X.env.locals)(hx:X.ex=[])
  (hb:PSsx X body tb)(hh:PH X (h0::hs) th):PS X (.Try body (h0::hs) [] [] pos) (tTryH tb th):=by
 intro pins s σ H D I h
 refine wpAny_Try_except (wpAny_mono (hb pins s σ H D _ I h) (fun f s1 z=>?_) (fun e s1 z=>?_))
 ·cases f with
  |next=>exact wpAny_execs_nil z
  |ret v=>exact z
  |brk=>exact z
  |cont=>exact z
 ·obtain ⟨σ',a,cls,od,H',rfl,J,fl,z⟩:=z
  obtain⟨base,a0,fly,back⟩:=(Caught.mk J fl).opened hx
  rw[hst] at fly back
  refine qaI (by rw[<-hst];exact I.ok.frames) hfr fly fl.dict fun h4 held D4 up4=>?_
  refine q8o held D4 fun h5 fly5 D5 up5=>?_
  exact hh pins _ σ' H' D a cls od (back h5 fly5 D5 (up4.trans up5)) z
section
variable {X:Cx}{pins:List (Addr×Obj)}{a:Addr}{cls:Value}{od:Option Addr}{σ:St}{H:Hp}{s:Shared}
theorem Caught.track (c:Caught X pins a cls od σ H s):∃oe,oe.cls=cls/\oe.dict=od/\(∃vs,oe.data= .fields vs)/\Inv X pins σ (upd H a (.frz oe (.own a))) s:=by
 obtain⟨I,fl⟩:=c
 obtain⟨oe,vs,T,oT,ts',a0,j1,j2,j3,_⟩:=fl.ex
 have same:∀{b:Addr} {o:HO},H b=some o->upd H a (.frz oe (.own a)) b=some o:=fun {b o} e=>by
  rw[ql (fun z=>by rw[z,fl.free] at e;cases e)];exact e
 have none':∀{b:Addr},b≠a->H b=none->upd H a (.frz oe (.own a)) b=none:=fun {b} n e=>by rw[ql n];exact e
 obtain⟨m,hn,hl⟩:=id I.loc
 obtain⟨oq,q1,q2⟩:=fl.dict
 rw[j1] at q1
 cases q1
 refine⟨oe,j2.1,q2,⟨vs,j3⟩,⟨I.ok,I.os,I.bare,⟨I.base.keep,I.base.slot,fun b o e n hx=>none' (fun z=>by rw[z,fl.new] at e;cases e) (I.base.free b o e n hx),I.base.there,fun b xs e=>same (I.base.tups b xs e),fun b o u e=>same (I.base.frzs b o u e),fun b ps e=>?_⟩,I.loc,I.cell,none' (fun z=>?_) I.free,fun x c e=>none' (fun z=>?_) (I.freeC x c e),fun p hp=>?_,fun b o e=>?_,I.len⟩⟩
 ·obtain ⟨more,e⟩:=I.base.tbls b ps e
  exact⟨more,same e⟩
 ·obtain ⟨o,es,ep,ho,hd,_⟩:=hn
  rw[z,j1] at ho
  cases ho
  rw[j3] at hd;cases hd
 ·obtain ⟨v,oc,k3,k4⟩:=I.cell x c e
  rw[z,j1] at k3
  cases k3
  rw[j3] at k4;cases k4
 ·obtain ⟨e,n,ne,nf,d⟩:=I.pin p hp
  exact⟨e,none' (fl.pn p hp) n,ne,nf,d⟩
 ·by_cases z:b=a
  ·subst z
   rw[qg] at e
   cases e
   exact⟨j1,⟨_,j1⟩⟩
  ·rw [ql z] at e
   exact(I.hok b o e).stay (fun _ _ _ q=>q) (fun _ q=>same q) fun _ _ q=>same q
theorem Inv.gone {i:Nat}{n:Str}{h':Heap}{t':Nat}{m:Str->Option Value}{v:Option Value}(I:Inv X pins σ H s)(hN:X.N.Nodup)(hi:X.N[i]? =some n)(hn0:s.heap.Ns X.env.locals m)(hn:h'.Ns X.env.locals (fun x=>if x=n then v else m x))(hs:Heap.SameBut X.env.locals s.heap h'):
  Inv X pins (σ.set i none) H {s with heap:=h',toks:=t'}:=by
 obtain⟨m1,hn1,hl⟩:=id I.loc
 have hm:m1=m:=by
  obtain⟨o1,es1,ep1,k1,k2,_,k4⟩:=hn1
  obtain⟨o2,es2,ep2,l1,l2,_,l4⟩:=hn0
  rw[k1] at l1
  cases l1
  rw[k2] at l2
  cases l2
  exact funext fun x=>(k4 x).symm.trans (l4 x)
 subst hm
 have hiσ:i<σ.length:=by rw[I.len];exact(yA hi).1
 refine⟨I.ok,I.os,I.bare,⟨fun b o e n hb hx=>?_,fun b o e n hb hx=>?_,I.base.free,fun b o e hx=>?_,I.base.tups,I.base.frzs,I.base.tbls⟩,⟨_,hn,fun j y v' e1 e2 e3=>?_⟩,fun y c e=>?_,I.free,I.freeC,fun p hp=>?_,fun b ob e=>?_,by simpa using I.len⟩
 ·exact (hs.2 b (Nat.ne_of_lt (Nat.lt_of_lt_of_le (Heap.lt_size e) I.ok.above))).trans (I.base.keep b o e n hb hx)
 ·obtain ⟨sl,e1⟩:=I.base.slot b o e n hb hx
  exact⟨sl,(hs.2 b (Nat.ne_of_lt (Nat.lt_of_lt_of_le (Heap.lt_size e) I.ok.above))).trans e1⟩
 ·obtain ⟨o',e1⟩:=I.base.there b o e hx
  exact⟨o',(hs.2 b (Nat.ne_of_lt (Nat.lt_of_lt_of_le (Heap.lt_size e) I.ok.above))).trans e1⟩
 ·by_cases hj:j=i
  ·subst hj
   rw[List.getElem?_set_self hiσ] at e2
   cases e2
  ·rw [List.getElem?_set_ne (Ne.symm hj)] at e2
   obtain⟨u',r',q⟩:=hl j y v' e1 e2 e3
   refine⟨u',r',?_⟩
   rcases q with⟨k,e⟩|⟨k,c,e,z⟩
   ·refine .inl ⟨k,?_⟩
    have:y≠n:=fun e=>hj (q4l hN e1 (e▸hi))
    simp[this,e]
   ·exact .inr ⟨k,c,e,z.sameBut hs (I.cne y c e)⟩
 ·obtain ⟨w',z⟩:=I.cell y c e
  exact⟨w',z.sameBut hs (I.cne y c e)⟩
 ·obtain ⟨e,n,ne,nf,d⟩:=I.pin p hp
  exact⟨(hs.2 p.1 ne).trans e,n,ne,nf,d⟩
 ·refine (I.hok b ob e).stay (fun c w' hc q=>(hs.2 c ?_).trans q) (fun _ q=>q) fun _ _ q=>q
  rintro rfl
  rcases hc with rfl|hc
  ·rw [I.free] at e;cases e
  ·rw [I.free] at hc;cases hc
end
def Ends.lose (D:Ends)(i:Nat):Ends:={nx:=fun σ H=>D.nx (σ.set i none) H,rt:=D.rt,bk:=fun σ H=>D.bk (σ.set i none) H,ct:=fun σ H=>D.ct (σ.set i none) H}
def hAs (K:W.Frag)(C:Addr)(i:Nat)(t:TS):TH:=fun cls od D σ H=>PySem.W.exmOne K cls (.ref C)=some true/\∀(a:Addr) (oe:Obj),oe.cls=cls->oe.dict=od->(∃vs,oe.data= .fields vs)->H a=none->t (D.lose i) (σ.set i (some (.ref a))) (upd H a (.frz oe (.own a)))
theorem ph_as {X:Cx}{x n:Str}{C:Addr}{i:Nat}{b0:Stmt}{suite:List Stmt}{np pos:Pos}{rest:List ExceptHandler}{t:TS}(K:W.Frag)(hx:X.ex=[])(hg:Gl X x)(hm:X.mg x=some (.ref C))(hN:X.N.Nodup)(hi:X.N[i]? =some n)(hl:X.env.scope.names.lookup n=some .local)(hk:X.env.kindOf n=some .local)
  (hs:∀v,PSs (X.marked v) (b0::suite) t)(hd:(x==("__debug__":Str))=false:=by decide)(hK:X.K=K:=by rfl):
  PH X (.ExceptHandler (some (.Name x np)) (some n) (b0::suite) pos::rest) (hAs K C i t):=by
 subst hK
 intro pins s σ H D a cls od c ⟨h1,h2⟩
 refine wpAny_handleBy_cons (codeAny_handlers_test (q1J (X:=X.marked (.ref a)) (c.inv.marked _) hg hm ?_ hd)) (by intro y;cases y)
 refine(PySem.W.exm_one c.inv.kIn c.type h1).here ?_
 refine codeAny_handlers_suite_as ?_
 obtain⟨base,a0,fly,back⟩:=c.opened hx
 refine q5B fly c.fly.dict fun h6 fly6 D6 up6=>?_
 have c6:=back h6 fly6 D6 up6
 obtain⟨oe,ho,ho2,ho3,I6⟩:=c6.track
 refine q38 (X:=X.marked (.ref a)) (I6.marked _) hN hi (.inl hl) (v:= .ref a) rfl (fun s7 I7=>?_) (.inr hl)
 refine wpAny_mono (hs (.ref a) pins s7 _ _ _ I7 (h2 a oe ho ho2 ho3 c.fly.free)) (fun f s8 y=>?_) fun _ _ y=>False.elim y
 have y:=y.unmarked c.inv.ok
 have lose:∀{σ':St} {H':Hp} {Q:Unit->Shared->Prop},Inv X pins σ' H' s8->(∀s9,Inv X pins (σ'.set i none) H' s9->Q () s9)->wpAny (model X.prog X.w) X.A (do bindName X.env n .none;unbindBehindTheSuite X.env n pos) Q X.xe s8:=fun {σ' H' Q} J q=>by
  obtain⟨m,hn,_⟩:=id J.loc
  exact wpAny_nameGoes_keeps hk hn (by rw[J.ok.kind];rfl) fun h' v hn' hs'=>q _ (J.gone hN hi hn hn' hs')
 cases f with
 |next=>obtain⟨σ',H',J,q⟩:=y;exact lose J fun s9 J9=>⟨_,_,J9,q⟩
 |brk=>obtain⟨σ',H',J,q⟩:=y;exact lose J fun s9 J9=>⟨_,_,J9,q⟩
 |cont=>obtain⟨σ',H',J,q⟩:=y;exact lose J fun s9 J9=>⟨_,_,J9,q⟩
 |ret u=>obtain⟨v,σ',H',J,r,q⟩:=y;exact lose J fun s9 J9=>⟨v,_,_,J9,r,q⟩
section
variable {K:W.Frag}
open PySem.W in
theorem qc5 {M:Program}{w:World}{A:Around}{E:Value->Shared->Prop}{Q:Value->Shared->Prop}{s:Shared}{x t c:Value}(X:K.In s.heap)(LT:∀M,PySem.W.Looks M s.heap (typeOf x) t)(e:PySem.W.kitOne K t c=some true)(hx:x≠ .builtin "__main__.__loader__#opaque")(h:Q (.bool true) s):
  wpAny (model M w) A (call (.builtin "isinstance") [x,c]) Q E s:=by
 obtain⟨h0,g,d,tt,os⟩:=s
 refine call_isinstance_of ?_ hx
 have LT:=LT (model M w)
 unfold kitOne at e
 unfold Builtin.«isinstance.nested»
 refine yD (LT.at ?_)
 by_cases q:(t==c)=true
 ·rw [if_pos q]
  repeat (first|refine wpAny_pure ?_|refine wpAny_rule ?_|refine yD ?_)
  exact h
 ·rw [if_neg q] at e
  rw[if_neg q]
  obtain⟨hty,his,hsub⟩:=kit_cls (M:=model M w) X e
  have LI:Looks (model M w) h0 (isInstance x c) true:=LT.andThen hsub
  refine yD (hty.at ?_)
  rw[if_pos (by decide)]
  k_delta "plainIsInstance"
  refine yD (yD (his.at ?_))
  simp only[Bool.not_true,Bool.false_eq_true,if_false]
  refine yD (LI.at ?_)
  simp only[if_true]
  exact wpAny_pure (wpAny_pure h)
end
structure CalX (P:Program)(w:World)(K:W.Frag)(mg:Str->Option Value)(base:Heap)(k:Nat)(x:Str)(ps:List Str)(sp:Sp):Prop where
 ex:∃f fd,FnOk P w K mg base (CXf P w) k f fd ps sp/\mg x=some (.ref f)/\PySem.W.keepIn K (.ref f)=true/\q0W K fd ps []
structure CalDX (P:Program)(w:World)(K:W.Frag)(mg:Str->Option Value)(base:Heap)(k:Nat)(x:Str)(ps:List Str)(sp:Sp)(st:Stmt)(ds:List Value):Prop where
 ex:∃f fd,FnOk P w K mg base (CXf P w) k f fd ps sp/\mg x=some (.ref f)/\FunD K x st ds f fd
section
variable {P:Program}{w:World}{K:W.Frag}{mg:Str->Option Value}{base:Heap}
theorem Laid.calX {x:Str}{st:Stmt}{N ps:List Str}{k:Nat}{sp:Sp}(L:Laid K mg x st ps)(S:FnScope N ps (qh st))(len:∀vs H Q E,sp vs H Q E->vs.length=ps.length)
  (hbody:∀(f:Addr) (cdv:Value) (A:Around) (outer:List Env) (s:Shared) (H:Hp) (vs:List V) (Q:VK) (E:XK),Room k (A.deeper (envOfC x (qh st) s.heap.objs.size f cdv))->sp vs H Q E->
   ∃t,PSs (cxOf (CXf P w) P w K mg base N x (qh st) f cdv A outer s H E) (qR st) t/\t {nx:=fun _ H'=>Q .non H',rt:=Q} (start N vs) H):CalX P w K mg base (k+1) x ps sp:=by
 obtain⟨f,fd,F,m,b⟩:=L.ex
 refine⟨f,fd,?_,m,F.kp,b⟩
 obtain⟨oc,od,kV,doc,pm,an,cdv,ct,osl,rfl,lk,hcd⟩:=F.ex
 exact qce lk hcd S len fun A outer s H vs Q E hr hsp=>hbody f cdv A outer s H vs Q E hr hsp
theorem LaidD.calX {x:Str}{st:Stmt}{ds:List Value}{N ps:List Str}{k:Nat}{sp:Sp}(L:LaidD K mg x st ds)(S:FnScope N ps (qh st))(len:∀vs H Q E,sp vs H Q E->vs.length=ps.length)
  (hbody:∀(f:Addr) (cdv:Value) (A:Around) (outer:List Env) (s:Shared) (H:Hp) (vs:List V) (Q:VK) (E:XK),Room k (A.deeper (envOfC x (qh st) s.heap.objs.size f cdv))->sp vs H Q E->
   ∃t,PSs (cxOf (CXf P w) P w K mg base N x (qh st) f cdv A outer s H E) (qR st) t/\t {nx:=fun _ H'=>Q .non H',rt:=Q} (start N vs) H):CalDX P w K mg base (k+1) x ps sp st ds:=by
 obtain⟨f,fd,F,m⟩:=L.ex
 refine⟨f,fd,?_,m,F⟩
 obtain⟨T,o,n,oc,od,kV,doc,pm,an,cdv,ct,osl,rfl,lk,hcd,ho,hs⟩:=F.ex
 exact qce lk hcd S len fun A outer s H vs Q E hr hsp=>hbody f cdv A outer s H vs Q E hr hsp
end
section
variable {X:Cx}{k k':Nat}{x:Str}{ps:List Str}{sp:Sp}{p pos:Pos}{e:Expr}{es:List Expr}{t:TA}{E:XK}{st:Stmt}{ds ds':List Value}{dvs:List V}
theorem qbB (c:CalX X.prog X.w X.K X.mg X.base k x ps sp)(hx:q31 (CXf X.prog X.w) X E)(hr:Room k' X.A)(hk:k<=k')(hg:Gl X x)(ha:PA X (e::es) t)(hdb:(x==("__debug__":Str))=false:=by decide)(he:starEach (e::es) X.env=(false,eval e X.env)::starEach es X.env:=by rfl)
  (hpl:(backTo pos (starEach es X.env)).any (·.1)=false:=by rfl):PE X (.Call (.Name x p) (e::es) [] pos) (q7x sp [] E t):=by
 obtain⟨f,fd,F,m,kp,b⟩:=c.ex
 exact q87 F (hr.mono hk) hg m kp b .nil hx ha hdb he hpl
end
theorem q4y:bootBuiltins "ValueError"=some (.type "ValueError"):=by walk_at "k"
def qaD:Expr->Bool
 | .Starred .. =>false
 |_=>true
theorem q3J {e:Expr}{es:List Expr}{env:Env}(h:qaD e=true):starEach (e::es) env=(false,eval e env)::starEach es env:=by
 cases e<;>first|rfl|cases h
theorem pa_c {X:Cx}{e:Expr}{es:List Expr}{te:TE}{t:TA}(ha:PE X e te)(hr:PA X es t)(h:qaD e=true:=by rfl):PA X (e::es) (qb4 te t):=qa ha hr (q3J h)
end L2
namespace L2
open PySem PySem.Spec PySem.Calls PyProof.Rows PySem.W Builtin Builtin.ObjectAttr Builtin.Getset_descriptor
structure ExcT (K:W.Frag)(C:Addr):Prop where
 ga:PySem.W.findIn K (.ref C) "__getattribute__"=some (some (.builtin "BaseException.__getattribute__"))
 gh:PySem.W.findIn K (.ref C) "__getattr__"=some none
 ca:PySem.W.findIn K (.ref C) "__class__"=some (some (.builtin "object.__class__"))
 mo:PySem.W.mroIn K C (.type "object")=some true
 mb:PySem.W.mroIn K C (.type "BaseException")=some true
section
variable {prog:Program}{w:World}{A:Around}{E:Value->Shared->Prop}{h:Heap}{g:Array GenState}{d:PySem.Drawn}{t:Nat}{os:OsState}{K:W.Frag}{x C:Addr}
theorem xc_get {R:Result->Shared->Prop}{tp:Value}(X:K.In h)(L:∀M,Looks M h (typeOf (.ref x)) (.ref C))(q:ExcT K C)(hq:R (.ok (.ret (.ref C))) ⟨h,g,d,t,os⟩):
  codeAny (model prog w) A (.call (.builtin "getset_descriptor.__get__") ⟨[.builtin "object.__class__",.ref x,tp],[]⟩) R ⟨h,g,d,t,os⟩:=by
 have L0:=L (model prog w)
 have L1:=looks_mroIn (M:=model prog w) X q.mo
 refine codeAny_call_builtin KF.slot_gs.plain KF.entry_gs (KF.slot_gs.check _ _ _ _ _ _ _ _ KF.type_class (KF.args_gs _ _ _) ?_)
 unfold Builtin.«getset_descriptor.__get__» descrGet
 rw[dga_obj]
 refine yD (wpAny_pure ?_)
 unfold descrGetter descrCheckInstance descrNameAndClass isInstance
 simp only[KF.owner_class]
 repeat lk
 refine⟨Code.quiet_builtin _ (by walk_at "k"),codeAny_builtin KF.entry_class ?_⟩
 unfold Builtin.«object.__class__» shownTypeOf
 repeat lk
 exact hq
theorem q9g {tk:Tok}{Q:Fin->Shared->Prop}(X:K.In h)(L:∀M,Looks M h (typeOf (.ref x)) (.ref C))(q:ExcT K C)(hq:Q (.done (.ret (.ref C))) ⟨h,g,d,t,os⟩):
  wpAny (model prog w) A (Builtin.«object.__getattribute__» ⟨[.ref x,.str "__class__" tk],[]⟩) Q E ⟨h,g,d,t,os⟩:=by
 have L0:=L (model prog w)
 have L3:=looks_findIn (M:=model prog w) X q.ca
 have f5:=F.typeOf_object_class
 have hT5:(⟨h,g,d,t,os⟩:Shared).TypeIs (.builtin "object.__class__") "getset_descriptor":=F.typeOf_object_class
 have f6:=F.slot_gs_get.lookup
 have f7:=F.slot_gs_set.lookup
 repeat (any_goals (first|assumption|with_reducible refine L0.at ?_|with_reducible refine L3.at ?_|wp_step))
 refine xc_get X L q ?_
 repeat (any_goals (first|assumption|wp_step))
theorem q6e {M:Model}{nameV:Value}{Q:Unit->Shared->Prop}(X:K.In h)(L:∀M,Looks M h (typeOf (.ref x)) (.ref C))(q:ExcT K C)(hq:Q () ⟨h,g,d,t,os⟩):wpAny M A (checkBuiltinCall "BaseException.__getattribute__" ⟨[.ref x,nameV],[]⟩) Q E ⟨h,g,d,t,os⟩:=by
 have hk:builtinKind "BaseException.__getattribute__"=some .slot:=by walk_at "k"
 have hsplit:splitId "BaseException.__getattribute__"=some ("BaseException","__getattribute__"):=by walk_at "k"
 have ha:=F.args_bexc_ga (.ref x) nameV
 have L0:=L M
 have L1:=looks_mroIn (M:=M) X q.mb
 simp only[checkBuiltinCall,hk,hsplit]
 refine yD ?_
 ·unfold isInstance
  repeat (first|with_reducible refine L0.at ?_|with_reducible refine L1.at ?_|wp_step)
  exact hq
theorem qaT {tk:Tok}{R:Result->Shared->Prop}(X:K.In h)(L:∀M,Looks M h (typeOf (.ref x)) (.ref C))(q:ExcT K C)(hq:R (.ok (.ret (.ref C))) ⟨h,g,d,t,os⟩):
  codeAny (model prog w) A (.call (.builtin "BaseException.__getattribute__") ⟨[.ref x,.str "__class__" tk],[]⟩) R ⟨h,g,d,t,os⟩:=
 codeAny_call_builtin F.attr_ValueError.ga.plain F.entry_bexc_ga (q6e X L q (q9g X L q hq))
theorem xc_by {tk:Tok}{Q:Value->Shared->Prop}(X:K.In h)(L:∀M,Looks M h (typeOf (.ref x)) (.ref C))(q:ExcT K C)(hq:Q (.ref C) ⟨h,g,d,t,os⟩):
  wpAny (model prog w) A (getAttrBy (.ref x) (.str "__class__" tk) false) Q E ⟨h,g,d,t,os⟩:=by
 have f3:=F.attr_ValueError.ga.bind (.ref x)
 have hx2:(Value.builtin "BaseException.__getattribute__"==Value.builtin "object.__getattribute__")=false:=by walk_at "k"
 have hx1:(onTheHeap (Value.ref C)&&Value.builtin "BaseException.__getattribute__"==Value.builtin "object.__getattribute__")=false:=by rw[hx2];rfl
 have L0:=L (model prog w)
 have L3:=looks_findIn (M:=model prog w) X q.ga
 have L4:=looks_findIn (M:=model prog w) X q.gh
 repeat (any_goals (first|assumption|with_reducible refine L0.at ?_|with_reducible refine L3.at ?_|with_reducible refine L4.at ?_|wp_step))
 refine qaT X L q ?_
 repeat (any_goals (first|assumption|wp_step))
theorem qaU {Q:Option Value->Shared->Prop}(X:K.In h)(L:∀M,Looks M h (typeOf (.ref x)) (.ref C))(q:ExcT K C)(hq:Q (some (.ref C)) ⟨h,g,d,t+1,os⟩):wpAny (model prog w) A (getAttr? (.ref x) "__class__") Q E ⟨h,g,d,t,os⟩:=by
 unfold getAttr? getAttrBy?
 repeat (any_goals (first|assumption|with_reducible apply xc_by X L q|wp_step))
theorem qc6 {Q:Value->Shared->Prop}{c:Value}{b:Bool}(X:K.In h)(L:∀M,Looks M h (typeOf (.ref x)) (.ref C))(q:ExcT K C)(e:PySem.W.kitOne K (.ref C) c=some b)(hq:∀t',Q (.bool b) ⟨h,g,d,t',os⟩):
  wpAny (model prog w) A (call (.builtin "isinstance") [.ref x,c]) Q E ⟨h,g,d,t,os⟩:=by
 cases b with
 |true=>exact qc5 X L e (by intro z;cases z) (hq t)
 |false=>
  refine call_isinstance_of ?_ (by intro z;cases z)
  have LT:=L (model prog w)
  unfold kitOne at e
  unfold Builtin.«isinstance.nested»
  refine yD (LT.at ?_)
  by_cases z:((Value.ref C)==c)=true
  ·rw [if_pos z] at e;cases e
  ·rw [if_neg z] at e
   rw[if_neg z]
   obtain⟨hty,his,hsub⟩:=kit_cls (M:=model prog w) X e
   have LI:Looks (model prog w) h (isInstance (.ref x) c) false:=LT.andThen hsub
   have hisC:Looks (model prog w) h (isType (.ref C)) true:=by
    have hm:=q.mo
    unfold mroIn at hm
    cases hc:clsIn K C with
    |none=>rw[hc] at hm;cases hm
    |some cd=>
     unfold clsIn at hc
     split at hc
     ·rename_i c' d' cd' sl' ho
      intro A' Q' E' s' k q
      unfold isType loadHead
      exact yD (wpAny_loadPart (k _ _ (X _ _ ho)) (wpAny_pure q))
     ·cases hc
   refine yD (hty.at ?_)
   rw[if_pos (by decide)]
   k_delta "plainIsInstance"
   refine yD (yD (his.at ?_))
   simp only[Bool.not_true,Bool.false_eq_true,if_false]
   refine yD (LI.at ?_)
   simp only[Bool.false_eq_true,if_false]
   refine yD (qaU X L q ?_)
   refine yD (hisC.at ?_)
   simp only[Bool.not_true,Bool.false_eq_true,if_false]
   refine yD (wpAny_rule ?_)
   refine hsub.at ?_
   first
    |exact wpAny_pure (hq _)
    |exact wpAny_pure (wpAny_pure (hq _))
    |exact yD (wpAny_pure (wpAny_pure (hq _)))
end
def q9y (K:W.Frag):List V->Hp->VK->Prop:=fun xs H Q=>∃a oe u C c cv b,xs=[.ref a,c]/\RelV c cv/\H a=some (.frz oe u)/\oe.cls= .ref C/\ExcT K C/\PySem.W.kitOne K (.ref C) cv=some b/\(∀t,c≠ .int t)/\(∀t,c≠ .str t)/\(∀t,c≠ .byt t)/\(∀t,c≠ .flt t)/\Q (.bl b) H
theorem q96 {X:Cx}:q24 X (.builtin "isinstance") (q9y X.K):=by
 intro pins s σ H xs us Q I r h
 obtain⟨a,oe,uo,C,c,cv,b,rfl,rc,ea,ec,xt,e,n1,n2,n3,n4,q⟩:=h
 obtain⟨u,v,rfl,rx,ry⟩:=qaX r
 cases(show u=Value.ref a from rx)
 have ev:v=cv:=by
  cases c with
  |non=>exact(show v= .none from ry).trans (show cv= .none from rc).symm
  |bl b=>exact(show v= .bool b from ry).trans (show cv= .bool b from rc).symm
  |int i=>exact absurd rfl (n1 i)
  |str i=>exact absurd rfl (n2 i)
  |byt i=>exact absurd rfl (n3 i)
  |flt i=>exact absurd rfl (n4 i)
  |ref b=>exact(show v= .ref b from ry).trans (show cv= .ref b from rc).symm
  |ty n=>exact(show v= .type n from ry).trans (show cv= .type n from rc).symm
 subst ev
 obtain⟨ho,_⟩:=(show q01 X.prog X.w H s.heap a (.frz oe uo) from I.hok a _ ea)
 have L:∀M,PySem.W.Looks M s.heap (typeOf (.ref a)) (.ref C):=fun M=>by rw[<-ec];exact(PySem.W.Looks.ld ho).andThen .now
 obtain⟨h0,g,d,t,os⟩:=s
 exact qc6 I.kIn L xt e fun t'=>⟨.bl b,H,I.tok t',rfl,q⟩
theorem isiYK {X:Cx}(K:W.Frag)(hK:X.K=K:=by rfl):q24 X (.builtin "isinstance") (q9y K):=by subst hK;exact q96
theorem r_isY {K:W.Frag}{H:Hp}{Q:VK}{a C D:Addr}{oe:Obj}{u:HO}{b:Bool}(h:H a=some (.frz oe u))(ec:oe.cls= .ref C)(xt:ExcT K C)(e:PySem.W.kitOne K (.ref C) (.ref D)=some b)(q:Q (.bl b) H):q9y K [.ref a,.ref D] H Q:=⟨a,oe,u,C,_,_,b,rfl,rfl,h,ec,xt,e,nofun,nofun,nofun,nofun,q⟩
theorem r_isYT {K:W.Frag}{H:Hp}{Q:VK}{a C:Addr}{T:String}{oe:Obj}{u:HO}{b:Bool}(h:H a=some (.frz oe u))(ec:oe.cls= .ref C)(xt:ExcT K C)(e:PySem.W.kitOne K (.ref C) (.type T)=some b)(q:Q (.bl b) H):q9y K [.ref a,.ty T] H Q:=⟨a,oe,u,C,_,_,b,rfl,rfl,h,ec,xt,e,nofun,nofun,nofun,nofun,q⟩
end L2
namespace L2
open PySem PySem.Spec PySem.Calls PyProof.Rows PySem.W Builtin Builtin.ObjectAttr
def q3s:List Value->Bool
 |[]=>false
 | .ref _::l=>q3s l
 | .type n::l=>(n=="object"&&l.isEmpty)||((n=="ValueError"||n=="Exception"||n=="BaseException")&&q3s l)
 |_::_=>false
structure ExcF (K:W.Frag)(C:Addr):Prop where
 sa:PySem.W.findIn K (.ref C) "__setattr__"=some (some (.builtin "object.__setattr__"))
 cd:(PySem.W.clsIn K C).any (fun cd=>cd.hasDict&&q3s cd.mro)=true
section
variable {prog:Program}{w:World}{A:Around}{E:Value->Shared->Prop}{h:Heap}{g:Array GenState}{d:PySem.Drawn}{t:Nat}{os:OsState}{K:W.Frag}{x C:Addr}{ox:Obj}{od:Option Obj}
theorem own_sa (n:String)(h:(n=="ValueError"||n=="Exception"||n=="BaseException")=true):builtinOwn n "__setattr__"=none/\(n=="_thread._local")=false/\(n=="_pickle.Pickler"||n=="_pickle.Unpickler")=false:=by
 simp only[Bool.or_eq_true,beq_iff_eq] at h
 rcases h with(rfl|rfl)|rfl<;>walk_at "k"
theorem own_so:∃v,builtinOwn "object" "__setattr__"=some v/\isObjects "object" ("__setattr__":Str).toString=true:=by
 refine⟨_,rfl,by walk_at "k"⟩
theorem q7P {M:Model}{s:Shared}{Q:Unit->Shared->Prop}{self:Value}(X:K.In s.heap)(LT:Looks M s.heap (typeOf self) (.ref C)){cd:ClassData}(hc:clsIn K C=some cd)(hm:q3s cd.mro=true)(hq:Q () s):wpAny M A (refuseIfOverridden self "__setattr__") Q E s:=by
 unfold refuseIfOverridden
 refine yD (LT.here ?_)
 have LM:Looks M s.heap (mroOf (.ref C)) cd.mro:=(looks_clsIn X hc).andThen .now
 refine yD (LM.here ?_)
 refine yD ?_
 generalize cd.mro=l at hm
 induction l with
 |nil=>cases hm
 |cons v l ih=>
  rw[List.forIn_cons]
  cases v with
  |ref a=>exact yD (wpAny_pure (ih hm))
  |type n=>
   unfold q3s at hm
   rw[Bool.or_eq_true] at hm
   rcases hm with hm|hm
   ·rw [Bool.and_eq_true] at hm
    obtain⟨h1,h2⟩:=hm
    obtain rfl:n="object":=by simpa using h1
    obtain⟨v,e1,e2⟩:=own_so
    refine yD ?_
    refine wpAny_ite_false (by walk_at "k") (wpAny_ite_false (by walk_at "k") ?_)
    rw[show classOwn (.type "object") "__setattr__"=pure (builtinOwn "object" "__setattr__") from rfl,e1]
    refine yD (wpAny_pure ?_)
    refine wpAny_ite_true rfl ?_
    rw[e2]
    exact wpAny_ite_false rfl (wpAny_pure (wpAny_pure (wpAny_pure hq)))
   ·rw [Bool.and_eq_true] at hm
    obtain⟨e1,e2,e3⟩:=own_sa n hm.1
    refine yD ?_
    dsimp only
    rw[e2,e3]
    refine wpAny_ite_false rfl (wpAny_ite_false rfl ?_)
    rw[show classOwn (.type n) "__setattr__"=pure (builtinOwn n "__setattr__") from rfl,e1]
    exact yD (wpAny_pure (wpAny_ite_false rfl (wpAny_pure (ih hm.2))))
  |_=>cases hm
theorem q6l {Q:Fin->Shared->Prop}{dx:Addr}{mA:Str->Option Value}{name:Str}{v:Value}{tk:Tok}{ns:List Str}{s:Shared}(hn:s.heap.Ns1 dx mA)(hw:PySem.Within mA ns)(hsz:ns.length<=1000)
  (hq:∀h',(h'.Ns1 dx fun y=>if y=name then some v else mA y)->Heap.SameBut dx s.heap h'->Q (.done (.ret .none)) {s with heap:=h',toks:=s.toks+1}):wpAny (model prog w) A (storeInDict dx (.str name tk) name v) Q E s:=by
 unfold storeInDict
 refine yD (wpAny_pure (yD ?_))
 refine wpAny_nsSet1 hn fun h' hn2 hs2=>?_
 obtain⟨oD,esD,epD,hoD,hdD,hcD⟩:=hn2.count (PySem.Within.cons name v hw)
 refine yD (wpAny_lookBehind hoD (by rw[hdD];exact pastItsLine_dict (Nat.le_trans hcD (by rw[List.length_cons];have:=qC;omega))) ?_)
 exact wpAny_pure (hq h' hn2 hs2)
theorem q8I {name:Str}{v:Value}{Q:Unit->Shared->Prop}{s:Shared}(X:K.In s.heap)(I:InstAt s.heap x ox C od)(q:ExcF K C)(qt:ExcT K C)(hf:PySem.W.findIn K (.ref C) name=some none)
  (h:∀s',s'.heap=s.heap->s'.gens=s.gens->s'.os=s.os->wpAny (model prog w) A.in1 (do
   let __do_lift<-ownDictForStores (.ref x)
   match __do_lift with
    |some d=>storeInDict d (.str name s.toks) name v
    |none=>noDictFor (.ref x) (.ref C) name false) (fun fin s2=>match fin with
     | .done (.ret _)=>Q () s2
     |_=>False) E s'):wpAny (model prog w) A (setAttr (.ref x) name v) Q E s:=by
 obtain⟨cd,hc,hg⟩:=any_some q.cd
 rw[Bool.and_eq_true] at hg
 have SF:=F.store_object
 refine PySem.W.set_plain X I q.sa ?_
 have LT:=I.type (M:=model prog w)
 have sub:Looks (model prog w) s.heap (isInstance (.ref x) (.type "object")) true:=LT.andThen (looks_mroIn X qt.mo)
 have sk:=SF.kind
 have ss:=SF.split
 have sa:=SF.args (.ref x) (.str name s.toks) v
 refine codeAny_call_builtin SF.slot.plain SF.entry ?_
 refine PySem.W.check_slot (s:={s with toks:=s.toks+1}) (i:="object.__setattr__") (owner:="object") (n:="__setattr__") (self:= .ref x) (rest:=[.str name s.toks,v]) (kw:=[]) sk ss sub sa ?_
 unfold Builtin.«object.__setattr__»
 refine wpAny_ite_false rfl ?_
 refine yD (q7P (s:={s with toks:=s.toks+1}) X LT hc hg.2 ?_)
 refine yD (wpAny_pure ?_)
 refine yD (LT.here (s:={s with toks:=s.toks+1}) ?_)
 refine yD ((looks_findIn X hf).here (s:={s with toks:=s.toks+1}) ?_)
 refine yD (wpAny_pure ?_)
 unfold storeInOwnDict
 refine yD (wpAny_pure ?_)
 refine wpAny_ite_false rfl ?_
 refine wpAny_mono (h {s with toks:=s.toks+1} rfl rfl rfl) (fun fin s2 z=>?_) fun _ _ z=>z
 cases fin with
 |done f=>cases f<;>first|exact z|exact z.elim
 |again c=>exact z.elim
end
end L2
namespace L2
open PySem PySem.Spec PySem.Calls PyProof.Rows PySem.W Builtin Builtin.ObjectAttr
def ExcO (e C:Addr)(od:Option Addr):HO:= .ext fun h=>∃t sl,h.get? e=some (q2E C od t sl)
def XdO (d:Addr)(fs:List (Str×V)):HO:= .ext fun h=>fs.length<=900/\∃mA,h.Ns1 d mA/\(∀f,RelO (fs.lookup f) (mA f))/\PySem.Within mA (fs.map (·.1))
section
variable {P:Program}{w:World}{H:Hp}{h:Heap}{e C d:Addr}{od:Option Addr}{fs:List (Str×V)}
theorem q5X {t:Addr}{sl:Array (Option Value)}(q:h.get? e=some (q2E C od t sl)):q01 P w H h e (ExcO e C od):=⟨⟨t,sl,q⟩,⟨_,q⟩,fun _ _ ⟨t,sl,q⟩ k=>⟨t,sl,k _ q⟩⟩
theorem q7q {mA:Str->Option Value}(hl:fs.length<=900)(n:h.Ns1 d mA)(r:∀f,RelO (fs.lookup f) (mA f))(wi:PySem.Within mA (fs.map (·.1))):q01 P w H h d (XdO d fs):=
 ⟨⟨hl,mA,n,r,wi⟩,let ⟨o,_,_,q,_⟩:=n;⟨o,q⟩,fun _ _ ⟨hl,mA,⟨o,es,ep,q,z⟩,r⟩ k=>⟨hl,mA,⟨o,es,ep,k _ q,z⟩,r⟩⟩
end
section
variable {X:Cx}{pins:List (Addr×Obj)}{σ:St}{H:Hp}{s:Shared}{e C d:Addr}{fs:List (Str×V)}{f:Str}{y:V}{u:Value}{A:Around}{E:Value->Shared->Prop}{Q:Unit->Shared->Prop}
theorem q7m (I:Inv X pins σ H s)(e1:H e=some (ExcO e C (some d)))(e2:H d=some (XdO d fs))(q:ExcF X.K C)(qt:ExcT X.K C)(hf:PySem.W.findIn X.K (.ref C) f=some none)(hl:fs.length<900)(ry:RelV y u)
  (h:∀s',Inv X pins σ (upd H d (XdO d (putF f y fs))) s'->Q () s'):wpAny (model X.prog X.w) A (setAttr (.ref e) f u) Q E s:=by
 obtain⟨⟨t,sl,ho⟩,_,_⟩:=(show q01 X.prog X.w H s.heap e (ExcO e C (some d)) from I.hok e _ e1)
 obtain⟨⟨_,mA,hn,r,wi⟩,_,_⟩:=(show q01 X.prog X.w H s.heap d (XdO d fs) from I.hok d _ e2)
 obtain⟨od,es,ep,hd,hr⟩:=id hn
 obtain⟨cd,hc,hg⟩:=any_some q.cd
 rw[Bool.and_eq_true] at hg
 refine q8I (ox:=q2E C (some d) t sl) (od:=some od) I.kIn ⟨ho,rfl,rfl,hd⟩ q qt hf fun s' z1 z2 z3=>?_
 unfold ownDictForStores instanceDict
 refine yD (yD (wpAny_loadPart (by rw[z1];exact ho) ?_))
 refine yD ((looks_clsIn (by rw[z1];exact I.kIn) hc).here ?_)
 rw[hg.1]
 refine wpAny_ite_false rfl (wpAny_pure ?_)
 refine q6l (ns:=fs.map (·.1)) (by rw[z1];exact hn) wi (by rw[yC];omega) fun h' hn2 hs2=>?_
 obtain⟨hp,g,dd,tk,os⟩:=s
 obtain⟨hp',g',dd',tk',os'⟩:=s'
 dsimp only at z1 z2 z3
 subst z1 z2 z3
 refine h _ ?_
 have J:Inv X pins σ (upd H d (XdO d (putF f y fs))) {heap:=h',gens:=g',drawn:=dd,toks:=tk'+1,os:=os'}:=by
  refine I.write (x:=d) (e:=d) (by rw[e2];exact True.intro) (.inl rfl) (fun b q hb z=>(hs2.2 b hb).trans z) (let ⟨o,_,_,q,_⟩:=hn2;⟨o,q⟩) ?_
  refine q7q (by have:=q2p f y fs;omega) hn2 (fun g=>?_) fun g hg=>?_
  ·rw [qQ]
   by_cases q:g=f
   ·rw [if_pos q,if_pos q];exact ry
   ·rw [if_neg q,if_neg q];exact r g
  ·by_cases q:g=f
   ·rw [q];exact(q1Z f y fs).1
   ·refine (q1Z f y fs).2 g (wi g fun z=>hg ?_)
    rw[if_neg q];exact z
 exact⟨J.ok,J.os,J.bare,J.base,J.loc,J.cell,J.free,J.freeC,J.pin,J.hok,J.len⟩
theorem q6Q (I:Inv X pins σ H s)(e1:H e=some (ExcO e C none))(q:ExcF X.K C)(qt:ExcT X.K C)(hf:PySem.W.findIn X.K (.ref C) f=some none)(ry:RelV y u)
  (h:∀d s',H d=none->d≠e->Inv X pins σ (upd (upd (upd H d (XdO d [])) e (ExcO e C (some d))) d (XdO d [(f,y)])) s'->Q () s'):wpAny (model X.prog X.w) A (setAttr (.ref e) f u) Q E s:=by
 obtain⟨⟨t,sl,ho⟩,_,_⟩:=(show q01 X.prog X.w H s.heap e (ExcO e C none) from I.hok e _ e1)
 obtain⟨cd,hc,hg⟩:=any_some q.cd
 rw[Bool.and_eq_true] at hg
 refine q8I (ox:=q2E C none t sl) (od:=none) I.kIn ⟨ho,rfl,rfl,True.intro⟩ q qt hf fun s' z1 z2 z3=>?_
 have hlt:e<s.heap.objs.size:=Heap.lt_size ho
 have hde:s.heap.objs.size≠e:=Nat.ne_of_gt hlt
 have hdn:H s.heap.objs.size=none:=I.hok.fresh (Nat.le_refl _)
 unfold ownDictForStores instanceDict
 refine yD (yD (wpAny_loadPart (by rw[z1];exact ho) ?_))
 refine yD ((looks_clsIn (by rw[z1];exact I.kIn) hc).here ?_)
 rw[hg.1]
 refine wpAny_ite_false rfl ?_
 refine wpAny_ite_false rfl ?_
 obtain⟨hp,g,dd,tk,os⟩:=s
 obtain⟨hp',g',dd',tk',os'⟩:=s'
 dsimp only at z1 z2 z3 ho hlt hde hdn
 subst z1 z2 z3
 refine yD (wpAny_alloc' ?_)
 have ho2:(hp'.push {cls:= .type "dict",data:= .dict #[]}).get? e=some (q2E C none t sl):=Heap.get?_push_of_some _ ho
 refine yD (wpAny_update' ho2 ?_)
 refine wpAny_pure ?_
 have he3:((hp'.push {cls:= .type "dict",data:= .dict #[]}).update e fun o=>{cls:=o.cls,dict:=some hp'.objs.size,data:=o.data,slots:=o.slots}).get? e=some (q2E C (some hp'.objs.size) t sl):=Heap.get?_update_self _ ho2 rfl
 have kp:∀b o,b≠e->(hp'.push {cls:= .type "dict",data:= .dict #[]}).get? b=some o->((hp'.push {cls:= .type "dict",data:= .dict #[]}).update e fun o=>{cls:=o.cls,dict:=some hp'.objs.size,data:=o.data,slots:=o.slots}).get? b=some o:=fun b o hb z=>by
  rw[Heap.get?_update_other _ _ (Ne.symm hb)]
  exact z
 have hd0:(hp'.push {cls:= .type "dict",data:= .dict #[]}).get? hp'.objs.size=some {cls:= .type "dict",data:= .dict #[]}:=Heap.get?_push_size hp' rfl
 have n1:(hp'.push {cls:= .type "dict",data:= .dict #[]}).Ns1 hp'.objs.size (fun _=>none):=Heap.Ns1.of_empty ⟨_,#[],_,hd0,rfl,(fun e he=>absurd he (by simp)),fun _=>rfl⟩
 have I1:Inv X pins σ (upd H hp'.objs.size (XdO hp'.objs.size [])) {heap:=hp'.push {cls:= .type "dict",data:= .dict #[]},gens:=g',drawn:=dd,toks:=tk',os:=os'}:=
  I.laid (a:=hp'.objs.size) (o:=XdO hp'.objs.size []) (fun b u q=>Heap.get?_push_of_some _ q) (Nat.le_refl _) (q7q (by simp) n1 (fun _=>True.intro) fun y hy=>absurd rfl hy)
 have e1':upd H hp'.objs.size (XdO hp'.objs.size []) e=some (ExcO e C none):=by rw[ql (Ne.symm hde)];exact e1
 have I2:Inv X pins σ (upd (upd H hp'.objs.size (XdO hp'.objs.size [])) e (ExcO e C (some hp'.objs.size))) {heap:=(hp'.push {cls:= .type "dict",data:= .dict #[]}).update e fun o=>{cls:=o.cls,dict:=some hp'.objs.size,data:=o.data,slots:=o.slots},gens:=g',drawn:=dd,toks:=tk',os:=os'}:=
  I1.write (x:=e) (e:=e) (by rw[e1'];exact True.intro) (.inl rfl) kp ⟨_,he3⟩ (q5X he3)
 have n2:=n1.at (h':=(hp'.push {cls:= .type "dict",data:= .dict #[]}).update e fun o=>{cls:=o.cls,dict:=some hp'.objs.size,data:=o.data,slots:=o.slots}) fun o q=>kp _ o hde q
 refine q6l (ns:=[]) n2 (fun y hy=>absurd rfl hy) (by simp) fun h' hn2 hs2=>?_
 refine h hp'.objs.size _ hdn hde ?_
 have e2':upd (upd H hp'.objs.size (XdO hp'.objs.size [])) e (ExcO e C (some hp'.objs.size)) hp'.objs.size=some (XdO hp'.objs.size []):=by rw[ql hde,qg]
 have J:Inv X pins σ (upd (upd (upd H hp'.objs.size (XdO hp'.objs.size [])) e (ExcO e C (some hp'.objs.size))) hp'.objs.size (XdO hp'.objs.size [(f,y)])) {heap:=h',gens:=g',drawn:=dd,toks:=tk'+1,os:=os'}:=by
  refine I2.write (x:=hp'.objs.size) (e:=hp'.objs.size) (by rw[e2'];exact True.intro) (.inl rfl) (fun b q hb z=>(hs2.2 b hb).trans z) (let ⟨o,_,_,q,_⟩:=hn2;⟨o,q⟩) ?_
  refine q7q (by simp) hn2 (fun g=>?_) fun g hg=>?_
  ·by_cases q:g=f
   ·rw [if_pos q,q]
    show RelO (match f==f with|true=>some y|false=>none) (some u)
    rw[show(f==f)=true by simp]
    exact ry
   ·rw [if_neg q]
    show RelO (match g==f with|true=>some y|false=>none) none
    rw[show(g==f)=false by simpa using q]
    exact True.intro
  ·by_cases q:g=f
   ·rw [q];simp
   ·exact absurd (by rw[if_neg q]) hg
 exact⟨J.ok,J.os,J.bare,J.base,J.loc,J.cell,J.free,J.freeC,J.pin,J.hok,J.len⟩
end
def sFldX (K:W.Frag)(ta tv:TE)(f:Str):TS:=fun D σ H=>tv σ H fun y H1=>ta σ H1 fun x H2=>∃e C,x= .ref e/\ExcF K C/\ExcT K C/\PySem.W.findIn K (.ref C) f=some none/\
 ((H2 e=some (ExcO e C none)/\∀d,H2 d=none->d≠e->D.nx σ (upd (upd (upd H2 d (XdO d [])) e (ExcO e C (some d))) d (XdO d [(f,y)])))\/
  ∃d fs,H2 e=some (ExcO e C (some d))/\H2 d=some (XdO d fs)/\fs.length<900/\D.nx σ (upd H2 d (XdO d (putF f y fs))))
section
variable {X:Cx}{o value:Expr}{ta tv:TE}{f:Str}{pos pos':Pos}
theorem qbs (K:W.Frag)(ha:PE X o ta)(hv:PE X value tv)(hs:swapsWith value (some (.Attribute o f pos')) pos.line X.env=pure false)(hK:X.K=K:=by rfl):PS X (.Assign [.Attribute o f pos'] value pos) (sFldX K ta tv f):=by
 subst hK
 intro pins s σ H D I h
 refine plainObj_wpAny_Assign_Attribute (thn (hv pins s σ H _ I h) fun u s1 ⟨y,H1,I1,ry,q⟩=>thn (ha pins s1 σ H1 _ I1 q) fun ov s2 ⟨x,H2,I2,rx,e,C,ex,qf,qt,hf,q2⟩=>?_) hs
 subst ex
 obtain rfl:ov=Value.ref e:=rx
 rcases q2 with⟨e1,q2⟩|⟨d,fs,e1,e2,hl,q2⟩
 ·exact q6Q I2 e1 qf qt hf ry fun d s3 hd hn I3=>⟨σ,_,I3,q2 d hd hn⟩
 ·exact q7m I2 e1 e2 qf qt hf hl ry fun s3 I3=>⟨σ,_,I3,q2⟩
end
structure BaseI (K:W.Frag)(D:Addr):Prop where
 rd:PySem.W.readsIn K D (.type "type")=true
 fc:PySem.W.findCls K (.ref D) (.type "type") "__init__"=some (.val (.builtin "ValueError.__init__"))
 sg:PySem.W.specialIn K (.ref D) "__getattribute__"=some (some (.builtin "type.__getattribute__"))
abbrev vmro:List Value:=[.type "ValueError",.type "Exception",.type "BaseException",.type "object"]
structure ExcL (K:W.Frag)(C D:Addr):Prop where
 c:∃dd n1 n2 n4 n5 n7 n8 n9 n10 k0 k1 k2 k3 k5,K.lookup C=some ⟨.type "type",dd,.cls ⟨n1,n2,[.ref C,.ref D,.type "ValueError",.type "Exception",.type "BaseException",.type "object"],n4,n5,true,n7,n8,n9,n10,false⟩,#[k0,k1,k2,k3,some (.builtin "ValueError.__new__"),k5]⟩
 d:∃dd n1 n2 n4 n5 n6 n7 n8 n9 n10 n11 sl,K.lookup D=some ⟨.type "type",dd,.cls ⟨n1,n2,[.ref D,.type "ValueError",.type "Exception",.type "BaseException",.type "object"],n4,n5,n6,n7,n8,n9,n10,n11⟩,sl⟩
 e:PySem.W.excIn K D vmro "ValueError.__new__"=true
def q7l (K:W.Frag)(C:Addr):Prop:=∃D,ExcL K C D
theorem ExcL.f {K:W.Frag}{C D:Addr}(l:ExcL K C D)(sa:PySem.W.findIn K (.ref C) "__setattr__"=some (some (.builtin "object.__setattr__"))):ExcF K C:=by
 refine⟨sa,?_⟩
 obtain⟨dd,n1,n2,n4,n5,n7,n8,n9,n10,k0,k1,k2,k3,k5,h⟩:=l.c
 unfold PySem.W.clsIn
 rw[h]
 rfl
theorem q4q {K:W.Frag}{h:Heap}{C:Addr}(X:K.In h)(q:q7l K C):
  ∃bm N nm qn bs hd sn sub ab col dd k0 k1 k2 k3 k5,h.get? C=some (excClassObj nm qn C N bs bm hd sn sub ab col dd k0 k1 k2 k3 k5 "ValueError.__new__")/\OwnTail h vmro bm:=by
 obtain⟨D,l⟩:=q
 obtain⟨dd,n1,n2,n4,n5,n7,n8,n9,n10,k0,k1,k2,k3,k5,hC⟩:=l.c
 obtain⟨dd',m1,m2,m4,m5,m6,m7,m8,m9,m10,m11,sl,hD⟩:=l.d
 obtain⟨bm,N,nm,qn,bs,hdd,sn,sub,ab,col,ddd,j0,j1,j2,j3,j5,mN,hD2,hN,hni,TL⟩:=qcj X l.e
 have e:=(X _ _ hD).symm.trans hD2
 have eb:bm=vmro:=by
  injection e with e
  injection e with _ _ e3 _
  injection e3 with e3
  injection e3 with _ _ e4
  injection e4 with _ e5
  exact e5.symm
 subst eb
 exact⟨.ref D::vmro,n4,n1,n5,n2,true,n7,n8,n9,n10,dd,k0,k1,k2,k3,k5,X _ _ hC,.own hD2 hN hni .base⟩
structure ExcI (K:W.Frag)(C f:Addr):Prop where
 cls:q7l K C
 init:PySem.W.findIn K (.ref C) "__init__"=some (some (.ref f))
 fn:PySem.W.isFn K (.ref f)=true
 kp:PySem.W.keepIn K (.ref C)=true
def tBI (K:W.Frag)(t:TA):TE:=fun σ H Q=>t σ H fun vs H1=>∃a C od rest,vs= .ref a::rest/\H1 a=some (ExcO a C od)/\q7l K C/\rest.length<=sizeLine/\Q .non H1
section
variable {X:Cx}{x:Str}{D:Addr}{e:Expr}{es:List Expr}{t:TA}{op apos pos:Pos}
theorem pe_bi {pl:Sem Bool}(K:W.Frag)(b:BaseI K D)(hg:Gl X x)(hm:X.mg x=some (.ref D))(ha:PA X (e::es) t)(hdb:(x==("__debug__":Str))=false:=by decide)
  (hst:starEach (e::es) X.env=(false,eval e X.env)::starEach es X.env:=by rfl)(hpl:(backTo pos (starEach es X.env)).any (·.1)=false:=by rfl)
  (ht:eval (.Call (.Attribute (.Name x op) "__init__" apos) (e::es) [] pos) X.env=(do
   let ov<-eval (.Name x op) X.env
   standAt apos.atName
   let (f,first)<-holding [ov] (getMethod ov "__init__" pl)
   callWith pos f first (backTo pos (starEach (e::es) X.env)) (backToKw pos (keywordEach [] X.env))):=by rfl)(hK:X.K=K:=by rfl):
  PE X (.Call (.Attribute (.Name x op) "__init__" apos) (e::es) [] pos) (tBI K t):=by
 subst hK
 intro pins s σ H Q I h
 refine PySem.W.methodCall_KW (pl:=pl) (q1J I hg hm ?_ hdb) ht
 refine PySem.W.method_cls I.kIn b.sg (PySem.W.cls_value I.kIn b.rd b.fc rfl ?_)
 have I1:=I.tok (s.toks+1)
 have hA:=ha pos pins _ σ H _ I1 h
 rw[hst] at hA ⊢
 refine Calls.callWith_builtin (by show(false||(backTo pos (starEach es X.env)).any (·.1))=false;rw[hpl];rfl) (Calls.evalArgs_plain ?_)
 refine thn hA fun us s2 ⟨vs,H2,I2,r2,a,C,od,rest,ev,e1,q,hl,q2⟩=>?_
 subst ev
 cases r2 with
 |cons rx rr=>
  have rx':=(show _=Value.ref a from rx)
  subst rx'
  obtain⟨⟨t0,sl,ho⟩,_,_⟩:=(show q01 X.prog X.w H2 s2.heap a (ExcO a C od) from I2.hok a _ e1)
  obtain⟨bm,N,nm,qn,bs,hd,sn,sub,ab,col,dd,k0,k1,k2,k3,k5,hC,TL⟩:=q4q I2.kIn q
  obtain⟨hp,g,d,tk,os⟩:=s2
  refine q3O F.excBase_ValueError TL hC ho (by rw[<-rr.length];exact hl) fun h' t' kp he'=>?_
  refine⟨.non,H2,?_,rfl,q2⟩
  have J:Inv X pins σ (upd H2 a (ExcO a C od)) {heap:=h',gens:=g,drawn:=d,toks:=tk,os:=os}:=I2.write (x:=a) (e:=a) (by rw[e1];exact True.intro) (.inl rfl) (fun b u hb z=>kp b u hb z) ⟨_,he'⟩ (q5X he')
  have eq:upd H2 a (ExcO a C od)=H2:=by
   funext b
   by_cases hb:b=a
   ·rw [hb,qg,e1]
   ·rw [ql hb]
  rw[eq] at J
  exact J
end
def del (H:Hp)(e:Addr):Hp:=fun b=>if b=e then none else H b
theorem q4t {H:Hp}{e:Addr}:del H e e=none:=by unfold del;rw[if_pos rfl]
theorem q2F {H:Hp}{e b:Addr}(h:b≠e):del H e b=H b:=by unfold del;rw[if_neg h]
section
variable {X:Cx}{pins:List (Addr×Obj)}{σ:St}{H:Hp}{s:Shared}{h':Heap}
theorem Inv.laidN {a:Addr}{o:HO}{t':Nat}(I:Inv X pins σ H s)(k:∀b u,s.heap.get? b=some u->h'.get? b=some u)(new:s.heap.get? a=none)(ok:q01 X.prog X.w (upd H a o) h' a o):Inv X pins σ (upd H a o) {s with heap:=h',toks:=t'}:=by
 have hn:=I.hok.none_of new
 refine I.un ⟨fun b u q _ _ _=>k b u q,fun b u q _ _ _=>⟨u.slots,k b u q⟩,fun b u q n _=>?_,fun b u q _=>⟨u,k b u q⟩,fun b xs q=>?_,fun b u xs q=>?_,fun b ps q=>⟨#[],?_⟩⟩ fun b u e=>?_
 ·rw [ql (fun z=>by rw[z,new] at q;cases q)];exact n
 ·rw [ql (qp q hn)];exact q
 ·rw [ql (qp q hn)];exact q
 ·rw [ql (qp q hn),q];simp
 ·by_cases hb:b=a
  ·subst hb;rw[qg] at e;cases e;exact ok
  ·rw [ql hb] at e
   exact(I.hok b u e).stay (fun c v _ q=>k c v q) (fun c q=>by rw[ql (qp q hn)];exact q) fun c xs q=>by rw[ql (qp q hn)];exact q
theorem Inv.drop {a:Addr}{φ:Heap->Prop}(I:Inv X pins σ H s)(new:X.s₀.heap.get? a=none)(e:H a=some (.ext φ)):Inv X pins σ (del H a) s:=by
 have nt:∀{b:Addr} {xs:List V},H b=some (.tup xs)->b≠a:=fun {b xs} q z=>by subst z;rw[e] at q;cases q
 have no:∀{b c:Addr},H b=some (.own c)->b≠a:=fun {b c} q z=>by subst z;rw[e] at q;cases q
 have none':∀{b:Addr},H b=none->del H a b=none:=fun {b} q=>by
  by_cases z:b=a
  ·rw [z,q4t]
  ·rw [q2F z];exact q
 refine⟨I.ok,I.os,I.bare,⟨I.base.keep,I.base.slot,fun b o q n hx=>none' (I.base.free b o q n hx),I.base.there,fun b xs q=>?_,fun b o u q=>?_,fun b ps q=>?_⟩,I.loc,I.cell,none' I.free,fun x c q=>none' (I.freeC x c q),fun p hp=>?_,fun b o q=>?_,I.len⟩
 ·have:=I.base.tups b xs q
  rw[q2F (nt this)];exact this
 ·have:=I.base.frzs b o u q
  rw[q2F (fun z=>by subst z;rw[e] at this;cases this)];exact this
 ·obtain ⟨more,q2⟩:=I.base.tbls b ps q
  exact⟨more,by rw[q2F (fun z=>by subst z;rw[e] at q2;cases q2)];exact q2⟩
 ·obtain ⟨q,n,r⟩:=I.pin p hp
  exact⟨q,none' n,r⟩
 ·have z:b≠a:=fun z=>by rw[z,q4t] at q;cases q
  rw[q2F z] at q
  exact(I.hok b o q).stay (fun _ _ _ q=>q) (fun c q=>by rw[q2F (no q)];exact q) fun c xs q=>by rw[q2F (nt q)];exact q
end
section
variable {X:Cx}{k:Nat}{f C:Addr}{fd:FuncData}{ps:List Str}{sp:Sp}{x:Str}{p pos np cpos:Pos}{e:Expr}{es:List Expr}{t:TA}{E:XK}
theorem q7N {pins:List (Addr×Obj)}{σ:St}{H:Hp}{s:Shared}{Q:Addr->Hp->Prop}{us:List Value}{vs:List V}(c:ExcI X.K C f)(F:FnOk X.prog X.w X.K X.mg X.base CX0 k f fd ps sp)(hr:Room (k+1) X.A)(hb:q0W X.K fd ps [])(I:Inv X pins σ H s)(r:Vals vs us)(hl:vs.length<=sizeLine)
  (h:∀e,H e=none->sp (.ref e::vs) (upd H e (ExcO e C none)) (fun v H2=>v= .non/\Q e H2) E0):wpAny (model X.prog X.w) X.A (call (.ref C) us) (fun u s'=>∃a H',u= .ref a/\s.heap.get? a=none/\Inv X pins σ H' s'/\Q a H') X.xe s:=by
 obtain⟨bm,N,nm,qn,bs,hd,sn,sub,ab,col,dd,k0,k1,k2,k3,k5,hC,TL⟩:=q4q I.kIn c.cls
 have hfn:∃oI,s.heap.get? f=some oI/\oI.cls= .type "function":=by
  have q:Option.map (fun x:Obj=>x.cls) (X.K.lookup f)=some (.type "function"):=beq_iff_eq.mp c.fn
  cases hk:X.K.lookup f with
  |none=>rw[hk] at q;cases q
  |some o=>
   rw[hk] at q
   exact⟨o,I.kIn _ _ hk,Option.some.inj q⟩
 obtain⟨oI,hfI,hfc⟩:=hfn
 obtain⟨hp,g,d,tk,os⟩:=s
 refine q7h PySem.F.excBase_ValueError TL hC (PySem.W.looks_findIn I.kIn c.init) hfI hfc (fun h' a hm=>?_) (by rw[<-r.length];exact hl)
 obtain⟨t0,ht,_⟩:=hm.there
 have I2:Inv X pins σ (upd H a (ExcO a C none)) {heap:=h',gens:=g,drawn:=d,toks:=tk,os:=os}:=I.laidN hm.keeps hm.new (q5X (sl:= #[]) ht)
 have hq:=h a (I.hok.none_of hm.new)
 have r2:Vals (V.ref a::vs) (Value.ref a::us):= .cons rfl r
 have hl2:(Value.ref a::us++([]:List Value)).length=ps.length:=by
  rw[List.append_nil,<-r2.length]
  exact F.len _ _ _ _ hq
 refine wpAny_call (codeAny_mono (F.run _ X.stack _ _ ⟨Value.ref a::us,[]⟩ (Value.ref a::us) _ _ E0 (hr.make C us []) (I2.env0.make C us []) (by have:=hb _ (Value.ref a::us) I2.kIn hl2;rw[List.append_nil] at this;exact this) r2 hq) fun r s' hq'=>?_)
 cases r with
 |error e=>exact q5Q pins σ _ _ e s' I2 hq'
 |ok fl=>
  cases fl with
  |ret u=>
   obtain⟨v,H',I3,rv,ev,q3⟩:=I2.after hq'
   subst ev
   exact⟨rv,a,H',rfl,hm.new,I3,q3⟩
  |next=>exact False.elim hq'
  |brk=>exact False.elim hq'
  |cont=>exact False.elim hq'
def q6c (X:Cx)(E:XK):Prop:=∀(pins:List (Addr×Obj)) (σ:St) (H:Hp) (s:Shared) (e:Addr) (oe:Obj) (vs:Array Value) (a0:Value),Inv X pins σ H s->s.heap.get? e=some oe->oe.data= .fields vs->vs[1]? =some .none->vs[0]? =some a0->X.s₀.heap.get? e=none->H e=none->(∀p∈X.pn++pins,p.1≠e)->E oe.cls oe.dict H->X.xe (.ref e) s
def q5E (C:Addr)(sp:Sp)(E:XK)(t:TA):TS:=fun _ σ H=>t σ H fun vs H1=>vs.length<=sizeLine/\∀e,H1 e=none->sp (.ref e::vs) (upd H1 e (ExcO e C none)) (fun v H2=>v= .non/\∃od,H2 e=some (ExcO e C od)/\E (.ref C) od (del H2 e)) E0
theorem q7X (hR:q6c X E)(hX:X.ex=[])(hc:X.calm=true)(hg:Gl X x)(hm:X.mg x=some (.ref C))(c:ExcI X.K C f)(F:FnOk X.prog X.w X.K X.mg X.base CX0 k f fd ps sp)(hr:Room (k+1) X.A)(hb:q0W X.K fd ps [])(ha:PA X (e::es) t)(hd:(x==("__debug__":Str))=false:=by decide)
  (he:starEach (e::es) X.env=(false,eval e X.env)::starEach es X.env:=by rfl)(hpl:(backTo cpos (starEach es X.env)).any (·.1)=false:=by rfl):PS X (.Raise (some (.Call (.Name x np) (e::es) [] cpos)) none pos) (q5E C sp E t):=by
 intro pins s σ H D I h
 obtain⟨bm,N,nm,qn,bs,hdd,sn,sub,ab,col,dd,k0,k1,k2,k3,k5,hC,TL⟩:=q4q I.ok.mod.kin c.cls
 rw[arm_exec_Raise]
 refine yD (wpAny_standAt ?_)
 refine q3N (C:=C) (nm:=nm) (q:=qn) (N:=N) (bs:=bs) (bm:=bm) (hdct:=hdd) (sn:=sn) (sub:=sub) (ab:=ab) (col:=col) (dd:=dd) (k0:=k0) (k1:=k1) (k2:=k2) (k3:=k3) (k5:=k5) (newId:="ValueError.__new__") (TL.hasType (by decide)) (I.ok.hd hc) ?_
 refine yD ?_
 refine wpAny_mono (wpAny_Call_Name_kw (Q:=fun v s'=>∃a H2,v= .ref a/\X.s₀.heap.get? a=none/\(∀p∈X.pn++pins,p.1≠a)/\Inv X pins σ H2 s'/\∃od,H2 a=some (ExcO a C od)/\E (.ref C) od (del H2 a)) (q1J I hg hm ?_ hd)) (fun v s3 h3=>?_) fun _ _ z=>z
 ·refine PySem.W.callWith_K (h₀:=X.base) I.ok.mod.kin c.kp (thn (ha cpos pins s σ H _ I h) fun us s1 ⟨vs,H1,I1,r,hl,q⟩=>⟨I1.kIn,?_⟩) he hpl
  refine wpAny_mono (q7N (Q:=fun a H2=>∃od,H2 a=some (ExcO a C od)/\E (.ref C) od (del H2 a)) c F hr hb I1 r hl q) (fun v s2 h2=>?_) fun _ _ z=>z
  obtain⟨a,H2,rfl,hnew,I2,q2⟩:=h2
  exact⟨a,H2,rfl,I1.zero hnew hX,(fun p hp z=>by have:=(I1.pin p hp).1;rw[z,hnew] at this;cases this),I2,q2⟩
 ·obtain ⟨a,H2,rfl,new,hpn,I2,od,e1,hE⟩:=h3
  obtain⟨⟨t0,sl,ho⟩,_,_⟩:=(show q01 X.prog X.w H2 s3.heap a (ExcO a C od) from I2.hok a _ e1)
  refine yD (wpAny_standAt (wpAny_pure ⟨a,_,_,rfl,I2.bk _ _ hC,ho,rfl,rfl,rfl,?_⟩))
  exact hR pins σ _ s3 a _ _ _ (I2.drop new e1) ho rfl rfl rfl new q4t hpn hE
end
section
variable {P:Program}{w:World}{K:W.Frag}{mg:Str->Option Value}{base:Heap}{N:List Str}{qual:Str}{scope:Scope}{f:Addr}{cd:Value}{A:Around}{outer:List Env}{s0:Shared}{H0:Hp}{E:XK}
theorem q72:q6c (cxOf (CXf P w) P w K mg base N qual scope f cd A outer s0 H0 E) E:=fun pins σ H s e oe vs a0 I he hd h1 h0 new free hpn hE=>q7Q I he hd h1 h0 new free hpn hE
end
end L2
set_option maxHeartbeats 1000000
namespace L2
open PySem PySem.Spec PySem.Calls PyProof.Rows PySem.W Builtin Builtin.ObjectAttr Builtin.Getset_descriptor
section
variable {prog:Program}{w:World}{A:Around}{E:Value->Shared->Prop}{h:Heap}{g:Array GenState}{d:PySem.Drawn}{t:Nat}{os:OsState}{K:W.Frag}{x C dx:Addr}{ox:Obj}{mA:Str->Option Value}{f:Str}{v:Value}
theorem q9f {tk:Tok}{Q:Fin->Shared->Prop}(X:K.In h)(ho:h.get? x=some ox)(hc:ox.cls= .ref C)(hd:ox.dict=some dx){vs:Array Value}(hda:ox.data= .fields vs){cd:ClassData}(hcd:clsIn K C=some cd)(hhd:cd.hasDict=true)(hn:h.Ns1 dx mA)(hv:mA f=some v)(hf:PySem.W.findIn K (.ref C) f=some none)(hq:Q (.done (.ret v)) ⟨h,g,d,t,os⟩):
  wpAny (model prog w) A (Builtin.«object.__getattribute__» ⟨[.ref x,.str f tk],[]⟩) Q E ⟨h,g,d,t,os⟩:=by
 have L0:Looks (model prog w) h (typeOf (.ref x)) (.ref C):=hc▸(PySem.W.Looks.ld ho).andThen .now
 have L3:=looks_findIn (M:=model prog w) X hf
 have L4:=looks_clsIn (M:=model prog w) X hcd
 unfold Builtin.«object.__getattribute__»
 refine yD (wpAny_pure ?_)
 refine yD (wpAny_pure ?_)
 refine yD (L0.at ?_)
 unfold find
 refine yD (yD (L3.at ?_))
 refine yD (wpAny_pure ?_)
 refine yD (wpAny_pure ?_)
 unfold ownThenClass inOwnDict ObjectAttr.ownDict inDict
 refine yD (yD ?_)
 obtain⟨c0,dct,dt,sl⟩:=ox
 dsimp only at hc hd hda
 subst hc hd hda
 refine yD (wpAny_loadPart_at ho ?_)
 unfold instanceDict
 refine yD (wpAny_loadPart_at ho ?_)
 refine yD (L4.at ?_)
 rw[hhd]
 refine wpAny_ite_false rfl (wpAny_pure ?_)
 refine wpAny_nsGet hn.ns ?_
 rw[hv]
 exact yD (wpAny_rule (wpAny_pure (wpAny_pure hq)))
theorem qaR {tk:Tok}{R:Result->Shared->Prop}(X:K.In h)(ho:h.get? x=some ox)(hc:ox.cls= .ref C)(hd:ox.dict=some dx){vs:Array Value}(hda:ox.data= .fields vs){cd:ClassData}(hcd:clsIn K C=some cd)(hhd:cd.hasDict=true)(hn:h.Ns1 dx mA)(hv:mA f=some v)(hf:PySem.W.findIn K (.ref C) f=some none)(q:ExcT K C)(hq:R (.ok (.ret v)) ⟨h,g,d,t,os⟩):
  codeAny (model prog w) A (.call (.builtin "BaseException.__getattribute__") ⟨[.ref x,.str f tk],[]⟩) R ⟨h,g,d,t,os⟩:=
 codeAny_call_builtin F.attr_ValueError.ga.plain F.entry_bexc_ga (q6e X (fun M=>hc▸(PySem.W.Looks.ld ho).andThen .now) q (q9f X ho hc hd hda hcd hhd hn hv hf hq))
theorem qaS {Q:Value->Shared->Prop}(X:K.In h)(ho:h.get? x=some ox)(hc:ox.cls= .ref C)(hd:ox.dict=some dx){vs:Array Value}(hda:ox.data= .fields vs){cd:ClassData}(hcd:clsIn K C=some cd)(hhd:cd.hasDict=true)(hn:h.Ns1 dx mA)(hv:mA f=some v)(hf:PySem.W.findIn K (.ref C) f=some none)(q:ExcT K C)(hh:handedIn v=true)(hq:Q v ⟨h,g,d,t+1,os⟩):
  wpAny (model prog w) A (getAttr (.ref x) f true) Q E ⟨h,g,d,t,os⟩:=by
 have f3:=F.attr_ValueError.ga.bind (.ref x)
 have hx2:(Value.builtin "BaseException.__getattribute__"==Value.builtin "object.__getattribute__")=false:=by walk_at "k"
 have hx1:(onTheHeap (Value.ref C)&&Value.builtin "BaseException.__getattribute__"==Value.builtin "object.__getattribute__")=false:=by rw[hx2];rfl
 have L0:Looks (model prog w) h (typeOf (.ref x)) (.ref C):=hc▸(PySem.W.Looks.ld ho).andThen .now
 have L3:=looks_findIn (M:=model prog w) X q.ga
 have L4:=looks_findIn (M:=model prog w) X q.gh
 unfold getAttr
 refine yD (wpAny_mkText ?_)
 unfold getAttrBy
 refine wpAny_holding (yD (L0.at (yD (L3.at ?_))))
 dsimp only
 rw[hx1]
 refine wpAny_ite_false rfl ?_
 unfold getAttrByItsOwn hookBefore
 refine yD ?_
 refine wpAny_ite_true rfl (L4.at ?_)
 refine yD (wpAny_attempt (wpAny_holding ?_))
 unfold callGetattribute
 refine wpAny_ite_false rfl ?_
 unfold boundAndCalled
 refine yD (wpAny_of_eq f3 ?_)
 refine wpAny_call (qaR X ho hc hd hda hcd hhd hn hv hf q ?_)
 dsimp only
 cases v with
 |builtin i=>
  unfold handedOut
  have hh:(withoutEnding? i "#data").isNone=true:=hh
  refine wpAny_ite_false ?_ (wpAny_pure hq)
  cases z:withoutEnding? i "#data" with
  |none=>rfl
  |some y=>rw[z] at hh;cases hh
 |_=>exact wpAny_pure hq
end
def tFldX (K:W.Frag)(f:Str)(ta:TE):TE:=fun σ H Q=>ta σ H fun x H1=>∃a oe u C d fs v,x= .ref a/\H1 a=some (.frz oe u)/\oe.cls= .ref C/\oe.dict=some d/\(∃vs,oe.data= .fields vs)/\ExcF K C/\ExcT K C/\PySem.W.findIn K (.ref C) f=some none/\H1 d=some (XdO d fs)/\fs.lookup f=some v/\Q v H1
section
variable {X:Cx}{o:Expr}{ta:TE}{f:Str}{pos:Pos}
theorem q86 (K:W.Frag)(ha:PE X o ta)(hb:attributeBase o f X.env (eval o X.env)=eval o X.env:=by rfl)(hK:X.K=K:=by rfl):PE X (.Attribute o f pos) (tFldX K f ta):=by
 subst hK
 intro pins s σ H Q I h
 refine q9d hb (thn (ha pins s σ H _ I h) fun ov s1 ⟨x,H1,I1,rx,a,oe,u,C,d,fs,v,ex,ea,hc,hd,⟨vs,hda⟩,qf,qt,hf,e2,l,q⟩=>?_)
 subst ex
 obtain rfl:ov=Value.ref a:=rx
 obtain⟨ho,_⟩:=(show q01 X.prog X.w H1 s1.heap a (.frz oe u) from I1.hok a _ ea)
 obtain⟨⟨_,mA,hn,r,wi⟩,_,_⟩:=(show q01 X.prog X.w H1 s1.heap d (XdO d fs) from I1.hok d _ e2)
 obtain⟨cd,hcd,hg⟩:=any_some qf.cd
 rw[Bool.and_eq_true] at hg
 obtain⟨uv,hu,ru⟩:=RelO.some_of (v:=v) (o:=mA f) (by rw[<-l];exact r f)
 have IK:=I1.kIn
 have I2:=I1.tok (s1.toks+1)
 obtain⟨hp,g,dd,tk,os⟩:=s1
 exact qaS IK ho hc hd hda hcd hg.1 hn hu hf qt (q5n ru) ⟨v,H1,I2,ru,q⟩
end
end L2
namespace L2
open PySem PySem.Spec PyProof.Rows
structure LaidX (K:W.Frag)(mg:Str->Option Value)(x:Str)(C:Addr)(qual:Str)(st:Stmt)(ps:List Str):Prop where
 ex:∃f fd,Fun K "__init__" qual st f fd/\ExcI K C f/\q0W K fd ps []
 at_:mg x=some (.ref C)
structure MakesX (P:Program)(w:World)(K:W.Frag)(mg:Str->Option Value)(base:Heap)(k:Nat)(x:Str)(C:Addr)(ps:List Str)(sp:Sp):Prop where
 ex:∃f fd,ExcI K C f/\FnOk P w K mg base CX0 k f fd ps sp/\q0W K fd ps []
 at_:mg x=some (.ref C)
section
variable {P:Program}{w:World}{K:W.Frag}{mg:Str->Option Value}{base:Heap}
theorem LaidX.makes {x:Str}{C:Addr}{qual:Str}{st:Stmt}{N ps:List Str}{k:Nat}{sp:Sp}(L:LaidX K mg x C qual st ps)(S:FnScope N ps (qh st))(len:∀vs H Q E,sp vs H Q E->vs.length=ps.length)
  (hbody:∀(f:Addr) (cdv:Value) (A:Around) (outer:List Env) (s:Shared) (H:Hp) (vs:List V) (Q:VK) (E:XK),Room k (A.deeper (envOfC qual (qh st) s.heap.objs.size f cdv))->sp vs H Q E->
   ∃t,PSs (cxOf CX0 P w K mg base N qual (qh st) f cdv A outer s H E).nox (qR st) t/\t {nx:=fun _ H'=>Q .non H',rt:=Q} (start N vs) H):MakesX P w K mg base (k+1) x C ps sp:=by
 obtain⟨f,fd,F,M,b⟩:=L.ex
 exact⟨⟨f,fd,M,F.ok S len (fun cdv A outer s H vs Q E hr h=>hbody f cdv A outer s H vs Q E hr h),b⟩,L.at_⟩
end
section
variable {X:Cx}{k k':Nat}{C:Addr}{ps:List Str}{sp:Sp}{x:Str}{np cpos pos:Pos}{e:Expr}{es:List Expr}{t:TA}{E:XK}
theorem q7W (c:MakesX X.prog X.w X.K X.mg X.base k x C ps sp)(hR:q6c X E)(hX:X.ex=[])(hc:X.calm=true)(hr:Room k' X.A)(hk:k+1<=k')(hg:Gl X x)(ha:PA X (e::es) t)(hd:(x==("__debug__":Str))=false:=by decide)
  (he:starEach (e::es) X.env=(false,eval e X.env)::starEach es X.env:=by rfl)(hpl:(backTo cpos (starEach es X.env)).any (·.1)=false:=by rfl):PS X (.Raise (some (.Call (.Name x np) (e::es) [] cpos)) none pos) (q5E C sp E t):=by
 obtain⟨f,fd,I,F,b⟩:=c.ex
 exact q7X hR hX hc hg c.at_ I F (hr.mono hk) b ha hd he hpl
end
section
variable {σ:St}{H:Hp}{Q:VK}{K:W.Frag}{ta tv:TE}{t:TA}{f:Str}{D:Ends}
theorem q9s {C:Addr}{sp:Sp}{E:XK}(q:t σ H fun vs H1=>vs.length<=sizeLine/\∀e,H1 e=none->sp (.ref e::vs) (upd H1 e (ExcO e C none)) (fun v H2=>v= .non/\∃od,H2 e=some (ExcO e C od)/\E (.ref C) od (del H2 e)) E0):q5E C sp E t D σ H:=q
def rBI (K:W.Frag)(vs:List V)(H1:Hp)(Q:VK):Prop:=∃a C od rest,vs= .ref a::rest/\H1 a=some (ExcO a C od)/\q7l K C/\rest.length<=sizeLine/\Q .non H1
theorem r_bi0 (q:t σ H fun vs H1=>rBI K vs H1 Q):tBI K t σ H Q:=q
theorem r_bi {a C:Addr}{od:Option Addr}{rest:List V}(h:H a=some (ExcO a C od))(c:q7l K C)(l:rest.length<=sizeLine)(q:Q .non H):rBI K (.ref a::rest) H Q:=⟨a,C,od,rest,rfl,h,c,l,q⟩
def rSetX (K:W.Frag)(f:Str)(x y:V)(H2:Hp)(R:Hp->Prop):Prop:=∃e C,x= .ref e/\ExcF K C/\ExcT K C/\PySem.W.findIn K (.ref C) f=some none/\
 ((H2 e=some (ExcO e C none)/\∀d,H2 d=none->d≠e->R (upd (upd (upd H2 d (XdO d [])) e (ExcO e C (some d))) d (XdO d [(f,y)])))\/
  ∃d fs,H2 e=some (ExcO e C (some d))/\H2 d=some (XdO d fs)/\fs.length<900/\R (upd H2 d (XdO d (putF f y fs))))
theorem qbi (q:tv σ H fun y H1=>ta σ H1 fun x H2=>rSetX K f x y H2 fun H3=>D.nx σ H3):sFldX K ta tv f D σ H:=q
def rGetX (K:W.Frag)(f:Str)(x:V)(H1:Hp)(Q:VK):Prop:=∃a oe u C d fs v,x= .ref a/\H1 a=some (.frz oe u)/\oe.cls= .ref C/\oe.dict=some d/\(∃vs,oe.data= .fields vs)/\ExcF K C/\ExcT K C/\PySem.W.findIn K (.ref C) f=some none/\H1 d=some (XdO d fs)/\fs.lookup f=some v/\Q v H1
theorem q7S (q:ta σ H fun x H1=>rGetX K f x H1 Q):tFldX K f ta σ H Q:=q
end
end L2
namespace L2
open PySem PySem.Spec PyProof.Rows
end L2
namespace L2
open PySem PySem.Spec PyProof.Rows
end L2
namespace L2
open PySem PySem.Spec PyProof.Rows
end L2
namespace L2
open PySem PySem.Spec PyProof.Rows
end L2
namespace L2
open PySem PySem.Spec PyProof.Rows
section
variable {κ:Type}[DecidableEq κ]
def valV (kvs:List (κ×V))(k:κ):Option V:=(kvs.find? fun kv=>decide (kv.1=k)).map (·.2)
def putK (kvs:List (κ×V))(k:κ)(v:V):List (κ×V):=
 if (kvs.any fun kv=>decide (kv.1=k))=true then kvs.map (fun kv=>if kv.1=k then(kv.1,v) else kv) else kvs++[(k,v)]
theorem q35 {p:κ×V}{r:List (κ×V)}{k:κ}(e:p.1=k):valV (p::r) k=some p.2:=by simp[valV,List.find?_cons,e]
theorem q36 {p:κ×V}{r:List (κ×V)}{k:κ}(e:¬p.1=k):valV (p::r) k=valV r k:=by simp[valV,List.find?_cons,e]
theorem q37 (k:κ):∀kvs:List (κ×V),(kvs.any fun kv=>decide (kv.1=k))=(valV kvs k).isSome
 |[]=>rfl
 |p::r=>by
  rw[List.any_cons]
  by_cases e:p.1=k
  ·simp only[q35 e,decide_eq_true e,Bool.true_or,Option.isSome_some]
  ·rw [q36 e,decide_eq_false e,Bool.false_or];exact q37 k r
theorem q3v (kvs:List (κ×V))(k:κ)(v:V):(putK kvs k v).length<=kvs.length+1:=by
 unfold putK
 split
 ·rw [yC];omega
 ·rw [List.length_append,List.length_cons,List.length_nil];omega
theorem RelO.isSome_eq {o:Option V}{u:Option Value}(r:RelO o u):o.isSome=u.isSome:=by
 cases o with
 |none=>cases u with
  |none=>rfl
  |some _=>exact(show False from r).elim
 |some _=>cases u with
  |none=>exact(show False from r).elim
  |some _=>rfl
theorem KV.val {kvs:List (κ×V)}{vs:List (κ×Value)}(r:KV kvs vs)(k:κ):RelO (valV kvs k) (valueAt vs k):=by
 unfold KV at r
 induction r with
 |nil=>exact True.intro
 | @cons p q ps qs h t ih=>
  obtain⟨h1,h2⟩:=h
  by_cases e:p.1=k
  ·have e':q.1=k:=h1.symm.trans e
   have b:valueAt (q::qs) k=some q.2:=by simp[valueAt,List.find?_cons,e']
   rw[q35 e,b];exact h2
  ·have e':¬q.1=k:=fun z=>e (h1.trans z)
   have b:valueAt (q::qs) k=valueAt qs k:=by simp[valueAt,List.find?_cons,e']
   rw[q36 e,b];exact ih
theorem KV.any {kvs:List (κ×V)}{vs:List (κ×Value)}(r:KV kvs vs)(k:κ):(kvs.any fun kv=>decide (kv.1=k))=vs.any fun kv=>decide (kv.1=k):=by
 unfold KV at r
 induction r with
 |nil=>rfl
 |cons h t ih=>rw[List.any_cons,List.any_cons,ih,h.1]
theorem KV.repl {kvs:List (κ×V)}{vs:List (κ×Value)}(r:KV kvs vs)(k:κ){y:V}{u:Value}(ry:RelV y u):
  KV (kvs.map fun kv=>if kv.1=k then(kv.1,y) else kv) (vs.map fun kv=>if kv.1=k then(kv.1,u) else kv):=by
 unfold KV at r ⊢
 induction r with
 |nil=>exact .nil
 | @cons p q ps qs h t ih=>
  rw[List.map_cons,List.map_cons]
  refine .cons ?_ ih
  obtain⟨h1,h2⟩:=h
  by_cases e:p.1=k
  ·rw [if_pos e,if_pos (h1.symm.trans e)];exact⟨h1,ry⟩
  ·rw [if_neg e,if_neg (fun z=>e (h1.trans z))];exact⟨h1,h2⟩
theorem KV.put {kvs:List (κ×V)}{vs:List (κ×Value)}(r:KV kvs vs)(k:κ){y:V}{u:Value}(ry:RelV y u):KV (putK kvs k y) (stored vs k u):=by
 unfold putK stored
 rw[r.any k]
 by_cases e:(vs.any fun kv=>decide (kv.1=k))=true
 ·rw [if_pos e,if_pos e];exact r.repl k ry
 ·rw [if_neg e,if_neg e];exact Paired.snoc r ⟨rfl,ry⟩
theorem KV.length {kvs:List (κ×V)}{vs:List (κ×Value)}(r:KV kvs vs):kvs.length=vs.length:=Paired.length r
end
theorem q8s {P:Program}{w:World}{k:Key}{u:Value}(r:RelV (kV k) u):(q0s P w).is k u=true:=by
 cases k with
 |inl i=>obtain⟨t,e⟩:=(show∃t,u=Value.int i t from r);subst e;exact q5S P w i t
 |inr x=>obtain⟨t,e⟩:=(show∃t,u=Value.str x t from r);subst e;exact q5R P w x t
theorem q5m {P:Program}{w:World}:∀{ks:List Key} {us:List Value},Vals (ks.map kV) us->ItemsAre (q0s P w) ks us
 |[],_,r=>by rw[List.map_nil] at r;cases r;exact .nil
 |k::ks,_,r=>by
  rw[List.map_cons] at r
  cases r with
  |cons h t=>exact .cons (q8s h) (q5m t)
abbrev KT (H:Hp):List (List Key×V)->List (List Key×Addr×Value)->Prop:=Paired fun p q=>p.1=q.1/\H q.2.1=some (.tup (p.1.map kV))/\RelV p.2 q.2.2
theorem KT.val {H:Hp}{kvs:List (List Key×V)}{xs:List (List Key×Addr×Value)}(r:KT H kvs xs)(k:List Key):RelO (valV kvs k) ((atKey xs k).map (·.2)):=by
 induction r with
 |nil=>exact True.intro
 | @cons p q ps qs h t ih=>
  obtain⟨h1,_,h2⟩:=h
  by_cases e:p.1=k
  ·have e':q.1=k:=h1.symm.trans e
   have b:atKey (q::qs) k=some q.2:=by simp[atKey,List.find?_cons,e']
   rw[q35 e,b];exact h2
  ·have e':¬q.1=k:=fun z=>e (h1.trans z)
   have b:atKey (q::qs) k=atKey qs k:=by simp[atKey,List.find?_cons,e']
   rw[q36 e,b];exact ih
theorem KT.repl {H:Hp}{kvs:List (List Key×V)}{xs:List (List Key×Addr×Value)}(r:KT H kvs xs)(k:List Key){y:V}{u:Value}(ry:RelV y u):
  KT H (kvs.map fun kv=>if kv.1=k then(kv.1,y) else kv) (xs.map (putAt k u)):=by
 induction r with
 |nil=>exact .nil
 | @cons p q ps qs h t ih=>
  rw[List.map_cons,List.map_cons]
  refine .cons ?_ ih
  obtain⟨h1,h2,h3⟩:=h
  unfold putAt
  by_cases e:p.1=k
  ·rw [if_pos e,if_pos (h1.symm.trans e)];exact⟨h1,h2,ry⟩
  ·rw [if_neg e,if_neg (fun z=>e (h1.trans z))];exact⟨h1,h2,h3⟩
theorem KT.put {H:Hp}{kvs:List (List Key×V)}{xs:List (List Key×Addr×Value)}(r:KT H kvs xs)(k:List Key){b:Addr}{y:V}{u:Value}(hb:H b=some (.tup (k.map kV)))(ry:RelV y u):
  KT H (putK kvs k y) (storedH xs k b u):=by
 have e:(kvs.any fun kv=>decide (kv.1=k))=(atKey xs k).isSome:=by
  rw[q37,(r.val k).isSome_eq,Option.isSome_map]
 unfold putK storedH
 rw[e]
 by_cases q:(atKey xs k).isSome=true
 ·rw [if_pos q,if_pos q];exact r.repl k ry
 ·rw [if_neg q,if_neg q];exact Paired.snoc r ⟨rfl,hb,ry⟩
theorem KT.keeps {H H':Hp}{kvs:List (List Key×V)}{xs:List (List Key×Addr×Value)}(r:KT H kvs xs)(ht:∀b ys,H b=some (.tup ys)->H' b=some (.tup ys)):KT H' kvs xs:=
 Paired.mapP r fun _ _ z=>⟨z.1,ht _ _ z.2.1,z.2.2⟩
section
variable {P:Program}{w:World}{H:Hp}{h:Heap}{a:Addr}
theorem rd_of {u:HO}(ok:HOk P w H h)(e:Rd H a u):q01 P w H h a u:=e.ok ok
theorem q7g {kvs:List (Key×V)}(ok:HOk P w H h)(e:Rd H a (.dK kvs)):kvs.length<=sizeLine/\(a==sysModules)=false/\∃vs,KV kvs vs/\h.DictOf (q0s P w) a vs:=
 show q01 P w H h a (.dK kvs) from rd_of ok e
theorem dk_of {kvs:List (Key×V)}(ok:HOk P w H h)(e:H a=some (.dK kvs)):kvs.length<=sizeLine/\(a==sysModules)=false/\∃vs,KV kvs vs/\h.DictOf (q0s P w) a vs:=q7g ok (.inl e)
theorem q3Z {ks:List Key}(ok:HOk P w H h)(e:H a=some (.tup (ks.map kV))):(tupleKind (q0s P w)).is h ks a:=by
 obtain⟨_,its,r,o,h1,h2,n,h3⟩:=(show q01 P w H h a (.tup (ks.map kV)) from ok a _ e)
 exact⟨o,its.toArray,n,h1,h2,h3,by simpa using q5m r⟩
theorem q7f {kvs:List (List Key×V)}(ok:HOk P w H h)(e:Rd H a (.dT kvs)):kvs.length<=sizeLine/\(a==sysModules)=false/\
  ∃xs,KT H kvs xs/\h.DictOfH (tupleKind (q0s P w)) a xs:=by
 obtain⟨z,y,xs,r,o,es,ep,h1,h2,h3,h4,h5⟩:=(show q01 P w H h a (.dT kvs) from rd_of ok e)
 refine⟨z,y,xs,r,o,es,ep,h1,h2,h3,h4,fun x hx=>?_,h5⟩
 have all:∀{l:List (List Key×V)} {m:List (List Key×Addr×Value)},KT H l m->∀x∈m,(tupleKind (q0s P w)).is h x.1 x.2.1:=by
  intro l m q
  induction q with
  |nil=>intro x hx;exact nomatch hx
  | @cons p q ps qs hq t ih=>
   intro x hx
   rcases List.mem_cons.mp hx with e|hx
   ·subst e
    exact q3Z ok (by rw[<-hq.1];exact hq.2.1)
   ·exact ih x hx
 exact all r x hx
theorem dt_of {kvs:List (List Key×V)}(ok:HOk P w H h)(e:H a=some (.dT kvs)):kvs.length<=sizeLine/\(a==sysModules)=false/\
  ∃xs,KT H kvs xs/\h.DictOfH (tupleKind (q0s P w)) a xs:=q7f ok (.inl e)
end
def DGet (H:Hp)(a:Addr)(y:V)(r:Option V):Prop:=
 (∃kvs k,Rd H a (.dK kvs)/\y=kV k/\r=valV kvs k)\/∃kvs k b,Rd H a (.dT kvs)/\y= .ref b/\H b=some (.tup (k.map kV))/\r=valV kvs k
def DPut (H:Hp)(a:Addr)(y v:V)(H':Hp):Prop:=
 (∃kvs k,H a=some (.dK kvs)/\y=kV k/\kvs.length<sizeLine/\H'=upd H a (.dK (putK kvs k v)))\/
 ∃kvs k b,H a=some (.dT kvs)/\y= .ref b/\H b=some (.tup (k.map kV))/\kvs.length<sizeLine/\H'=upd H a (.dT (putK kvs k v))
theorem DPut.t {H:Hp}{a b:Addr}{kvs:List (List Key×V)}{k:List Key}{v:V}(e:H a=some (.dT kvs))(eb:H b=some (.tup (k.map kV)))(hl:kvs.length<sizeLine):
  DPut H a (.ref b) v (upd H a (.dT (putK kvs k v))):= .inr ⟨kvs,k,b,e,rfl,eb,hl,rfl⟩
section
variable {X:Cx}{pins:List (Addr×Obj)}{σ:St}{H:Hp}{s:Shared}{a:Addr}{y v:V}{u r:Value}{o:Option V}{A:Around}{E:Value->Shared->Prop}
theorem Inv.big (I:Inv X pins σ H s):sysModules<s.heap.objs.size:=by
 have h:mainGlobals<s.heap.objs.size:=(I.mod.glob.keeps I.bk).lt
 exact Nat.lt_trans (by decide) h
theorem q8S {Q:Value->Shared->Prop}(hu:A.units+1<cLine)(I:Inv X pins σ H s)(g:DGet H a y (some v))(ry:RelV y u)(h:∀w' s',Inv X pins σ H s'->RelV v w'->Q w' s'):
  wpAny (model X.prog X.w) A (getItem (.ref a) u) Q E s:=by
 rcases g with⟨kvs,k,e,ey,l⟩|⟨kvs,k,b,e,ey,eb,l⟩
 ·subst ey
  obtain⟨z,hd,vs,rel,dd⟩:=q7g I.hok e
  obtain⟨w',hw,rw'⟩:=RelO.some_of (v:=v) (o:=valueAt vs k) (by rw[l];exact rel.val k)
  exact wpAny_getItem_of (q8s ry) dd.mapOf hw (h w' _ (I.tok _) rw')
 ·subst ey
  cases(show u=Value.ref b from ry)
  obtain⟨z,hd,xs,rel,dd⟩:=q7f I.hok e
  obtain⟨w',hw,rw'⟩:=RelO.some_of (v:=v) (o:=(atKey xs k).map (·.2)) (by rw[l];exact rel.val k)
  obtain⟨p,hp,hp2⟩:=Option.map_eq_some_iff.mp hw
  refine wpAny_getItem_heap (tupleKind_room_in1 hu) (q3Z I.hok eb) dd hp ?_
  rw[hp2]
  exact h w' _ (I.tok _) rw'
theorem qcs {Q:Value->Shared->Prop}(hu:A.units+1<cLine)(I:Inv X pins σ H s)(g:DGet H a y o)(ry:RelV y u)(h:∀s',Inv X pins σ H s'->Q (.bool (!o.isSome)) s'):
  wpAny (model X.prog X.w) A (compareOp .NotIn u (.ref a)) Q E s:=by
 rcases g with⟨kvs,k,e,ey,l⟩|⟨kvs,k,b,e,ey,eb,l⟩
 ·subst ey
  obtain⟨z,hd,vs,rel,dd⟩:=q7g I.hok e
  refine wpAny_notIn_of (q8s ry) hd dd.mapOf ?_
  rw[<-(rel.val k).isSome_eq,<-l]
  exact h _ (I.tok _)
 ·subst ey
  cases(show u=Value.ref b from ry)
  obtain⟨z,hd,xs,rel,dd⟩:=q7f I.hok e
  refine wpAny_notIn_heap (tupleKind_room_in1 hu) (q3Z I.hok eb) hd dd ?_
  have q:=(rel.val k).isSome_eq
  rw[Option.isSome_map] at q
  rw[<-q,<-l]
  exact h _ (I.tok _)
theorem q63 {h':Heap}{t':Nat}{ob:HO}(I:Inv X pins σ H s)(mu:Mut (H a))(hs:Heap.SameBut a s.heap h')(he:∃q,h'.get? a=some q)(new:q01 X.prog X.w (upd H a ob) h' a ob):
  Inv X pins σ (upd H a ob) {s with heap:=h',toks:=t'}:=
 I.write (x:=a) (e:=a) mu (.inl rfl) (fun b q hb z=>(hs.2 b hb).trans z) he new
theorem dk_new {P:Program}{w:World}{H':Hp}{h':Heap}{kvs:List (Key×V)}{vs:List (Key×Value)}(z:kvs.length<=sizeLine)(hd:(a==sysModules)=false)(rel:KV kvs vs)(dd:h'.DictOf (q0s P w) a vs):
  q01 P w H' h' a (.dK kvs):=⟨z,hd,vs,rel,dd⟩
theorem q8R {H':Hp}{Q:Unit->Shared->Prop}(hu:A.units+1<cLine)(I:Inv X pins σ H s)(g:DPut H a y v H')(ry:RelV y u)(rv:RelV v r)(h:∀s',Inv X pins σ H' s'->Q () s'):
  wpAny (model X.prog X.w) A (setItem (.ref a) u r) Q E s:=by
 rcases g with⟨kvs,k,e,ey,l,eH⟩|⟨kvs,k,b,e,ey,eb,l,eH⟩
 ·subst ey eH
  obtain⟨z,hd,vs,rel,dd⟩:=dk_of I.hok e
  have hz:vs.length<=sizeLine:=by rw[<-rel.length];exact z
  have hl:(putK kvs k v).length<=sizeLine:=by have:=q3v kvs k v;omega
  refine wpAny_setItem_pairs (hsz:=hz) (q8s ry) dd fun h' dd' hs=>h _ ?_
  have he:∃q,h'.get? a=some q:=let ⟨q,_,_,hq,_⟩:=dd';⟨q,hq⟩
  exact q63 I (by rw[e];exact True.intro) hs he (dk_new hl hd (rel.put k rv) dd')
 ·subst ey eH
  cases(show u=Value.ref b from ry)
  obtain⟨z,hd,xs,rel,dd⟩:=dt_of I.hok e
  have hz:xs.length<=sizeLine:=by rw[<-Paired.length rel];exact z
  have hl:(putK kvs k v).length<=sizeLine:=by have:=q3v kvs k v;omega
  refine wpAny_setItem_heap (hsz:=hz) (tupleKind_room_in1 hu) (q3Z I.hok eb) dd fun h' dd' hs=>h _ ?_
  obtain⟨q,es,ep,hq,h2,h3,h4,_,h5⟩:=dd'
  refine q63 I (by rw[e];exact True.intro) hs ⟨q,hq⟩ ⟨hl,hd,_,(rel.put k eb rv).keeps fun c ys ec=>?_,q,es,ep,hq,h2,h3,h4,h5⟩
  rw[ql (q2o ec e (fun z=>nomatch z))]
  exact ec
end
def NoSl (i:Expr):Prop:=∀ov iv,subscripted i false ov iv=operate [ov,iv] (getItem ov iv)
theorem qb6 {prog:Program}{w:World}{A:Around}{E:Value->Shared->Prop}{s:Shared}{env:Env}{value slice:Expr}{pos:Pos}{T id:String}{Q:Value->Shared->Prop}
  (hl:typeLookup (.type T) "__getitem__"=pure (some (.builtin id)))(hs:NoSl slice)
  (h:wpAny (model prog w) A (eval value env) (fun o s₁=>wpAny (model prog w) A (eval slice env) (fun i s₂=>s₂.TypeIs o T/\wpAny (model prog w) A (getItem o i) Q E s₂) E s₁) E s):
  wpAny (model prog w) A (eval (.Subscript value slice pos) env) Q E s:=by
 refine Subscript_ (wpAny_mono h (fun o s₁ h₁=>wpAny_mono h₁ (fun i s₂ h₂=>?_) fun _ _ x=>x) fun _ _ x=>x)
 obtain⟨hT,h₂⟩:=h₂
 unfold subscriptTail
 refine yD ?_
 rw[getitemInPython_of_ne hT.not_modules]
 refine yD (wpAny_specialOf hT hl ?_)
 have fin:wpAny (model prog w) A (subscripted slice false o i) (fun r s₃=>wpAny (model prog w) A (letTemporaryGo value o r >>= fun _=>pure r) Q E s₃) E s₂:=by
  rw[hs o i]
  exact wpAny_operating (wpAny_mono h₂ (fun r s₃ h₃=>yD (wpAny_letTemporaryGo (wpAny_pure h₃))) fun _ _ x=>x)
 first
  |exact wpAny_pure (yD fin)
  |exact yD (wpAny_pure (yD fin))
  |exact yD fin
theorem q62 {X:Cx}{pins:List (Addr×Obj)}{σ:St}{H:Hp}{s:Shared}{a:Addr}{y:V}{o:Option V}(I:Inv X pins σ H s)(g:DGet H a y o):s.TypeIs (.ref a) "dict":=by
 rcases g with⟨kvs,k,e,_,_⟩|⟨kvs,k,b,e,_,_,_⟩
 ·obtain ⟨_,_,vs,_,dd⟩:=q7g I.hok e
  exact dd.typeIs
 ·obtain ⟨_,_,xs,_,dd⟩:=q7f I.hok e
  exact dd.typeIs
def tDGet (td ty:TE):TE:=fun σ H Q=>td σ H fun x H1=>ty σ H1 fun y H2=>∃a v,x= .ref a/\DGet H2 a y (some v)/\Q v H2
def q7w (ty td:TE):TE:=fun σ H Q=>ty σ H fun y H1=>td σ H1 fun x H2=>∃a o,x= .ref a/\DGet H2 a y o/\Q (.bl (!o.isSome)) H2
def sDPut (td ty tv:TE):TS:=fun D σ H=>tv σ H fun v H1=>td σ H1 fun x H2=>ty σ H2 fun y H3=>∃a H4,x= .ref a/\DPut H3 a y v H4/\D.nx σ H4
section
variable {X:Cx}{o i e value:Expr}{pos pos' tpos:Pos}{td ty tv:TE}
theorem q2N (hu:X.A.units+1<cLine)(ho:PE X o td)(hi:PE X i ty)(hs:NoSl i):PE X (.Subscript o i pos) (tDGet td ty):=by
 intro pins s σ H Q I h
 refine qb6 PySem.F.slot_dict_getitem.lookup hs (thn (ho pins s σ H _ I h) fun u s1 ⟨x,H1,I1,rx,q1⟩=>thn (hi pins s1 σ H1 _ I1 q1) fun iv s2 ⟨y,H2,I2,ry,a,v,ex,g,q2⟩=>?_)
 subst ex
 obtain rfl:u=Value.ref a:=rx
 exact⟨q62 I2 g,q8S hu I2 g ry fun w' s3 I3 rw'=>⟨v,H2,I3,rw',q2⟩⟩
theorem q2C (hu:X.A.units+1<cLine)(hi:PE X i ty)(ho:PE X o td):PC X .NotIn i o (q7w ty td):=by
 intro pins s σ H Q I h
 refine thn (hi pins s σ H _ I h) fun iv s1 ⟨y,H1,I1,ry,q1⟩=>thn (ho pins s1 σ H1 _ I1 q1) fun u s2 ⟨x,H2,I2,rx,a,ov,ex,g,q2⟩=>?_
 subst ex
 obtain rfl:u=Value.ref a:=rx
 exact qcs hu I2 g ry fun s3 I3=>⟨.bl (!ov.isSome),H2,I3,rfl,q2⟩
theorem q2m (hu:X.A.units+1<cLine)(ho:PE X o td)(hi:PE X i ty)(hv:PE X value tv)(hs:swapsWith value (some (.Subscript o i pos')) pos.line X.env=pure false):
  PS X (.Assign [.Subscript o i pos'] value pos) (sDPut td ty tv):=by
 intro pins s σ H D I h
 refine wpAny_Assign_Subscript (thn (hv pins s σ H _ I h) fun r s1 ⟨v,H1,I1,rv,q1⟩=>thn (ho pins s1 σ H1 _ I1 q1) fun u s2 ⟨x,H2,I2,rx,q2⟩=>thn (hi pins s2 σ H2 _ I2 q2) fun iv s3 ⟨y,H3,I3,ry,a,H4,ex,g,q3⟩=>?_) hs
 subst ex
 obtain rfl:u=Value.ref a:=rx
 exact q8R hu I3 g ry rv fun s4 I4=>⟨σ,H4,I4,q3⟩
end
theorem q6F {P:Program}{w:World}{H:Hp}(h:Heap)(hb:sysModules<h.objs.size):q01 P w H (h.push {cls:= .type "dict",data:= .dict #[]}) h.objs.size (.dT []):=
 ⟨Nat.zero_le _,beq_eq_false_iff_ne.mpr (Ne.symm (Nat.ne_of_lt hb)),[],.nil,_,#[],0,Heap.get?_push_size _ rfl,⟨rfl,rfl,rfl⟩,rfl,rfl,List.nodup_nil⟩
def qat:TE:=fun _ H Q=>∀p,H p=none->Q (.ref p) (upd H p (.dT []))
section
variable {X:Cx}{pos:Pos}
theorem q4j:PE X (.Dict [] [] pos) qat:=fun pins s σ H Q I h=>
 wpAny_Dict_empty ⟨.ref s.heap.objs.size,_,I.laid (a:=s.heap.objs.size) (o:= .dT []) (t':=s.toks) (fun _ _ q=>Heap.get?_push_of_some _ q) (Nat.le_refl _) (q6F s.heap I.big),rfl,h _ (I.hok.fresh (Nat.le_refl _))⟩
end
def qar:List (TE×TE)->St->Hp->(List (V×V)->Hp->Prop)->Prop
 |[],_,H,Q=>Q [] H
 |(tk,tv)::r,σ,H,Q=>tk σ H fun x H1=>tv σ H1 fun y H2=>qar r σ H2 fun ps H3=>Q ((x,y)::ps) H3
abbrev VV:List (V×V)->List (Value×Value)->Prop:=Paired fun p q=>RelV p.1 q.1/\RelV p.2 q.2
def PPs (X:Cx)(pos:Pos)(keys:List (Option Expr))(values:List Expr)(trs:List (TE×TE)):Prop:=
 ∀(pins:List (Addr×Obj)) (s:Shared) (σ:St) (H:Hp) (Q:List (V×V)->Hp->Prop),Inv X pins σ H s->qar trs σ H Q->
  wpAny (model X.prog X.w) X.A (evalPairs (pairTrees keys values X.env pos)) (fun vs s'=>∃ps H',Inv X pins σ H' s'/\VV ps vs/\Q ps H') X.xe s
theorem qbu {X:Cx}{pos:Pos}:PPs X pos [] [] []:=fun pins s σ H Q I h=>pairTrees_nil_walk ⟨[],H,I,.nil,h⟩
theorem q9z {X:Cx}{pos:Pos}{k v:Expr}{ks:List (Option Expr)}{vs:List Expr}{tk tv:TE}{trs:List (TE×TE)}(hk:PE X k tk)(hv:PE X v tv)(hr:PPs X pos ks vs trs):
  PPs X pos (some k::ks) (v::vs) ((tk,tv)::trs):=fun pins s σ H Q I h=>
 pairTrees_cons_walk (thn (hk pins s σ H _ I h) fun u s1 ⟨x,H1,I1,rx,q1⟩=>thn (hv pins s1 σ H1 _ I1 q1) fun w2 s2 ⟨y,H2,I2,ry,q2⟩=>
  thn (hr pins s2 σ H2 _ I2 q2) fun ws s3 ⟨ps,H3,I3,rel,q3⟩=>⟨(x,y)::ps,H3,I3,.cons ⟨rx,ry⟩ rel,q3⟩)
end L2
namespace Att
open PySem PySem.W PySem.Calls PyProof.Rows
end Att
namespace L2
open PySem PySem.Spec PyProof.Rows
end L2
namespace L2
open PySem PySem.Spec PyProof.Rows
end L2
namespace DI
open PySem PyProof.Rows
section
variable {prog:Program}{w:World}{A:Around}{E:Value->Shared->Prop}{s:Shared}{d it v:Addr}{o:Obj}{es:Array DictEntry}{ep i:Nat}
theorem ty (ho:s.heap.get? d=some o)(hx:o.ExactDict):s.TypeIs (.ref d) "dict":=⟨o,ho,hx.1⟩
theorem keys {Q:Value->Shared->Prop}(hd:(d==sysModules)=false)(ho:s.heap.get? d=some o)(hx:o.ExactDict)(hdat:o.data= .dict es ep)
  (hQ:Q (.ref s.heap.objs.size) {s with heap:=s.heap.push {cls:= .type "dict_keyiterator",data:= .fields #[.ref d,.int 0 0,.int es.size 0,.int ep 0]}}):wpAny (model prog w) A (pyIter (.ref d)) Q E s:=by
 have hT:=ty ho hx
 refine wpAny_pyIter_slot hT F.slot_dict_iter (wpAny_call_entry F.slot_dict_iter hT F.entry_dict_iter ?_ (F.args_dict_iter_1 _))
 unfold Builtin.«dict.__iter__» Builtin.Dict.dictSlotNone Builtin.Dict.showsAll
 refine yD (yD (wpAny_notOrdered_dict hT (wpAny_pure (yD ?_))))
 refine wpAny_pure (yD ?_)
 dsimp only
 rw[if_neg (by intro z;rw[hd] at z;cases z)]
 refine wpAny_pure (yD (wpAny_dictEntries ho hdat (yD (wpAny_dictEpoch ho hdat ?_))))
 refine yD (wpAny_newObj_type (wpAny_pure ⟨_,rfl,"dict_keyiterator",_,⟨_,Heap.get?_push_size _ rfl,rfl⟩,F.slot_dict_keyiterator_next.lookup,?_⟩))
 simpa[rawInt] using hQ
theorem qc2 {Q:Option Value->Shared->Prop}(hit:s.heap.IsKeyIter it d i es.size ep)(ho:s.heap.get? d=some o)(hdat:o.data= .dict es ep)(hi:i<es.size)
  (hQ:∀h',h'.IsKeyIter it d (i+1) es.size ep->Heap.SameBut it s.heap h'->Q (some es[i].key) {s with heap:=h'}):wpAny (model prog w) A (pyNext (.ref it)) Q E s:=by
 obtain⟨oi,hoi,hc,hf⟩:=id hit
 have hT:=hit.typeIs
 unfold pyNext
 refine yD (wpAny_attempt (wpAny_callSpecial?_slot (name:=Str.ofString "__next__") hT F.slot_dict_keyiterator_next (wpAny_call_entry F.slot_dict_keyiterator_next hT F.entry_dict_keyiterator_next ?_ (F.args_dict_keyiterator_next_1 _))))
 refine yD (wpAny_pure (yD (yD ?_)))
 first|refine yD (wpAny_typeNameOfWhole_keyiter hT (wpAny_pure (yD (wpAny_fieldsOf hoi hf ?_))))|refine yD (wpAny_typeNameOf_keyiter hT (wpAny_pure (yD (wpAny_fieldsOf hoi hf ?_))))
 simp only[show Builtin.Dict_items.ownsTuple "dict_keyiterator"=false by decide,Bool.false_eq_true,if_false]
 show wpAny _ _ (if (Value.ref d==Value.none)=true then _ else _) _ _ s
 rw[if_neg (by exact Bool.false_ne_true)]
 refine yD (wpAny_pure (yD (wpAny_dictEntries ho hdat ?_)))
 rw[if_neg (by simp)]
 refine yD (wpAny_pure (yD (wpAny_dictEpoch ho hdat ?_)))
 rw[if_neg (by simp)]
 refine wpAny_pure ?_
 simp only[show¬((i:Int)<0) by omega,if_false,Int.toNat_natCast,Array.getElem?_eq_getElem hi]
 refine yD ?_
 first|refine yD (wpAny_typeNameOfWhole_keyiter hT (wpAny_pure (yD (wpAny_isOneOf_keyiter hT ?_))))|refine yD (wpAny_typeNameOf_keyiter hT (wpAny_pure (yD (wpAny_isOneOf_keyiter hT ?_))))
 show wpAny _ _ (setField (.ref it) 1 (rawInt ((i:Int)+1)) >>= _) _ _ s
 refine yD (wpAny_setField hoi hf (by simp) ?_)
 have hit':(s.heap.update it (Obj.mapFields (·.setIfInBounds 1 (rawInt ((i:Int)+1))))).IsKeyIter it d (i+1) es.size ep:=
  ⟨_,Heap.get?_update_self _ hoi (Obj.isFreed_of_fields (Obj.data_mapFields hf _)),(Obj.cls_mapFields ..).trans hc,by rw[Obj.data_mapFields hf];simp[rawInt]⟩
 refine yD (wpAny_holding (yD (wpAny_isOneOf_keyiter (s:={s with heap:=s.heap.update it (Obj.mapFields (·.setIfInBounds 1 (rawInt ((i:Int)+1))))}) hit'.typeIs ?_)))
 show wpAny _ _ (pure es[i].key) _ _ _
 exact wpAny_pure (wpAny_pure ⟨_,rfl,wpAny_pure (hQ _ hit' (Heap.SameBut.update ..))⟩)
theorem keyEnd {Q:Option Value->Shared->Prop}(hh:A.handled=none)(hit:s.heap.IsKeyIter it d i es.size ep)(ho:s.heap.get? d=some o)(hdat:o.data= .dict es ep)(hi:es.size<=i)
  (hQ:∀h',Heap.ExtBut it s.heap h'->Q none {s with heap:=h'}):wpAny (model prog w) A (pyNext (.ref it)) Q E s:=by
 obtain⟨oi,hoi,hc,hf⟩:=id hit
 have hT:=hit.typeIs
 unfold pyNext
 refine yD (wpAny_attempt (wpAny_callSpecial?_slot (name:=Str.ofString "__next__") hT F.slot_dict_keyiterator_next (wpAny_call_entry F.slot_dict_keyiterator_next hT F.entry_dict_keyiterator_next ?_ (F.args_dict_keyiterator_next_1 _))))
 refine yD (wpAny_pure (yD (yD ?_)))
 first|refine yD (wpAny_typeNameOfWhole_keyiter hT (wpAny_pure (yD (wpAny_fieldsOf hoi hf ?_))))|refine yD (wpAny_typeNameOf_keyiter hT (wpAny_pure (yD (wpAny_fieldsOf hoi hf ?_))))
 simp only[show Builtin.Dict_items.ownsTuple "dict_keyiterator"=false by decide,Bool.false_eq_true,if_false]
 show wpAny _ _ (if (Value.ref d==Value.none)=true then _ else _) _ _ s
 rw[if_neg (by exact Bool.false_ne_true)]
 refine yD (wpAny_pure (yD (wpAny_dictEntries ho hdat ?_)))
 rw[if_neg (by simp)]
 refine yD (wpAny_pure (yD (wpAny_dictEpoch ho hdat ?_)))
 rw[if_neg (by simp)]
 refine wpAny_pure ?_
 simp only[show¬((i:Int)<0) by omega,if_false,Int.toNat_natCast,Array.getElem?_eq_none hi]
 refine yD ?_
 first|refine yD (wpAny_typeNameOfWhole_keyiter hT (wpAny_pure ?_))|refine yD (wpAny_typeNameOf_keyiter hT (wpAny_pure ?_))
 show wpAny _ _ (setField (.ref it) 0 .none >>= _) _ _ s
 refine yD (wpAny_setField hoi hf (by simp) ?_)
 show wpAny _ _ (newExc (.type "StopIteration") [] >>= _) _ _ _
 refine yD ?_
 simp only[newExc,newTuple]
 refine yD (wpAny_newObj_type (yD (m:=firstArgMember _ _) (wpAny_of_eq (a:=Value.none) (by first|rfl|(simp only[firstArgMember];rfl)) (wpAny_newObj_type ?_ (by size_fits)))) (by size_fits))
 simp only[raiseNew]
 refine yD (wpAny_handled ?_)
 rw[show A.in1.handled=none from hh]
 refine yD (wpAny_pure (wpAny_throw ?_))
 refine yD (wpAny_isInstance (b:=true) (T:="StopIteration") ⟨_,Heap.get?_push_size _ rfl,rfl⟩ isSubtype_stop ?_)
 exact wpAny_pure (hQ _ (((Heap.SameBut.update ..).extBut.push _).push _))
theorem view (d:Addr)(hd:(d==sysModules)=false):MeetsIn prog w (Builtin.«dict.items» ⟨[.ref d],[]⟩) (fun _ R s=>(∃o,s.heap.get? d=some o/\o.ExactDict)/\
   R (.ok (.ret (.ref s.heap.objs.size))) {s with heap:=s.heap.push {cls:= .type "dict_items",data:= .fields #[.ref d]}}):=
 .of_wp fun A R s ⟨⟨o,ho,hx⟩,h⟩=>by
  unfold Builtin.«dict.items» Builtin.Dict.noArgs Builtin.Dict.showsAll
  refine yD (yD (wpAny_notOrdered_dict (ty ho hx) (wpAny_pure (yD ?_))))
  rw[if_neg (by intro z;rw[hd] at z;cases z)]
  exact wpAny_pure (yD (wpAny_newObj_type (wpAny_pure ⟨_,rfl,h⟩)))
theorem items {Q:Value->Shared->Prop}(hv:s.heap.IsItemsView v d)(ho:s.heap.get? d=some o)(hdat:o.data= .dict es ep)
  (hQ:Q (.ref s.heap.objs.size) {s with heap:=s.heap.push {cls:= .type "dict_itemiterator",data:= .fields #[.none,.bool false,.ref d,.int 0 0,.int es.size 0,.int ep 0,.none,.none]}}):wpAny (model prog w) A (pyIter (.ref v)) Q E s:=by
 obtain⟨ov,hov,hcv,hdv⟩:=id hv
 refine wpAny_pyIter_slot hv.typeIs F.slot_dict_items_iter (wpAny_call_entry F.slot_dict_items_iter hv.typeIs F.entry_dict_items_iter ?_ (F.args_dict_items_iter_1 _))
 unfold Builtin.«dict_items.__iter__» Builtin.Dict_items.dictOf Builtin.Dict_items.newIterator
 refine yD (wpAny_pure (yD (yD (wpAny_field hov hdv (x:= .ref d) rfl (wpAny_pure ?_)))))
 refine yD (yD (wpAny_dictEntries ho hdat (yD (wpAny_dictEpoch ho hdat ?_))))
 simp only[show Builtin.Dict_items.ownsTuple "dict_itemiterator"=true by decide,if_true]
 refine wpAny_newObj_type (wpAny_pure ⟨_,rfl,"dict_itemiterator",_,⟨_,Heap.get?_push_size _ rfl,rfl⟩,F.slot_dict_itemiterator_next.lookup,?_⟩)
  (by simp only[sizeOk,Builtin.Dict_items.ownedTupleFields,List.size_toArray,List.length_append,List.length_cons,List.length_nil,sizeLine_eq];omega)
 simpa[rawInt,Builtin.Dict_items.ownedTupleFields] using hQ
theorem qa9 {ok ov:Value}{Q:Option Value->Shared->Prop}(hit:IsItemIter s.heap it d i es.size ep ok ov)(ho:s.heap.get? d=some o)(hdat:o.data= .dict es ep)(hi:i<es.size)
  (hQ:∀h',IsItemIterOut h' it d (i+1) es.size ep es[i].key es[i].val s.heap.objs.size->h'.get? s.heap.objs.size=some {cls:= .type "tuple",data:= .seq #[es[i].key,es[i].val]}->
   (∀b o,b≠it->s.heap.get? b=some o->h'.get? b=some o)->Q (some (.ref s.heap.objs.size)) {s with heap:=h'}):wpAny (model prog w) A (pyNext (.ref it)) Q E s:=by
 obtain⟨hp,g,dr,tk,os⟩:=s
 have hT:Shared.TypeIs ⟨hp,g,dr,tk,os⟩ (.ref it) "dict_itemiterator":=⟨_,hit,rfl⟩
 unfold pyNext
 refine yD (wpAny_attempt (wpAny_callSpecial?_slot (name:=Str.ofString "__next__") hT F.slot_dict_itemiterator_next (wpAny_call_entry F.slot_dict_itemiterator_next hT F.entry_dict_itemiterator_next ?_ (F.args_dict_itemiterator_next_1 _))))
 refine yD (wpAny_pure (yD (yD ?_)))
 first|refine yD (wpAny_typeNameOfWhole_itemiter hT (wpAny_pure (yD (wpAny_fieldsOf hit rfl ?_))))|refine yD (wpAny_typeNameOf_itemiter hT (wpAny_pure (yD (wpAny_fieldsOf hit rfl ?_))))
 simp only[show Builtin.Dict_items.ownsTuple "dict_itemiterator"=true by decide,if_true]
 show wpAny _ _ (if (Value.ref d==Value.none)=true then _ else _) _ _ _
 rw[if_neg (by exact Bool.false_ne_true)]
 refine yD (wpAny_pure (yD (wpAny_dictEntries ho hdat ?_)))
 rw[if_neg (by simp)]
 refine yD (wpAny_pure (yD (wpAny_dictEpoch ho hdat ?_)))
 rw[if_neg (by simp)]
 refine wpAny_pure ?_
 simp only[show¬((i:Int)<0) by omega,if_false,Int.toNat_natCast,Array.getElem?_eq_getElem hi]
 refine yD ?_
 first|refine yD (wpAny_typeNameOfWhole_itemiter hT (wpAny_pure (yD (wpAny_isOneOf_itemiter hT ?_))))|refine yD (wpAny_typeNameOf_itemiter hT (wpAny_pure (yD (wpAny_isOneOf_itemiter hT ?_))))
 show wpAny _ _ (setField (.ref it) 3 (rawInt ((i:Int)+1)) >>= _) _ _ _
 refine yD (wpAny_setField_rec hit (by simp) fun h1 e1 b1=>?_)
 replace b1:Heap.SameBut it hp h1:=b1
 replace e1:IsItemIter h1 it d (i+1) es.size ep ok ov:=by
  unfold IsItemIter
  rw[show((i+1:Nat):Int)=(i:Int)+1 by omega]
  simpa[rawInt] using e1
 have T1:Shared.TypeIs ⟨h1,g,dr,tk,os⟩ (.ref it) "dict_itemiterator":=⟨_,e1,rfl⟩
 refine yD (wpAny_holding (yD (wpAny_isOneOf_itemiter T1 (yD (wpAny_isOneOf_itemiter T1 ?_)))))
 show wpAny _ _ (Builtin.Dict_items.pairFromOwner (.ref it) 6 es[i].key es[i].val) _ _ _
 unfold Builtin.Dict_items.pairFromOwner
 refine yD (wpAny_newTuple ?_)
 have z1:h1.objs.size=hp.objs.size:=b1.1
 have lt:it<hp.objs.size:=Heap.lt_size hit
 have ne:hp.objs.size≠it:=Nat.ne_of_gt lt
 obtain⟨h2,eh2⟩:∃h2,h2=h1.push {cls:= .type "tuple",data:= .seq #[es[i].key,es[i].val]}:=⟨_,rfl⟩
 have e2:IsItemIter h2 it d (i+1) es.size ep ok ov:=by rw[eh2];exact Heap.get?_push_of_some _ e1
 have t2:h2.get? hp.objs.size=some {cls:= .type "tuple",data:= .seq #[es[i].key,es[i].val]}:=by rw[eh2,<-z1];exact Heap.get?_push_size _ rfl
 have k2:∀b o,b≠it->hp.get? b=some o->h2.get? b=some o:=fun b o hb e=>by rw[eh2];exact Heap.get?_push_of_some _ (b1.extBut b o hb e)
 show wpAny _ _ (Builtin.Dict_items.ownedTupleIsFree (.ref it) >>= _) _ _ ⟨h1.push _,g,dr,tk,os⟩
 rw[z1,<-eh2]
 refine yD ?_
 unfold Builtin.Dict_items.ownedTupleIsFree
 refine yD (wpAny_field e2 rfl (x:= .none) rfl (wpAny_pure ?_))
 simp only[if_true]
 refine yD (wpAny_field e2 rfl (x:=ok) rfl (yD (wpAny_field e2 rfl (x:=ov) rfl (yD (wpAny_setField_rec e2 (by simp) fun h3 e3 b3=>?_)))))
 replace b3:Heap.SameBut it h2 h3:=b3
 replace e3:IsItemIter h3 it d (i+1) es.size ep es[i].key ov:=e3
 refine yD (wpAny_setField_rec e3 (by simp) fun h4 e4 b4=>?_)
 replace b4:Heap.SameBut it h3 h4:=b4
 replace e4:IsItemIter h4 it d (i+1) es.size ep es[i].key es[i].val:=e4
 refine yD (wpAny_setField_rec e4 (by simp) fun h5 e5 b5=>?_)
 replace b5:Heap.SameBut it h4 h5:=b5
 replace e5:IsItemIterOut h5 it d (i+1) es.size ep es[i].key es[i].val hp.objs.size:=e5
 refine yD (wpAny_setField_rec e5 (by simp) fun h6 e6 b6=>?_)
 replace b6:Heap.SameBut it h5 h6:=b6
 replace e6:IsItemIterOut h6 it d (i+1) es.size ep es[i].key es[i].val hp.objs.size:=e6
 have kk:∀b o,b≠it->h2.get? b=some o->h6.get? b=some o:=fun b o hb e=>b6.extBut b o hb (b5.extBut b o hb (b4.extBut b o hb (b3.extBut b o hb e)))
 exact yD (wpAny_letGo (wpAny_pure (wpAny_pure ⟨_,rfl,wpAny_pure (hQ h6 e6 (kk _ _ ne t2) fun b o hb e=>kk b o hb (k2 b o hb e))⟩)))
theorem qc4 {ok ov:Value}{Q:Option Value->Shared->Prop}(hh:A.handled=none)(hit:IsItemIter s.heap it d i es.size ep ok ov)(ho:s.heap.get? d=some o)(hdat:o.data= .dict es ep)(hi:es.size<=i)
  (hQ:∀h',Heap.ExtBut it s.heap h'->Q none {s with heap:=h'}):wpAny (model prog w) A (pyNext (.ref it)) Q E s:=by
 have hT:s.TypeIs (.ref it) "dict_itemiterator":=⟨_,hit,rfl⟩
 unfold pyNext
 refine yD (wpAny_attempt (wpAny_callSpecial?_slot (name:=Str.ofString "__next__") hT F.slot_dict_itemiterator_next (wpAny_call_entry F.slot_dict_itemiterator_next hT F.entry_dict_itemiterator_next ?_ (F.args_dict_itemiterator_next_1 _))))
 refine yD (wpAny_pure (yD (yD ?_)))
 first|refine yD (wpAny_typeNameOfWhole_itemiter hT (wpAny_pure (yD (wpAny_fieldsOf hit rfl ?_))))|refine yD (wpAny_typeNameOf_itemiter hT (wpAny_pure (yD (wpAny_fieldsOf hit rfl ?_))))
 simp only[show Builtin.Dict_items.ownsTuple "dict_itemiterator"=true by decide,if_true]
 show wpAny _ _ (if (Value.ref d==Value.none)=true then _ else _) _ _ s
 rw[if_neg (by exact Bool.false_ne_true)]
 refine yD (wpAny_pure (yD (wpAny_dictEntries ho hdat ?_)))
 rw[if_neg (by simp)]
 refine yD (wpAny_pure (yD (wpAny_dictEpoch ho hdat ?_)))
 rw[if_neg (by simp)]
 refine wpAny_pure ?_
 simp only[show¬((i:Int)<0) by omega,if_false,Int.toNat_natCast,Array.getElem?_eq_none hi]
 refine yD ?_
 first|refine yD (wpAny_typeNameOfWhole_itemiter hT (wpAny_pure ?_))|refine yD (wpAny_typeNameOf_itemiter hT (wpAny_pure ?_))
 show wpAny _ _ (setField (.ref it) 2 .none >>= _) _ _ s
 refine yD (wpAny_setField hit rfl (by simp) ?_)
 show wpAny _ _ (newExc (.type "StopIteration") [] >>= _) _ _ _
 refine yD ?_
 simp only[newExc,newTuple]
 refine yD (wpAny_newObj_type (yD (m:=firstArgMember _ _) (wpAny_of_eq (a:=Value.none) (by first|rfl|(simp only[firstArgMember];rfl)) (wpAny_newObj_type ?_ (by size_fits)))) (by size_fits))
 simp only[raiseNew]
 refine yD (wpAny_handled ?_)
 rw[show A.in1.handled=none from hh]
 refine yD (wpAny_pure (wpAny_throw ?_))
 refine yD (wpAny_isInstance (b:=true) (T:="StopIteration") ⟨_,Heap.get?_push_size _ rfl,rfl⟩ isSubtype_stop ?_)
 exact wpAny_pure (hQ _ (((Heap.SameBut.update ..).extBut.push _).push _))
end
end DI
namespace L2
open PySem PySem.Spec PyProof.Rows
theorem Paired.at' {α β:Type}{F:α->β->Prop}:∀{l:List α} {m:List β} {i:Nat} {x:α} {y:β},Paired F l m->l[i]? =some x->m[i]? =some y->F x y
 |_,_,0,_,_,.cons r _,hx,hy=>by cases hx;cases hy;exact r
 |_,_,i+1,_,_,.cons _ t,hx,hy=>Paired.at' (i:=i) t hx hy
section
variable {X:Cx}{pins:List (Addr×Obj)}{σ:St}{H:Hp}{s:Shared}{a:Addr}
theorem Inv.hold {kvs:List (List Key×V)}(I:Inv X pins σ H s)(e:H a=some (.dT kvs)):∃o,Inv X pins σ (upd H a (.frz o (.dT kvs))) s:=by
 obtain⟨z,y,xs,r,o,es,ep,h1,h2⟩:=(show q01 X.prog X.w H s.heap a (.dT kvs) from I.hok a _ e)
 have ne:∀{b:Addr} {u:HO},H b=some u->(∀k,u≠ .dT k)->b≠a:=fun {b u} q n z=>by rw[z,e] at q;cases q;exact n _ rfl
 refine⟨o,I.un (h':=s.heap) (t':=s.toks) ⟨fun b ob q n _ _=>q,fun b ob q n _ _=>⟨ob.slots,q⟩,fun b ob q n _=>?_,fun b ob q _=>⟨ob,q⟩,fun b ts q=>?_,fun b ob u q=>?_,fun b ps q=>⟨#[],?_⟩⟩ fun b u q=>?_⟩
 ·rw [ql (fun z=>by rw[z,e] at n;cases n)];exact n
 ·rw [ql (ne q fun k z=>by cases z)];exact q
 ·rw [ql (ne q fun k z=>by cases z)];exact q
 ·rw [ql (ne q fun k z=>by cases z)];simpa using q
 ·have ht:∀c ts,H c=some (.tup ts)->upd H a (.frz o (.dT kvs)) c=some (.tup ts):=fun c ts q=>by rw[ql (ne q fun k z=>by cases z)];exact q
  have ho:∀c x,H c=some (.own x)->upd H a (.frz o (.dT kvs)) c=some (.own x):=fun c x q=>by rw[ql (ne q fun k z=>by cases z)];exact q
  by_cases hb:b=a
  ·subst hb
   rw[qg] at q
   cases q
   exact⟨h1,(I.hok b _ e).stay (fun c v _ q=>q) (fun c q=>ho c b q) ht⟩
  ·rw [ql hb] at q
   exact(I.hok b u q).stay (fun c v _ q=>q) (fun c q=>ho c b q) ht
theorem Inv.heldAt {o:Obj}{kvs:List (List Key×V)}{es:Array DictEntry}{ep:Nat}(I:Inv X pins σ H s)(e:H a=some (.frz o (.dT kvs)))(hd:o.data= .dict es ep):s.heap.get? a=some o/\o.ExactDict/\(a==sysModules)=false/\es.size=kvs.length/\
  ∀(i:Nat) (hi:i<kvs.length) (hj:i<es.size),∃b,es[i].key= .ref b/\H b=some (.tup (kvs[i].1.map kV))/\RelV kvs[i].2 es[i].val:=by
 obtain⟨h0,z,y,xs,r,o',es',ep',h1,h2,h3,h4,h5⟩:=(show q01 X.prog X.w H s.heap a (.frz o (.dT kvs)) from I.hok a _ e)
 rw[h0] at h1
 cases h1
 rw[hd] at h3
 cases h3
 have hl:kvs.length=xs.length:=r.length
 have hs:es.size=xs.length:=size_of_entries h4
 refine⟨h0,h2,y,by omega,fun i hi hj=>?_⟩
 have e1:=entry_at h4 i
 have hx:xs[i]? =some (xs[i]'(by omega)):=yB _
 rw[Array.getElem?_eq_getElem hj,hx] at e1
 have e2:=Option.some.inj e1
 have rq:=Paired.at' r (yB hi) hx
 refine⟨(xs[i]'(by omega)).2.1,by rw[e2];rfl,?_,?_⟩
 ·exact rq.2.1
 ·rw [e2];exact rq.2.2
end
def Itd (a:Addr)(o:Obj)(kvs:List (List Key×V)):It:=
 ⟨fun i H=>H a=some (.frz o (.dT kvs))/\i<kvs.length,fun i H x H'=>H'=H/\∃b p,kvs[i]? =some p/\x= .ref b/\H b=some (.tup (p.1.map kV)),fun i H=>H a=some (.frz o (.dT kvs))/\kvs.length<=i⟩
def Itp (a:Addr)(o:Obj)(kvs:List (List Key×V)):It:=
 ⟨fun i H=>H a=some (.frz o (.dT kvs))/\i<kvs.length,fun i H x H'=>∃T b p,H T=none/\kvs[i]? =some p/\x= .ref T/\H b=some (.tup (p.1.map kV))/\H'=upd H T (.tup [.ref b,p.2]),fun i H=>H a=some (.frz o (.dT kvs))/\kvs.length<=i⟩
theorem qb2 {P:Program}{w:World}{K:W.Frag}{tg:Expr}{a it:Addr}{o:Obj}{kvs:List (List Key×V)}{es:Array DictEntry}{ep:Nat}(hd:o.data= .dict es ep):Turn P w K tg (Itd a o kvs) [it] it (fun i h=>h.IsKeyIter it a i es.size ep) where
 mem:=by simp
 obj:=fun i h st b hb=>by
  have e:b=it:=by simpa using hb
  subst e
  obtain⟨o,e,c,d⟩:=st
  exact⟨o,e,fun v z=>by rw[d] at z;cases z⟩
 keep:=fun i h h' st k=>st.at fun o e=>k it (by simp) o e
 item:=by
  intro X hP hw hK hc i pins s σ H E I hf st hg
  subst hP hw hK
  obtain⟨ha,hi⟩:=hg
  obtain⟨f0,f1,f2,f3,f4,f5⟩:=hf it (by simp)
  obtain⟨g0,gx,gm,gs,gi⟩:=I.heldAt ha hd
  have hj:i<es.size:=by omega
  obtain⟨b,kb,tb,_⟩:=gi i hi hj
  refine DI.qc2 st g0 hd hj fun h' st' sb=>?_
  have I1:Inv X pins σ H {s with heap:=h'}:=I.turned (t':=s.toks) (fun b o hb e=>(sb.2 b hb).trans e) f0 f1 f3 f4 f5
  obtain⟨o',e,c,d⟩:=id st'
  exact⟨_,rfl,go_of (s:={s with heap:=h'}) e c d (by decide) ⟨.ref b,H,I1,kb,⟨rfl,b,_,yB hi,rfl,tb⟩,st',fun b hb=>(hf b hb).1⟩⟩
 done:=by
  intro X hP hw hK hc i pins s σ H E I hf st hg
  subst hP hw hK
  obtain⟨ha,hi⟩:=hg
  obtain⟨f0,f1,f2,f3,f4,f5⟩:=hf it (by simp)
  obtain⟨g0,gx,gm,gs,gi⟩:=I.heldAt ha hd
  exact DI.keyEnd (I.ok.hd hc) st g0 hd (by omega) fun h' eb=>⟨rfl,I.turned (t':=s.toks) (fun b o hb e=>eb b o hb e) f0 f1 f3 f4 f5⟩
 self:=fun _ _ _ _ _ st h=>wpAny_pyIter_keyiter st h
theorem q5q:entryFor table "dict_itemiterator.__iter__"=some Builtin.«dict_keyiterator.__iter__» :=entryFor_alias (id':="dict_keyiterator.__iter__") (by kernel_rfl) rfl (by walk_at "k") (by kernel_rfl)
theorem q5U {prog:Program}{w:World}{A:Around}{E:Value->Shared->Prop}{s:Shared}{it d:Addr}{i n ep:Nat}{ok ov:Value}{Q:Value->Shared->Prop}(hit:IsItemIter s.heap it d i n ep ok ov)(h:Q (.ref it) s):wpAny (model prog w) A (pyIter (.ref it)) Q E s:=by
 have hT:s.TypeIs (.ref it) "dict_itemiterator":=⟨_,hit,rfl⟩
 refine wpAny_pyIter_slot hT F.slot_dict_itemiterator_iter (wpAny_call_entry F.slot_dict_itemiterator_iter hT q5q ?_ (F.args_dict_itemiterator_iter_1 _))
 show wpAny _ _ (ret (.ref it)) _ _ s
 exact wpAny_pure ⟨_,rfl,"dict_itemiterator",_,hT,F.slot_dict_itemiterator_next.lookup,h⟩
theorem qb1 {P:Program}{w:World}{K:W.Frag}{elts:List Expr}{k:Nat}{tp:Pos}{a it:Addr}{o:Obj}{kvs:List (List Key×V)}{es:Array DictEntry}{ep:Nat}(hd:o.data= .dict es ep):Turn P w K (.Tuple elts k tp) (Itp a o kvs) [it] it (fun i h=>∃ok ov,IsItemIter h it a i es.size ep ok ov) where
 mem:=by simp
 obj:=fun i h st b hb=>by
  have e:b=it:=by simpa using hb
  subst e
  obtain⟨_,_,e⟩:=st
  exact⟨_,e,fun v z=>by cases z⟩
 keep:=fun i h h' st kk=>let ⟨ok,ov,e⟩:=st;⟨ok,ov,kk it (by simp) _ e⟩
 item:=by
  intro X hP hw hK hc i pins s σ H E I hf st hg
  subst hP hw hK
  obtain⟨ha,hi⟩:=hg
  obtain⟨ok,ov,st⟩:=st
  obtain⟨g0,gx,gm,gs,gi⟩:=I.heldAt ha hd
  have hj:i<es.size:=by omega
  obtain⟨b,kb,tb,rb⟩:=gi i hi hj
  refine DI.qa9 st g0 hd hj fun h' ho hT hk=>?_
  have ne:∀b∈[it],b≠s.heap.objs.size:=fun b hb=>by rw[List.mem_singleton.mp hb];exact Nat.ne_of_lt (Heap.lt_size st)
  have kk:∀b o,b∉[it]->s.heap.get? b=some o->h'.get? b=some o:=fun b o hb q=>hk b o (fun z=>hb (by simp[z])) q
  have I1:Inv X pins σ (upd H s.heap.objs.size (.tup [.ref b,kvs[i].2])) {s with heap:=h',toks:=s.toks}:=I.yields (vals:=[es[i].key,es[i].val]) hf kk (Nat.le_refl _) ⟨_,hT,rfl,_,rfl⟩ (.cons kb (.cons rb .nil)) (by show 2<=sizeLine;decide)
  have hf1:=q8E (o:= .tup [.ref b,kvs[i].2]) hf ne
  refine⟨_,rfl,wpAny_letOwnedTupleGo_items ho fun h'' he'' sb=>?_⟩
  have I2:Inv X pins σ (upd H s.heap.objs.size (.tup [.ref b,kvs[i].2])) {s with heap:=h'',toks:=s.toks}:=I1.turnedL (t':=s.toks) hf1 fun b o hb q=>(sb.2 b fun z=>hb (by simp[z])).trans q
  exact⟨.ref s.heap.objs.size,_,I2,rfl,⟨_,b,_,I.hok.fresh (Nat.le_refl _),yB hi,rfl,tb,rfl⟩,⟨_,_,he''⟩,fun b hb=>(hf1 b hb).1⟩
 done:=by
  intro X hP hw hK hc i pins s σ H E I hf st hg
  subst hP hw hK
  obtain⟨ha,hi⟩:=hg
  obtain⟨ok,ov,st⟩:=st
  obtain⟨g0,gx,gm,gs,gi⟩:=I.heldAt ha hd
  exact DI.qc4 (I.ok.hd hc) st g0 hd (by omega) fun h' eb=>⟨rfl,I.turnedL (t':=s.toks) (ch:=[it]) hf fun b o hb q=>eb b o (fun z=>hb (by simp[z])) q⟩
 self:=fun _ _ _ _ _ st h=>by obtain⟨_,_,st⟩:=st;exact q5U st h
section
variable {X:Cx}{tg:Expr}
def iDk (tl:TE):TI:=fun σ H R=>tl σ H fun x H1=>∃a o kvs,x= .ref a/\H1 a=some (.frz o (.dT kvs))/\R (Itd a o kvs) H1
theorem pi_dk {l:Expr}{tl:TE}(hl:PE X l tl):PI X tg l (iDk tl):=by
 intro pins s σ H R I h
 refine thn (hl pins s σ H _ I h) fun v s1 ⟨x,H1,I1,r1,q1⟩=>?_
 obtain⟨a,o,kvs,e,ha,q⟩:=q1
 subst e
 cases r1
 obtain⟨es,ep,hd⟩:∃es ep,o.data= .dict es ep:=by
  obtain⟨h0,z,y,xs,r,o',es',ep',h1,h2,h3,h4,h5⟩:=(show q01 X.prog X.w H1 s1.heap a (.frz o (.dT kvs)) from I1.hok a _ ha)
  rw[h0] at h1
  cases h1
  exact⟨_,_,h3⟩
 obtain⟨g0,gx,gm,gs,gi⟩:=I1.heldAt ha hd
 refine DI.keys gm g0 gx hd ?_
 refine⟨s1.heap.objs.size,[s1.heap.objs.size],_,_,H1,rfl,I1.kept (t':=s1.toks) fun b o e=>Heap.get?_push_of_some _ e,qb2 hd,⟨_,Heap.get?_push_size _ rfl,rfl,rfl⟩,fun b hb=>?_,q⟩
 have e:b=s1.heap.objs.size:=by simpa using hb
 subst e
 exact I1.fpOk (Nat.le_refl _) (I1.hok.fresh (Nat.le_refl _))
def iDp (tl:TE):TI:=fun σ H R=>tl σ H fun x H1=>∃a o kvs,x= .ref a/\H1 a=some (.frz o (.dT kvs))/\R (Itp a o kvs) H1
theorem pi_dp {elts:List Expr}{k:Nat}{tp:Pos}{l:Expr}{tl:TE}{apos cpos:Pos}(hl:PE X l tl)(hbase:attributeBase l "items" X.env (eval l X.env)=eval l X.env:=by rfl)(hline:(apos.endLine==cpos.line)=true:=by rfl):PI X (.Tuple elts k tp) (.Call (.Attribute l "items" apos) [] [] cpos) (iDp tl):=by
 intro pins s σ H R I h
 refine wpAny_Call_method0_late hbase hline (thn (hl pins s σ H _ I h) fun v s1 ⟨x,H1,I1,r1,q1⟩=>?_)
 obtain⟨a,o,kvs,e,ha,q⟩:=q1
 subst e
 cases r1
 obtain⟨es,ep,hd⟩:∃es ep,o.data= .dict es ep:=by
  obtain⟨h0,z,y,xs,r,o',es',ep',h1,h2,h3,h4,h5⟩:=(show q01 X.prog X.w H1 s1.heap a (.frz o (.dT kvs)) from I1.hok a _ ha)
  rw[h0] at h1
  cases h1
  exact⟨_,_,h3⟩
 obtain⟨g0,gx,gm,gs,gi⟩:=I1.heldAt ha hd
 refine⟨"dict","dict.items",F.plainAttrs_dict,F.slot_dict_items,F.type_dict_items,DI.ty g0 gx,fun b z=>by cases z;exact⟨o,g0,gx.2.1⟩,Calls.callWith_builtin rfl (PySem.evalArgs_none ?_)⟩
 refine call_meetsIn F.slot_dict_items (DI.ty g0 gx) F.entry_dict_items (F.args_dict_items_1 _) (DI.view a gm) ⟨⟨o,g0,gx⟩,?_⟩
 have I2:Inv X pins σ H1 {s1 with heap:=s1.heap.push {cls:= .type "dict_items",data:= .fields #[.ref a]}}:=I1.kept (t':=s1.toks) fun b o e=>Heap.get?_push_of_some _ e
 refine DI.items (s:={s1 with heap:=s1.heap.push {cls:= .type "dict_items",data:= .fields #[.ref a]}}) ⟨_,Heap.get?_push_size _ rfl,rfl,rfl⟩ (Heap.get?_push_of_some _ g0) hd ?_
 refine⟨_,[_],_,_,H1,rfl,I2.kept (t':=s1.toks) fun b o e=>Heap.get?_push_of_some _ e,qb1 hd,⟨_,_,Heap.get?_push_size _ rfl⟩,fun b hb=>?_,q⟩
 rw[List.mem_singleton.mp hb]
 exact I2.fpOk (Nat.le_refl _) (I2.hok.fresh (Nat.le_refl _))
end
section
variable {K:W.Frag}{g:TG}{tb:TS}{nx:St->Hp->Prop}{rt:V->Hp->Prop}{σ:St}{H:Hp}{a:Addr}{o:Obj}{kvs:List (List Key×V)}
theorem for_dk (Pv:Nat->St->Hp->Prop)(h0:Pv 0 σ H)(hl:∀i σ H,Pv i σ H->H a=some (.frz o (.dT kvs)))
  (go:∀i b p σ H,kvs[i]? =some p->H b=some (.tup (p.1.map kV))->Pv i σ H->g (.ref b) σ H fun σ2 H2=>tb ⟨Pv (i+1),rt,nx,Pv (i+1)⟩ σ2 H2)(stop:∀σ H,Pv kvs.length σ H->nx σ H):ForG (Itd a o kvs) g tb nx rt σ H:=
 q3x kvs.length Pv h0 (fun i σ H hi p=>⟨⟨hl i σ H p,hi⟩,fun x H' ⟨e1,b,q,hq,ex,hb⟩=>by subst e1 ex;exact go i b q σ _ hq hb p⟩) fun σ H p=>⟨⟨hl _ σ H p,Nat.le_refl _⟩,stop σ H p⟩
theorem qaJ (Pv:Nat->St->Hp->Prop)(h0:Pv 0 σ H)(hl:∀i σ H,Pv i σ H->H a=some (.frz o (.dT kvs)))
  (go:∀i b T p σ H,kvs[i]? =some p->H b=some (.tup (p.1.map kV))->H T=none->Pv i σ H->g (.ref T) σ (upd H T (.tup [.ref b,p.2])) fun σ2 H2=>tb ⟨Pv (i+1),rt,nx,Pv (i+1)⟩ σ2 H2)(stop:∀σ H,Pv kvs.length σ H->nx σ H):ForG (Itp a o kvs) g tb nx rt σ H:=
 q3x kvs.length Pv h0 (fun i σ H hi p=>⟨⟨hl i σ H p,hi⟩,fun x H' ⟨T,b,q,hT,hq,ex,hb,e1⟩=>by subst e1 ex;exact go i b T q σ _ hq hb hT p⟩) fun σ H p=>⟨⟨hl _ σ H p,Nat.le_refl _⟩,stop σ H p⟩
variable {tc:TT}{te:TE}{R:Hp->Prop}{D:Addr}
theorem qcu (Pv:Nat->St->Hp->Prop)(h0:Pv 0 σ H)(hl:∀i σ H,Pv i σ H->H a=some (.frz o (.dT kvs)))(go:∀i b p σ H,kvs[i]? =some p->H b=some (.tup (p.1.map kV))->Pv i σ H->g (.ref b) σ H fun σ3 H3=>tc σ3 H3 fun b H4=>
   if b=true then te σ3 H4 fun y H5=>∃ys,H5 D=some (.lst ys)/\ys.length<sizeLine/\Pv (i+1) σ3 (upd H5 D (.lst (ys++[y]))) else Pv (i+1) σ3 H4)(stop:∀σ H,Pv kvs.length σ H->R H):qap (Itd a o kvs) g tc te R D σ H:=
 q4v kvs.length Pv h0 (fun i σ H hi p=>⟨⟨hl i σ H p,hi⟩,fun x H' ⟨e1,b,q,hq,ex,hb⟩=>by subst e1 ex;exact go i b q σ _ hq hb p⟩) fun σ H p=>⟨⟨hl _ σ H p,Nat.le_refl _⟩,stop σ H p⟩
end
theorem q0u {k:Nat}{A:Around}(hr:Room k A):A.units+1<cLine:=by have:=hr.un;omega
section
variable {σ:St}{H:Hp}{Q:VK}{td ty tv:TE}{nx:St->Hp->Prop}{rt:V->Hp->Prop}{bk ct:St->Hp->Prop}
theorem r_dnew (q:∀p,H p=none->Q (.ref p) (upd H p (.dT []))):qat σ H Q:=q
theorem r_dget (q:td σ H fun x H1=>ty σ H1 fun y H2=>∃a v,x= .ref a/\DGet H2 a y (some v)/\Q v H2):tDGet td ty σ H Q:=q
theorem r_dnin (q:ty σ H fun y H1=>td σ H1 fun x H2=>∃a o,x= .ref a/\DGet H2 a y o/\Q (.bl (!o.isSome)) H2):q7w ty td σ H Q:=q
theorem r_dput (q:tv σ H fun v H1=>td σ H1 fun x H2=>ty σ H2 fun y H3=>∃a H4,x= .ref a/\DPut H3 a y v H4/\nx σ H4):sDPut td ty tv ⟨nx,rt,bk,ct⟩ σ H:=q
theorem r_dk {R:It->Hp->Prop}(q:td σ H fun x H1=>∃a o kvs,x= .ref a/\H1 a=some (.frz o (.dT kvs))/\R (Itd a o kvs) H1):iDk td σ H R:=q
theorem r_dp {R:It->Hp->Prop}(q:td σ H fun x H1=>∃a o kvs,x= .ref a/\H1 a=some (.frz o (.dT kvs))/\R (Itp a o kvs) H1):iDp td σ H R:=q
end
theorem r_augN {i:Nat}{v:V}{te:TE}{ip:V->V->Hp->VK->Prop}{σ:St}{H:Hp}{nx:St->Hp->Prop}{rt:V->Hp->Prop}{bk ct:St->Hp->Prop}(h:σ[i]? =some (some v))(q:te σ H fun y H1=>ip v y H1 fun z H2=>nx (σ.set i (some z)) H2):tAug i te ip ⟨nx,rt,bk,ct⟩ σ H:=⟨v,h,q⟩
theorem q5P {c:TT}{tb:TS}{σ:St}{H:Hp}{nx:St->Hp->Prop}{rt:V->Hp->Prop}{bk ct:St->Hp->Prop}(W:Nat->St->Hp->Prop)(m:Nat)(h0:W m σ H)
  (go:∀m σ H,W m σ H->c σ H fun b H1=>if b=true then∃N:St->Hp->Prop,(∀σ' H',N σ' H'->∃m',m'<m/\W m' σ' H')/\tb ⟨N,rt,nx,N⟩ σ H1 else nx σ H1):qaq c tb ⟨nx,rt,bk,ct⟩ σ H:=⟨W,⟨m,h0⟩,go⟩
theorem qaF {X:Cx}{tg l:Expr}{tl:TE}(K:W.Frag)(hl:PE X l tl):PI X tg l (iDk tl):=pi_dk hl
theorem qaE {X:Cx}{elts:List Expr}{k:Nat}{tp:Pos}{l:Expr}{tl:TE}{apos cpos:Pos}(K:W.Frag)(hl:PE X l tl)(hbase:attributeBase l "items" X.env (eval l X.env)=eval l X.env:=by rfl)(hline:(apos.endLine==cpos.line)=true:=by rfl):PI X (.Tuple elts k tp) (.Call (.Attribute l "items" apos) [] [] cpos) (iDp tl):=pi_dp hl hbase hline
end L2
namespace Ce
open L2 PySem PySem.Spec PyProof.Rows
def Sd.ns (s:Sd):List Int:=[s.rm,s.tk,s.op,s.b,s.wt]
def Sd.key (s:Sd):List Key:=[.inl s.rm,.inl s.tk,.inl s.op,.inl s.b,.inl s.wt]
theorem Sd.ns_inj {a b:Sd}(h:a.ns=b.ns):a=b:=by
 cases a;cases b;simp only[Sd.ns,List.cons.injEq,and_true] at h;obtain⟨h1,h2,h3,h4,h5⟩:=h;subst h1 h2 h3 h4 h5;rfl
theorem Sd.key_inj {a b:Sd}(h:a.key=b.key):a=b:=by
 cases a;cases b;simp only[Sd.key,List.cons.injEq,Sum.inl.injEq,and_true] at h;obtain⟨h1,h2,h3,h4,h5⟩:=h;subst h1 h2 h3 h4 h5;rfl
theorem Sd.vs_inj {a b:Sd}(h:a.vs=b.vs):a=b:=by
 cases a;cases b;simp only[Sd.vs,List.cons.injEq,V.int.injEq,and_true] at h;obtain⟨h1,h2,h3,h4,h5⟩:=h;subst h1 h2 h3 h4 h5;rfl
instance:DecidableEq Sd:=fun a b=>decidable_of_iff (a.ns=b.ns) ⟨Sd.ns_inj,fun h=>by rw[h]⟩
def SAt (H:Hp)(p:Addr)(s:Sd):Prop:=H p=some (.tup s.vs)
theorem SAt.mono {H H':Hp}(s:q0f H H'){p:Addr}{x:Sd}(h:SAt H p x):SAt H' p x:=s _ _ h
theorem SAt.put {H:Hp}{D:Addr}{xs:List V}{o:HO}(hD:H D=some (.lst xs)){p:Addr}{x:Sd}(h:SAt H p x):SAt (upd H D o) p x:=q0f.lst hD _ _ h
theorem deq_sd {K:W.Frag}{H:Hp}{a b:Addr}{s t:Sd}(ha:SAt H a s)(hb:SAt H b t):Deq K H 1 (.ref a) (.ref b) (decide (s=t)):=by
 by_cases e:a=b
 ·subst e
  have:s=t:=Sd.vs_inj (by have h:=ha.symm.trans hb;simpa using h)
  rw[decide_eq_true this]
  exact .same a
 ·have h:=Deq.tup (K:=K) (n:=0) (e:=fun j=>eqV (s.vs.getD j .non) (t.vs.getD j .non)) e (SqT.of ha) (SqT.of hb) fun j h1 h2=> .flat (by
    have:j<5:=h1
    obtain rfl|rfl|rfl|rfl|rfl:j=0\/j=1\/j=2\/j=3\/j=4:=by omega
    all_goals rfl) (by
    have:j<5:=h1
    obtain rfl|rfl|rfl|rfl|rfl:j=0\/j=1\/j=2\/j=3\/j=4:=by omega
    all_goals rfl)
  have e2:((List.range (min s.vs.length t.vs.length)).all (fun j=>eqV (s.vs.getD j .non) (t.vs.getD j .non))&&s.vs.length==t.vs.length)=decide (s=t):=by
   have e3:decide (s=t)=(decide (s.rm=t.rm)&&(decide (s.tk=t.tk)&&(decide (s.op=t.op)&&(decide (s.b=t.b)&&decide (s.wt=t.wt))))):=by
    cases s;cases t;simp[Bool.decide_and]
   rw[e3]
   show((eqV (.int s.rm) (.int t.rm)&&(eqV (.int s.tk) (.int t.tk)&&(eqV (.int s.op) (.int t.op)&&(eqV (.int s.b) (.int t.b)&&(eqV (.int s.wt) (.int t.wt)&&true)))))&&true)=_
   simp[eqV]
   rfl
  rw[e2] at h
  exact h
theorem Rows.mem {α:Type}{At:Hp->Addr->α->Prop}{H:Hp}{ps:List Addr}{xs:List α}(h:Rows At H ps xs){b:Addr}(hb:b∈ps):∃x∈xs,At H b x:=by
 obtain⟨i,hi,e⟩:=List.getElem_of_mem hb
 have hj:i<xs.length:=by rw[<-h.1];exact hi
 exact⟨xs[i],List.getElem_mem hj,h.2 i b _ (by rw[yB hi,e]) (yB hj)⟩
abbrev Dk:=List (Sd×V)
def dkv (l:Dk):List (List Key×V):=l.map fun x=>(x.1.key,x.2)
def dat (l:Dk)(s:Sd):Option V:=(l.find? fun x=>decide (x.1=s)).map (·.2)
theorem q4r (s:Sd):∀l:Dk,valV (dkv l) s.key=dat l s
 |[]=>rfl
 |x::l=>by
  by_cases e:x.1=s
  ·rw [show dkv (x::l)=(x.1.key,x.2)::dkv l from rfl,q35 (by rw[e])]
   simp[dat,e]
  ·rw [show dkv (x::l)=(x.1.key,x.2)::dkv l from rfl,q36 (fun z=>e (Sd.key_inj z)),q4r s l]
   simp[dat,e]
theorem q4u {l:Dk}{s:Sd}:dat l s=none↔s∉l.map (·.1):=by
 unfold dat
 rw[Option.map_eq_none_iff,List.find?_eq_none]
 simp only[decide_eq_true_eq,List.mem_map,not_exists,not_and]
theorem q6G {l:Dk}{s:Sd}{v:V}(hn:(l.map (·.1)).Nodup)(h:(s,v)∈l):dat l s=some v:=by
 induction l with
 |nil=>cases h
 |cons x l ih=>
  rw[List.map_cons,List.nodup_cons] at hn
  rcases List.mem_cons.mp h with e|h
  ·subst e;simp[dat]
  ·have ne:¬x.1=s:=fun e=>hn.1 (List.mem_map.mpr ⟨_,h,e.symm⟩)
   have:=ih hn.2 h
   simpa[dat,ne] using this
theorem q0Q {l:Dk}{s:Sd}:(dat l s).isSome=decide (s∈l.map (·.1)):=by
 cases e:dat l s with
 |none=>rw[decide_eq_false (q4u.mp e)];rfl
 |some v=>
  have:¬dat l s=none:=by rw[e];simp
  rw[decide_eq_true (Classical.byContradiction fun z=>this (q4u.mpr z))];rfl
theorem qcn {l:Dk}{s:Sd}{v:V}(h:s∉l.map (·.1)):putK (dkv l) s.key v=dkv (l++[(s,v)]):=by
 unfold putK
 rw[q37,q4r,q4u.mpr h,if_neg (by decide)]
 simp[dkv]
def DAtS (H:Hp)(a:Addr)(l:Dk):Prop:=H a=some (.dT (dkv l))
theorem q22 {H:Hp}{a b:Addr}{l:Dk}{s:Sd}(h:Rd H a (.dT (dkv l)))(hb:SAt H b s):DGet H a (.ref b) (dat l s):= .inr ⟨_,s.key,b,h,rfl,hb,(q4r s l).symm⟩
theorem q41 {H:Hp}{a b:Addr}{l:Dk}{s:Sd}{v:V}(h:DAtS H a l)(hb:SAt H b s)(hl:l.length<sizeLine)(hn:s∉l.map (·.1)):DPut H a (.ref b) v (upd H a (.dT (dkv (l++[(s,v)])))):=by
 have:=DPut.t (k:=s.key) (v:=v) h hb (by simpa[dkv] using hl)
 rwa [qcn hn] at this
inductive Rch {α:Type}(R:α->α->Prop)(a:α):α->Prop where
 |refl:Rch R a a
 |step {b c:α}:Rch R a b->R b c->Rch R a c
structure Srch (R:Sd->Sd->Prop)(s0:Sd)(row:List Sd)(pl:Nat):Prop where
 nd:row.Nodup
 st:s0∈row
 rch:∀x∈row,Rch R s0 x
 cl:∀i (h:i<row.length),i<pl->∀y,R row[i] y->y∈row
theorem Srch.start {R:Sd->Sd->Prop}{s0:Sd}:Srch R s0 [s0] 0:=⟨by simp,by simp,fun x hx=>by rw[List.mem_singleton.mp hx];exact .refl,fun i _ h=>absurd h (Nat.not_lt_zero _)⟩
theorem Srch.end {R:Sd->Sd->Prop}{s0:Sd}{row:List Sd}{pl:Nat}(h:Srch R s0 row pl)(hp:row.length<=pl)(x:Sd):x∈row↔Rch R s0 x:=by
 refine⟨h.rch x,fun hx=>?_⟩
 induction hx with
 |refl=>exact h.st
 |step _ r ih=>
  obtain⟨i,hi,e⟩:=List.getElem_of_mem ih
  exact h.cl i hi (by omega) _ (by rw[e];exact r)
structure Mid (R:Sd->Sd->Prop)(s0 here:Sd)(row:List Sd)(pl:Nat)(done:List Sd):Prop where
 nd:row.Nodup
 st:s0∈row
 rch:∀x∈row,Rch R s0 x
 cl:∀i (h:i<row.length),i<pl->∀y,R row[i] y->y∈row
 at':row[pl]? =some here
 dn:∀y∈done,y∈row
theorem Srch.mid {R:Sd->Sd->Prop}{s0 here:Sd}{row:List Sd}{pl:Nat}(h:Srch R s0 row pl)(e:row[pl]? =some here):Mid R s0 here row pl []:=⟨h.nd,h.st,h.rch,h.cl,e,fun y z=>nomatch z⟩
theorem Mid.old {R:Sd->Sd->Prop}{s0 here y:Sd}{row done:List Sd}{pl:Nat}(h:Mid R s0 here row pl done)(hy:y∈row):Mid R s0 here row pl (done++[y]):=
 ⟨h.nd, h.st, h.rch, h.cl, h.at', fun x hx => by rcases List.mem_append.mp hx with z|z;· exact h.dn x z
                                                 ·rw [List.mem_singleton.mp z];exact hy⟩
theorem Mid.new {R:Sd->Sd->Prop}{s0 here y:Sd}{row done:List Sd}{pl:Nat}(h:Mid R s0 here row pl done)(hy:y∉row)(r:R here y):Mid R s0 here (row++[y]) pl (done++[y]):=by
 have hpl:pl<row.length:=(yA h.at').1
 refine⟨List.nodup_append.mpr ⟨h.nd,by simp,fun a ha b hb e=>?_⟩,List.mem_append_left _ h.st,fun x hx=>?_,fun i hi hl z rz=>?_,?_,fun x hx=>?_⟩
 ·rw [List.mem_singleton.mp hb] at e;subst e;exact hy ha
 ·rcases List.mem_append.mp hx with z|z
  ·exact h.rch x z
  ·rw [List.mem_singleton.mp z]
   exact(h.rch here (List.mem_of_getElem? h.at')).step r
 ·rw [List.getElem_append_left (by omega)] at rz
  exact List.mem_append_left _ (h.cl i (by omega) hl z rz)
 ·rw [List.getElem?_append_left hpl];exact h.at'
 ·rcases List.mem_append.mp hx with z|z
  ·exact List.mem_append_left _ (h.dn x z)
  ·exact List.mem_append_right _ z
theorem Mid.next {R:Sd->Sd->Prop}{s0 here:Sd}{row done:List Sd}{pl:Nat}(h:Mid R s0 here row pl done)(hd:∀y,R here y->y∈done):Srch R s0 row (pl+1):=by
 refine⟨h.nd,h.st,h.rch,fun i hi hl z rz=>?_⟩
 by_cases e:i=pl
 ·subst e
  have:row[i]=here:=(yA h.at').2
  rw[this] at rz
  exact h.dn z (hd z rz)
 ·exact h.cl i hi (by omega) z rz
end Ce
namespace Ce
open L2 PySem PySem.Spec PyProof.Rows
structure Small (C:Cl):Prop where
 r:C.rooms<=5
 w:C.ways.length<=4
 t:C.things.length<=2
 l:C.levers.length<=1
 v:C.wheels.length<=1
def nx (C:Cl)(s:Sd):List Sd:=(fitD C s).map fun x=>q00 C s x.1 (x.2:Int)
def NxR (C:Cl)(s t:Sd):Prop:=t∈nx C s
theorem nx_of {C:Cl}{s t:Sd}(h:NxR C s t):∃(d:Wd) (i:Nat),canD C s d (i:Int)=true/\t=q00 C s d (i:Int):=by
 obtain⟨⟨d,i⟩,hx,rfl⟩:=List.mem_map.mp h
 exact⟨d,i,q3d.mp hx,rfl⟩
theorem nx_ok {C:Cl}{s t:Sd}(ok:ClOk C)(h:s.ok C)(r:NxR C s t):t.ok C:=by
 obtain⟨d,i,hc,rfl⟩:=nx_of r
 exact q61 ok h hc
theorem q8U {C:Cl}{s t:Sd}(ok:ClOk C)(h:s.ok C)(r:Rch (NxR C) s t):t.ok C:=by
 induction r with
 |refl=>exact h
 |step _ r ih=>exact nx_ok ok ih r
theorem q7y (f g:Nat->Int):∀l:List Nat,(l.map fun k=>f k+g k).sum=(l.map f).sum+(l.map g).sum
 |[]=>rfl
 |k::l=>by
  simp only[List.map_cons,List.sum_cons]
  rw[q7y f g l]
  omega
theorem one12:∀j,j<12->((List.range 12).map fun k:Nat=>if decide (j=k)=true then(1:Int) else 0).sum=1:=by decide
theorem qc1 {κ:Nat->Option Int}{b:Nat->Bool}:∀{n:Nat},(∀i,i<n->b i=true->∃k:Nat,κ i=some (k:Int)/\k<12)->((List.range 12).map fun k:Nat=>(cnt (fun i=>decide (κ i=some (k:Int))&&b i) n:Int)).sum=(cnt b n:Int)
 |0,_=>rfl
 |n+1,h=>by
  have ih:=qc1 (n:=n) fun i hi=>h i (Nat.lt_succ_of_lt hi)
  have e:(fun k:Nat=>(cnt (fun i=>decide (κ i=some (k:Int))&&b i) (n+1):Int))=fun k:Nat=>(cnt (fun i=>decide (κ i=some (k:Int))&&b i) n:Int)+(if (decide (κ n=some (k:Int))&&b n)=true then(1:Int) else 0):=by
   funext k
   show((cnt _ n+_:Nat):Int)=_
   split<;>simp
  rw[e,q7y,ih]
  show _=((cnt b n+_:Nat):Int)
  cases hb:b n with
  |false=>
   have:(fun k:Nat=>if (decide (κ n=some (k:Int))&&false)=true then(1:Int) else 0)=fun _=>0:=by funext k;simp
   rw[this,show((List.range 12).map fun _:Nat=>(0:Int)).sum=0 from rfl]
   simp
  |true=>
   obtain⟨j,hj,hl⟩:=h n (Nat.lt_succ_self n) hb
   have:(fun k:Nat=>if (decide (κ n=some (k:Int))&&true)=true then(1:Int) else 0)=fun k=>if decide (j=k)=true then(1:Int) else 0:=by
    funext k
    rw[hj,Bool.and_true]
    congr 1
    simp only[decide_eq_true_eq,eq_iff_iff,Option.some.injEq]
    omega
   rw[this,one12 j hl]
   simp
theorem qaw:∀{l:List Nat} {f g:Nat->Int},(∀k∈l,f k<=g k)->(l.map f).sum<=(l.map g).sum
 |[],_,_,_=>Int.le_refl _
 |k::l,f,g,h=>by
  have:=qaw (l:=l) (f:=f) (g:=g) fun j hj=>h j (List.mem_cons_of_mem _ hj)
  have:=h k (.head _)
  simp only[List.map_cons,List.sum_cons]
  omega
theorem q89 {C:Cl}{s:Sd}(ok:ClOk C)(h:s.ok C):cnt (bit s.op) C.ways.length<=cnt (bit s.tk) C.things.length:=by
 have e1:((List.range 12).map fun k:Nat=>(cnt (dP (dsOf C) s.op (k:Int)) C.ways.length:Int)).sum=(cnt (bit s.op) C.ways.length:Int):=by
  refine qc1 fun i hi hb=>?_
  have hd:=h.dr i hi hb
  unfold dsOf at hd ⊢
  rw[yB hi] at hd ⊢
  obtain⟨k,hk⟩:=Option.isSome_iff_exists.mp hd
  have hg:=(ok.w _ (List.getElem_mem hi)).2.2.2
  have hk':C.ways[i].g.dk=some k:=hk
  cases eg:C.ways[i].g with
  |door k'=>
   rw[eg] at hg hk'
   have hg:0<=k'/\k'<12:=hg
   refine⟨k'.toNat,?_,by omega⟩
   show C.ways[i].g.dk=_
   rw[eg]
   show some k'=_
   congr 1
   omega
  |_=>rw[eg] at hk';cases hk'
 have e2:((List.range 12).map fun k:Nat=>(cnt (tP C s.tk (k:Int)) C.things.length:Int)).sum=(cnt (bit s.tk) C.things.length:Int):=by
  have:=qc1 (κ:=fun i=>some (C.things.getD i (0,0)).2) (b:=bit s.tk) (n:=C.things.length) fun i hi _=>by
   have ht:=(ok.t _ (List.getElem_mem hi)).2
   refine⟨(C.things[i].2).toNat,?_,by omega⟩
   simp only[List.getD_eq_getElem?_getD,yB hi,Option.getD_some]
   congr 1
   omega
  rw[<-this]
  congr 1
  refine List.map_congr_left fun k _=>?_
  congr 1
  refine q3z fun i _=>?_
  unfold tP
  congr 1
  simp
 have e3:=qaw (l:=List.range 12) (f:=fun k:Nat=>(cnt (dP (dsOf C) s.op (k:Int)) C.ways.length:Int)) (g:=fun k:Nat=>(cnt (tP C s.tk (k:Int)) C.things.length:Int)) fun k hk=>by
  have hk:k<12:=List.mem_range.mp hk
  have:=h.held k (by omega) (by omega)
  unfold hold at this
  omega
 rw[e1,e2] at e3
 omega
def popc (n:Nat):Nat:=cnt (fun i=>n.testBit i) 4
def fits (d:Nat->Bool)(t o:Nat):Bool:=decide (popc o<=popc t)&&(List.range 4).all fun i=> !o.testBit i||d i
def num (d:Nat->Bool)(o:Nat):Nat:=cnt (fun i=> !d i||o.testBit i) 4
def prs (d:Nat->Bool):List (Nat×Nat):=((List.range 4).flatMap fun t=>(List.range 16).map fun o=>(t,o)).filter fun x=>fits d x.1 x.2
def mk4 (d0 d1 d2 d3:Bool)(i:Nat):Bool:=match i with|0=>d0|1=>d1|2=>d2|_=>d3
theorem qbt:∀d0 d1 d2 d3:Bool,((prs (mk4 d0 d1 d2 d3)).map fun x=>4*min 5 (1+2*num (mk4 d0 d1 d2 d3) x.2)).sum<=288:=by walk_at "k"
def ends (C:Cl)(i:Nat):List Int:=match C.ways[i]? with|some x=>[x.a,x.b]|none=>[0,0]
def dI (C:Cl):Nat->Bool:=mk4 (dsOf C 0).isSome (dsOf C 1).isSome (dsOf C 2).isSome (dsOf C 3).isSome
def rms (C:Cl)(s0:Sd)(o:Nat):List Int:=if 1+2*num (dI C) o<=5 then s0.rm::(List.range 4).flatMap fun i=>if (!dI C i||o.testBit i)=true then ends C i else [] else(List.range 5).map fun n:Nat=>(n:Int)
theorem qal (C:Cl)(i:Nat):(ends C i).length=2:=by unfold ends;split<;>rfl
theorem qbg (C:Cl)(s0:Sd)(o:Nat):(rms C s0 o).length=min 5 (1+2*num (dI C) o):=by
 unfold rms
 split
 ·rename_i h
  have e:((List.range 4).flatMap fun i=>if (!dI C i||o.testBit i)=true then ends C i else []).length=2*num (dI C) o:=by
   have:∀n,((List.range n).flatMap fun i=>if (!dI C i||o.testBit i)=true then ends C i else []).length=2*cnt (fun i=> !dI C i||o.testBit i) n:=fun n=>by
    induction n with
    |zero=>rfl
    |succ n ih=>
     rw[List.range_succ,List.flatMap_append,List.length_append,ih]
     show _=2*(cnt _ n+_)
     simp only[List.flatMap_cons,List.flatMap_nil,List.append_nil]
     split
     ·rw [qal];omega
     ·simp
   exact this 4
  rw[List.length_cons,e]
  omega
 ·rename_i h
  simp
  omega
def bs2 (C:Cl)(s0:Sd):List Int:=[s0.b,Builtin.bitXor s0.b (C.levers.getD 0 (0,0)).2]
def ws2 (C:Cl)(s0:Sd):List Int:=[s0.wt,(C.wheels.getD 0 (0,0)).2]
def uni (C:Cl)(s0:Sd):List Sd:=(prs (dI C)).flatMap fun x=>(rms C s0 x.2).flatMap fun r=>(bs2 C s0).flatMap fun b=>(ws2 C s0).map fun w=>(⟨r,(x.1:Int),(x.2:Int),b,w⟩:Sd)
theorem qaY (C:Cl)(s0:Sd):(uni C s0).length<=288:=by
 refine Nat.le_trans (Nat.le_of_eq ?_) (qbt (dsOf C 0).isSome (dsOf C 1).isSome (dsOf C 2).isSome (dsOf C 3).isSome)
 unfold uni
 rw[List.length_flatMap]
 congr 1
 refine List.map_congr_left fun x _=>?_
 rw[List.length_flatMap]
 have:∀l:List Int,(l.map fun r=>((bs2 C s0).flatMap fun b=>(ws2 C s0).map fun w=>(⟨r,(x.1:Int),(x.2:Int),b,w⟩:Sd)).length).sum=4*l.length:=fun l=>by
  induction l with
  |nil=>rfl
  |cons r l ih=>
   rw[List.map_cons,List.sum_cons,ih,List.length_cons]
   simp[bs2,ws2]
   omega
 rw[this,qbg]
 rfl
structure Bnd (C:Cl)(s0 s:Sd):Prop where
 ok:s.ok C
 rm:s.rm=s0.rm\/∃(i:Nat) (x:Way),C.ways[i]? =some x/\((dsOf C i).isSome=false\/bit s.op i=true)/\(s.rm=x.a\/s.rm=x.b)
 b:s.b∈bs2 C s0
 wt:s.wt∈ws2 C s0
theorem q6g:∀{l m:List Sd},l.Nodup->(∀x∈l,x∈m)->l.length<=m.length
 |[],_,_,_=>Nat.zero_le _
 |x::l,m,hn,h=>by
  rw[List.nodup_cons] at hn
  have hx:=h x (.head _)
  have:=q6g (m:=m.erase x) hn.2 fun y hy=>(List.mem_erase_of_ne fun e=>hn.1 (by rw[<-e];exact hy)).mpr (h y (List.mem_cons_of_mem _ hy))
  rw[List.length_erase_of_mem hx] at this
  have:0<m.length:=List.length_pos_of_mem hx
  rw[List.length_cons]
  omega
end Ce
namespace L2
open PySem PySem.Spec PyProof.Rows PySem.W
def tDisp1 (tk tv:TE):TE:=fun σ H Q=>∀p,H p=none->tk σ (upd H p (.dT [])) fun x H1=>tv σ H1 fun y H2=>∃(b:Addr) (k:List Key),x= .ref b/\H2 p=some (.dT [])/\H2 b=some (.tup (k.map kV))/\Q (.ref p) (upd H2 p (.dT [(k,y)]))
theorem q6x {X:Cx}{pos:Pos}{k v:Expr}{tk tv:TE}(hu:X.A.units+1<cLine)(hk:PE X k tk)(hv:PE X v tv):PE X (.Dict [some k] [v] pos) (tDisp1 tk tv):=by
 intro pins s σ H Q I q
 have hn:=I.hok.fresh (Nat.le_refl s.heap.objs.size)
 have I1:=I.laid (a:=s.heap.objs.size) (o:= .dT []) (h':=s.heap.push {cls:= .type "dict",data:= .dict #[]}) (t':=s.toks) (fun _ _ q=>Heap.get?_push_of_some _ q) (Nat.le_refl _) (q6F s.heap I.big)
 have pp:=q9z (pos:=pos) hk hv qbu pins _ σ _ (fun ps H2=>match ps with|[(x,y)]=>∃(b:Addr) (k:List Key),x= .ref b/\H2 s.heap.objs.size=some (.dT [])/\H2 b=some (.tup (k.map kV))/\Q (.ref s.heap.objs.size) (upd H2 s.heap.objs.size (.dT [(k,y)]))|_=>False) I1 (q _ hn)
 rw[arm_eval_Dict,zip_pairTrees [some k] [v] X.env pos rfl rfl,dictDisplay_pairs _ (by intro z;cases z) (by show 1<17;decide)]
 refine yD (wpAny_standAt (yD ?_))
 unfold subDict
 refine yD (wpAny_alloc ?_)
 refine yD (wpAny_holding ?_)
 rw[if_pos (by show 1<=15;decide)]
 refine yD (wpAny_mono pp (fun ws s2 z=>?_) fun _ _ e=>e)
 obtain⟨ps,H2,I2,rel,z⟩:=z
 cases rel with
 |nil=>exact z.elim
 | @cons p0 q0 _ _ r1 rel=>
 cases rel with
 |cons _ _=>exact z.elim
 |nil=>
  obtain⟨x,y⟩:=p0
  obtain⟨w1,w2⟩:=q0
  obtain⟨b,k,rfl,e,eb,q2⟩:=z
  obtain⟨ra,rb⟩:=r1
  cases(show w1=Value.ref b from ra)
  refine wpAny_holding ?_
  rw[List.forIn_cons]
  obtain⟨z,hd,xs,rel,dd⟩:=dt_of I2.hok e
  have hx:xs=[]:=by cases rel;rfl
  subst hx
  refine yD (yD (yD (wpAny_dictSet_heap (hsz:=Nat.zero_le _) (show X.A.units<cLine from Nat.lt_of_succ_lt hu) (q3Z I2.hok eb) dd fun h' dd' hs=>wpAny_pure ?_)))
  dsimp only
  rw[List.forIn_nil]
  refine wpAny_pure (wpAny_pure (wpAny_pure (wpAny_pure ⟨.ref s.heap.objs.size,_,?_,rfl,q2⟩)))
  obtain⟨qo,es,ep,hq,h2,h3,h4,_,h5⟩:=dd'
  refine q63 I2 (by rw[e];exact True.intro) hs ⟨qo,hq⟩ ⟨by show 1<=sizeLine;decide,hd,_,((show KT H2 [] [] from .nil).put k eb rb).keeps fun c ys ec=>?_,qo,es,ep,hq,h2,h3,h4,h5⟩
  rw[ql (q2o ec e (fun z=>nomatch z))]
  exact ec
end L2
namespace L2
open PySem PySem.Spec PyProof.Rows
end L2
namespace L2
open PySem PySem.Spec PyProof.Rows
end L2
namespace L2
open PySem PySem.Spec PyProof.Rows
end L2
namespace L2
open PySem PySem.Spec PyProof.Rows
end L2
namespace L2
open PySem PySem.Spec PyProof.Rows
end L2
namespace L2
open PySem PySem.Spec PyProof.Rows
section
variable {κ:Type}[DecidableEq κ]
theorem RelO.getD {o:Option V}{u:Option Value}{d:V}{d':Value}(r:RelO o u)(rd:RelV d d'):RelV (o.getD d) (u.getD d'):=by
 cases o with
 |none=>cases u with
  |none=>exact rd
  |some _=>exact(show False from r).elim
 |some _=>cases u with
  |none=>exact(show False from r).elim
  |some _=>exact r
end
structure M1 (X:Cx)(o:Expr)(m:Str)(apos:Pos)(e:Expr)(cpos:Pos):Prop where
 base:attributeBase o m X.env (eval o X.env)=eval o X.env
 few:((backTo cpos (starEach [e] X.env)).all (fun x=> !x.1)&&(backToKw cpos (keywordEach [] X.env)).all (fun x=>x.1.isSome)
  &&decide (([e]:List Expr).length+([]:List Keyword).length+(if ([]:List Keyword).isEmpty then 0 else 1)<30))=true
 line:(apos.endLine==cpos.line)=true
 trees:backTo cpos (starEach [e] X.env)=[(false,eval e X.env)]
def IsD (H:Hp)(a:Addr):Prop:=(∃kvs,Rd H a (.dK kvs))\/∃kvs,Rd H a (.dT kvs)
theorem isD_at {X:Cx}{pins:List (Addr×Obj)}{σ:St}{H:Hp}{s:Shared}{a:Addr}(I:Inv X pins σ H s)(d:IsD H a):
  s.TypeIs (.ref a) "dict"/\(∀b,Value.ref a= .ref b->∃ob,s.heap.get? b=some ob/\ob.dict=none)/\(a==sysModules)=false:=by
 rcases d with⟨kvs,e⟩|⟨kvs,e⟩
 ·obtain ⟨_,hd,vs,_,dd⟩:=q7g I.hok e
  refine⟨dd.typeIs,fun b q=>?_,hd⟩
  cases q
  obtain⟨ob,_,_,h1,h2,_⟩:=dd
  exact⟨ob,h1,h2.2.1⟩
 ·obtain ⟨_,hd,xs,_,dd⟩:=q7f I.hok e
  refine⟨dd.typeIs,fun b q=>?_,hd⟩
  cases q
  obtain⟨ob,_,_,h1,h2,_⟩:=dd
  exact⟨ob,h1,h2.2.1⟩
section
variable {X:Cx}{pins:List (Addr×Obj)}{σ:St}{H:Hp}{s:Shared}{a:Addr}{y d:V}{u r:Value}{o:Option V}{A:Around}{E:Value->Shared->Prop}
theorem d_get1 {Q:Value->Shared->Prop}(hu:A.units+1<cLine)(I:Inv X pins σ H s)(g:DGet H a y o)(ry:RelV y u)(h:∀w' s',Inv X pins σ H s'->RelV (o.getD .non) w'->Q w' s'):
  wpAny (model X.prog X.w) A (call (.builtin "dict.get") [.ref a,u]) Q E s:=by
 rcases g with⟨kvs,k,e,ey,l⟩|⟨kvs,k,b,e,ey,eb,l⟩
 ·subst ey
  obtain⟨z,hd,vs,rel,dd⟩:=q7g I.hok e
  refine call_meetsIn PySem.F.slot_dict_get dd.typeIs PySem.F.entry_dict_get (PySem.F.args_dict_get_2 _ _) (meets_dict_get (q0s X.prog X.w) a (q8s ry) hd) ⟨_,dd.mapOf,h _ _ (I.tok _) ?_⟩
  rw[l]
  exact(rel.val k).getD rfl
 ·subst ey
  cases(show u=Value.ref b from ry)
  obtain⟨z,hd,xs,rel,dd⟩:=q7f I.hok e
  refine call_meetsIn PySem.F.slot_dict_get dd.typeIs PySem.F.entry_dict_get (PySem.F.args_dict_get_2 _ _) (meetsH_dict_get (tupleKind (q0s X.prog X.w)) a b hd) ⟨tupleKind_room_in1 hu,k,xs,q3Z I.hok eb,dd,h _ _ (I.tok _) ?_⟩
  rw[l]
  exact(rel.val k).getD rfl
end
def qau (td ty:TE):TE:=fun σ H Q=>td σ H fun x H1=>∃a,x= .ref a/\IsD H1 a/\ty σ H1 fun y H2=>∃o,DGet H2 a y o/\Q (o.getD .non) H2
section
variable {X:Cx}{o e f:Expr}{apos cpos:Pos}{td ty tx:TE}
theorem q9G (hu:X.A.units+1<cLine)(ho:PE X o td)(he:PE X e ty)(m:M1 X o "get" apos e cpos):PE X (.Call (.Attribute o "get" apos) [e] [] cpos) (qau td ty):=by
 intro pins s σ H Q I h
 refine wpAny_Call_method m.base m.few m.line PySem.F.plainAttrs_dict PySem.F.slot_dict_get PySem.F.type_dict_get (thn (ho pins s σ H _ I h) fun u s1 ⟨x,H1,I1,rx,a,ex,d,q1⟩=>?_)
 subst ex
 obtain rfl:u=Value.ref a:=rx
 obtain⟨t1,t2,_⟩:=isD_at I1 d
 refine⟨t1,t2,?_⟩
 rw[m.trees]
 refine Calls.callWith_builtin rfl (Calls.evalArgs_plain (Calls.spliced_cons (thn (he pins s1 σ H1 _ I1 q1) fun iv s2 ⟨y,H2,I2,ry,ov,g,q2⟩=>Calls.spliced_nil ?_)))
 exact d_get1 hu I2 g ry fun w' s3 I3 rw'=>⟨_,H2,I3,rw',q2⟩
end
end L2
namespace Att
open PySem PySem.W PySem.Calls PyProof.Rows
end Att
namespace L2
open PySem PySem.Spec PyProof.Rows
end L2
namespace L2
open PySem PySem.Spec PyProof.Rows
def qas (te:TE):TE:=fun σ H Q=>te σ H fun x H1=>∃a kvs,x= .ref a/\H1 a=some (.dT kvs)/\∀o,Q x (upd H1 a (.frz o (.dT kvs)))
theorem q85 {X:Cx}{e:Expr}{te:TE}(he:PE X e te):PE X e (qas te):=by
 intro pins s σ H Q I h
 refine thn (he pins s σ H _ I h) fun v s1 ⟨x,H1,I1,r1,q1⟩=>?_
 obtain⟨a,kvs,ex,e1,k⟩:=q1
 obtain⟨o,I2⟩:=I1.hold e1
 exact⟨x,_,I2,r1,k o⟩
section
variable {σ:St}{H:Hp}{Q:VK}{te td ty:TE}
theorem qbl (q:te σ H fun x H1=>∃a kvs,x= .ref a/\H1 a=some (.dT kvs)/\∀o,Q x (upd H1 a (.frz o (.dT kvs)))):qas te σ H Q:=q
theorem r_dgm (q:td σ H fun x H1=>∃a,x= .ref a/\IsD H1 a/\ty σ H1 fun y H2=>∃o,DGet H2 a y o/\Q (o.getD .non) H2):qau td ty σ H Q:=q
end
theorem q4A (bs:List Bool):((List.range bs.length).any fun i=>bs.getD i true)=bs.any id:=by
 rw[Bool.eq_iff_iff]
 simp only[List.any_eq_true,List.mem_range,id]
 constructor
 ·rintro ⟨i,hi,h⟩
  exact⟨bs[i],List.getElem_mem hi,by simpa[List.getD,hi] using h⟩
 ·rintro ⟨x,hx,h⟩
  obtain⟨i,hi,rfl⟩:=List.mem_iff_getElem.mp hx
  exact⟨i,hi,by simpa[List.getD,hi] using h⟩
def rAny (K:W.Frag):List V->Hp->VK->Prop:=fun xs H Q=>∃(p:Addr) (bs:List Bool),xs=[.ref p]/\SqL K H p (bs.map V.bl)/\Q (.bl (bs.any id)) H
theorem anyK {X:Cx}(K:W.Frag)(hc:X.calm=true:=by rfl)(hK:X.K=K:=by rfl):q24 X (.builtin "any") (rAny K):=by
 subst hK
 intro pins s σ H xs us Q I r h
 obtain⟨p,bs,rfl,hq,q⟩:=h
 obtain⟨u,rfl,rx⟩:=q4O r
 cases rx
 obtain⟨its,rv,pl,hz⟩:=I.list hq
 have hits:=q9h rv
 have hl:=pl.isList
 have hlt:p<s.heap.objs.size:=by obtain⟨o,e,_⟩:=hl;exact Heap.lt_size e
 have hh:X.A.in1.handled=none:=I.ok.hd hc
 refine call_any_walk (wpAny_pyIter_list hl ?_)
 refine⟨s.heap.objs.size,_,_,_,_,_,fun i=>bs.getD i true,rfl,Walks.list hh s.heap.objs.size p (Nat.ne_of_lt hlt) its.toArray,⟨⟨_,Heap.get?_push_size _ rfl,rfl,rfl⟩,hl.push _⟩,?_,fun h' tk hk=>?_⟩
 ·intro i v s' Q' E' hv hQ
  have e:v= .bool (bs.getD i true):=by
   have hv':its[i]? =some v:=by simpa using hv
   rw[hits,List.getElem?_map] at hv'
   cases e:bs[i]? with
   |none=>rw[e] at hv';cases hv'
   |some b=>rw[e] at hv';simp[List.getD,e];exact(Option.some.inj hv').symm
  subst e
  first
   |exact wpAny_pure hQ
   |exact hQ
 ·have e:its.toArray.size=bs.length:=by rw[hits];simp
  have I1:Inv X pins σ H {s with heap:=s.heap.push {cls:= .type "list_iterator",data:= .fields #[.ref p,.int 0 0]}}:=I.kept (t':=s.toks) fun b o e=>Heap.get?_push_of_some _ e
  have f:∀b∈[s.heap.objs.size],FpOk X pins H b:=fun b hb=>by rw[List.mem_singleton.mp hb];exact I.fpOk (Nat.le_refl _) (I.hok.fresh (Nat.le_refl _))
  refine⟨.bl (bs.any id),H,I1.turnedL (t':=tk) (ch:=[s.heap.objs.size]) f fun b o hb e=>hk b o hb e,?_,q⟩
  show Value.bool _=Value.bool _
  rw[e,q4A]
end L2
namespace L2
open PySem PySem.Spec PyProof.Rows PySem.W
def xRet (te:TEx):TSx:=fun D Ex σ H=>te σ H (fun v H1=>D.rt v H1) (Ex σ)
def xTup2 (t:TE)(te:TEx):TEx:=fun σ H Q Ex=>t σ H fun x H1=>te σ H1 (fun y H2=>∀p,H2 p=none->Q (.ref p) (upd H2 p (.tup [x,y]))) Ex
section
variable {X:Cx}{k k':Nat}{ps:List Str}{sp:Sp}{dvs:List V}{ds ds':List Value}{x:Str}{p pos:Pos}{e e2:Expr}{es:List Expr}{t:TA}{st:Stmt}
theorem q7U {te:TEx}(he:PEx X e te):PSx X (.Return (some e) pos) (xRet te):=by
 intro pins s σ H D Ex I h
 exact wpAny_Return_some (wpAny_mono (he pins s σ H _ _ I h) (fun v s1 ⟨x,H1,I1,r1,q1⟩=>⟨x,σ,H1,I1,r1,q1⟩) fun _ _ z=>⟨σ,z⟩)
theorem q5i (c:CalDX X.prog X.w X.K X.mg X.base k x ps sp st ds)(hX:X.ex=[])(hb:∀us:List Value,(us++ds').length=ps.length->BnD x st ds ⟨us,[]⟩ (ps.zip (us++ds')))(hd:Vals dvs ds')(hr:Room k' X.A)(hk:k<=k')(hg:Gl X x)(ha:PA X.nox (e::es) t)
  (hdb:(x==("__debug__":Str))=false:=by decide)(he:starEach (e::es) X.env=(false,eval e X.env)::starEach es X.env:=by rfl)
  (hpl:(backTo pos (starEach es X.env)).any (·.1)=false:=by rfl):PEx X (.Call (.Name x p) (e::es) [] pos) (qaV sp dvs t):=by
 obtain⟨f,fd,F,m,D⟩:=c.ex
 exact q9D F (hr.mono hk) hg m D.kp (fun s us hX hl=>D.bind hX (hb us hl)) hd hX ha hdb he hpl
theorem q6u {x1}{te:TE}{tx:TEx}(h1:PE X.nox e te)(h2:PEx X e2 tx)(hs:starEach [e,e2] X.env=[(false,eval e X.env),(false,eval e2 X.env)]:=by rfl):PEx X (.Tuple [e,e2] x1 pos) (xTup2 te tx):=by
 intro pins s σ H Q Ex I h
 refine wpAny_Tuple_spliced ?_
 rw[hs]
 show wpAny _ _ (spliced [(false,eval e X.env),(false,eval e2 X.env)]) _ _ s
 refine Calls.spliced_cons (wpAny_mono (h1 pins s σ H _ (I.wish _) h) (fun u s1 ⟨x,H1,I1,r1,q1⟩=>?_) fun _ _ z=>False.elim z)
 refine Calls.spliced_cons (wpAny_mono (h2 pins s1 σ H1 _ _ I1.unwish q1) (fun v s2 ⟨y,H2,I2,r2,q2⟩=>?_) fun _ _ z=>z)
 refine Calls.spliced_nil ⟨by have:=qC;simp;omega,?_⟩
 have hf:H2 s2.heap.objs.size=none:=I2.hok.fresh (Nat.le_refl _)
 refine⟨.ref s2.heap.objs.size,upd H2 s2.heap.objs.size (.tup [x,y]),I2.laid (t':=s2.toks) (fun b u e=>Heap.get?_push_of_some _ e) (Nat.le_refl _) ?_,rfl,q2 _ hf⟩
 exact⟨by have:=qC;simp;omega,_,.cons r1 (.cons r2 .nil),⟨_,Heap.get?_push_size _ rfl,rfl,_,rfl⟩⟩
end
end L2
namespace Mine
open PySem L2
local macro_rules| `(tactic| walk_at "s")=> `(tactic| exact⟨rfl,rfl,rfl,by walk_at "k",rfl,by walk_at "k",by walk_at "k"⟩)
theorem bl0 {P:List Value->Prop}(h:P []):∀us:List Value,us.length=0->P us:=fun us e=>by cases us with|nil=>exact h|cons=>cases e
theorem blS {n:Nat}{P:List Value->Prop}(h:∀a (us:List Value),us.length=n->P (a::us)):∀us:List Value,us.length=n+1->P us:=fun us e=>by cases us with|nil=>cases e|cons a us=>exact h a us (Nat.succ.inj e)
def top (i:Nat):Stmt:=PySem.Challenge.pw_delve_k44_fewest_deeds.main.body.getD i (.Pass ⟨0,0,0,0⟩)
abbrev q7M:Stmt:=top 0
abbrev q39:Stmt:=top 8
abbrev q2t:Stmt:=top 9
abbrev q2v:Stmt:=top 10
abbrev q2u:Stmt:=top 19
abbrev q4e:Stmt:=top 40
abbrev q6n:Stmt:=top 41
abbrev q0D:Stmt:=top 42
abbrev q1k:Stmt:=top 50
abbrev q3n:Stmt:=top 51
abbrev q0R:Stmt:=top 52
abbrev q1c:Stmt:=top 53
abbrev q0k:Stmt:=top 54
abbrev q25:Stmt:=top 57
abbrev q1h:Stmt:=top 58
abbrev q3a:Stmt:=top 59
abbrev q3b:Stmt:=top 60
abbrev q1j:Stmt:=top 61
abbrev q1b:Stmt:=top 62
abbrev q0L:Stmt:=top 63
abbrev q0z:Stmt:=top 64
abbrev q1U:Stmt:=top 66
abbrev q0K:Stmt:=top 68
abbrev q1i:Stmt:=top 69
abbrev q1q:Stmt:=top 71
abbrev q1p:Stmt:=top 72
abbrev q1l:Stmt:=top 73
abbrev q08:Stmt:=top 74
abbrev q1o:Stmt:=top 75
abbrev q1n:Stmt:=top 76
abbrev qO:Stmt:=top 77
abbrev q0S:Stmt:=top 79
abbrev q1m:Stmt:=top 80
abbrev q0X:Stmt:=top 81
abbrev q0T:Stmt:=top 82
abbrev qbe:Stmt:=top 83
abbrev q1z:Stmt:=qL (top 5) 0
abbrev q1F:Stmt:=qL (top 12) 0
abbrev qU:Stmt:=qL (top 12) 1
abbrev q0Z:Stmt:=qL (top 13) 0
abbrev q0Y:Stmt:=qL (top 13) 1
abbrev q1H:Stmt:=qL (top 14) 0
abbrev q1G:Stmt:=qL (top 14) 1
abbrev q1E:Stmt:=qL (top 15) 0
abbrev q1D:Stmt:=qL (top 15) 1
abbrev q27:Stmt:=qL (top 16) 0
abbrev q26:Stmt:=qL (top 16) 1
abbrev q1s:Stmt:=qL (top 17) 0
abbrev q1r:Stmt:=qL (top 17) 1
abbrev q13:Stmt:=qL (top 18) 0
abbrev q12:Stmt:=qL (top 18) 1
abbrev q1I:Stmt:=qL (top 44) 0
abbrev q04:Stmt:=qL (top 44) 1
abbrev qV:Stmt:=qL (top 44) 2
abbrev qF:Stmt:=qL (top 44) 4
abbrev q2w:Stmt:=qL (top 45) 0
abbrev q2x:Stmt:=qL (top 45) 1
abbrev q2y:Stmt:=qL (top 45) 2
abbrev q1A:Stmt:=qL (top 46) 0
abbrev q1B:Stmt:=qL (top 46) 1
abbrev q1C:Stmt:=qL (top 46) 2
abbrev q1w:Stmt:=qL (top 47) 0
abbrev q1x:Stmt:=qL (top 47) 1
abbrev q1y:Stmt:=qL (top 47) 2
abbrev q1t:Stmt:=qL (top 48) 0
abbrev q1u:Stmt:=qL (top 48) 1
abbrev q1v:Stmt:=qL (top 48) 2
abbrev q0M:Stmt:=qL (top 49) 0
abbrev q0N:Stmt:=qL (top 49) 1
abbrev q0O:Stmt:=qL (top 49) 2
theorem q7L:FnScope ["number","least","most"] ["number","least","most"] (qh q39):=by walk_at "s"
theorem q6Y:FnScope ["bits","place"] ["bits","place"] (qh q2t):=by walk_at "s"
theorem q70:FnScope ["parts","place","part"] ["parts","place","part"] (qh q2v):=by walk_at "s"
theorem q3S:FnScope ["gate","word"] ["gate"] (qh q2u):=by walk_at "s"
theorem q9n:FnScope ["cellar"] ["cellar"] (qh q4e):=by walk_at "s"
theorem q2K:FnScope ["cellar","stand","counts","number","thing","kind"] ["cellar","stand"] (qh q6n):=by walk_at "s"
theorem q49:FnScope ["cellar"] ["cellar"] (qh q0D):=by walk_at "s"
theorem q4W:FnScope ["way","room"] ["way","room"] (qh q1k):=by walk_at "s"
theorem q9o:FnScope ["cellar","stand"] ["cellar","stand"] (qh q3n):=by walk_at "s"
theorem q4T:FnScope ["cellar","stand"] ["cellar","stand"] (qh q0R):=by walk_at "s"
theorem q5L:FnScope ["cellar"] ["cellar"] (qh q1c):=by walk_at "s"
theorem q0B:FnScope ["cellar","pulls","takes","turns","unlocks"] ["cellar"] (qh q0k):=by walk_at "s"
theorem q5K:FnScope ["cellar","stand"] ["cellar","stand"] (qh q25):=by walk_at "s"
theorem q05:FnScope ["cellar","begin","walk","row","place","here","pairs","deed","other"] ["cellar","begin"] (qh q1h):=by walk_at "s"
theorem q1a:FnScope ["ends","begin","walk","counts","row","here","step"] ["ends","begin","walk"] (qh q3a):=by walk_at "s"
theorem q3m:FnScope ["walk","counts","stand","deed","other"] ["walk","counts","stand"] (qh q3b):=by walk_at "s"
theorem q4V:FnScope ["ends","walk"] ["ends","walk"] (qh q1j):=by walk_at "s"
theorem q1g:FnScope ["walk","links","stand","pairs"] ["walk"] (qh q1b):=by walk_at "s"
theorem qY:FnScope ["begins","links","row","counts","begin","place","here","other"] ["begins","links"] (qh q0L):=by walk_at "s"
theorem q0d:FnScope ["links","turned","stand","others","other"] ["links"] (qh q0z):=by walk_at "s"
theorem q6Z:FnScope ["cellar","walk"] ["cellar","walk"] (qh q1U):=by walk_at "s"
theorem q4U:FnScope ["cellar","stand","begin"] ["cellar","stand"] (qh q0K):=by walk_at "s"
theorem q2R:FnScope ["cellar","begin","walk","row"] ["cellar","begin","walk"] (qh q1i):=by walk_at "s"
theorem q1T:FnScope ["_law_script","_law_k","_law_number"] ["_law_script","_law_k"] (qh q1q):=by walk_at "s"
theorem q2U:FnScope ["_law_cell_here","_law_kinds","_law_kind"] ["_law_cell_here","_law_kinds"] (qh q1p):=by walk_at "s"
theorem qS:FnScope ["_law_script","_law_rooms","_law_doors","_law_kinds","_law_ways_here","_law_k","_law_cell_here","_law_a","_law_b","_law_gate_here"] ["_law_script","_law_rooms","_law_doors","_law_kinds"] (qh q1l):=by walk_at "s"
theorem qx:FnScope ["_law_script","_law_cell_here","_law_sizes","_law_most","_law_things","_law_doors","_law_levers","_law_wheels","_law_rooms","_law_kinds","_law_lain","_law_k","_law_at","_law_pulled","_law_turned","_law_last","_law_first","_law_ways_here","_law_rest"] ["_law_script"] (qh q08):=by walk_at "s"
theorem q0t:FnScope ["_law_cave_here","_law_stand","_law_kind","_law_total","_law_k"] ["_law_cave_here","_law_stand","_law_kind"] (qh q1o):=by walk_at "s"
theorem q2T:FnScope ["_law_cave_here","_law_stand","_law_way","_law_gate_here"] ["_law_cave_here","_law_stand","_law_way"] (qh q1n):=by walk_at "s"
theorem qA:FnScope ["_law_cave_here","_law_stand","_law_room","_law_taken","_law_opened","_law_bars","_law_water","_law_goes","_law_unlocks","_law_w","_law_a","_law_b","_law_gate_here","_law_back","_law_pulls","_law_takes","_law_turns"] ["_law_cave_here","_law_stand"] (qh qO):=by walk_at "s"
theorem q06:FnScope ["_law_cave_here","_law_first","_law_found","_law_edge","_law_total","_law_far","_law_stand","_law_deed","_law_other"] ["_law_cave_here","_law_first"] (qh q0S):=by walk_at "s"
theorem q2S:FnScope ["_law_cave_here","_law_stand","e"] ["_law_cave_here","_law_stand"] (qh q1m):=by walk_at "s"
theorem q2s:FnScope ["_law_cave_here","e"] ["_law_cave_here"] (qh q0X):=by walk_at "s"
theorem q0C:FnScope ["_law_cave_here","_law_stand","_law_told_here","_law_near_here","_law_deed","_law_after"] ["_law_cave_here","_law_stand","_law_told_here"] (qh q0T):=by walk_at "s"
theorem q3R:FnScope ["_law_script","_law_cave_here","_law_stand","_law_k","_law_moves_here"] ["_law_script"] (qh qbe):=by walk_at "s"
theorem q54:FnScope ["self","stand"] ["self","stand"] (qh q1z):=by walk_at "s"
theorem q5a:FnScope ["self","word","numbers"] ["self","word","numbers"] (qh q1F):=by walk_at "s"
theorem q4b:FnScope ["self"] ["self"] (qh q0Z):=by walk_at "s"
theorem q4a:FnScope ["self","held","opened","bars","water"] ["self","held","opened","bars","water"] (qh q0Y):=by walk_at "s"
theorem q5c:FnScope ["self","kind"] ["self","kind"] (qh q1H):=by walk_at "s"
theorem q5b:FnScope ["self","held","opened","bars","water"] ["self","held","opened","bars","water"] (qh q1G):=by walk_at "s"
theorem q59:FnScope ["self","kind"] ["self","kind"] (qh q1E):=by walk_at "s"
theorem q58:FnScope ["self","held","opened","bars","water"] ["self","held","opened","bars","water"] (qh q1D):=by walk_at "s"
theorem q5O:FnScope ["self","bar"] ["self","bar"] (qh q27):=by walk_at "s"
theorem q5N:FnScope ["self","held","opened","bars","water"] ["self","held","opened","bars","water"] (qh q26):=by walk_at "s"
theorem q4Y:FnScope ["self","height","kind"] ["self","height","kind"] (qh q1s):=by walk_at "s"
theorem q4X:FnScope ["self","held","opened","bars","water"] ["self","held","opened","bars","water"] (qh q1r):=by walk_at "s"
theorem q4d:FnScope ["self","height"] ["self","height"] (qh q13):=by walk_at "s"
theorem q4c:FnScope ["self","held","opened","bars","water"] ["self","held","opened","bars","water"] (qh q12):=by walk_at "s"
theorem q5e:FnScope ["self","word","number","part"] ["self","word","number","part"] (qh q1I):=by walk_at "s"
theorem q5M:FnScope ["self","cellar","stand"] ["self","cellar","stand"] (qh q04):=by walk_at "s"
theorem q5d:FnScope ["self"] ["self"] (qh qV):=by walk_at "s"
theorem q32:FnScope ["self","cellar"] ["self","cellar"] (qh qF):=by walk_at "s"
theorem q71:FnScope ["self","number"] ["self","number"] (qh q2w):=by walk_at "s"
theorem q2L:FnScope ["self","cellar","stand","way","opened"] ["self","cellar","stand"] (qh q2x):=by walk_at "s"
theorem q2M:FnScope ["self","cellar","stand","way","other_end"] ["self","cellar","stand"] (qh q2y):=by walk_at "s"
theorem q55:FnScope ["self","number"] ["self","number"] (qh q1A):=by walk_at "s"
theorem q56:FnScope ["self","cellar","stand"] ["self","cellar","stand"] (qh q1B):=by walk_at "s"
theorem q57:FnScope ["self","cellar","stand"] ["self","cellar","stand"] (qh q1C):=by walk_at "s"
theorem q51:FnScope ["self","number"] ["self","number"] (qh q1w):=by walk_at "s"
theorem q52:FnScope ["self","cellar","stand"] ["self","cellar","stand"] (qh q1x):=by walk_at "s"
theorem q53:FnScope ["self","cellar","stand"] ["self","cellar","stand"] (qh q1y):=by walk_at "s"
theorem q4Z:FnScope ["self","number"] ["self","number"] (qh q1t):=by walk_at "s"
theorem q2V:FnScope ["self","cellar","stand","wheel"] ["self","cellar","stand"] (qh q1u):=by walk_at "s"
theorem q50:FnScope ["self","cellar","stand"] ["self","cellar","stand"] (qh q1v):=by walk_at "s"
theorem q3L:FnScope ["self","number"] ["self","number"] (qh q0M):=by walk_at "s"
theorem q18:FnScope ["self","cellar","stand","way","gate"] ["self","cellar","stand"] (qh q0N):=by walk_at "s"
theorem q3M:FnScope ["self","cellar","stand"] ["self","cellar","stand"] (qh q0O):=by walk_at "s"
structure Cs where
 Gate:Addr
 Plain:Addr
 Door:Addr
 Need:Addr
 Bar:Addr
 Wade:Addr
 Float:Addr
 Deed:Addr
 Go:Addr
 Pull:Addr
 Take:Addr
 Turn:Addr
 Unlock:Addr
structure TxtR (a:Str->Value->Prop)(n:Str->Prop)(cs:Cs):Prop where
 n_ValueError:n "ValueError"
 n_any:n "any"
 n_bool:n "bool"
 n_enumerate:n "enumerate"
 n_int:n "int"
 n_isinstance:n "isinstance"
 n_len:n "len"
 n_list:n "list"
 n_max:n "max"
 n_range:n "range"
 n_tuple:n "tuple"
 e_BARS:∃t,a "BARS" (.int 3 t)
 e_FIRST:∃t,a "FIRST" (.int 1 t)
 e_FIRST_BARS:∃t,a "FIRST_BARS" (.int 7 t)
 e_FIRST_WATER:∃t,a "FIRST_WATER" (.int 8 t)
 e_LAST:∃t,a "LAST" (.int 2 t)
 e_LAST_KIND:∃t,a "LAST_KIND" (.int 11 t)
 e_LEVERS:∃t,a "LEVERS" (.int 5 t)
 e_MOST_STANDS:∃t,a "MOST_STANDS" (.int 300 t)
 e_OPENED:∃t,a "OPENED" (.int 2 t)
 e_PAIR_NUMBER:∃t,a "PAIR_NUMBER" (.int 1 t)
 e_PAIR_ROOM:∃t,a "PAIR_ROOM" (.int 0 t)
 e_ROOM:∃t,a "ROOM" (.int 0 t)
 e_TAKEN:∃t,a "TAKEN" (.int 1 t)
 e_THINGS:∃t,a "THINGS" (.int 4 t)
 e_WATER:∃t,a "WATER" (.int 4 t)
 e_WAYS:∃t,a "WAYS" (.int 3 t)
 e_WAY_A:∃t,a "WAY_A" (.int 0 t)
 e_WAY_B:∃t,a "WAY_B" (.int 1 t)
 e_WAY_BACK:∃t,a "WAY_BACK" (.int 3 t)
 e_WAY_GATE:∃t,a "WAY_GATE" (.int 2 t)
 e_WHEELS:∃t,a "WHEELS" (.int 6 t)
 c_Gate:a "Gate" (.ref cs.Gate)
 c_Plain:a "Plain" (.ref cs.Plain)
 c_Door:a "Door" (.ref cs.Door)
 c_Need:a "Need" (.ref cs.Need)
 c_Bar:a "Bar" (.ref cs.Bar)
 c_Wade:a "Wade" (.ref cs.Wade)
 c_Float:a "Float" (.ref cs.Float)
 c_Deed:a "Deed" (.ref cs.Deed)
 c_Go:a "Go" (.ref cs.Go)
 c_Pull:a "Pull" (.ref cs.Pull)
 c_Take:a "Take" (.ref cs.Take)
 c_Turn:a "Turn" (.ref cs.Turn)
 c_Unlock:a "Unlock" (.ref cs.Unlock)
abbrev Txt (mg:Str->Option Value)(cs:Cs):Prop:=TxtR (fun x v=>mg x=some v) (fun x=>mg x=none) cs
theorem TxtR.up {a a':Str->Value->Prop}{n n':Str->Prop}{cs:Cs}(h1:∀x v,a x v->a' x v)(h2:∀x,n x->n' x)(t:TxtR a n cs):TxtR a' n' cs:=⟨h2 _ t.n_ValueError,h2 _ t.n_any,h2 _ t.n_bool,h2 _ t.n_enumerate,h2 _ t.n_int,h2 _ t.n_isinstance,h2 _ t.n_len,h2 _ t.n_list,h2 _ t.n_max,h2 _ t.n_range,h2 _ t.n_tuple,t.e_BARS.imp fun _=>h1 _ _,t.e_FIRST.imp fun _=>h1 _ _,t.e_FIRST_BARS.imp fun _=>h1 _ _,t.e_FIRST_WATER.imp fun _=>h1 _ _,t.e_LAST.imp fun _=>h1 _ _,t.e_LAST_KIND.imp fun _=>h1 _ _,t.e_LEVERS.imp fun _=>h1 _ _,t.e_MOST_STANDS.imp fun _=>h1 _ _,t.e_OPENED.imp fun _=>h1 _ _,t.e_PAIR_NUMBER.imp fun _=>h1 _ _,t.e_PAIR_ROOM.imp fun _=>h1 _ _,t.e_ROOM.imp fun _=>h1 _ _,t.e_TAKEN.imp fun _=>h1 _ _,t.e_THINGS.imp fun _=>h1 _ _,t.e_WATER.imp fun _=>h1 _ _,t.e_WAYS.imp fun _=>h1 _ _,t.e_WAY_A.imp fun _=>h1 _ _,t.e_WAY_B.imp fun _=>h1 _ _,t.e_WAY_BACK.imp fun _=>h1 _ _,t.e_WAY_GATE.imp fun _=>h1 _ _,t.e_WHEELS.imp fun _=>h1 _ _,h1 _ _ t.c_Gate,h1 _ _ t.c_Plain,h1 _ _ t.c_Door,h1 _ _ t.c_Need,h1 _ _ t.c_Bar,h1 _ _ t.c_Wade,h1 _ _ t.c_Float,h1 _ _ t.c_Deed,h1 _ _ t.c_Go,h1 _ _ t.c_Pull,h1 _ _ t.c_Take,h1 _ _ t.c_Turn,h1 _ _ t.c_Unlock⟩
structure Tcl (K:W.Frag)(cs:Cs):Prop where
 cl_Plain:Cls K cs.Plain
 no_Plain_numbers:qH K cs.Plain "numbers"
 no_Plain_word:qH K cs.Plain "word"
 cl_Door:Cls K cs.Door
 no_Door_numbers:qH K cs.Door "numbers"
 no_Door_word:qH K cs.Door "word"
 cl_Need:Cls K cs.Need
 no_Need_kind:qH K cs.Need "kind"
 no_Need_numbers:qH K cs.Need "numbers"
 no_Need_word:qH K cs.Need "word"
 cl_Bar:Cls K cs.Bar
 no_Bar_bar:qH K cs.Bar "bar"
 no_Bar_numbers:qH K cs.Bar "numbers"
 no_Bar_word:qH K cs.Bar "word"
 cl_Wade:Cls K cs.Wade
 no_Wade_height:qH K cs.Wade "height"
 no_Wade_kind:qH K cs.Wade "kind"
 no_Wade_numbers:qH K cs.Wade "numbers"
 no_Wade_word:qH K cs.Wade "word"
 cl_Float:Cls K cs.Float
 no_Float_height:qH K cs.Float "height"
 no_Float_numbers:qH K cs.Float "numbers"
 no_Float_word:qH K cs.Float "word"
 cl_Go:Cls K cs.Go
 no_Go_number:qH K cs.Go "number"
 no_Go_part:qH K cs.Go "part"
 no_Go_word:qH K cs.Go "word"
 cl_Pull:Cls K cs.Pull
 no_Pull_number:qH K cs.Pull "number"
 no_Pull_part:qH K cs.Pull "part"
 no_Pull_word:qH K cs.Pull "word"
 cl_Take:Cls K cs.Take
 no_Take_number:qH K cs.Take "number"
 no_Take_part:qH K cs.Take "part"
 no_Take_word:qH K cs.Take "word"
 cl_Turn:Cls K cs.Turn
 no_Turn_number:qH K cs.Turn "number"
 no_Turn_part:qH K cs.Turn "part"
 no_Turn_word:qH K cs.Turn "word"
 cl_Unlock:Cls K cs.Unlock
 no_Unlock_number:qH K cs.Unlock "number"
 no_Unlock_part:qH K cs.Unlock "part"
 no_Unlock_word:qH K cs.Unlock "word"
structure Xs where
 DelveError:Addr
 NoCellar:Addr
 Shut:Addr
 Wide:Addr
structure Tx (K:W.Frag)(mg:Str->Option Value)(xs:Xs):Prop where
 at_DelveError:mg "DelveError"=some (.ref xs.DelveError)
 at_NoCellar:mg "NoCellar"=some (.ref xs.NoCellar)
 at_Shut:mg "Shut"=some (.ref xs.Shut)
 at_Wide:mg "Wide"=some (.ref xs.Wide)
 ex_NoCellar:ExcC K xs.NoCellar
 mo_NoCellar_0:W.exmOne K (.ref xs.NoCellar) (.ref xs.Shut)=some false
 is_NoCellar_DelveError:W.kitOne K (.ref xs.NoCellar) (.ref xs.DelveError)=some true
 is_NoCellar_ValueError:W.kitOne K (.ref xs.NoCellar) (.type "ValueError")=some true
 mo_Shut_0:W.exmOne K (.ref xs.Shut) (.ref xs.Shut)=some true
 is_Shut_DelveError:W.kitOne K (.ref xs.Shut) (.ref xs.DelveError)=some true
 is_Shut_ValueError:W.kitOne K (.ref xs.Shut) (.type "ValueError")=some true
 ex_Wide:ExcC K xs.Wide
 mo_Wide_0:W.exmOne K (.ref xs.Wide) (.ref xs.Shut)=some false
 is_Wide_DelveError:W.kitOne K (.ref xs.Wide) (.ref xs.DelveError)=some true
 is_Wide_ValueError:W.kitOne K (.ref xs.Wide) (.type "ValueError")=some true
 xt_NoCellar:ExcT K xs.NoCellar
 xt_Shut:ExcT K xs.Shut
 xt_Wide:ExcT K xs.Wide
 xf_Shut:ExcF K xs.Shut
 xi_Shut:q7l K xs.Shut
 nf_Shut_stand:W.findIn K (.ref xs.Shut) "stand"=some none
 bi_DelveError:BaseI K xs.DelveError
-- ROOM 13
-- SLIM
-- DROP ok_deed_of
-- DROP ok_behind
-- DROP ok_deedsAt
-- DROP ok_without
-- DROP ok_canin
-- DROP ok_goals
-- DROP ok_must
-- DROP bd_must_3
-- DROP bd_must_4
-- DROP dv_must_3
-- DROP dv_must_4
-- PATCHED
-- DROP ok_cell
-- DROP ok_gate
-- DROP ok_heldL
-- DROP ok_cellar
-- DROP stand_b
-- DROP ok_stand
-- DROP vm_dtext
-- DROP vm_told
-- DROP vm_text
local macro_rules| `(tactic| walk_at "ne")=> `(tactic| refine ifd (fun h=>absurd h (by walk_at "k")) (fun _=>?_))
local macro_rules| `(tactic| walk_at "eq")=> `(tactic| refine ifd (fun _=>?_) (fun h=>absurd rfl h))
local macro_rules| `(tactic| walk_at "at")=> `(tactic| first|rfl|exact atI0|exact qcz (by assumption)|exact q0m (by assumption)|assumption)
local macro_rules| `(tactic| walk_at "hp")=> `(tactic| first|with_reducible assumption|with_reducible exact qg|((with_reducible apply q17);(rotate_left;(with_reducible assumption));walk_at "hp")|exact qg)
local macro_rules| `(tactic| walk_at "sq")=> `(tactic| first|with_reducible assumption|((with_reducible apply SqT.of);walk_at "hp")|((with_reducible apply SqL.of);walk_at "hp")|((with_reducible refine' Same.seq ?s ?h);(case h=>with_reducible assumption);(case s=>walk_at "sm"))|((with_reducible refine' Same.tup ?s ?h);(case h=>with_reducible assumption);(case s=>walk_at "sm")))
local macro_rules| `(tactic| walk_at "sm")=> `(tactic| first|with_reducible assumption|with_reducible exact Same.refl _|((with_reducible refine Same.trans ?_ (Same.upd (by assumption)));walk_at "sm"))
local macro_rules| `(tactic| walk_at "side")=> `(tactic| first|assumption|omega|(exact⟨by omega,by omega⟩)|(exact Or.inl ⟨by omega,by omega⟩)|(exact Or.inr ⟨by omega,by omega⟩)|(exact⟨by omega,by omega,by omega⟩)|(exact⟨by omega,by omega,by decide⟩)|(exact⟨⟨by omega,by omega⟩,by omega,by omega⟩))
local macro_rules| `(tactic| walk_at "rd1")=> `(tactic| first|((with_reducible refine' r_var ?h ?_);(case h=>rfl))|(with_reducible first|refine' r_op ?_|refine' r_c ?_|refine' r_cons ?_|refine' r_nil ?_|refine' r_seq ?_|refine' r_asg ?_|refine' r_name ?_|refine' r_call ?_|refine' r_cb ?_|refine' r_I0 ?_|refine' r_test ?_|refine' r_bl ?_|refine' r_B ?_|refine' r_ifS ?_|refine' r_ret ?_|refine' r_eqI ?_|refine' r_eqS ?_|refine' r_neI ?_|refine' r_neS ?_|refine' r_and ?_|refine' r_or ?_|refine' r_not ?_|refine' r_isN ?_|refine' r_andV ?_|refine' r_orV ?_|refine' r_notV ?_|refine' r_if ?_|refine' r_tup ?_|refine' r_lst ?_|refine' r_sl ?_|refine' r_np ?_|refine' r_pt ?_|refine' r_int ?_|refine' r_fld0 ?_|refine' qbh ?_|refine' r_vm0 ?_|refine' r_make ?_|refine' qbn ?_|refine' r_max2 ?_|refine' r_intb ?_|refine' r_next ?_|refine' r_drop ?_|refine' r_augS ?_|refine' r_ipI ?_|refine' r_gc ?_|refine' r_gn ?_|refine' r_bm ?_|refine' r_for ?_|refine' r_rng1 ?_|refine' r_comp ?_|refine' r_yes ?_|refine' r_iL ?_|refine' r_iT ?_|refine' r_eL ?_|refine' r_eT ?_|refine' iteT ?_|refine' iteF ?_|refine' ifnT ?_|refine' ifnF ?_|refine' q9v ?_|refine' q9w ?_|refine' q9t ?_|refine' r_dnew ?_|refine' r_dget ?_|refine' r_dnin ?_|refine' r_dput ?_|refine' r_dk ?_|refine' r_dp ?_|refine' qbl ?_|refine' r_dgm ?_)|((with_reducible refine' r_I ?h ?_);(case h=>walk_at "side"))|((with_reducible refine' r_al ?h ?_);(case h=>rfl))|((with_reducible refine' r_augN ?h ?_);(case h=>rfl))|((with_reducible refine' q33 ?h ?e ?_);(case h=>walk_at "sq");(case e=>walk_at "at"))|((with_reducible refine' q4f ?h ?e ?_);(case h=>walk_at "sq");(case e=>walk_at "at"))|((with_reducible refine' r_lenT ?h ?_);(case h=>walk_at "sq"))|((with_reducible refine' r_lenL ?h ?_);(case h=>walk_at "sq"))|((with_reducible refine' r_refT ?h ?_);(case h=>walk_at "sq"))|((with_reducible refine' r_refL ?h ?_);(case h=>walk_at "sq"))|((with_reducible refine' qbj ?h ?_);(case h=>walk_at "sq"))|((with_reducible refine' qbk ?h ?_);(case h=>walk_at "sq"))|((with_reducible refine' r_tyL ?h ?_);(case h=>walk_at "hp"))|((with_reducible refine' q9u ?h ?_);(case h=>walk_at "hp"))|((with_reducible refine' r_gT ?h ?e ?_);(case h=>walk_at "sq");(case e=>rfl))|((with_reducible refine' r_rg ?h ?_);(case h=>walk_at "side")))
local macro_rules| `(tactic| walk_at "r")=> `(tactic| repeat (walk_at "rd1"))
open Ce
def q5I:Sp:=fun vs H Q _=>∃x t,vs=[.int x,.int t]/\0<=t/\Q (.bl (bit x t.toNat)) H
def q5F:Sp:=fun vs H Q _=>∃(p:Addr) (C:Cl),vs=[.ref p]/\ClAt H p C/\∀(q:Addr) (H':Hp),Same H H'->H' q=some (.tup [.int C.fst,.int 0,.int 0,.int C.bars,.int C.water])->Q (.ref q) H'
def dkV (g:Gt):V:=match g.dk with
 |some k=> .int k
 |none=> .non
def spDk:Sp:=fun vs H Q _=>∃(p:Addr) (C:Cl),vs=[.ref p]/\ClAt H p C/\ClOk C/\∀(q:Addr) (H':Hp),Same H H'->H q=none->H' q=some (.lst (C.ways.map fun x=>dkV x.g))->Q (.ref q) H'
def q6j:Sp:=fun vs H Q _=>∃(p q:Addr) (C:Cl) (rm tk op b wt:Int),vs=[.ref p,.ref q]/\ClAt H p C/\ClOk C/\H q=some (.tup [.int rm,.int tk,.int op,.int b,.int wt])/\(∀i,i<C.ways.length->bit op i=true->(dsOf C i).isSome=true)/\
 ∀(r:Addr) (H':Hp),Same H H'->H r=none->H' r=some (.lst (cl (hold C tk op)))->Q (.ref r) H'
theorem q6N {xs:List Int}{j:Nat}(h:j<xs.length):atI (xs.map V.int) (j:Int)=some (.int (xs.getD j 0)):=q0m (by simp[List.getD,h])
theorem q8V {C:Cl}{tk k:Int}{i:Nat}(hi:i<C.things.length):(cnt (tP C tk k) (i+1):Int)=(cnt (tP C tk k) i:Int)+(if bit tk i=true then(if k=C.things[i].2 then 1 else 0) else 0):=by
 show((cnt _ i+_:Nat):Int)=_
 have e:C.things.getD i (0,0)=C.things[i]:=by simp[List.getD,hi]
 unfold tP
 rw[e]
 by_cases h1:bit tk i=true
 ·by_cases h2:C.things[i].2=k
  ·simp [h1,h2]
  ·have:¬k=C.things[i].2:=fun z=>h2 z.symm
   simp[h1,h2,this]
 ·simp [h1]
theorem q8X {C:Cl}{op k:Int}{i:Nat}(hi:i<C.ways.length):(cnt (dP (dsOf C) op k) (i+1):Int)=(cnt (dP (dsOf C) op k) i:Int)+(if bit op i=true then(if C.ways[i].g.dk=some k then 1 else 0) else 0):=by
 show((cnt _ i+_:Nat):Int)=_
 have e:dsOf C i=C.ways[i].g.dk:=by simp[dsOf,hi]
 unfold dP
 rw[e]
 by_cases h1:bit op i=true
 ·by_cases h2:C.ways[i].g.dk=some k
  ·simp [h1,h2]
  ·simp [h1,h2]
 ·simp [h1]
section
variable {P:Program}{w:World}{K:W.Frag}{mg:Str->Option Value}{base:Heap}{cs:Cs}
theorem q76 (T:Txt mg cs)(L:Laid K mg "has_bit" q2t ["bits","place"]):Cal P w K mg base 1 "has_bit" ["bits","place"] q5I:=by
 refine L.cal (k:=0) q6Y (fun vs H Q E h=>?_) (fun f cdv A outer s H vs Q E hr h=>?_)
 ·obtain ⟨x,t,rfl,_⟩:=h
  rfl
 ·obtain ⟨x,t,rfl,h0,k⟩:=h
  refine⟨_,(qj (qu (qW q07 (qq q3X (qq q3V (pv 0) (pv 1)) qc) qc (qw _)))),?_⟩
  walk_at "r"
  rw[q1e]
  exact k
theorem q9K (T:Txt mg cs)(L:Laid K mg "start" q4e ["cellar"]):Cal P w K mg base 1 "start" ["cellar"] q5F:=by
 obtain⟨t1,e_FIRST⟩:=T.e_FIRST
 obtain⟨t2,e_FIRST_BARS⟩:=T.e_FIRST_BARS
 obtain⟨t3,e_FIRST_WATER⟩:=T.e_FIRST_WATER
 refine L.cal (k:=0) q9n (fun vs H Q E h=>?_) (fun f cdv A outer s H vs Q E hr h=>?_)
 ·obtain ⟨p,C,rfl,_⟩:=h
  rfl
 ·obtain ⟨p,C,rfl,hC,k⟩:=h
  obtain⟨pw,pt,pl,pv',h0,_⟩:=hC.ex
  refine⟨_,(qj (qu (qG (qa (qm (qk K) (pv 0) (qv (v:= .int 1) rfl e_FIRST ⟨_,rfl⟩) (fun _ _=>rfl)) (qa qc (qa qc (qa (qm (qk K) (pv 0) (qv (v:= .int 7) rfl e_FIRST_BARS ⟨_,rfl⟩) (fun _ _=>rfl)) (qa (qm (qk K) (pv 0) (qv (v:= .int 8) rfl e_FIRST_WATER ⟨_,rfl⟩) (fun _ _=>rfl)) qe)))))))),?_⟩
  walk_at "r"
  intro q hq
  exact k q _ (Same.upd hq) qg
theorem ok_dk (T:Txt mg cs)(L:Laid K mg "door_kinds" q0D ["cellar"]):Cal P w K mg base 1 "door_kinds" ["cellar"] spDk:=by
 obtain⟨t1,e_WAYS⟩:=T.e_WAYS
 refine L.cal (k:=0) q49 (fun vs H Q E h=>?_) (fun f cdv A outer s H vs Q E hr h=>?_)
 ·obtain ⟨p,C,rfl,_⟩:=h
  rfl
 ·obtain ⟨p,C,rfl,hC,ok,k⟩:=h
  obtain⟨pw,pt,pl,pv',h0,h1,_⟩:=hC.ex
  obtain⟨wv,hw,hwl,hwg⟩:=h1.get
  have big:=qC
  refine⟨_,(qj (qu (q2n (q0y (N:=["a","b","gate","back"]) (own:=4) (caps:=[]) ["cellar"] (qh q0D) (by walk_at "k")) rfl (qbv K (qm (qk K) (pv 0) (qv (v:= .int 3) rfl e_WAYS ⟨_,rfl⟩) (fun _ _=>rfl))) (fun _ _ _ _=>(q0H (n:=4) K rfl (qE (qr (i:=0) (show List.Nodup (["a","b","gate","back"]:List Str) by walk_at "k") rfl (Or.inl rfl)) (qE (qr (i:=1) (show List.Nodup (["a","b","gate","back"]:List Str) by walk_at "k") rfl (Or.inl rfl)) (qE (qr (i:=2) (show List.Nodup (["a","b","gate","back"]:List Str) by walk_at "k") rfl (Or.inl rfl)) (qE (qr (i:=3) (show List.Nodup (["a","b","gate","back"]:List Str) by walk_at "k") rfl (Or.inl rfl)) q0G)))))) (fun _ _ _ _=>q1N) (fun _ _ _ _=>(q4i (qz q07 (qm (qk K) (pv 2) qc (fun _ _=>rfl)) qK (qw _)) (qm (qk K) (pv 2) qc (fun _ _=>rfl)) q6w))))),?_⟩
  walk_at "r"
  intro D hD
  refine qan wv (fun i σ H'=>∃v0 v1 v2 v3,σ=[v0,v1,v2,v3]/\Same H H'/\H' D=some (.lst ((C.ways.take i).map fun x=>dkV x.g))) ⟨none,none,none,none,rfl,Same.upd hD,by rw[qg];rfl⟩ ?_ ?_ ?_
  ·rintro i σ H' ⟨_,_,_,_,rfl,s1,_⟩
   exact SqT.of (s1 _ _ hw)
  ·rintro i x σ H' hx ⟨v0,v1,v2,v3,rfl,s1,hD1⟩
   have hi:i<C.ways.length:=by rw[<-hwl];exact(yA hx).1
   obtain⟨p1,e,g,hp1,hg⟩:=hwg i hi
   rw[hx] at e
   cases e
   have hp2:=s1 _ _ hp1
   have hg2:=s1 _ _ hg
   have hl:=ok.wl
   rw[Gt.vs_eq] at hg2
   have fin:∀v,v=dkV C.ways[i].g->∃ys,H' D=some (.lst ys)/\ys.length<sizeLine/\∃v0 v1 v2 v3,([some (.int C.ways[i].a),some (.int C.ways[i].b),some (.ref g),some (.bl C.ways[i].back)]:St)=[v0,v1,v2,v3]/\Same H (upd H' D (.lst (ys++[v])))/\(upd H' D (.lst (ys++[v]))) D=some (.lst ((C.ways.take (i+1)).map fun x=>dkV x.g)):=by
    intro v ev
    subst ev
    refine⟨_,hD1,by simp;omega,_,_,_,_,rfl,s1.put hD,?_⟩
    rw[qg,q7t (fun x:Way=>dkV x.g) C.ways hi]
   walk_at "r"
   refine ifd (fun hd=>?_) (fun hd=>?_)
   ·obtain ⟨k1,ek⟩:=q8M hd
    rw[ek] at hg2
    walk_at "r"
    exact fin _ (by rw[ek];rfl)
   ·walk_at "r"
    refine fin _ ?_
    cases eg:C.ways[i].g with
    |door k1=>rw[eg] at hd;exact absurd rfl hd
    |_=>rfl
  ·rintro σ H' ⟨_,_,_,_,rfl,s1,hD1⟩
   rw[show wv.length=C.ways.length from hwl,List.take_length] at hD1
   exact k D H' s1 hD hD1
theorem qbI (T:Txt mg cs)(L:Laid K mg "held" q6n ["cellar","stand"])(C_has_bit:Cal P w K mg base 1 "has_bit" ["bits","place"] q5I)(C_door_kinds:Cal P w K mg base 1 "door_kinds" ["cellar"] spDk):Cal P w K mg base 2 "held" ["cellar","stand"] q6j:=by
 obtain⟨t1,e_LAST_KIND⟩:=T.e_LAST_KIND
 obtain⟨t2,e_OPENED⟩:=T.e_OPENED
 obtain⟨t3,e_TAKEN⟩:=T.e_TAKEN
 obtain⟨t4,e_THINGS⟩:=T.e_THINGS
 refine L.cal (k:=1) q2K (fun vs H Q E h=>?_) (fun f cdv A outer s H vs Q E hr h=>?_)
 ·obtain ⟨p,q,C,_,_,_,_,_,rfl,_⟩:=h
  rfl
 ·obtain ⟨p,q,C,rm,tk,op,b,wt,rfl,hC,ok,hq,hdr,k⟩:=h
  obtain⟨pw,pt,pl,pv',h0,h1,h2,_⟩:=hC.ex
  obtain⟨tv,ht,htl,htg⟩:=h2.get
  have big:=qC
  refine⟨_,(qd (qy (i:=2) q2K.nd rfl (Or.inl rfl) (qq op_rep (q0w (qa qc qe)) (qq q0l (qv (v:= .int 11) rfl e_LAST_KIND ⟨_,rfl⟩) qc)))
   (qd (q0o PassesOwn.never rfl (q83 K rfl T.n_enumerate (qa (qm (qk K) (pv 0) (qv (v:= .int 4) rfl e_THINGS ⟨_,rfl⟩) (fun _ _=>rfl)) qe)) (q0H (n:=2) K rfl (qE (qr (i:=3) q2K.nd rfl (Or.inl rfl)) (qE (qr (i:=4) q2K.nd rfl (Or.inl rfl)) q0G))) (qj (q03 (q0J (qB C_has_bit hr (by decide) rfl (qa (qm (qk K) (pv 1) (qv (v:= .int 1) rfl e_TAKEN ⟨_,rfl⟩) (fun _ _=>rfl)) (qa (pv 3) qe)))) (qj (q7Y (pv 2) (qm (qk K) (pv 4) qc (fun _ _=>rfl)) (q5o K) qc q8w q6m)) qD)))
   (qd (q0o PassesOwn.never rfl (q84 K rfl T.n_enumerate (qa (qB C_door_kinds hr (by decide) rfl (qa (pv 0) qe)) qe)) (q0H (n:=2) K rfl (qE (qr (i:=3) q2K.nd rfl (Or.inl rfl)) (qE (qr (i:=5) q2K.nd rfl (Or.inl rfl)) q0G))) (qj (q03 (q0J (qB C_has_bit hr (by decide) rfl (qa (qm (qk K) (pv 1) (qv (v:= .int 2) rfl e_OPENED ⟨_,rfl⟩) (fun _ _=>rfl)) (qa (pv 3) qe)))) (qj (q7Y (pv 2) (pv 5) (q5o K) qc ip_sub q6m)) qD)))
   (qj (qu (pv 2)))))),?_⟩
  walk_at "r"
  intro p1 hp1
  walk_at "r"
  refine⟨p1,_,_,rfl,rfl,qg,by decide,by decide,by show 1*12<=sizeLine;decide,fun cs hcs=>?_⟩
  have hcs0:H cs=none:=(Same.upd hp1).free hcs
  have s0:Same H (upd (upd H p1 (.lst [.int 0])) cs (.lst (List.replicate (11+1:Int).toNat [V.int 0]).flatten)):=(Same.upd hp1).trans (Same.upd hcs)
  have h0':=s0 _ _ h0
  have ht':=s0 _ _ ht
  walk_at "r"
  refine q8F tv (fun i σ H'=>∃v3 v4 v5,σ=[some (.ref p),some (.ref q),some (.ref cs),v3,v4,v5]/\Same H H'/\H' cs=some (.lst (cl fun k=>(cnt (tP C tk k) i:Int)))) ⟨none,none,none,rfl,s0,by rw[qg];rfl⟩ ?_ ?_ ?_
  ·rintro i σ H' ⟨_,_,_,rfl,s1,_⟩
   exact SqT.of (s1 _ _ ht)
  ·rintro i x σ H' T1 hx ⟨v3,v4,v5,rfl,s1,hc⟩ hT1
   have hi:i<C.things.length:=by rw[<-htl];exact(yA hx).1
   obtain⟨p2,e,hp2⟩:=htg i hi
   rw[hx] at e
   cases e
   have hp3:H' p2=_:=s1 _ _ hp2
   have hq3:=s1 _ _ hq
   obtain⟨_,k0,k1⟩:=ok.t _ (List.getElem_mem hi)
   have sT:Same H (upd H' T1 (.tup [.int (i:Nat),.ref p2])):=s1.trans (Same.upd hT1)
   have hcT:(upd H' T1 (.tup [.int (i:Nat),.ref p2])) cs=some (.lst (cl fun k=>(cnt (tP C tk k) i:Int))):=q17 hc hT1
   walk_at "r"
   refine⟨tk,i,rfl,by omega,?_⟩
   rw[Int.toNat_natCast]
   walk_at "r"
   refine ite2 (fun hb=>?_) (fun hb=>?_)
   ·walk_at "r"
    refine q4f (SqL.of hcT) (q91 k0 k1) ?_
    walk_at "r"
    refine qaA hcT (cl_ix k0 k1) ?_
    refine⟨_,_,_,rfl,sT.put hcs0,?_⟩
    rw[qg,qaO k0 k1]
    congr 2
    refine q2G fun k _ _=>?_
    rw[q8V hi,if_pos hb]
    by_cases ek:k=C.things[i].2
    ·rw [if_pos ek,if_pos ek,ek]
    ·rw [if_neg ek,if_neg ek];omega
   ·walk_at "r"
    refine⟨_,_,_,rfl,sT,?_⟩
    rw[hcT]
    congr 2
    refine q2G fun k _ _=>?_
    rw[q8V hi,if_neg hb];omega
  ·rintro σ H' ⟨v3,v4,v5,rfl,s1,hc⟩
   rw[show tv.length=C.things.length from htl] at hc
   walk_at "r"
   refine⟨p,C,rfl,hC.mono s1.ts,ok,fun dk H2 s2 hdk hdk2=>?_⟩
   have s12:=s1.trans s2
   have hc2:=s2 _ _ hc
   walk_at "r"
   refine q8F (C.ways.map fun x=>dkV x.g) (fun i σ H'=>∃v3 v4 v5,σ=[some (.ref p),some (.ref q),some (.ref cs),v3,v4,v5]/\Same H H'/\H' dk=some (.lst (C.ways.map fun x=>dkV x.g))/\H' cs=some (.lst (cl fun k=>(cnt (tP C tk k) C.things.length:Int) - (cnt (dP (dsOf C) op k) i:Int)))) ⟨v3,v4,v5,rfl,s12,hdk2,?_⟩ ?_ ?_ ?_
   ·rw [hc2]
    refine congrArg (fun l=>some (HO.lst l)) (q2G fun k _ _=>?_)
    show _=_ - ((0:Nat):Int)
    omega
   ·rintro i σ H' ⟨_,_,_,rfl,s3,h3,_⟩
    exact SqL.of h3
   ·rintro i x σ H' T1 hx ⟨v3,v4,v5,rfl,s3,hd3,hc3⟩ hT1
    have hi:i<C.ways.length:=by have:=(yA hx).1;simpa using this
    have ex:x=dkV C.ways[i].g:=by simpa[hi] using hx.symm
    subst ex
    have hq3:=s3 _ _ hq
    have hne:dk≠cs:=fun z=>by rw[z] at hdk;rw[hdk] at hc;cases hc
    have sT:Same H (upd H' T1 (.tup [.int (i:Nat),dkV C.ways[i].g])):=s3.trans (Same.upd hT1)
    have hcT:(upd H' T1 (.tup [.int (i:Nat),dkV C.ways[i].g])) cs=_:=q17 hc3 hT1
    have hdT:(upd H' T1 (.tup [.int (i:Nat),dkV C.ways[i].g])) dk=_:=q17 hd3 hT1
    walk_at "r"
    refine⟨op,i,rfl,by omega,?_⟩
    rw[Int.toNat_natCast]
    walk_at "r"
    refine ite2 (fun hb=>?_) (fun hb=>?_)
    ·have hsome:=hdr i hi hb
     have eds:dsOf C i=C.ways[i].g.dk:=by simp[dsOf,hi]
     rw[eds] at hsome
     obtain⟨k2,ek2⟩:=Option.isSome_iff_exists.mp hsome
     have hgok:=(ok.w _ (List.getElem_mem hi)).2.2.2
     have hk2:0<=k2/\k2<12:=by
      cases eg:C.ways[i].g with
      |door j=>rw[eg] at ek2 hgok;cases ek2;exact hgok
      |_=>rw[eg] at ek2;cases ek2
     have ev:dkV C.ways[i].g= .int k2:=by unfold dkV;rw[ek2]
     rw[ev] at hcT hdT sT ⊢
     walk_at "r"
     refine q4f (SqL.of hcT) (q91 hk2.1 hk2.2) ?_
     walk_at "r"
     refine qaA hcT (cl_ix hk2.1 hk2.2) ?_
     refine⟨_,_,_,rfl,sT.put hcs0,up_oth hdT hne,?_⟩
     rw[qg,qaO hk2.1 hk2.2]
     congr 2
     refine q2G fun k _ _=>?_
     rw[q8X hi,if_pos hb,ek2]
     by_cases ek:k=k2
     ·rw [if_pos ek,if_pos (by rw[ek]),ek];omega
     ·rw [if_neg ek,if_neg (by intro z;exact ek (Option.some.inj z).symm)];omega
    ·walk_at "r"
     refine⟨_,_,_,rfl,sT,hdT,?_⟩
     rw[hcT]
     congr 2
     refine q2G fun k _ _=>?_
     rw[q8X hi,if_neg hb];omega
   ·rintro σ H' ⟨v3,v4,v5,rfl,s3,hd3,hc3⟩
    walk_at "r"
    rw[yC] at hc3
    exact k cs H' s3 hcs0 hc3
def q8Z (cs:Cs):Gt->Addr
 | .plain=>cs.Plain
 | .door _=>cs.Door
 | .need _=>cs.Need
 | .bar _=>cs.Bar
 | .wade _ _=>cs.Wade
 | .float _=>cs.Float
def fldB (q:Addr)(g:Gt):List (Str×V):=putF "numbers" (.ref q) (putF "word" (.str g.word) [])
def flds (q:Addr):Gt->List (Str×V)
 | .need k=>putF "kind" (.int k) (fldB q (.need k))
 | .bar b=>putF "bar" (.int b) (fldB q (.bar b))
 | .wade h k=>putF "kind" (.int k) (putF "height" (.int h) (fldB q (.wade h k)))
 | .float h=>putF "height" (.int h) (fldB q (.float h))
 |g=>fldB q g
theorem qcf (q:Addr)(g:Gt):(flds q g).lookup ("lets":Str)=none:=by
 cases g<;>(unfold flds;first|unfold fldB|skip)<;>simp only[fldB,qQ]<;>repeat (first|rfl|rw[if_neg (by walk_at "k")])
theorem qaj (q:Addr)(k:Int):(flds q (.need k)).lookup ("kind":Str)=some (.int k):=by
 unfold flds;rw[qQ,if_pos rfl]
theorem qcg (q:Addr)(k:Int):(flds q (.bar k)).lookup ("bar":Str)=some (.int k):=by
 unfold flds;rw[qQ,if_pos rfl]
theorem qah (q:Addr)(h k:Int):(flds q (.wade h k)).lookup ("kind":Str)=some (.int k):=by
 unfold flds;rw[qQ,if_pos rfl]
theorem qai (q:Addr)(h k:Int):(flds q (.wade h k)).lookup ("height":Str)=some (.int h):=by
 unfold flds;rw[qQ,if_neg (by walk_at "k"),qQ,if_pos rfl]
theorem q8G (q:Addr)(h:Int):(flds q (.float h)).lookup ("height":Str)=some (.int h):=by
 unfold flds;rw[qQ,if_pos rfl]
structure GObj (cs:Cs)(H:Hp)(p:Addr)(g:Gt):Prop where
 ex:∃dx q,H p=some (.ins (q8Z cs g) dx (flds q g))/\H q=some (.tup (g.ns.map V.int))
theorem GObj.mono {cs:Cs}{H H':Hp}{p:Addr}{g:Gt}(s:Same H H')(h:GObj cs H p g):GObj cs H' p g:=let ⟨dx,q,h1,h2⟩:=h.ex;⟨dx,q,s _ _ h1,s _ _ h2⟩
def q1S (K:W.Frag):Sp:=fun vs H Q _=>∃(p C dx q:Addr) (z:Str),vs=[.ref p,.str z,.ref q]/\H p=some (.ins C dx [])/\Cls K C/\qH K C "word"/\qH K C "numbers"/\Q .non (upd H p (.ins C dx (putF "numbers" (.ref q) (putF "word" (.str z) []))))
def spMk (cs:Cs)(wd:Str):Sp:=fun vs H Q _=>∃(p dx:Addr) (g:Gt),vs= .ref p::g.ns.map V.int/\g.word=wd/\H p=some (.ins (q8Z cs g) dx [])/\∀H',(∀b o,H b=some o->b≠p->H' b=some o)->GObj cs H' p g->Q .non H'
def qba (cs:Cs):Sp:=fun vs H Q _=>∃(p:Addr) (g:Gt),vs=[.ref p]/\H p=some (.tup g.vs)/\∀(x:Addr) (H':Hp),Same H H'->H x=none->GObj cs H' x g->Q (.ref x) H'
def q2Q (cs:Cs)(wd:Str):Sp:=fun vs H Q _=>∃(p hl:Addr) (g:Gt) (f:Int->Int) (op:Bool) (bars wt:Int),vs=[.ref p,.ref hl,.bl op,.int bars,.int wt]/\g.word=wd/\GObj cs H p g/\g.ok/\H hl=some (.lst (cl f))/\Q (.bl (q3u g f op bars wt)) H
theorem q9S (T:Txt mg cs)(L:LaidC K mg "Gate" "__init__" "Gate.__init__" q1F ["self","word","numbers"]):CCal P w K mg base 1 "Gate" "__init__" ["self","word","numbers"] (q1S K):=by
 refine L.cc (k:=0) q5a (fun vs H Q E h=>?_) (fun f cdv A outer s H vs Q E hr h=>?_)
 ·obtain ⟨p,C,dx,q,z,rfl,_⟩:=h
  rfl
 ·obtain ⟨p,C,dx,q,z,rfl,hp,cl,nw,nn,k⟩:=h
  refine⟨_,(qd (q19 K (pv 0) (pv 1) rfl)
   (qj (q19 K (pv 0) (pv 2) rfl))),?_⟩
  walk_at "r"
  refine q2d hp cl nw (by decide) ?_
  walk_at "r"
  refine q2d qg cl nn (by show 1<1000;decide) ?_
  rw[q1Q]
  exact k
theorem qa2 (T:Txt mg cs)(TC:Tcl K cs)(L:LaidI K mg "Plain" cs.Plain "Plain.__init__" q0Z ["self"])(C_Gate_init:CCal P w K mg base 1 "Gate" "__init__" ["self","word","numbers"] (q1S K)):Makes P w K mg base 2 "Plain" cs.Plain ["self"] (spMk cs "plain"):=by
 refine L.makes (k:=1) q4b (fun vs H Q E h=>?_) (fun f cdv A outer s H vs Q E hr h=>?_)
 ·obtain ⟨p,dx,g,rfl,hw,_⟩:=h
  cases g<;>first|rfl|exact absurd hw (by simp only[Gt.word];walk_at "k")
 ·obtain ⟨p,dx,g,rfl,hw,hp,k⟩:=h
  cases g<;>first|exact absurd hw (by simp only[Gt.word];walk_at "k")|skip
  refine⟨_,(qj (qZ (q3q C_Gate_init hr (by decide) rfl (qa (pv 0) (qa qK (qa (qG qe) qe)))))),?_⟩
  walk_at "r"
  intro t ht
  refine⟨p,cs.Plain,dx,t,_,rfl,q17 hp ht,TC.cl_Plain,TC.no_Plain_word,TC.no_Plain_numbers,?_⟩
  walk_at "r"
  have hpt:p≠t:=qp hp ht
  refine k _ (fun b o hb hbp=>?_) ⟨dx,t,qg,by rw[ql hpt.symm];exact qg⟩
  rw[ql hbp,ql (qp hb ht)]
  exact hb
theorem qbV (T:Txt mg cs)(TC:Tcl K cs)(L:LaidI K mg "Door" cs.Door "Door.__init__" q1H ["self","kind"])(C_Gate_init:CCal P w K mg base 1 "Gate" "__init__" ["self","word","numbers"] (q1S K)):Makes P w K mg base 2 "Door" cs.Door ["self","kind"] (spMk cs "door"):=by
 refine L.makes (k:=1) q5c (fun vs H Q E h=>?_) (fun f cdv A outer s H vs Q E hr h=>?_)
 ·obtain ⟨p,dx,g,rfl,hw,_⟩:=h
  cases g<;>first|rfl|exact absurd hw (by simp only[Gt.word];walk_at "k")
 ·obtain ⟨p,dx,g,rfl,hw,hp,k⟩:=h
  cases g<;>first|exact absurd hw (by simp only[Gt.word];walk_at "k")|skip
  rename_i n
  refine⟨_,(qj (qZ (q3q C_Gate_init hr (by decide) rfl (qa (pv 0) (qa qK (qa (qG (qa (pv 1) qe)) qe)))))),?_⟩
  walk_at "r"
  intro t ht
  refine⟨p,cs.Door,dx,t,_,rfl,q17 hp ht,TC.cl_Door,TC.no_Door_word,TC.no_Door_numbers,?_⟩
  walk_at "r"
  have hpt:p≠t:=qp hp ht
  refine k _ (fun b o hb hbp=>?_) ⟨dx,t,qg,by rw[ql hpt.symm];exact qg⟩
  rw[ql hbp,ql (qp hb ht)]
  exact hb
theorem qbU (T:Txt mg cs)(TC:Tcl K cs)(L:LaidI K mg "Need" cs.Need "Need.__init__" q1E ["self","kind"])(C_Gate_init:CCal P w K mg base 1 "Gate" "__init__" ["self","word","numbers"] (q1S K)):Makes P w K mg base 2 "Need" cs.Need ["self","kind"] (spMk cs "need"):=by
 refine L.makes (k:=1) q59 (fun vs H Q E h=>?_) (fun f cdv A outer s H vs Q E hr h=>?_)
 ·obtain ⟨p,dx,g,rfl,hw,_⟩:=h
  cases g<;>first|rfl|exact absurd hw (by simp only[Gt.word];walk_at "k")
 ·obtain ⟨p,dx,g,rfl,hw,hp,k⟩:=h
  cases g<;>first|exact absurd hw (by simp only[Gt.word];walk_at "k")|skip
  rename_i n
  refine⟨_,(qd (qZ (q3q C_Gate_init hr (by decide) rfl (qa (pv 0) (qa qK (qa (qG (qa (pv 1) qe)) qe)))))
   (qj (q19 K (pv 0) (pv 1) rfl))),?_⟩
  walk_at "r"
  intro t ht
  refine⟨p,cs.Need,dx,t,_,rfl,q17 hp ht,TC.cl_Need,TC.no_Need_word,TC.no_Need_numbers,?_⟩
  walk_at "r"
  refine q2d qg TC.cl_Need TC.no_Need_kind (by show 2<1000;decide) ?_
  rw[q1Q]
  have hpt:p≠t:=qp hp ht
  refine k _ (fun b o hb hbp=>?_) ⟨dx,t,qg,by rw[ql hpt.symm];exact qg⟩
  rw[ql hbp,ql (qp hb ht)]
  exact hb
theorem mk_bar (T:Txt mg cs)(TC:Tcl K cs)(L:LaidI K mg "Bar" cs.Bar "Bar.__init__" q27 ["self","bar"])(C_Gate_init:CCal P w K mg base 1 "Gate" "__init__" ["self","word","numbers"] (q1S K)):Makes P w K mg base 2 "Bar" cs.Bar ["self","bar"] (spMk cs "bar"):=by
 refine L.makes (k:=1) q5O (fun vs H Q E h=>?_) (fun f cdv A outer s H vs Q E hr h=>?_)
 ·obtain ⟨p,dx,g,rfl,hw,_⟩:=h
  cases g<;>first|rfl|exact absurd hw (by simp only[Gt.word];walk_at "k")
 ·obtain ⟨p,dx,g,rfl,hw,hp,k⟩:=h
  cases g<;>first|exact absurd hw (by simp only[Gt.word];walk_at "k")|skip
  rename_i n
  refine⟨_,(qd (qZ (q3q C_Gate_init hr (by decide) rfl (qa (pv 0) (qa qK (qa (qG (qa (pv 1) qe)) qe)))))
   (qj (q19 K (pv 0) (pv 1) rfl))),?_⟩
  walk_at "r"
  intro t ht
  refine⟨p,cs.Bar,dx,t,_,rfl,q17 hp ht,TC.cl_Bar,TC.no_Bar_word,TC.no_Bar_numbers,?_⟩
  walk_at "r"
  refine q2d qg TC.cl_Bar TC.no_Bar_bar (by show 2<1000;decide) ?_
  rw[q1Q]
  have hpt:p≠t:=qp hp ht
  refine k _ (fun b o hb hbp=>?_) ⟨dx,t,qg,by rw[ql hpt.symm];exact qg⟩
  rw[ql hbp,ql (qp hb ht)]
  exact hb
theorem qa3 (T:Txt mg cs)(TC:Tcl K cs)(L:LaidI K mg "Float" cs.Float "Float.__init__" q13 ["self","height"])(C_Gate_init:CCal P w K mg base 1 "Gate" "__init__" ["self","word","numbers"] (q1S K)):Makes P w K mg base 2 "Float" cs.Float ["self","height"] (spMk cs "float"):=by
 refine L.makes (k:=1) q4d (fun vs H Q E h=>?_) (fun f cdv A outer s H vs Q E hr h=>?_)
 ·obtain ⟨p,dx,g,rfl,hw,_⟩:=h
  cases g<;>first|rfl|exact absurd hw (by simp only[Gt.word];walk_at "k")
 ·obtain ⟨p,dx,g,rfl,hw,hp,k⟩:=h
  cases g<;>first|exact absurd hw (by simp only[Gt.word];walk_at "k")|skip
  rename_i n
  refine⟨_,(qd (qZ (q3q C_Gate_init hr (by decide) rfl (qa (pv 0) (qa qK (qa (qG (qa (pv 1) qe)) qe)))))
   (qj (q19 K (pv 0) (pv 1) rfl))),?_⟩
  walk_at "r"
  intro t ht
  refine⟨p,cs.Float,dx,t,_,rfl,q17 hp ht,TC.cl_Float,TC.no_Float_word,TC.no_Float_numbers,?_⟩
  walk_at "r"
  refine q2d qg TC.cl_Float TC.no_Float_height (by show 2<1000;decide) ?_
  rw[q1Q]
  have hpt:p≠t:=qp hp ht
  refine k _ (fun b o hb hbp=>?_) ⟨dx,t,qg,by rw[ql hpt.symm];exact qg⟩
  rw[ql hbp,ql (qp hb ht)]
  exact hb
theorem qbP (T:Txt mg cs)(TC:Tcl K cs)(L:LaidI K mg "Wade" cs.Wade "Wade.__init__" q1s ["self","height","kind"])(C_Gate_init:CCal P w K mg base 1 "Gate" "__init__" ["self","word","numbers"] (q1S K)):Makes P w K mg base 2 "Wade" cs.Wade ["self","height","kind"] (spMk cs "wade"):=by
 refine L.makes (k:=1) q4Y (fun vs H Q E h=>?_) (fun f cdv A outer s H vs Q E hr h=>?_)
 ·obtain ⟨p,dx,g,rfl,hw,_⟩:=h
  cases g<;>first|rfl|exact absurd hw (by simp only[Gt.word];walk_at "k")
 ·obtain ⟨p,dx,g,rfl,hw,hp,k⟩:=h
  cases g<;>first|exact absurd hw (by simp only[Gt.word];walk_at "k")|skip
  rename_i n1 n2
  refine⟨_,(qd (qZ (q3q C_Gate_init hr (by decide) rfl (qa (pv 0) (qa qK (qa (qG (qa (pv 1) (qa (pv 2) qe))) qe)))))
   (qd (q19 K (pv 0) (pv 1) rfl)
   (qj (q19 K (pv 0) (pv 2) rfl)))),?_⟩
  walk_at "r"
  intro t ht
  refine⟨p,cs.Wade,dx,t,_,rfl,q17 hp ht,TC.cl_Wade,TC.no_Wade_word,TC.no_Wade_numbers,?_⟩
  walk_at "r"
  refine q2d qg TC.cl_Wade TC.no_Wade_height (by show 2<1000;decide) ?_
  walk_at "r"
  refine q2d qg TC.cl_Wade TC.no_Wade_kind (by show 3<1000;decide) ?_
  rw[q1Q,q1Q]
  have hpt:p≠t:=qp hp ht
  refine k _ (fun b o hb hbp=>?_) ⟨dx,t,qg,by rw[ql hpt.symm];exact qg⟩
  rw[ql hbp,ql (qp hb ht)]
  exact hb
theorem q2a {H:Hp}{Q:VK}{g:Gt}{x dx:Addr}(hx:H x=none)(hdx:H dx=none)(ne:dx≠x)(k:∀(x:Addr) (H':Hp),Same H H'->H x=none->GObj cs H' x g->Q (.ref x) H'):spMk cs g.word (.ref x::(g.ns.map V.int++[])) (upd (upd H dx (.own x)) x (.ins (q8Z cs g) dx [])) (fun v H2=>v= .non/\Q (.ref x) H2) E0:=by
 refine⟨x,dx,g,by rw[List.append_nil],rfl,qg,fun H' hk ho=>⟨rfl,k x H' (fun b o hb=>?_) hx ho⟩⟩
 refine hk b o ?_ (qp hb hx)
 rw[ql (qp hb hx),ql (qp hb hdx)]
 exact hb
theorem q77 (T:Txt mg cs)(L:Laid K mg "gate_of" q2u ["gate"])(C_Plain:Makes P w K mg base 2 "Plain" cs.Plain ["self"] (spMk cs "plain"))(C_Door:Makes P w K mg base 2 "Door" cs.Door ["self","kind"] (spMk cs "door"))(C_Need:Makes P w K mg base 2 "Need" cs.Need ["self","kind"] (spMk cs "need"))
  (C_Bar:Makes P w K mg base 2 "Bar" cs.Bar ["self","bar"] (spMk cs "bar"))(C_Wade:Makes P w K mg base 2 "Wade" cs.Wade ["self","height","kind"] (spMk cs "wade"))(C_Float:Makes P w K mg base 2 "Float" cs.Float ["self","height"] (spMk cs "float")):Cal P w K mg base 4 "gate_of" ["gate"] (qba cs):=by
 refine L.cal (k:=3) q3S (fun vs H Q E h=>?_) (fun f cdv A outer s H vs Q E hr h=>?_)
 ·obtain ⟨p,g,rfl,_⟩:=h
  rfl
 ·obtain ⟨p,g,rfl,hp,k⟩:=h
  refine⟨_,(qd (qy (i:=1) q3S.nd rfl (Or.inl rfl) (qm (qk K) (pv 0) qc (fun _ _=>rfl)))
   (qd (q03 (qz q07 (pv 1) qK (qw _)) (qj (qu (qbz C_Plain hr (by decide) rfl))) qD)
   (qd (q03 (qz q07 (pv 1) qK (qw _)) (qj (qu (q2e C_Door hr (by decide) rfl (qa (qm (qk K) (pv 0) qc (fun _ _=>rfl)) qe)))) qD)
   (qd (q03 (qz q07 (pv 1) qK (qw _)) (qj (qu (q2e C_Need hr (by decide) rfl (qa (qm (qk K) (pv 0) qc (fun _ _=>rfl)) qe)))) qD)
   (qd (q03 (qz q07 (pv 1) qK (qw _)) (qj (qu (q2e C_Bar hr (by decide) rfl (qa (qm (qk K) (pv 0) qc (fun _ _=>rfl)) qe)))) qD)
   (qd (q03 (qz q07 (pv 1) qK (qw _)) (qj (qu (q2e C_Wade hr (by decide) rfl (qa (qm (qk K) (pv 0) qc (fun _ _=>rfl)) (qa (qm (qk K) (pv 0) qc (fun _ _=>rfl)) qe))))) qD)
   (qd (q03 (qz q07 (pv 1) qK (qw _)) (qj (qu (q2e C_Float hr (by decide) rfl (qa (qm (qk K) (pv 0) qc (fun _ _=>rfl)) qe)))) qD)
   (qj q6t)))))))),?_⟩
  have hp':=hp
  rw[Gt.vs_eq] at hp'
  walk_at "r"
  refine ifd (fun h1=>?_) (fun h1=>?_)
  ·cases g<;>first|exact absurd h1 (by simp only[Gt.word];walk_at "k")|skip
   walk_at "r"
   exact fun x dx hx hdx ne=>q2a hx hdx ne k
  walk_at "r"
  refine ifd (fun h2=>?_) (fun h2=>?_)
  ·cases g<;>first|exact absurd h2 (by simp only[Gt.word];walk_at "k")|skip
   walk_at "r"
   exact fun x dx hx hdx ne=>q2a hx hdx ne k
  walk_at "r"
  refine ifd (fun h3=>?_) (fun h3=>?_)
  ·cases g<;>first|exact absurd h3 (by simp only[Gt.word];walk_at "k")|skip
   walk_at "r"
   exact fun x dx hx hdx ne=>q2a hx hdx ne k
  walk_at "r"
  refine ifd (fun h4=>?_) (fun h4=>?_)
  ·cases g<;>first|exact absurd h4 (by simp only[Gt.word];walk_at "k")|skip
   walk_at "r"
   exact fun x dx hx hdx ne=>q2a hx hdx ne k
  walk_at "r"
  refine ifd (fun h5=>?_) (fun h5=>?_)
  ·cases g<;>first|exact absurd h5 (by simp only[Gt.word];walk_at "k")|skip
   walk_at "r"
   exact fun x dx hx hdx ne=>q2a hx hdx ne k
  walk_at "r"
  refine ifd (fun h6=>?_) (fun h6=>?_)
  ·cases g<;>first|exact absurd h6 (by simp only[Gt.word];walk_at "k")|skip
   walk_at "r"
   exact fun x dx hx hdx ne=>q2a hx hdx ne k
  cases g
  ·exact absurd rfl h1
  ·exact absurd rfl h2
  ·exact absurd rfl h3
  ·exact absurd rfl h4
  ·exact absurd rfl h5
  ·exact absurd rfl h6
theorem q42 (T:Txt mg cs)(TC:Tcl K cs)(L:LaidM K cs.Plain "lets" "Plain.lets" q0Y ["self","held","opened","bars","water"]):VMeth P w K mg base 2 cs.Plain "lets" ["self","held","opened","bars","water"] (q2Q cs "plain"):=by
 refine L.vm (k:=1) TC.cl_Plain q4a (fun vs H Q E h=>?_) (fun f cdv A outer s H vs Q E hr h=>?_)
 ·obtain ⟨p,hl,g,fn,op,bars,wt,rfl,_⟩:=h
  rfl
 ·obtain ⟨p,hl,g,fn,op,bars,wt,rfl,hw,ho,ok,hh,k⟩:=h
  obtain⟨dx,q,hp,hq⟩:=ho.ex
  cases g<;>first|exact absurd hw (by simp only[Gt.word];walk_at "k")|skip
  refine⟨_,(qj (qu q2B)),?_⟩
  walk_at "r"
  exact k
theorem q4F (T:Txt mg cs)(TC:Tcl K cs)(L:LaidM K cs.Door "lets" "Door.lets" q1G ["self","held","opened","bars","water"]):VMeth P w K mg base 2 cs.Door "lets" ["self","held","opened","bars","water"] (q2Q cs "door"):=by
 refine L.vm (k:=1) TC.cl_Door q5b (fun vs H Q E h=>?_) (fun f cdv A outer s H vs Q E hr h=>?_)
 ·obtain ⟨p,hl,g,fn,op,bars,wt,rfl,_⟩:=h
  rfl
 ·obtain ⟨p,hl,g,fn,op,bars,wt,rfl,hw,ho,ok,hh,k⟩:=h
  obtain⟨dx,q,hp,hq⟩:=ho.ex
  cases g<;>first|exact absurd hw (by simp only[Gt.word];walk_at "k")|skip
  rename_i n
  refine⟨_,(qj (qu (pv 2))),?_⟩
  walk_at "r"
  exact k
theorem q4E (T:Txt mg cs)(TC:Tcl K cs)(L:LaidM K cs.Need "lets" "Need.lets" q1D ["self","held","opened","bars","water"]):VMeth P w K mg base 2 cs.Need "lets" ["self","held","opened","bars","water"] (q2Q cs "need"):=by
 refine L.vm (k:=1) TC.cl_Need q58 (fun vs H Q E h=>?_) (fun f cdv A outer s H vs Q E hr h=>?_)
 ·obtain ⟨p,hl,g,fn,op,bars,wt,rfl,_⟩:=h
  rfl
 ·obtain ⟨p,hl,g,fn,op,bars,wt,rfl,hw,ho,ok,hh,k⟩:=h
  obtain⟨dx,q,hp,hq⟩:=ho.ex
  cases g<;>first|exact absurd hw (by simp only[Gt.word];walk_at "k")|skip
  rename_i n
  refine⟨_,(qj (qu (qW q34 (qm (q0n K) (pv 1) (q0q K (pv 0) rfl) (fun _ _=>rfl)) qc (qw _)))),?_⟩
  have ok':0<=n/\n<12:=ok
  walk_at "r"
  refine q1d hp TC.cl_Need TC.no_Need_kind (qaj q n) ?_
  refine q4f (SqL.of hh) (q91 ok'.1 ok'.2) ?_
  walk_at "r"
  exact k
theorem q5D (T:Txt mg cs)(TC:Tcl K cs)(L:LaidM K cs.Bar "lets" "Bar.lets" q26 ["self","held","opened","bars","water"])(C_has_bit:Cal P w K mg base 1 "has_bit" ["bits","place"] q5I):VMeth P w K mg base 2 cs.Bar "lets" ["self","held","opened","bars","water"] (q2Q cs "bar"):=by
 refine L.vm (k:=1) TC.cl_Bar q5N (fun vs H Q E h=>?_) (fun f cdv A outer s H vs Q E hr h=>?_)
 ·obtain ⟨p,hl,g,fn,op,bars,wt,rfl,_⟩:=h
  rfl
 ·obtain ⟨p,hl,g,fn,op,bars,wt,rfl,hw,ho,ok,hh,k⟩:=h
  obtain⟨dx,q,hp,hq⟩:=ho.ex
  cases g<;>first|exact absurd hw (by simp only[Gt.word];walk_at "k")|skip
  rename_i n
  refine⟨_,(qj (qu (qB C_has_bit hr (by decide) rfl (qa (pv 3) (qa (q0q K (pv 0) rfl) qe))))),?_⟩
  have ok':0<=n/\n<8:=ok
  walk_at "r"
  refine q1d hp TC.cl_Bar TC.no_Bar_bar (qcg q n) ?_
  walk_at "r"
  exact⟨bars,n,rfl,ok'.1,k⟩
theorem q4D (T:Txt mg cs)(TC:Tcl K cs)(L:LaidM K cs.Wade "lets" "Wade.lets" q1r ["self","held","opened","bars","water"]):VMeth P w K mg base 2 cs.Wade "lets" ["self","held","opened","bars","water"] (q2Q cs "wade"):=by
 refine L.vm (k:=1) TC.cl_Wade q4X (fun vs H Q E h=>?_) (fun f cdv A outer s H vs Q E hr h=>?_)
 ·obtain ⟨p,hl,g,fn,op,bars,wt,rfl,_⟩:=h
  rfl
 ·obtain ⟨p,hl,g,fn,op,bars,wt,rfl,hw,ho,ok,hh,k⟩:=h
  obtain⟨dx,q,hp,hq⟩:=ho.ex
  cases g<;>first|exact absurd hw (by simp only[Gt.word];walk_at "k")|skip
  rename_i n1 n2
  refine⟨_,(qj (qu (q9E (qW q9I (pv 4) (q0q K (pv 0) rfl) (qw _)) (q2X (qW q34 (qm (q0n K) (pv 1) (q0q K (pv 0) rfl) (fun _ _=>rfl)) qc (qw _)))))),?_⟩
  have ok':(0<=n1/\n1<10)/\0<=n2/\n2<12:=ok
  walk_at "r"
  refine q1d hp TC.cl_Wade TC.no_Wade_height (qai q n1 n2) ?_
  walk_at "r"
  have k':Q (.bl (decide (wt<=n1)||decide (0<fn n2))) H:=k
  refine ifd (fun h1=>?_) (fun h1=>?_)
  ·rw [decide_eq_true h1,Bool.true_or] at k'
   exact k'
  ·rw [decide_eq_false h1,Bool.false_or] at k'
   walk_at "r"
   refine q1d hp TC.cl_Wade TC.no_Wade_kind (qah q n1 n2) ?_
   refine q4f (SqL.of hh) (q91 ok'.2.1 ok'.2.2) ?_
   walk_at "r"
   exact k'
theorem q43 (T:Txt mg cs)(TC:Tcl K cs)(L:LaidM K cs.Float "lets" "Float.lets" q12 ["self","held","opened","bars","water"]):VMeth P w K mg base 2 cs.Float "lets" ["self","held","opened","bars","water"] (q2Q cs "float"):=by
 refine L.vm (k:=1) TC.cl_Float q4c (fun vs H Q E h=>?_) (fun f cdv A outer s H vs Q E hr h=>?_)
 ·obtain ⟨p,hl,g,fn,op,bars,wt,rfl,_⟩:=h
  rfl
 ·obtain ⟨p,hl,g,fn,op,bars,wt,rfl,hw,ho,ok,hh,k⟩:=h
  obtain⟨dx,q,hp,hq⟩:=ho.ex
  cases g<;>first|exact absurd hw (by simp only[Gt.word];walk_at "k")|skip
  rename_i n
  refine⟨_,(qj (qu (qW op_ge (pv 4) (q0q K (pv 0) rfl) (qw _)))),?_⟩
  walk_at "r"
  refine q1d hp TC.cl_Float TC.no_Float_height (q8G q n) ?_
  walk_at "r"
  exact k
def dcls (cs:Cs):Wd->Addr
 | .go=>cs.Go
 | .pull=>cs.Pull
 | .take=>cs.Take
 | .turn=>cs.Turn
 | .unlock=>cs.Unlock
def dfl (d:Wd)(n:Int):List (Str×V):=putF "part" (.int d.part) (putF "number" (.int n) (putF "word" (.str d.str) []))
theorem qco (d:Wd)(n:Int):(dfl d n).lookup ("word":Str)=some (.str d.str):=by
 unfold dfl;simp only[qQ];repeat (first|rw[if_pos rfl]|rw[if_pos trivial]|rw[if_neg (by walk_at "k")])
theorem q0i (d:Wd)(n:Int):(dfl d n).lookup ("number":Str)=some (.int n):=by
 unfold dfl;simp only[qQ];repeat (first|rw[if_pos rfl]|rw[if_pos trivial]|rw[if_neg (by walk_at "k")])
theorem q8N (d:Wd)(n:Int):(dfl d n).lookup ("part":Str)=some (.int d.part):=by
 unfold dfl;simp only[qQ];repeat (first|rw[if_pos rfl]|rw[if_pos trivial]|rw[if_neg (by walk_at "k")])
theorem q3y (d:Wd)(n:Int){m:Str}(h1:m≠"part")(h2:m≠"number")(h3:m≠"word"):(dfl d n).lookup m=none:=by
 unfold dfl;simp only[qQ];rw[if_neg h1,if_neg h2,if_neg h3];rfl
theorem df_can (d:Wd)(n:Int):(dfl d n).lookup ("can":Str)=none:=q3y d n (by walk_at "k") (by walk_at "k") (by walk_at "k")
theorem qcq (d:Wd)(n:Int):(dfl d n).lookup ("fits":Str)=none:=q3y d n (by walk_at "k") (by walk_at "k") (by walk_at "k")
theorem qcr (d:Wd)(n:Int):(dfl d n).lookup ("done":Str)=none:=q3y d n (by walk_at "k") (by walk_at "k") (by walk_at "k")
theorem qcp (d:Wd)(n:Int):(dfl d n).lookup ("told":Str)=none:=q3y d n (by walk_at "k") (by walk_at "k") (by walk_at "k")
theorem q2Z (d:Wd)(n:Int):(dfl d n).lookup ("own_part":Str)=none:=q3y d n (by walk_at "k") (by walk_at "k") (by walk_at "k")
structure DObj (cs:Cs)(H:Hp)(p:Addr)(d:Wd)(n:Int):Prop where
 ex:∃dx,H p=some (.ins (dcls cs d) dx (dfl d n))
theorem DObj.mono {cs:Cs}{H H':Hp}{p:Addr}{d:Wd}{n:Int}(s:Same H H')(h:DObj cs H p d n):DObj cs H' p d n:=let ⟨dx,h1⟩:=h.ex;⟨dx,s _ _ h1⟩
structure DCl (K:W.Frag)(cs:Cs)(d:Wd):Prop where
 cl:Cls K (dcls cs d)
 nw:qH K (dcls cs d) "word"
 nn:qH K (dcls cs d) "number"
 np:qH K (dcls cs d) "part"
theorem q2i {K:W.Frag}{cs:Cs}(TC:Tcl K cs)(d:Wd):DCl K cs d:=by
 cases d
 ·exact ⟨TC.cl_Go,TC.no_Go_word,TC.no_Go_number,TC.no_Go_part⟩
 ·exact ⟨TC.cl_Pull,TC.no_Pull_word,TC.no_Pull_number,TC.no_Pull_part⟩
 ·exact ⟨TC.cl_Take,TC.no_Take_word,TC.no_Take_number,TC.no_Take_part⟩
 ·exact ⟨TC.cl_Turn,TC.no_Turn_word,TC.no_Turn_number,TC.no_Turn_part⟩
 ·exact ⟨TC.cl_Unlock,TC.no_Unlock_word,TC.no_Unlock_number,TC.no_Unlock_part⟩
def RowAt (H:Hp)(C:Cl)(i:Nat)(r:Addr):Wd->Prop
 | .go=>∃x,C.ways[i]? =some x/\q2I H r x
 | .pull=>∃x,C.levers[i]? =some x/\qN H r x
 | .take=>∃x,C.things[i]? =some x/\qN H r x
 | .turn=>∃x,C.wheels[i]? =some x/\qN H r x
 | .unlock=>∃x,C.ways[i]? =some x/\q2I H r x
def q45:Sp:=fun vs H Q _=>∃n a b:Int,vs=[.int n,.int a,.int b]/\Q (.bl (decide (a<=n)&&decide (n<=b))) H
def q48:Sp:=fun vs H Q _=>∃(r:Addr) (x:Way) (rm:Int),vs=[.ref r,.int rm]/\q2I H r x/\Q (.bl (q0E x rm)) H
def q5H:Sp:=fun vs H Q _=>∃(q:Addr) (s:Sd) (j:Nat) (n:Int),vs=[.ref q,.int j,.int n]/\j<5/\H q=some (.tup s.vs)/\∀(r:Addr) (H':Hp),Same H H'->H' r=some (.tup (s.vs.set j (.int n)))->Q (.ref r) H'
def q2k (K:W.Frag):Sp:=fun vs H Q _=>∃(p C dx:Addr) (z:Str) (n t:Int),vs=[.ref p,.str z,.int n,.int t]/\H p=some (.ins C dx [])/\Cls K C/\qH K C "word"/\qH K C "number"/\qH K C "part"/\Q .non (upd H p (.ins C dx (putF "part" (.int t) (putF "number" (.int n) (putF "word" (.str z) [])))))
def q1R (cs:Cs)(d:Wd):Sp:=fun vs H Q _=>∃(p dx:Addr) (n:Int),vs=[.ref p,.int n]/\H p=some (.ins (dcls cs d) dx [])/\∀H',(∀b o,H b=some o->b≠p->H' b=some o)->DObj cs H' p d n->Q .non H'
def q3K (cs:Cs)(d:Wd):Sp:=fun vs H Q _=>∃(p c:Addr) (C:Cl) (i:Nat),vs=[.ref p,.ref c]/\DObj cs H p d i/\ClAt H c C/\i<C.num d/\∀r,RowAt H C i r d->Q (.ref r) H
def q3j (cs:Cs)(d:Wd):Sp:=fun vs H Q _=>∃(p c q:Addr) (C:Cl) (s:Sd) (i:Nat),vs=[.ref p,.ref c,.ref q]/\DObj cs H p d i/\ClAt H c C/\ClOk C/\H q=some (.tup s.vs)/\s.ok C/\i<C.num d/\∀H',Same H H'->Q (.bl (canB C s i d)) H'
def qbc (cs:Cs)(d:Wd):Sp:=fun vs H Q _=>∃(p c q:Addr) (C:Cl) (s:Sd) (n:Int),vs=[.ref p,.ref c,.ref q]/\DObj cs H p d n/\ClAt H c C/\ClOk C/\H q=some (.tup s.vs)/\s.ok C/\∀H',Same H H'->Q (.bl (canD C s d n)) H'
def q3k (cs:Cs)(d:Wd):Sp:=fun vs H Q _=>∃(p c q:Addr) (C:Cl) (s:Sd) (n:Int),vs=[.ref p,.ref c,.ref q]/\DObj cs H p d n/\ClAt H c C/\ClOk C/\H q=some (.tup s.vs)/\s.ok C/\canD C s d n=true/\∀(r:Addr) (H':Hp),Same H H'->H' r=some (.tup (q00 C s d n).vs)->Q (.ref r) H'
def q5G (cs:Cs)(d:Wd):Sp:=fun vs H Q _=>∃(p:Addr) (n:Int),vs=[.ref p]/\DObj cs H p d n/\∀(r:Addr) (H':Hp),Same H H'->H' r=some (.tup [.str d.str,.int n])->Q (.ref r) H'
theorem q8e (T:Txt mg cs)(L:Laid K mg "within" q39 ["number","least","most"]):Cal P w K mg base 1 "within" ["number","least","most"] q45:=by
 refine L.cal (k:=0) q7L (fun vs H Q E h=>?_) (fun f cdv A outer s H vs Q E hr h=>?_)
 ·obtain ⟨n,a,b,rfl,_⟩:=h
  rfl
 ·obtain ⟨n,a,b,rfl,k⟩:=h
  refine⟨_,(qd (q03 (PW.pt (q5f (q0J (qI q3C rfl T.n_isinstance q0x (qa (pv 0) (qa (q4k (v:= .ty "bool") rfl T.n_bool qcx rfl) qe)))) (q3T (q2W (q0J (qI q3C rfl T.n_isinstance q0x (qa (pv 0) (qa (q4k (v:= .ty "int") rfl T.n_int q9a rfl) qe)))))))) (qj (qu q2B)) qD)
   (qj (qu (q9H q9I q9I (pv 1) (pv 0) (pv 2))))),?_⟩
  walk_at "r"
  refine ifd (fun h=>?_) (fun h=>?_)
  ·walk_at "r"
   rw[decide_eq_true h,Bool.true_and] at k
   exact k
  ·rw [decide_eq_false h,Bool.false_and] at k
   exact k
theorem q9V (T:Txt mg cs)(L:Laid K mg "can_enter" q1k ["way","room"]):Cal P w K mg base 1 "can_enter" ["way","room"] q48:=by
 obtain⟨t1,e_WAY_A⟩:=T.e_WAY_A
 obtain⟨t2,e_WAY_B⟩:=T.e_WAY_B
 obtain⟨t3,e_WAY_BACK⟩:=T.e_WAY_BACK
 refine L.cal (k:=0) q4W (fun vs H Q E h=>?_) (fun f cdv A outer s H vs Q E hr h=>?_)
 ·obtain ⟨r,x,rm,rfl,_⟩:=h
  rfl
 ·obtain ⟨r,x,rm,rfl,hW,k⟩:=h
  obtain⟨g,hr1,hg⟩:=hW
  unfold q0E at k
  refine⟨_,(qj (qu (q9E (qW q07 (pv 1) (qm (qk K) (pv 0) (qv (v:= .int 0) rfl e_WAY_A ⟨_,rfl⟩) (fun _ _=>rfl)) (qw _)) (q2X (q6y (qW q07 (pv 1) (qm (qk K) (pv 0) (qv (v:= .int 1) rfl e_WAY_B ⟨_,rfl⟩) (fun _ _=>rfl)) (qw _)) (q2X (qm (qk K) (pv 0) (qv (v:= .int 3) rfl e_WAY_BACK ⟨_,rfl⟩) (fun _ _=>rfl)))))))),?_⟩
  walk_at "r"
  refine ifd (fun h=>?_) (fun h=>?_)
  ·rw [decide_eq_true h,Bool.true_or] at k
   exact k
  ·rw [decide_eq_false h,Bool.false_or] at k
   walk_at "r"
   refine ifd (fun h=>?_) (fun h=>?_)
   ·rw [decide_eq_true h,Bool.true_and] at k
    walk_at "r"
    exact k
   ·rw [decide_eq_false h,Bool.false_and] at k
    exact k
theorem q78 (T:Txt mg cs)(L:Laid K mg "changed" q2v ["parts","place","part"]):Cal P w K mg base 1 "changed" ["parts","place","part"] q5H:=by
 refine L.cal (k:=0) q70 (fun vs H Q E h=>?_) (fun f cdv A outer s H vs Q E hr h=>?_)
 ·obtain ⟨q,s,j,n,rfl,_⟩:=h
  rfl
 ·obtain ⟨q,st,j,n,rfl,hj,hq,k⟩:=h
  have big:=qC
  refine⟨_,(qj (qu (qq (q6A K) (qq (q6A K) (q6v (q6k K) (pv 0) q82 (q81 (pv 1))) (qG (qa (pv 2) qe))) (q6v (q6k K) (pv 0) (q81 (qq q0l (pv 1) qc)) q82)))),?_⟩
  obtain rfl|rfl|rfl|rfl|rfl:j=0\/j=1\/j=2\/j=3\/j=4:=by omega
  ·walk_at "r"
   refine⟨q,_,rfl,SqT.of hq,fun e=>absurd (show(0:Nat)=5 from congrArg List.length e) (by decide),fun t1 ht1=>?_⟩
   have s1:=Same.upd (o:= .tup (cutV st.vs none (some ((0:Nat):Int)))) ht1
   have h1:(upd H t1 (.tup (cutV st.vs none (some ((0:Nat):Int))))) t1=some (.tup []):=qg
   generalize upd H t1 (.tup (cutV st.vs none (some ((0:Nat):Int))))=H1 at s1 h1 ⊢
   walk_at "r"
   intro t2 ht2
   have s2:=Same.upd (o:= .tup [.int n]) ht2
   have h2:=qg (H:=H1) (a:=t2) (o:= .tup [.int n])
   have h12:=s2 _ _ h1
   generalize upd H1 t2 (.tup [.int n])=H2 at s2 h2 h12 ⊢
   refine qbp (SqT.of h12) (SqT.of h2) (by show 1<=sizeLine;omega) ?_
   have hq2:=s2 _ _ (s1 _ _ hq)
   walk_at "r"
   refine⟨q,_,rfl,SqT.of hq2,fun e=>absurd (show(4:Nat)=5 from congrArg List.length e) (by decide),fun t3 ht3=>?_⟩
   have s3:=Same.upd (o:= .tup (cutV st.vs (some (((0:Nat):Int)+1)) none)) ht3
   have h3:(upd H2 t3 (.tup (cutV st.vs (some (((0:Nat):Int)+1)) none))) t3=some (.tup [.int st.tk,.int st.op,.int st.b,.int st.wt]):=qg
   generalize upd H2 t3 (.tup (cutV st.vs (some (((0:Nat):Int)+1)) none))=H3 at s3 h3 ⊢
   refine q1W (SqT.of (s3 _ _ h2)) (SqT.of h3) rfl fun t4 ht4=>?_
   exact k t4 _ (((s1.trans s2).trans s3).trans (Same.upd ht4)) qg
  ·walk_at "r"
   refine⟨q,_,rfl,SqT.of hq,fun e=>absurd (show(1:Nat)=5 from congrArg List.length e) (by decide),fun t1 ht1=>?_⟩
   have s1:=Same.upd (o:= .tup (cutV st.vs none (some ((1:Nat):Int)))) ht1
   have h1:(upd H t1 (.tup (cutV st.vs none (some ((1:Nat):Int))))) t1=some (.tup [.int st.rm]):=qg
   generalize upd H t1 (.tup (cutV st.vs none (some ((1:Nat):Int))))=H1 at s1 h1 ⊢
   walk_at "r"
   intro t2 ht2
   have s2:=Same.upd (o:= .tup [.int n]) ht2
   have h2:=qg (H:=H1) (a:=t2) (o:= .tup [.int n])
   have h12:=s2 _ _ h1
   generalize upd H1 t2 (.tup [.int n])=H2 at s2 h2 h12 ⊢
   refine q1W (SqT.of h12) (SqT.of h2) rfl fun t5 ht5=>?_
   have s5:=Same.upd (o:= .tup [.int st.rm,.int n]) ht5
   have h5:=qg (H:=H2) (a:=t5) (o:= .tup [.int st.rm,.int n])
   have hq2:=s5 _ _ (s2 _ _ (s1 _ _ hq))
   show(tSl _ _ _ _) _ (upd H2 t5 (.tup [.int st.rm,.int n])) _
   generalize upd H2 t5 (.tup [.int st.rm,.int n])=H5 at s5 h5 hq2 ⊢
   walk_at "r"
   refine⟨q,_,rfl,SqT.of hq2,fun e=>absurd (show(3:Nat)=5 from congrArg List.length e) (by decide),fun t3 ht3=>?_⟩
   have s3:=Same.upd (o:= .tup (cutV st.vs (some (((1:Nat):Int)+1)) none)) ht3
   have h3:(upd H5 t3 (.tup (cutV st.vs (some (((1:Nat):Int)+1)) none))) t3=some (.tup [.int st.op,.int st.b,.int st.wt]):=qg
   generalize upd H5 t3 (.tup (cutV st.vs (some (((1:Nat):Int)+1)) none))=H3 at s3 h3 ⊢
   refine q1W (SqT.of (s3 _ _ h5)) (SqT.of h3) rfl fun t4 ht4=>?_
   exact k t4 _ ((((s1.trans s2).trans s5).trans s3).trans (Same.upd ht4)) qg
  ·walk_at "r"
   refine⟨q,_,rfl,SqT.of hq,fun e=>absurd (show(2:Nat)=5 from congrArg List.length e) (by decide),fun t1 ht1=>?_⟩
   have s1:=Same.upd (o:= .tup (cutV st.vs none (some ((2:Nat):Int)))) ht1
   have h1:(upd H t1 (.tup (cutV st.vs none (some ((2:Nat):Int))))) t1=some (.tup [.int st.rm,.int st.tk]):=qg
   generalize upd H t1 (.tup (cutV st.vs none (some ((2:Nat):Int))))=H1 at s1 h1 ⊢
   walk_at "r"
   intro t2 ht2
   have s2:=Same.upd (o:= .tup [.int n]) ht2
   have h2:=qg (H:=H1) (a:=t2) (o:= .tup [.int n])
   have h12:=s2 _ _ h1
   generalize upd H1 t2 (.tup [.int n])=H2 at s2 h2 h12 ⊢
   refine q1W (SqT.of h12) (SqT.of h2) rfl fun t5 ht5=>?_
   have s5:=Same.upd (o:= .tup [.int st.rm,.int st.tk,.int n]) ht5
   have h5:=qg (H:=H2) (a:=t5) (o:= .tup [.int st.rm,.int st.tk,.int n])
   have hq2:=s5 _ _ (s2 _ _ (s1 _ _ hq))
   show(tSl _ _ _ _) _ (upd H2 t5 (.tup [.int st.rm,.int st.tk,.int n])) _
   generalize upd H2 t5 (.tup [.int st.rm,.int st.tk,.int n])=H5 at s5 h5 hq2 ⊢
   walk_at "r"
   refine⟨q,_,rfl,SqT.of hq2,fun e=>absurd (show(2:Nat)=5 from congrArg List.length e) (by decide),fun t3 ht3=>?_⟩
   have s3:=Same.upd (o:= .tup (cutV st.vs (some (((2:Nat):Int)+1)) none)) ht3
   have h3:(upd H5 t3 (.tup (cutV st.vs (some (((2:Nat):Int)+1)) none))) t3=some (.tup [.int st.b,.int st.wt]):=qg
   generalize upd H5 t3 (.tup (cutV st.vs (some (((2:Nat):Int)+1)) none))=H3 at s3 h3 ⊢
   refine q1W (SqT.of (s3 _ _ h5)) (SqT.of h3) rfl fun t4 ht4=>?_
   exact k t4 _ ((((s1.trans s2).trans s5).trans s3).trans (Same.upd ht4)) qg
  ·walk_at "r"
   refine⟨q,_,rfl,SqT.of hq,fun e=>absurd (show(3:Nat)=5 from congrArg List.length e) (by decide),fun t1 ht1=>?_⟩
   have s1:=Same.upd (o:= .tup (cutV st.vs none (some ((3:Nat):Int)))) ht1
   have h1:(upd H t1 (.tup (cutV st.vs none (some ((3:Nat):Int))))) t1=some (.tup [.int st.rm,.int st.tk,.int st.op]):=qg
   generalize upd H t1 (.tup (cutV st.vs none (some ((3:Nat):Int))))=H1 at s1 h1 ⊢
   walk_at "r"
   intro t2 ht2
   have s2:=Same.upd (o:= .tup [.int n]) ht2
   have h2:=qg (H:=H1) (a:=t2) (o:= .tup [.int n])
   have h12:=s2 _ _ h1
   generalize upd H1 t2 (.tup [.int n])=H2 at s2 h2 h12 ⊢
   refine q1W (SqT.of h12) (SqT.of h2) rfl fun t5 ht5=>?_
   have s5:=Same.upd (o:= .tup [.int st.rm,.int st.tk,.int st.op,.int n]) ht5
   have h5:=qg (H:=H2) (a:=t5) (o:= .tup [.int st.rm,.int st.tk,.int st.op,.int n])
   have hq2:=s5 _ _ (s2 _ _ (s1 _ _ hq))
   show(tSl _ _ _ _) _ (upd H2 t5 (.tup [.int st.rm,.int st.tk,.int st.op,.int n])) _
   generalize upd H2 t5 (.tup [.int st.rm,.int st.tk,.int st.op,.int n])=H5 at s5 h5 hq2 ⊢
   walk_at "r"
   refine⟨q,_,rfl,SqT.of hq2,fun e=>absurd (show(1:Nat)=5 from congrArg List.length e) (by decide),fun t3 ht3=>?_⟩
   have s3:=Same.upd (o:= .tup (cutV st.vs (some (((3:Nat):Int)+1)) none)) ht3
   have h3:(upd H5 t3 (.tup (cutV st.vs (some (((3:Nat):Int)+1)) none))) t3=some (.tup [.int st.wt]):=qg
   generalize upd H5 t3 (.tup (cutV st.vs (some (((3:Nat):Int)+1)) none))=H3 at s3 h3 ⊢
   refine q1W (SqT.of (s3 _ _ h5)) (SqT.of h3) rfl fun t4 ht4=>?_
   exact k t4 _ ((((s1.trans s2).trans s5).trans s3).trans (Same.upd ht4)) qg
  ·walk_at "r"
   refine⟨q,_,rfl,SqT.of hq,fun e=>absurd (show(4:Nat)=5 from congrArg List.length e) (by decide),fun t1 ht1=>?_⟩
   have s1:=Same.upd (o:= .tup (cutV st.vs none (some ((4:Nat):Int)))) ht1
   have h1:(upd H t1 (.tup (cutV st.vs none (some ((4:Nat):Int))))) t1=some (.tup [.int st.rm,.int st.tk,.int st.op,.int st.b]):=qg
   generalize upd H t1 (.tup (cutV st.vs none (some ((4:Nat):Int))))=H1 at s1 h1 ⊢
   walk_at "r"
   intro t2 ht2
   have s2:=Same.upd (o:= .tup [.int n]) ht2
   have h2:=qg (H:=H1) (a:=t2) (o:= .tup [.int n])
   have h12:=s2 _ _ h1
   generalize upd H1 t2 (.tup [.int n])=H2 at s2 h2 h12 ⊢
   refine q1W (SqT.of h12) (SqT.of h2) rfl fun t5 ht5=>?_
   have s5:=Same.upd (o:= .tup [.int st.rm,.int st.tk,.int st.op,.int st.b,.int n]) ht5
   have h5:=qg (H:=H2) (a:=t5) (o:= .tup [.int st.rm,.int st.tk,.int st.op,.int st.b,.int n])
   have hq2:=s5 _ _ (s2 _ _ (s1 _ _ hq))
   show(tSl _ _ _ _) _ (upd H2 t5 (.tup [.int st.rm,.int st.tk,.int st.op,.int st.b,.int n])) _
   generalize upd H2 t5 (.tup [.int st.rm,.int st.tk,.int st.op,.int st.b,.int n])=H5 at s5 h5 hq2 ⊢
   walk_at "r"
   refine⟨q,_,rfl,SqT.of hq2,fun e=>absurd (show(0:Nat)=5 from congrArg List.length e) (by decide),fun t3 ht3=>?_⟩
   have s3:=Same.upd (o:= .tup (cutV st.vs (some (((4:Nat):Int)+1)) none)) ht3
   have h3:(upd H5 t3 (.tup (cutV st.vs (some (((4:Nat):Int)+1)) none))) t3=some (.tup []):=qg
   generalize upd H5 t3 (.tup (cutV st.vs (some (((4:Nat):Int)+1)) none))=H3 at s3 h3 ⊢
   refine qbo (SqT.of (s3 _ _ h5)) (SqT.of h3) (by show 5<=sizeLine;omega) ?_
   exact k t5 _ (((s1.trans s2).trans s5).trans s3) (s3 _ _ h5)
theorem q9W (T:Txt mg cs)(L:LaidC K mg "Deed" "__init__" "Deed.__init__" q1I ["self","word","number","part"]):CCal P w K mg base 1 "Deed" "__init__" ["self","word","number","part"] (q2k K):=by
 refine L.cc (k:=0) q5e (fun vs H Q E h=>?_) (fun f cdv A outer s H vs Q E hr h=>?_)
 ·obtain ⟨p,C,dx,z,n,t,rfl,_⟩:=h
  rfl
 ·obtain ⟨p,C,dx,z,n,t,rfl,hp,cl,nw,nn,np,k⟩:=h
  refine⟨_,(qd (q19 K (pv 0) (pv 1) rfl)
   (qd (q19 K (pv 0) (pv 2) rfl)
   (qj (q19 K (pv 0) (pv 3) rfl)))),?_⟩
  walk_at "r"
  refine q2d hp cl nw (by decide) ?_
  walk_at "r"
  refine q2d qg cl nn (by show 1<1000;decide) ?_
  walk_at "r"
  refine q2d qg cl np (by show 2<1000;decide) ?_
  rw[q1Q,q1Q]
  exact k
theorem q5k {H:Hp}{Q:VK}{p dx:Addr}{d:Wd}{n:Int}(k:∀H',(∀b o,H b=some o->b≠p->H' b=some o)->DObj cs H' p d n->Q .non H'):Q .non (upd H p (.ins (dcls cs d) dx (putF "part" (.int d.part) (putF "number" (.int n) (putF "word" (.str d.str) []))))):=
 k _ (fun b o hb hbp=>by rw[ql hbp];exact hb) ⟨dx,qg⟩
theorem mk_go (T:Txt mg cs)(TC:Tcl K cs)(L:LaidI K mg "Go" cs.Go "Go.__init__" q2w ["self","number"])(C_Deed_init:CCal P w K mg base 1 "Deed" "__init__" ["self","word","number","part"] (q2k K)):Makes P w K mg base 2 "Go" cs.Go ["self","number"] (q1R cs .go):=by
 obtain⟨t1,e_WAYS⟩:=T.e_WAYS
 have D:=q2i TC .go
 refine L.makes (k:=1) q71 (fun vs H Q E h=>?_) (fun f cdv A outer s H vs Q E hr h=>?_)
 ·obtain ⟨p,dx,n,rfl,_⟩:=h
  rfl
 ·obtain ⟨p,dx,n,rfl,hp,k⟩:=h
  refine⟨_,(qj (qZ (q3q C_Deed_init hr (by decide) rfl (qa (pv 0) (qa qK (qa (pv 1) (qa (qv (v:= .int 3) rfl e_WAYS ⟨_,rfl⟩) qe))))))),?_⟩
  walk_at "r"
  refine⟨p,_,dx,_,n,_,rfl,hp,D.cl,D.nw,D.nn,D.np,?_⟩
  walk_at "r"
  exact q5k k
theorem qbT (T:Txt mg cs)(TC:Tcl K cs)(L:LaidI K mg "Pull" cs.Pull "Pull.__init__" q1A ["self","number"])(C_Deed_init:CCal P w K mg base 1 "Deed" "__init__" ["self","word","number","part"] (q2k K)):Makes P w K mg base 2 "Pull" cs.Pull ["self","number"] (q1R cs .pull):=by
 obtain⟨t1,e_LEVERS⟩:=T.e_LEVERS
 have D:=q2i TC .pull
 refine L.makes (k:=1) q55 (fun vs H Q E h=>?_) (fun f cdv A outer s H vs Q E hr h=>?_)
 ·obtain ⟨p,dx,n,rfl,_⟩:=h
  rfl
 ·obtain ⟨p,dx,n,rfl,hp,k⟩:=h
  refine⟨_,(qj (qZ (q3q C_Deed_init hr (by decide) rfl (qa (pv 0) (qa qK (qa (pv 1) (qa (qv (v:= .int 5) rfl e_LEVERS ⟨_,rfl⟩) qe))))))),?_⟩
  walk_at "r"
  refine⟨p,_,dx,_,n,_,rfl,hp,D.cl,D.nw,D.nn,D.np,?_⟩
  walk_at "r"
  exact q5k k
theorem qbR (T:Txt mg cs)(TC:Tcl K cs)(L:LaidI K mg "Take" cs.Take "Take.__init__" q1w ["self","number"])(C_Deed_init:CCal P w K mg base 1 "Deed" "__init__" ["self","word","number","part"] (q2k K)):Makes P w K mg base 2 "Take" cs.Take ["self","number"] (q1R cs .take):=by
 obtain⟨t1,e_THINGS⟩:=T.e_THINGS
 have D:=q2i TC .take
 refine L.makes (k:=1) q51 (fun vs H Q E h=>?_) (fun f cdv A outer s H vs Q E hr h=>?_)
 ·obtain ⟨p,dx,n,rfl,_⟩:=h
  rfl
 ·obtain ⟨p,dx,n,rfl,hp,k⟩:=h
  refine⟨_,(qj (qZ (q3q C_Deed_init hr (by decide) rfl (qa (pv 0) (qa qK (qa (pv 1) (qa (qv (v:= .int 4) rfl e_THINGS ⟨_,rfl⟩) qe))))))),?_⟩
  walk_at "r"
  refine⟨p,_,dx,_,n,_,rfl,hp,D.cl,D.nw,D.nn,D.np,?_⟩
  walk_at "r"
  exact q5k k
theorem qbQ (T:Txt mg cs)(TC:Tcl K cs)(L:LaidI K mg "Turn" cs.Turn "Turn.__init__" q1t ["self","number"])(C_Deed_init:CCal P w K mg base 1 "Deed" "__init__" ["self","word","number","part"] (q2k K)):Makes P w K mg base 2 "Turn" cs.Turn ["self","number"] (q1R cs .turn):=by
 obtain⟨t1,e_WHEELS⟩:=T.e_WHEELS
 have D:=q2i TC .turn
 refine L.makes (k:=1) q4Z (fun vs H Q E h=>?_) (fun f cdv A outer s H vs Q E hr h=>?_)
 ·obtain ⟨p,dx,n,rfl,_⟩:=h
  rfl
 ·obtain ⟨p,dx,n,rfl,hp,k⟩:=h
  refine⟨_,(qj (qZ (q3q C_Deed_init hr (by decide) rfl (qa (pv 0) (qa qK (qa (pv 1) (qa (qv (v:= .int 6) rfl e_WHEELS ⟨_,rfl⟩) qe))))))),?_⟩
  walk_at "r"
  refine⟨p,_,dx,_,n,_,rfl,hp,D.cl,D.nw,D.nn,D.np,?_⟩
  walk_at "r"
  exact q5k k
theorem q8k (T:Txt mg cs)(TC:Tcl K cs)(L:LaidI K mg "Unlock" cs.Unlock "Unlock.__init__" q0M ["self","number"])(C_Deed_init:CCal P w K mg base 1 "Deed" "__init__" ["self","word","number","part"] (q2k K)):Makes P w K mg base 2 "Unlock" cs.Unlock ["self","number"] (q1R cs .unlock):=by
 obtain⟨t1,e_WAYS⟩:=T.e_WAYS
 have D:=q2i TC .unlock
 refine L.makes (k:=1) q3L (fun vs H Q E h=>?_) (fun f cdv A outer s H vs Q E hr h=>?_)
 ·obtain ⟨p,dx,n,rfl,_⟩:=h
  rfl
 ·obtain ⟨p,dx,n,rfl,hp,k⟩:=h
  refine⟨_,(qj (qZ (q3q C_Deed_init hr (by decide) rfl (qa (pv 0) (qa qK (qa (pv 1) (qa (qv (v:= .int 3) rfl e_WAYS ⟨_,rfl⟩) qe))))))),?_⟩
  walk_at "r"
  refine⟨p,_,dx,_,n,_,rfl,hp,D.cl,D.nw,D.nn,D.np,?_⟩
  walk_at "r"
  exact q5k k
theorem q8l {H:Hp}{Q:VK}{d:Wd}{n:Int}{x dx:Addr}(hx:H x=none)(hdx:H dx=none)(ne:dx≠x)(k:∀(x:Addr) (H':Hp),Same H H'->H x=none->DObj cs H' x d n->Q (.ref x) H'):q1R cs d (.ref x::([.int n]++[])) (upd (upd H dx (.own x)) x (.ins (dcls cs d) dx [])) (fun v H2=>v= .non/\Q (.ref x) H2) E0:=by
 refine⟨x,dx,n,rfl,qg,fun H' hk ho=>⟨rfl,k x H' (fun b o hb=>?_) hx ho⟩⟩
 refine hk b o ?_ (qp hb hx)
 rw[ql (qp hb hx),ql (qp hb hdx)]
 exact hb
theorem q4C {d:Wd}(L:LaidM K (dcls cs d) "own_part" "Deed.own_part" qF ["self","cellar"])(D:DCl K cs d):VMeth P w K mg base 1 (dcls cs d) "own_part" ["self","cellar"] (q3K cs d):=by
 refine L.vm (k:=0) D.cl q32 (fun vs H Q E h=>?_) (fun f cdv A outer s H vs Q E hr h=>?_)
 ·obtain ⟨p,c,C,i,rfl,_⟩:=h
  rfl
 ·obtain ⟨p,c,C,i,rfl,ho,hC,hi,k⟩:=h
  obtain⟨dx,hp⟩:=ho.ex
  obtain⟨pw,pt,pl,pv',h0,hw,ht,hl,hv⟩:=hC.ex
  refine⟨_,(qj (qu (qm (qk K) (qm (qk K) (pv 1) (q0q K (pv 0) rfl) (fun _ _=>rfl)) (q0q K (pv 0) rfl) (fun _ _=>rfl)))),?_⟩
  walk_at "r"
  refine q1d hp D.cl D.np (q8N d i) ?_
  cases d
  ·obtain ⟨xs,hx,hxl,hxg⟩:=hw.get
   obtain⟨r,e,hr1⟩:=hxg i hi
   refine q33 (SqT.of h0) (v:= .ref pw) rfl ?_
   walk_at "r"
   refine q1d hp D.cl D.nn (q0i _ i) ?_
   refine q33 (SqT.of hx) (q0m e) ?_
   exact k r ⟨_,yB hi,hr1⟩
  ·obtain ⟨xs,hx,hxl,hxg⟩:=hl.get
   obtain⟨r,e,hr1⟩:=hxg i hi
   refine q33 (SqT.of h0) (v:= .ref pl) rfl ?_
   walk_at "r"
   refine q1d hp D.cl D.nn (q0i _ i) ?_
   refine q33 (SqT.of hx) (q0m e) ?_
   exact k r ⟨_,yB hi,hr1⟩
  ·obtain ⟨xs,hx,hxl,hxg⟩:=ht.get
   obtain⟨r,e,hr1⟩:=hxg i hi
   refine q33 (SqT.of h0) (v:= .ref pt) rfl ?_
   walk_at "r"
   refine q1d hp D.cl D.nn (q0i _ i) ?_
   refine q33 (SqT.of hx) (q0m e) ?_
   exact k r ⟨_,yB hi,hr1⟩
  ·obtain ⟨xs,hx,hxl,hxg⟩:=hv.get
   obtain⟨r,e,hr1⟩:=hxg i hi
   refine q33 (SqT.of h0) (v:= .ref pv') rfl ?_
   walk_at "r"
   refine q1d hp D.cl D.nn (q0i _ i) ?_
   refine q33 (SqT.of hx) (q0m e) ?_
   exact k r ⟨_,yB hi,hr1⟩
  ·obtain ⟨xs,hx,hxl,hxg⟩:=hw.get
   obtain⟨r,e,hr1⟩:=hxg i hi
   refine q33 (SqT.of h0) (v:= .ref pw) rfl ?_
   walk_at "r"
   refine q1d hp D.cl D.nn (q0i _ i) ?_
   refine q33 (SqT.of hx) (q0m e) ?_
   exact k r ⟨_,yB hi,hr1⟩
theorem num_at {H:Hp}{c:Addr}{C:Cl}(hC:ClAt H c C)(d:Wd):∃(vs:List V) (p:Addr) (xs:List V),H c=some (.tup vs)/\atI vs d.part=some (.ref p)/\H p=some (.tup xs)/\xs.length=C.num d/\atI vs 2=some (.int C.lst):=by
 obtain⟨pw,pt,pl,pv',h0,hw,ht,hl,hv⟩:=hC.ex
 cases d
 ·obtain ⟨xs,hx,hxl,_⟩:=hw.get
  exact⟨_,pw,xs,h0,rfl,hx,hxl,rfl⟩
 ·obtain ⟨xs,hx,hxl,_⟩:=hl.get
  exact⟨_,pl,xs,h0,rfl,hx,hxl,rfl⟩
 ·obtain ⟨xs,hx,hxl,_⟩:=ht.get
  exact⟨_,pt,xs,h0,rfl,hx,hxl,rfl⟩
 ·obtain ⟨xs,hx,hxl,_⟩:=hv.get
  exact⟨_,pv',xs,h0,rfl,hx,hxl,rfl⟩
 ·obtain ⟨xs,hx,hxl,_⟩:=hw.get
  exact⟨_,pw,xs,h0,rfl,hx,hxl,rfl⟩
theorem q4M {d:Wd}(T:Txt mg cs)(L:LaidM K (dcls cs d) "can" "Deed.can" q04 ["self","cellar","stand"])(D:DCl K cs d)(C_within:Cal P w K mg base 1 "within" ["number","least","most"] q45)(vf:VMeth P w K mg base 5 (dcls cs d) "fits" ["self","cellar","stand"] (q3j cs d)):VMeth P w K mg base 6 (dcls cs d) "can" ["self","cellar","stand"] (qbc cs d):=by
 obtain⟨t1,e_ROOM⟩:=T.e_ROOM
 obtain⟨t2,e_LAST⟩:=T.e_LAST
 refine L.vm (k:=5) D.cl q5M (fun vs H Q E h=>?_) (fun f cdv A outer s H vs Q E hr h=>?_)
 ·obtain ⟨p,c,q,C,st,n,rfl,_⟩:=h
  rfl
 ·obtain ⟨p,c,q,C,st,n,rfl,ho,hC,ok,hq,sok,k⟩:=h
  obtain⟨dx,hp⟩:=ho.ex
  obtain⟨vs,pp,xs,h0,hpp,hx,hxl,hlast⟩:=num_at hC d
  have hq':H q=some (.tup [.int st.rm,.int st.tk,.int st.op,.int st.b,.int st.wt]):=hq
  refine⟨_,(qd (q03 (PW.pt (q5f (qz q07 (qm (qk K) (pv 2) (qv (v:= .int 0) rfl e_ROOM ⟨_,rfl⟩) (fun _ _=>rfl)) (qm (qk K) (pv 1) (qv (v:= .int 2) rfl e_LAST ⟨_,rfl⟩) (fun _ _=>rfl)) (qw _)) (q3T (q2W (q0J (qB C_within hr (by decide) rfl (qa (q0q K (pv 0) rfl) (qa qc (qa (qq q2Y (qI (lenK K) rfl T.n_len q0p (qa (qm (qk K) (pv 1) (q0q K (pv 0) rfl) (fun _ _=>rfl)) qe)) qc) qe))))))))) (qj (qu q2B)) qD)
   (qj (qu (q3p (k:=5) (hr.mono (by decide)) (pv 0) (qa (pv 1) (qa (pv 2) qe)))))),?_⟩
  walk_at "r"
  refine ifd (fun h1=>?_) (fun h1=>?_)
  ·walk_at "r"
   have:=k H (Same.refl _)
   rw[q5u h1] at this
   exact this
  walk_at "r"
  refine q1d hp D.cl D.nn (q0i d n) ?_
  walk_at "r"
  refine q1d hp D.cl D.np (q8N d n) ?_
  refine q33 (SqT.of h0) hpp ?_
  walk_at "r"
  refine⟨n,0,_,rfl,?_⟩
  walk_at "r"
  by_cases hin:0<=n/\n<(C.num d:Int)
  ·have e:(decide (0<=n)&&decide (n<=(xs.length:Int) - 1))=true:=by
    rw[decide_eq_true (p:=0<=n) hin.1,decide_eq_true (p:=n<=(xs.length:Int) - 1) (by rw[hxl];omega)]
    rfl
   rw[e]
   walk_at "r"
   obtain⟨i,rfl⟩:∃i:Nat,n=(i:Int):=⟨n.toNat,by omega⟩
   refine r_vm hp vf (qcq d _) ?_
   walk_at "r"
   refine⟨p,c,q,C,st,i,rfl,ho,hC,ok,hq,sok,by omega,fun H' s'=>?_⟩
   have:=k H' s'
   rw[q93 h1] at this
   exact this
  ·have e:(decide (0<=n)&&decide (n<=(xs.length:Int) - 1))=false:=by
    rw[Bool.and_eq_false_iff]
    by_cases h3:0<=n
    ·right;rw[hxl];exact decide_eq_false (by omega)
    ·left;exact decide_eq_false h3
   rw[e]
   walk_at "r"
   have:=k H (Same.refl _)
   rw[show canD C st d n=false from by
    by_cases h3:0<=n
    ·exact q66 (by omega)
    ·exact q6M (by omega)] at this
   exact this
theorem q2r {d:Wd}(L:LaidM K (dcls cs d) "told" "Deed.told" qV ["self"])(D:DCl K cs d):VMeth P w K mg base 1 (dcls cs d) "told" ["self"] (q5G cs d):=by
 refine L.vm (k:=0) D.cl q5d (fun vs H Q E h=>?_) (fun f cdv A outer s H vs Q E hr h=>?_)
 ·obtain ⟨p,n,rfl,_⟩:=h
  rfl
 ·obtain ⟨p,n,rfl,ho,k⟩:=h
  obtain⟨dx,hp⟩:=ho.ex
  refine⟨_,(qj (qu (qG (qa (q0q K (pv 0) rfl) (qa (q0q K (pv 0) rfl) qe))))),?_⟩
  walk_at "r"
  refine q1d hp D.cl D.nw (qco d n) ?_
  walk_at "r"
  refine q1d hp D.cl D.nn (q0i d n) ?_
  walk_at "r"
  intro r hr1
  exact k r _ (Same.upd hr1) qg
theorem q6R (T:Txt mg cs)(D:DCl K cs .go)(L:LaidM K cs.Go "fits" "Go.fits" q2x ["self","cellar","stand"])(vo:VMeth P w K mg base 1 (dcls cs .go) "own_part" ["self","cellar"] (q3K cs .go))(C_can_enter:Cal P w K mg base 1 "can_enter" ["way","room"] q48)(C_has_bit:Cal P w K mg base 1 "has_bit" ["bits","place"] q5I)
  (C_gate_of:Cal P w K mg base 4 "gate_of" ["gate"] (qba cs))(vl:∀g:Gt,VMeth P w K mg base 2 (q8Z cs g) "lets" ["self","held","opened","bars","water"] (q2Q cs g.word))(C_held:Cal P w K mg base 2 "held" ["cellar","stand"] q6j):VMeth P w K mg base 5 (dcls cs .go) "fits" ["self","cellar","stand"] (q3j cs .go):=by
 obtain⟨t1,e_ROOM⟩:=T.e_ROOM
 obtain⟨t2,e_OPENED⟩:=T.e_OPENED
 obtain⟨t3,e_WAY_GATE⟩:=T.e_WAY_GATE
 obtain⟨t4,e_BARS⟩:=T.e_BARS
 obtain⟨t5,e_WATER⟩:=T.e_WATER
 refine LaidM.vm (k:=4) L D.cl q2L (fun vs H Q E h=>?_) (fun f cdv A outer s H vs Q E hr h=>?_)
 ·obtain ⟨p,c,q,C,st,i,rfl,_⟩:=h
  rfl
 ·obtain ⟨p,c,q,C,st,i,rfl,ho,hC,ok,hq,sok,hi,k⟩:=h
  obtain⟨dx,hp⟩:=ho.ex
  replace hq:H q=some (.tup [.int st.rm,.int st.tk,.int st.op,.int st.b,.int st.wt]):=hq
  refine⟨_,(qd (qy (i:=3) q2L.nd rfl (Or.inl rfl) (q3p (k:=1) (hr.mono (by decide)) (pv 0) (qa (pv 1) qe)))
   (qd (q03 (q2W (q0J (qB C_can_enter hr (by decide) rfl (qa (pv 3) (qa (qm (qk K) (pv 2) (qv (v:= .int 0) rfl e_ROOM ⟨_,rfl⟩) (fun _ _=>rfl)) qe))))) (qj (qu q2B)) qD)
   (qd (qy (i:=4) q2L.nd rfl (Or.inl rfl) (qB C_has_bit hr (by decide) rfl (qa (qm (qk K) (pv 2) (qv (v:= .int 2) rfl e_OPENED ⟨_,rfl⟩) (fun _ _=>rfl)) (qa (q0q K (pv 0) rfl) qe))))
   (qj (qu (q3p (k:=2) (hr.mono (by decide)) (qB C_gate_of hr (by decide) rfl (qa (qm (qk K) (pv 3) (qv (v:= .int 2) rfl e_WAY_GATE ⟨_,rfl⟩) (fun _ _=>rfl)) qe)) (qa (qB C_held hr (by decide) rfl (qa (pv 1) (qa (pv 2) qe))) (qa (pv 4) (qa (qm (qk K) (pv 2) (qv (v:= .int 3) rfl e_BARS ⟨_,rfl⟩) (fun _ _=>rfl)) (qa (qm (qk K) (pv 2) (qv (v:= .int 4) rfl e_WATER ⟨_,rfl⟩) (fun _ _=>rfl)) qe)))))))))),?_⟩
  walk_at "r"
  refine r_vm hp vo (q2Z _ _) ?_
  walk_at "r"
  refine⟨p,c,C,i,rfl,ho,hC,hi,fun r hrow=>?_⟩
  obtain⟨x,hx,hW⟩:=hrow
  have xok:=ok.w x (List.mem_of_getElem? hx)
  have ecan:canB C st i .go=(q0E x st.rm&&q3u x.g (hold C st.tk st.op) (bit st.op i) st.b st.wt):=by simp[canB,hx]
  obtain⟨g,hr1,hg⟩:=id hW
  walk_at "r"
  refine⟨r,x,st.rm,rfl,hW,?_⟩
  walk_at "r"
  cases he:q0E x st.rm with
  |false=>
   walk_at "r"
   have:=k H (Same.refl _)
   rw[ecan,he] at this
   exact this
  |true=>
   walk_at "r"
   refine q1d hp D.cl D.nn (q0i _ _) ?_
   walk_at "r"
   refine⟨st.op,i,rfl,by omega,?_⟩
   rw[Int.toNat_natCast]
   walk_at "r"
   refine⟨g,x.g,rfl,hg,fun o H1 s1 ho0 hob=>?_⟩
   obtain⟨dxo,qo,hpo,hqo⟩:=hob.ex
   have hq1:=s1 _ _ hq
   refine r_vm hpo (vl x.g) (qcf qo x.g) ?_
   walk_at "r"
   refine⟨c,q,C,st.rm,st.tk,st.op,st.b,st.wt,rfl,hC.mono s1.ts,ok,hq1,sok.dr,fun hl H2 s2 hl0 hl2=>?_⟩
   have hq2:=s2 _ _ hq1
   walk_at "r"
   refine⟨o,hl,x.g,hold C st.tk st.op,_,_,_,rfl,rfl,hob.mono s2,xok.2.2.2,hl2,?_⟩
   have:=k H2 (s1.trans s2)
   rw[ecan,he,Bool.true_and] at this
   exact this
theorem q4I (T:Txt mg cs)(D:DCl K cs .pull)(L:LaidM K cs.Pull "fits" "Pull.fits" q1B ["self","cellar","stand"])(vo:VMeth P w K mg base 1 (dcls cs .pull) "own_part" ["self","cellar"] (q3K cs .pull)):VMeth P w K mg base 5 (dcls cs .pull) "fits" ["self","cellar","stand"] (q3j cs .pull):=by
 obtain⟨t1,e_ROOM⟩:=T.e_ROOM
 obtain⟨t2,e_PAIR_ROOM⟩:=T.e_PAIR_ROOM
 refine LaidM.vm (k:=4) L D.cl q56 (fun vs H Q E h=>?_) (fun f cdv A outer s H vs Q E hr h=>?_)
 ·obtain ⟨p,c,q,C,st,i,rfl,_⟩:=h
  rfl
 ·obtain ⟨p,c,q,C,st,i,rfl,ho,hC,ok,hq,sok,hi,k⟩:=h
  obtain⟨dx,hp⟩:=ho.ex
  replace hq:H q=some (.tup [.int st.rm,.int st.tk,.int st.op,.int st.b,.int st.wt]):=hq
  refine⟨_,(qj (qu (qW q07 (qm (qk K) (pv 2) (qv (v:= .int 0) rfl e_ROOM ⟨_,rfl⟩) (fun _ _=>rfl)) (qm (qk K) (q3p (k:=1) (hr.mono (by decide)) (pv 0) (qa (pv 1) qe)) (qv (v:= .int 0) rfl e_PAIR_ROOM ⟨_,rfl⟩) (fun _ _=>rfl)) (qw _)))),?_⟩
  walk_at "r"
  refine r_vm hp vo (q2Z _ _) ?_
  walk_at "r"
  refine⟨p,c,C,i,rfl,ho,hC,hi,fun r hrow=>?_⟩
  obtain⟨x,hx,hP⟩:=hrow
  have ecan:canB C st i .pull=decide (st.rm=x.1):=by simp[canB,hx]
  replace hP:H r=some (.tup [.int x.1,.int x.2]):=hP
  walk_at "r"
  have:=k H (Same.refl _)
  rw[ecan] at this
  exact this
theorem q4H (T:Txt mg cs)(D:DCl K cs .take)(L:LaidM K cs.Take "fits" "Take.fits" q1x ["self","cellar","stand"])(vo:VMeth P w K mg base 1 (dcls cs .take) "own_part" ["self","cellar"] (q3K cs .take))(C_has_bit:Cal P w K mg base 1 "has_bit" ["bits","place"] q5I):VMeth P w K mg base 5 (dcls cs .take) "fits" ["self","cellar","stand"] (q3j cs .take):=by
 obtain⟨t1,e_ROOM⟩:=T.e_ROOM
 obtain⟨t2,e_PAIR_ROOM⟩:=T.e_PAIR_ROOM
 obtain⟨t3,e_TAKEN⟩:=T.e_TAKEN
 refine LaidM.vm (k:=4) L D.cl q52 (fun vs H Q E h=>?_) (fun f cdv A outer s H vs Q E hr h=>?_)
 ·obtain ⟨p,c,q,C,st,i,rfl,_⟩:=h
  rfl
 ·obtain ⟨p,c,q,C,st,i,rfl,ho,hC,ok,hq,sok,hi,k⟩:=h
  obtain⟨dx,hp⟩:=ho.ex
  replace hq:H q=some (.tup [.int st.rm,.int st.tk,.int st.op,.int st.b,.int st.wt]):=hq
  refine⟨_,(qj (qu (q6y (qW q07 (qm (qk K) (pv 2) (qv (v:= .int 0) rfl e_ROOM ⟨_,rfl⟩) (fun _ _=>rfl)) (qm (qk K) (q3p (k:=1) (hr.mono (by decide)) (pv 0) (qa (pv 1) qe)) (qv (v:= .int 0) rfl e_PAIR_ROOM ⟨_,rfl⟩) (fun _ _=>rfl)) (qw _)) (q2X (pe_not (qB C_has_bit hr (by decide) rfl (qa (qm (qk K) (pv 2) (qv (v:= .int 1) rfl e_TAKEN ⟨_,rfl⟩) (fun _ _=>rfl)) (qa (q0q K (pv 0) rfl) qe)))))))),?_⟩
  walk_at "r"
  refine r_vm hp vo (q2Z _ _) ?_
  walk_at "r"
  refine⟨p,c,C,i,rfl,ho,hC,hi,fun r hrow=>?_⟩
  obtain⟨x,hx,hP⟩:=hrow
  have ecan:canB C st i .take=(decide (st.rm=x.1)&& !bit st.tk i):=by simp[canB,hx]
  replace hP:H r=some (.tup [.int x.1,.int x.2]):=hP
  have k':=k H (Same.refl _)
  rw[ecan] at k'
  walk_at "r"
  refine ifd (fun h1=>?_) (fun h1=>?_)
  ·rw [decide_eq_true h1,Bool.true_and] at k'
   walk_at "r"
   refine q1d hp D.cl D.nn (q0i _ _) ?_
   walk_at "r"
   refine⟨st.tk,i,rfl,by omega,?_⟩
   rw[Int.toNat_natCast]
   walk_at "r"
   exact k'
  ·rw [decide_eq_false h1,Bool.false_and] at k'
   exact k'
theorem q4G (T:Txt mg cs)(D:DCl K cs .turn)(L:LaidM K cs.Turn "fits" "Turn.fits" q1u ["self","cellar","stand"])(vo:VMeth P w K mg base 1 (dcls cs .turn) "own_part" ["self","cellar"] (q3K cs .turn)):VMeth P w K mg base 5 (dcls cs .turn) "fits" ["self","cellar","stand"] (q3j cs .turn):=by
 obtain⟨t1,e_ROOM⟩:=T.e_ROOM
 obtain⟨t2,e_PAIR_ROOM⟩:=T.e_PAIR_ROOM
 obtain⟨t3,e_WATER⟩:=T.e_WATER
 obtain⟨t4,e_PAIR_NUMBER⟩:=T.e_PAIR_NUMBER
 refine LaidM.vm (k:=4) L D.cl q2V (fun vs H Q E h=>?_) (fun f cdv A outer s H vs Q E hr h=>?_)
 ·obtain ⟨p,c,q,C,st,i,rfl,_⟩:=h
  rfl
 ·obtain ⟨p,c,q,C,st,i,rfl,ho,hC,ok,hq,sok,hi,k⟩:=h
  obtain⟨dx,hp⟩:=ho.ex
  replace hq:H q=some (.tup [.int st.rm,.int st.tk,.int st.op,.int st.b,.int st.wt]):=hq
  refine⟨_,(qd (qy (i:=3) q2V.nd rfl (Or.inl rfl) (q3p (k:=1) (hr.mono (by decide)) (pv 0) (qa (pv 1) qe)))
   (qj (qu (q6y (qW q07 (qm (qk K) (pv 2) (qv (v:= .int 0) rfl e_ROOM ⟨_,rfl⟩) (fun _ _=>rfl)) (qm (qk K) (pv 3) (qv (v:= .int 0) rfl e_PAIR_ROOM ⟨_,rfl⟩) (fun _ _=>rfl)) (qw _)) (q2X (qW q8b (qm (qk K) (pv 2) (qv (v:= .int 4) rfl e_WATER ⟨_,rfl⟩) (fun _ _=>rfl)) (qm (qk K) (pv 3) (qv (v:= .int 1) rfl e_PAIR_NUMBER ⟨_,rfl⟩) (fun _ _=>rfl)) (qw _))))))),?_⟩
  walk_at "r"
  refine r_vm hp vo (q2Z _ _) ?_
  walk_at "r"
  refine⟨p,c,C,i,rfl,ho,hC,hi,fun r hrow=>?_⟩
  obtain⟨x,hx,hP⟩:=hrow
  have ecan:canB C st i .turn=(decide (st.rm=x.1)&& !decide (st.wt=x.2)):=by simp[canB,hx]
  replace hP:H r=some (.tup [.int x.1,.int x.2]):=hP
  have k':=k H (Same.refl _)
  rw[ecan] at k'
  walk_at "r"
  refine ifd (fun h1=>?_) (fun h1=>?_)
  ·rw [decide_eq_true h1,Bool.true_and] at k'
   walk_at "r"
   exact k'
  ·rw [decide_eq_false h1,Bool.false_and] at k'
   exact k'
theorem q3H (T:Txt mg cs)(D:DCl K cs .unlock)(L:LaidM K cs.Unlock "fits" "Unlock.fits" q0N ["self","cellar","stand"])(vo:VMeth P w K mg base 1 (dcls cs .unlock) "own_part" ["self","cellar"] (q3K cs .unlock))(C_can_enter:Cal P w K mg base 1 "can_enter" ["way","room"] q48)(C_has_bit:Cal P w K mg base 1 "has_bit" ["bits","place"] q5I)
  (C_held:Cal P w K mg base 2 "held" ["cellar","stand"] q6j):VMeth P w K mg base 5 (dcls cs .unlock) "fits" ["self","cellar","stand"] (q3j cs .unlock):=by
 obtain⟨t1,e_ROOM⟩:=T.e_ROOM
 obtain⟨t2,e_OPENED⟩:=T.e_OPENED
 obtain⟨t3,e_WAY_GATE⟩:=T.e_WAY_GATE
 refine LaidM.vm (k:=4) L D.cl q18 (fun vs H Q E h=>?_) (fun f cdv A outer s H vs Q E hr h=>?_)
 ·obtain ⟨p,c,q,C,st,i,rfl,_⟩:=h
  rfl
 ·obtain ⟨p,c,q,C,st,i,rfl,ho,hC,ok,hq,sok,hi,k⟩:=h
  obtain⟨dx,hp⟩:=ho.ex
  replace hq:H q=some (.tup [.int st.rm,.int st.tk,.int st.op,.int st.b,.int st.wt]):=hq
  refine⟨_,(qd (qy (i:=3) q18.nd rfl (Or.inl rfl) (q3p (k:=1) (hr.mono (by decide)) (pv 0) (qa (pv 1) qe)))
   (qd (qy (i:=4) q18.nd rfl (Or.inl rfl) (qm (qk K) (pv 3) (qv (v:= .int 2) rfl e_WAY_GATE ⟨_,rfl⟩) (fun _ _=>rfl)))
   (qd (q03 (PW.pt (q5f (qz q8b (qm (qk K) (pv 4) qc (fun _ _=>rfl)) qK (qw _)) (q5f (q2W (q0J (qB C_can_enter hr (by decide) rfl (qa (pv 3) (qa (qm (qk K) (pv 2) (qv (v:= .int 0) rfl e_ROOM ⟨_,rfl⟩) (fun _ _=>rfl)) qe))))) (q3T (q0J (qB C_has_bit hr (by decide) rfl (qa (qm (qk K) (pv 2) (qv (v:= .int 2) rfl e_OPENED ⟨_,rfl⟩) (fun _ _=>rfl)) (qa (q0q K (pv 0) rfl) qe)))))))) (qj (qu q2B)) qD)
   (qj (qu (qW q34 (qm (q0n K) (qB C_held hr (by decide) rfl (qa (pv 1) (qa (pv 2) qe))) (qm (qk K) (pv 4) qc (fun _ _=>rfl)) (fun _ _=>rfl)) qc (qw _))))))),?_⟩
  walk_at "r"
  refine r_vm hp vo (q2Z _ _) ?_
  walk_at "r"
  refine⟨p,c,C,i,rfl,ho,hC,hi,fun r hrow=>?_⟩
  obtain⟨x,hx,hW⟩:=hrow
  have xok:=ok.w x (List.mem_of_getElem? hx)
  obtain⟨g,hr1,hg⟩:=id hW
  have hg':=hg
  rw[Gt.vs_eq] at hg'
  walk_at "r"
  refine ifn (fun hn=>?_) (fun hn=>?_)
  ·walk_at "r"
   have hdk:x.g.dk=none:=by
    have:=q4B x.g
    rw[decide_eq_false hn] at this
    cases e:x.g.dk with
    |none=>rfl
    |some k=>rw[e] at this;cases this
   have:=k H (Same.refl _)
   rw[show canB C st i .unlock=false by simp[canB,hx,hdk]] at this
   exact this
  obtain⟨kd,ekd⟩:=q8M hn
  have hk:0<=kd/\kd<12:=by have:=xok.2.2.2;rw[ekd] at this;exact this
  have edk:x.g.dk=some kd:=by rw[ekd];rfl
  have ecan:canB C st i .unlock=((q0E x st.rm&& !bit st.op i)&&decide (0<hold C st.tk st.op kd)):=by simp[canB,hx,edk]
  have hg2:H g=some (.tup [.str "door",.int kd]):=by rw[ekd] at hg;exact hg
  walk_at "r"
  refine⟨r,x,st.rm,rfl,hW,?_⟩
  walk_at "r"
  cases he:q0E x st.rm with
  |false=>
   walk_at "r"
   have:=k H (Same.refl _)
   rw[ecan,he] at this
   exact this
  |true=>
   walk_at "r"
   refine q1d hp D.cl D.nn (q0i _ _) ?_
   walk_at "r"
   refine⟨st.op,i,rfl,by omega,?_⟩
   rw[Int.toNat_natCast]
   walk_at "r"
   cases hb:bit st.op i with
   |true=>
    walk_at "r"
    have:=k H (Same.refl _)
    rw[ecan,he,hb] at this
    exact this
   |false=>
    walk_at "r"
    refine⟨c,q,C,st.rm,st.tk,st.op,st.b,st.wt,rfl,hC,ok,hq,sok.dr,fun hl H2 s2 hl0 hl2=>?_⟩
    have hg3:=s2 _ _ hg2
    walk_at "r"
    refine q4f (SqL.of hl2) (q91 hk.1 hk.2) ?_
    walk_at "r"
    have:=k H2 s2
    rw[ecan,he,hb] at this
    exact this
theorem q6S (T:Txt mg cs)(D:DCl K cs .go)(L:LaidM K cs.Go "done" "Go.done" q2y ["self","cellar","stand"])(vo:VMeth P w K mg base 1 (dcls cs .go) "own_part" ["self","cellar"] (q3K cs .go))(C_changed:Cal P w K mg base 1 "changed" ["parts","place","part"] q5H):VMeth P w K mg base 2 (dcls cs .go) "done" ["self","cellar","stand"] (q3k cs .go):=by
 obtain⟨t1,e_ROOM⟩:=T.e_ROOM
 obtain⟨t2,e_WAY_A⟩:=T.e_WAY_A
 obtain⟨t3,e_WAY_B⟩:=T.e_WAY_B
 refine LaidM.vm (k:=1) L D.cl q2M (fun vs H Q E h=>?_) (fun f cdv A outer s H vs Q E hr h=>?_)
 ·obtain ⟨p,c,q,C,st,n,rfl,_⟩:=h
  rfl
 ·obtain ⟨p,c,q,C,st,n,rfl,ho,hC,ok,hq,sok,hcan,k⟩:=h
  obtain⟨hl,i,rfl,hi,hcb⟩:=q0I hcan
  obtain⟨dx,hp⟩:=ho.ex
  have hq':H q=some (.tup [.int st.rm,.int st.tk,.int st.op,.int st.b,.int st.wt]):=hq
  refine⟨_,(qd (qy (i:=3) q2M.nd rfl (Or.inl rfl) (q3p (k:=1) (hr.mono (by decide)) (pv 0) (qa (pv 1) qe)))
   (qd (qy (i:=4) q2M.nd rfl (Or.inl rfl) (q4i (qz q07 (qm (qk K) (pv 2) (qv (v:= .int 0) rfl e_ROOM ⟨_,rfl⟩) (fun _ _=>rfl)) (qm (qk K) (pv 3) (qv (v:= .int 0) rfl e_WAY_A ⟨_,rfl⟩) (fun _ _=>rfl)) (qw _)) (qm (qk K) (pv 3) (qv (v:= .int 1) rfl e_WAY_B ⟨_,rfl⟩) (fun _ _=>rfl)) (qm (qk K) (pv 3) (qv (v:= .int 0) rfl e_WAY_A ⟨_,rfl⟩) (fun _ _=>rfl))))
   (qj (qu (qB C_changed hr (by decide) rfl (qa (pv 2) (qa (qv (v:= .int 0) rfl e_ROOM ⟨_,rfl⟩) (qa (pv 4) qe)))))))),?_⟩
  walk_at "r"
  refine r_vm hp vo (q2Z _ _) ?_
  walk_at "r"
  refine⟨p,c,C,i,rfl,ho,hC,hi,fun r hrow=>?_⟩
  obtain⟨x,hx,hW⟩:=hrow
  obtain⟨g,hr1,hg⟩:=id hW
  have edone:q00 C st .go (i:Int)={st with rm:=if st.rm=x.a then x.b else x.a}:=by
   show q0P C st ((i:Int)).toNat .go=_
   rw[Int.toNat_natCast];simp[q0P,hx]
  rw[edone] at k
  walk_at "r"
  refine ifd (fun h1=>?_) (fun h1=>?_)
  ·rw [if_pos h1] at k
   walk_at "r"
   exact⟨q,st,0,_,rfl,by decide,hq,fun r H' s' hr'=>k r H' s' hr'⟩
  ·rw [if_neg h1] at k
   walk_at "r"
   exact⟨q,st,0,_,rfl,by decide,hq,fun r H' s' hr'=>k r H' s' hr'⟩
theorem q4L (T:Txt mg cs)(D:DCl K cs .pull)(L:LaidM K cs.Pull "done" "Pull.done" q1C ["self","cellar","stand"])(vo:VMeth P w K mg base 1 (dcls cs .pull) "own_part" ["self","cellar"] (q3K cs .pull))(C_changed:Cal P w K mg base 1 "changed" ["parts","place","part"] q5H):VMeth P w K mg base 2 (dcls cs .pull) "done" ["self","cellar","stand"] (q3k cs .pull):=by
 obtain⟨t1,e_BARS⟩:=T.e_BARS
 obtain⟨t2,e_PAIR_NUMBER⟩:=T.e_PAIR_NUMBER
 refine LaidM.vm (k:=1) L D.cl q57 (fun vs H Q E h=>?_) (fun f cdv A outer s H vs Q E hr h=>?_)
 ·obtain ⟨p,c,q,C,st,n,rfl,_⟩:=h
  rfl
 ·obtain ⟨p,c,q,C,st,n,rfl,ho,hC,ok,hq,sok,hcan,k⟩:=h
  obtain⟨hl,i,rfl,hi,hcb⟩:=q0I hcan
  obtain⟨dx,hp⟩:=ho.ex
  have hq':H q=some (.tup [.int st.rm,.int st.tk,.int st.op,.int st.b,.int st.wt]):=hq
  refine⟨_,(qj (qu (qB C_changed hr (by decide) rfl (qa (pv 2) (qa (qv (v:= .int 3) rfl e_BARS ⟨_,rfl⟩) (qa (qq qaH (qm (qk K) (pv 2) (qv (v:= .int 3) rfl e_BARS ⟨_,rfl⟩) (fun _ _=>rfl)) (qm (qk K) (q3p (k:=1) (hr.mono (by decide)) (pv 0) (qa (pv 1) qe)) (qv (v:= .int 1) rfl e_PAIR_NUMBER ⟨_,rfl⟩) (fun _ _=>rfl))) qe)))))),?_⟩
  walk_at "r"
  refine r_vm hp vo (q2Z _ _) ?_
  walk_at "r"
  refine⟨p,c,C,i,rfl,ho,hC,hi,fun r hrow=>?_⟩
  obtain⟨x,hx,hP⟩:=hrow
  replace hP:H r=some (.tup [.int x.1,.int x.2]):=hP
  have edone:q00 C st .pull (i:Int)={st with b:=Builtin.bitXor st.b x.2}:=by
   show q0P C st ((i:Int)).toNat .pull=_
   rw[Int.toNat_natCast];simp[q0P,hx]
  rw[edone] at k
  walk_at "r"
  exact⟨q,st,3,_,rfl,by decide,hq,fun r H' s' hr'=>k r H' s' hr'⟩
theorem q4K (T:Txt mg cs)(D:DCl K cs .take)(L:LaidM K cs.Take "done" "Take.done" q1y ["self","cellar","stand"])(C_changed:Cal P w K mg base 1 "changed" ["parts","place","part"] q5H):VMeth P w K mg base 2 (dcls cs .take) "done" ["self","cellar","stand"] (q3k cs .take):=by
 obtain⟨t1,e_TAKEN⟩:=T.e_TAKEN
 refine LaidM.vm (k:=1) L D.cl q53 (fun vs H Q E h=>?_) (fun f cdv A outer s H vs Q E hr h=>?_)
 ·obtain ⟨p,c,q,C,st,n,rfl,_⟩:=h
  rfl
 ·obtain ⟨p,c,q,C,st,n,rfl,ho,hC,ok,hq,sok,hcan,k⟩:=h
  obtain⟨hl,i,rfl,hi,hcb⟩:=q0I hcan
  obtain⟨dx,hp⟩:=ho.ex
  have hq':H q=some (.tup [.int st.rm,.int st.tk,.int st.op,.int st.b,.int st.wt]):=hq
  have hi8:(i:Int)<8:=by have h2:i<C.things.length:=hi;have:=ok.tl;omega
  have hb:bit st.tk i=false:=by
   have h2:i<C.things.length:=hi
   simp only[canB,yB h2,Bool.and_eq_true,Bool.not_eq_true'] at hcb
   exact hcb.2
  have edone:q00 C st .take (i:Int)={st with tk:=st.tk+2 ^ i}:=by
   show q0P C st ((i:Int)).toNat .take=_
   rw[Int.toNat_natCast];rfl
  rw[edone] at k
  refine⟨_,(qj (qu (qB C_changed hr (by decide) rfl (qa (pv 2) (qa (qv (v:= .int 1) rfl e_TAKEN ⟨_,rfl⟩) (qa (qq qbD (qm (qk K) (pv 2) (qv (v:= .int 1) rfl e_TAKEN ⟨_,rfl⟩) (fun _ _=>rfl)) (qq q6z qc (q0q K (pv 0) rfl))) qe)))))),?_⟩
  walk_at "r"
  refine q1d hp D.cl D.nn (q0i _ _) ?_
  walk_at "r"
  rw[Int.toNat_natCast,Int.one_mul,q67 hb]
  exact⟨q,st,1,_,rfl,by decide,hq,fun r H' s' hr'=>k r H' s' hr'⟩
theorem q4J (T:Txt mg cs)(D:DCl K cs .turn)(L:LaidM K cs.Turn "done" "Turn.done" q1v ["self","cellar","stand"])(vo:VMeth P w K mg base 1 (dcls cs .turn) "own_part" ["self","cellar"] (q3K cs .turn))(C_changed:Cal P w K mg base 1 "changed" ["parts","place","part"] q5H):VMeth P w K mg base 2 (dcls cs .turn) "done" ["self","cellar","stand"] (q3k cs .turn):=by
 obtain⟨t1,e_WATER⟩:=T.e_WATER
 obtain⟨t2,e_PAIR_NUMBER⟩:=T.e_PAIR_NUMBER
 refine LaidM.vm (k:=1) L D.cl q50 (fun vs H Q E h=>?_) (fun f cdv A outer s H vs Q E hr h=>?_)
 ·obtain ⟨p,c,q,C,st,n,rfl,_⟩:=h
  rfl
 ·obtain ⟨p,c,q,C,st,n,rfl,ho,hC,ok,hq,sok,hcan,k⟩:=h
  obtain⟨hl,i,rfl,hi,hcb⟩:=q0I hcan
  obtain⟨dx,hp⟩:=ho.ex
  refine⟨_,(qj (qu (qB C_changed hr (by decide) rfl (qa (pv 2) (qa (qv (v:= .int 4) rfl e_WATER ⟨_,rfl⟩) (qa (qm (qk K) (q3p (k:=1) (hr.mono (by decide)) (pv 0) (qa (pv 1) qe)) (qv (v:= .int 1) rfl e_PAIR_NUMBER ⟨_,rfl⟩) (fun _ _=>rfl)) qe)))))),?_⟩
  walk_at "r"
  refine r_vm hp vo (q2Z _ _) ?_
  walk_at "r"
  refine⟨p,c,C,i,rfl,ho,hC,hi,fun r hrow=>?_⟩
  obtain⟨x,hx,hP⟩:=hrow
  replace hP:H r=some (.tup [.int x.1,.int x.2]):=hP
  have edone:q00 C st .turn (i:Int)={st with wt:=x.2}:=by
   show q0P C st ((i:Int)).toNat .turn=_
   rw[Int.toNat_natCast];simp[q0P,hx]
  rw[edone] at k
  walk_at "r"
  exact⟨q,st,4,_,rfl,by decide,hq,fun r H' s' hr'=>k r H' s' hr'⟩
theorem q3I (T:Txt mg cs)(D:DCl K cs .unlock)(L:LaidM K cs.Unlock "done" "Unlock.done" q0O ["self","cellar","stand"])(C_changed:Cal P w K mg base 1 "changed" ["parts","place","part"] q5H):VMeth P w K mg base 2 (dcls cs .unlock) "done" ["self","cellar","stand"] (q3k cs .unlock):=by
 obtain⟨t1,e_OPENED⟩:=T.e_OPENED
 refine LaidM.vm (k:=1) L D.cl q3M (fun vs H Q E h=>?_) (fun f cdv A outer s H vs Q E hr h=>?_)
 ·obtain ⟨p,c,q,C,st,n,rfl,_⟩:=h
  rfl
 ·obtain ⟨p,c,q,C,st,n,rfl,ho,hC,ok,hq,sok,hcan,k⟩:=h
  obtain⟨hl,i,rfl,hi,hcb⟩:=q0I hcan
  obtain⟨dx,hp⟩:=ho.ex
  have hq':H q=some (.tup [.int st.rm,.int st.tk,.int st.op,.int st.b,.int st.wt]):=hq
  have hi20:(i:Int)<20:=by have h2:i<C.ways.length:=hi;have:=ok.wl;omega
  have hb:bit st.op i=false:=by
   have h2:i<C.ways.length:=hi
   cases hk:C.ways[i].g.dk with
   |none=>simp[canB,h2,hk] at hcb
   |some kd=>
    simp only[canB,yB h2,hk,Bool.and_eq_true,Bool.not_eq_true'] at hcb
    exact hcb.1.2
  have edone:q00 C st .unlock (i:Int)={st with op:=st.op+2 ^ i}:=by
   show q0P C st ((i:Int)).toNat .unlock=_
   rw[Int.toNat_natCast];rfl
  rw[edone] at k
  refine⟨_,(qj (qu (qB C_changed hr (by decide) rfl (qa (pv 2) (qa (qv (v:= .int 2) rfl e_OPENED ⟨_,rfl⟩) (qa (qq qbD (qm (qk K) (pv 2) (qv (v:= .int 2) rfl e_OPENED ⟨_,rfl⟩) (fun _ _=>rfl)) (qq q6z qc (q0q K (pv 0) rfl))) qe)))))),?_⟩
  walk_at "r"
  refine q1d hp D.cl D.nn (q0i _ _) ?_
  walk_at "r"
  rw[Int.toNat_natCast,Int.one_mul,q67 hb]
  exact⟨q,st,2,_,rfl,by decide,hq,fun r H' s' hr'=>k r H' s' hr'⟩
def DAt (cs:Cs)(H:Hp)(p:Addr)(x:Wd×Nat):Prop:=DObj cs H p x.1 ((x.2:Nat):Int)
def TAt (H:Hp)(p:Addr)(x:Wd×Nat):Prop:=H p=some (.tup [.str x.1.str,.int ((x.2:Nat):Int)])
theorem DAt.mono {cs:Cs}{H H':Hp}(s:Same H H'){p:Addr}{x:Wd×Nat}(h:DAt cs H p x):DAt cs H' p x:=DObj.mono s h
theorem TAt.mono {H H':Hp}(s:q0f H H'){p:Addr}{x:Wd×Nat}(h:TAt H p x):TAt H' p x:=s _ _ h
theorem DAt.put {cs:Cs}{H:Hp}{D:Addr}{xs:List V}{o:HO}(hD:H D=some (.lst xs)){p:Addr}{x:Wd×Nat}(h:DAt cs H p x):DAt cs (upd H D o) p x:=by
 obtain⟨dx,hp⟩:=h.ex
 exact⟨dx,by rw[ql (q2o hp hD (by intro z;cases z))];exact hp⟩
theorem qP {α:Type}{At:Hp->Addr->α->Prop}{H:Hp}{D x:Addr}{ps:List Addr}{xs:List α}{y:α}(mo:∀q z,At H q z->At (upd H D (.lst (ps.map V.ref++[.ref x]))) q z)(hr:Rows At H ps xs)(hx:At H x y):qJ At (upd H D (.lst (ps.map V.ref++[.ref x]))) D (xs++[y]):=
 ⟨ps++[x],by rw[qg,List.map_append];rfl,(hr.mono mo).snoc (mo _ _ hx)⟩
theorem q3c {α:Type}{At:Hp->Addr->α->Prop}{H:Hp}{ps qs:List Addr}{xs ys:List α}(a:Rows At H ps xs)(b:Rows At H qs ys):Rows At H (ps++qs) (xs++ys):=by
 refine⟨by rw[List.length_append,List.length_append,a.1,b.1],fun i p x h1 h2=>?_⟩
 by_cases hi:i<ps.length
 ·rw [List.getElem?_append_left hi] at h1
  rw[List.getElem?_append_left (by rw[<-a.1];exact hi)] at h2
  exact a.2 i p x h1 h2
 ·rw [List.getElem?_append_right (by omega)] at h1
  rw[List.getElem?_append_right (by rw[<-a.1];omega),<-a.1] at h2
  exact b.2 _ p x h1 h2
def q7D (cs:Cs):Sp:=fun vs H Q _=>∃(c:Addr) (C:Cl),vs=[.ref c]/\ClAt H c C/\ClOk C/\∀(l:Addr) (H':Hp),Same H H'->H l=none->qJ (DAt cs) H' l (rowD .go C.ways.length)->Q (.ref l) H'
def q7H (cs:Cs):Sp:=fun vs H Q _=>∃(c:Addr) (C:Cl),vs=[.ref c]/\ClAt H c C/\ClOk C/\∀(l:Addr) (H':Hp),Same H H'->H l=none->qJ (DAt cs) H' l (allD C)->Q (.ref l) H'
def q7F (cs:Cs):Sp:=fun vs H Q _=>∃(c q:Addr) (C:Cl) (s:Sd),vs=[.ref c,.ref q]/\ClAt H c C/\ClOk C/\H q=some (.tup s.vs)/\s.ok C/\∀(l:Addr) (H':Hp),Same H H'->H l=none->qJ (DAt cs) H' l (fitD C s)->Q (.ref l) H'
theorem q2z {H0 H':Hp}{D:Addr}{d:Wd}{i:Nat}{v:Option V}{ps:List Addr}{x dx:Addr}(hD:H0 D=none)(s2:Same H0 H')(hi:i<100)(hps:H' D=some (.lst (ps.map V.ref)))(hrw:Rows (DAt cs) H' ps (rowD d i))(hx:H' x=none)(hdx:H' dx=none)(ne:dx≠x):
  q1R cs d (.ref x::([.int (0+((i:Nat):Int))]++[])) (upd (upd H' dx (.own x)) x (.ins (dcls cs d) dx [])) (fun w H2=>w= .non/\∃ys,H2 D=some (.lst ys)/\ys.length<sizeLine/\∃v0,([v]:St)=[v0]/\Same H0 (upd H2 D (.lst (ys++[.ref x])))/\qJ (DAt cs) (upd H2 D (.lst (ys++[.ref x]))) D (rowD d (i+1))) E0:=by
 have big:=qC
 rw[Int.zero_add]
 refine q8l (Q:=fun y H2=>∃ys,H2 D=some (.lst ys)/\ys.length<sizeLine/\∃v0,([v]:St)=[v0]/\Same H0 (upd H2 D (.lst (ys++[y])))/\qJ (DAt cs) (upd H2 D (.lst (ys++[y]))) D (rowD d (i+1))) hx hdx ne fun x H3 s3 hx0 hob=>?_
 have hp3:=s3 _ _ hps
 refine⟨_,hp3,by rw[yC,hrw.1,qX];omega,_,rfl,(s2.trans s3).put hD,?_⟩
 rw[q1V]
 exact qP (fun _ _=>DAt.put hp3) (hrw.mono fun _ _=>DAt.mono s3) hob
theorem qbJ (T:Txt mg cs)(L:Laid K mg "all_goes" q1c ["cellar"])(C_Go:Makes P w K mg base 2 "Go" cs.Go ["self","number"] (q1R cs .go)):Cal P w K mg base 4 "all_goes" ["cellar"] (q7D cs):=by
 obtain⟨t1,e_WAYS⟩:=T.e_WAYS
 refine L.cal (k:=3) q5L (fun vs H Q E h=>?_) (fun f cdv A outer s H vs Q E hr h=>?_)
 ·obtain ⟨c,C,rfl,_⟩:=h
  rfl
 ·obtain ⟨c,C,rfl,hC,ok,k⟩:=h
  obtain⟨pw,pt,pl,pv',h0,hw,ht,hl,hv⟩:=hC.ex
  obtain⟨wv,hwv,hwl,hwg⟩:=hw.get
  have okw:=ok.wl
  have hwl2:(wv.length:Int)<=20:=by omega
  refine⟨_,(qj (qu (q2n (q0y (N:=["number"]) (own:=1) (caps:=[]) ["cellar"] (qh q1c) (by walk_at "k")) rfl (qT rfl T.n_range (qa (qI (lenK K) rfl T.n_len q0p (qa (qm (qk K) (pv 0) (qv (v:= .int 3) rfl e_WAYS ⟨_,rfl⟩) (fun _ _=>rfl)) qe)) qe)) (fun _ _ _ _=>(qr (i:=0) (show List.Nodup (["number"]:List Str) by walk_at "k") rfl (Or.inl rfl))) (fun _ _ _ _=>q1N) (fun _ _ _ _=>(q2e C_Go hr (by decide) rfl (qa (pv 0) qe)))))),?_⟩
  walk_at "r"
  intro D hD
  refine q15 (fun i σ H'=>∃v0,σ=[v0]/\Same H H'/\qJ (DAt cs) H' D (rowD .go i)) ⟨none,rfl,Same.upd hD,⟨[],qg,Rows.nil⟩⟩ ?_ ?_
  ·rintro i σ H' hi ⟨v0,rfl,s2,ps,hps,hrw⟩
   walk_at "r"
   exact fun x dx hx hdx ne => q2z hD s2 (by have:i<wv.length:=by simpa using hi
                                             omega) hps hrw hx hdx ne
  ·rintro σ H' ⟨v0,rfl,s2,hlst⟩
   rw[Int.toNat_natCast,hwl] at hlst
   exact k D H' s2 hD hlst
theorem qbN (T:Txt mg cs)(L:Laid K mg "all_deeds" q0k ["cellar"])(C_all_goes:Cal P w K mg base 4 "all_goes" ["cellar"] (q7D cs))(C_Pull:Makes P w K mg base 2 "Pull" cs.Pull ["self","number"] (q1R cs .pull))(C_Take:Makes P w K mg base 2 "Take" cs.Take ["self","number"] (q1R cs .take))
  (C_Turn:Makes P w K mg base 2 "Turn" cs.Turn ["self","number"] (q1R cs .turn))(C_Unlock:Makes P w K mg base 2 "Unlock" cs.Unlock ["self","number"] (q1R cs .unlock)):Cal P w K mg base 5 "all_deeds" ["cellar"] (q7H cs):=by
 obtain⟨t1,e_WAYS⟩:=T.e_WAYS
 obtain⟨t2,e_LEVERS⟩:=T.e_LEVERS
 obtain⟨t3,e_THINGS⟩:=T.e_THINGS
 obtain⟨t4,e_WHEELS⟩:=T.e_WHEELS
 refine L.cal (k:=4) q0B (fun vs H Q E h=>?_) (fun f cdv A outer s H vs Q E hr h=>?_)
 ·obtain ⟨c,C,rfl,_⟩:=h
  rfl
 ·obtain ⟨c,C,rfl,hC,ok,k⟩:=h
  have big:=qC
  obtain⟨pw,pt,pl,pv',h0,hw,ht,hl,hv⟩:=hC.ex
  obtain⟨wv,hwv,hwl,hwg⟩:=hw.get
  obtain⟨tv,htv,htl,htg⟩:=ht.get
  obtain⟨lv,hlv,hll,hlg⟩:=hl.get
  obtain⟨vv,hvv,hvl,hvg⟩:=hv.get
  have okw:=ok.wl
  have okt:=ok.tl
  have okl:=ok.ll
  have okv:=ok.vl
  have hwl2:(wv.length:Int)<=20:=by omega
  have htl2:(tv.length:Int)<=8:=by omega
  have hll2:(lv.length:Int)<=4:=by omega
  have hvl2:(vv.length:Int)<=4:=by omega
  refine⟨_,(qd (q0U (i:=1) q0B.nd rfl rfl (q0y (N:=["number"]) (own:=1) (caps:=[]) ["cellar","pulls","takes","turns","unlocks"] (qh q0k) (by walk_at "k")) rfl (qT rfl T.n_range (qa (qI (lenK K) rfl T.n_len q0p (qa (qm (qk K) (pv 0) (qv (v:= .int 5) rfl e_LEVERS ⟨_,rfl⟩) (fun _ _=>rfl)) qe)) qe)) (fun _ _ _ _=>(qr (i:=0) (show List.Nodup (["number"]:List Str) by walk_at "k") rfl (Or.inl rfl))) (fun _ _ _ _=>q1N) (fun _ _ _ _=>(q2e C_Pull hr (by decide) rfl (qa (pv 0) qe))))
   (qd (q0U (i:=2) q0B.nd rfl rfl (q0y (N:=["number"]) (own:=1) (caps:=[]) ["cellar","pulls","takes","turns","unlocks"] (qh q0k) (by walk_at "k")) rfl (qT rfl T.n_range (qa (qI (lenK K) rfl T.n_len q0p (qa (qm (qk K) (pv 0) (qv (v:= .int 4) rfl e_THINGS ⟨_,rfl⟩) (fun _ _=>rfl)) qe)) qe)) (fun _ _ _ _=>(qr (i:=0) (show List.Nodup (["number"]:List Str) by walk_at "k") rfl (Or.inl rfl))) (fun _ _ _ _=>q1N) (fun _ _ _ _=>(q2e C_Take hr (by decide) rfl (qa (pv 0) qe))))
   (qd (q0U (i:=3) q0B.nd rfl rfl (q0y (N:=["number"]) (own:=1) (caps:=[]) ["cellar","pulls","takes","turns","unlocks"] (qh q0k) (by walk_at "k")) rfl (qT rfl T.n_range (qa (qI (lenK K) rfl T.n_len q0p (qa (qm (qk K) (pv 0) (qv (v:= .int 6) rfl e_WHEELS ⟨_,rfl⟩) (fun _ _=>rfl)) qe)) qe)) (fun _ _ _ _=>(qr (i:=0) (show List.Nodup (["number"]:List Str) by walk_at "k") rfl (Or.inl rfl))) (fun _ _ _ _=>q1N) (fun _ _ _ _=>(q2e C_Turn hr (by decide) rfl (qa (pv 0) qe))))
   (qd (q0U (i:=4) q0B.nd rfl rfl (q0y (N:=["number"]) (own:=1) (caps:=[]) ["cellar","pulls","takes","turns","unlocks"] (qh q0k) (by walk_at "k")) rfl (qT rfl T.n_range (qa (qI (lenK K) rfl T.n_len q0p (qa (qm (qk K) (pv 0) (qv (v:= .int 3) rfl e_WAYS ⟨_,rfl⟩) (fun _ _=>rfl)) qe)) qe)) (fun _ _ _ _=>(qr (i:=0) (show List.Nodup (["number"]:List Str) by walk_at "k") rfl (Or.inl rfl))) (fun _ _ _ _=>q1N) (fun _ _ _ _=>(q2e C_Unlock hr (by decide) rfl (qa (pv 0) qe))))
   (qj (qu (qq q2D (qq q2D (qq q2D (qq q2D (qB C_all_goes hr (by decide) rfl (qa (pv 0) qe)) (pv 1)) (pv 2)) (pv 3)) (pv 4)))))))),?_⟩
  walk_at "r"
  intro D1 hD1
  refine q15 (fun i σ H'=>∃v0,σ=[v0]/\Same H H'/\qJ (DAt cs) H' D1 (rowD .pull i)) ⟨none,rfl,Same.upd hD1,⟨[],qg,Rows.nil⟩⟩ ?_ ?_
  ·rintro i σ H' hi ⟨v0,rfl,s2,ps,hps,hrw⟩
   walk_at "r"
   exact fun x dx hx hdx ne => q2z hD1 s2 (by have:i<lv.length:=by simpa using hi
                                              omega) hps hrw hx hdx ne
  rintro σ H1 ⟨v0,rfl,s1,m1⟩
  rw[Int.toNat_natCast,hll] at m1
  have h01:=s1 _ _ h0
  have htv1:=s1 _ _ htv
  walk_at "r"
  intro D2 hD2
  refine q15 (fun i σ H'=>∃v0,σ=[v0]/\Same H1 H'/\qJ (DAt cs) H' D2 (rowD .take i)) ⟨none,rfl,Same.upd hD2,⟨[],qg,Rows.nil⟩⟩ ?_ ?_
  ·rintro i σ H' hi ⟨v0,rfl,s2,ps,hps,hrw⟩
   walk_at "r"
   exact fun x dx hx hdx ne => q2z hD2 s2 (by have:i<tv.length:=by simpa using hi
                                              omega) hps hrw hx hdx ne
  rintro σ H2 ⟨v0,rfl,s2,m2⟩
  rw[Int.toNat_natCast,htl] at m2
  have s02:=s1.trans s2
  have h02:=s02 _ _ h0
  have hvv2:=s02 _ _ hvv
  walk_at "r"
  intro D3 hD3
  refine q15 (fun i σ H'=>∃v0,σ=[v0]/\Same H2 H'/\qJ (DAt cs) H' D3 (rowD .turn i)) ⟨none,rfl,Same.upd hD3,⟨[],qg,Rows.nil⟩⟩ ?_ ?_
  ·rintro i σ H' hi ⟨v0,rfl,s2,ps,hps,hrw⟩
   walk_at "r"
   exact fun x dx hx hdx ne => q2z hD3 s2 (by have:i<vv.length:=by simpa using hi
                                              omega) hps hrw hx hdx ne
  rintro σ H3 ⟨v0,rfl,s3,m3⟩
  rw[Int.toNat_natCast,hvl] at m3
  have s03:=s02.trans s3
  have h03:=s03 _ _ h0
  have hwv3:=s03 _ _ hwv
  walk_at "r"
  intro D4 hD4
  refine q15 (fun i σ H'=>∃v0,σ=[v0]/\Same H3 H'/\qJ (DAt cs) H' D4 (rowD .unlock i)) ⟨none,rfl,Same.upd hD4,⟨[],qg,Rows.nil⟩⟩ ?_ ?_
  ·rintro i σ H' hi ⟨v0,rfl,s2,ps,hps,hrw⟩
   walk_at "r"
   exact fun x dx hx hdx ne => q2z hD4 s2 (by have:i<wv.length:=by simpa using hi
                                              omega) hps hrw hx hdx ne
  rintro σ H4 ⟨v0,rfl,s4,m4⟩
  rw[Int.toNat_natCast,hwl] at m4
  have s04:=s03.trans s4
  walk_at "r"
  refine⟨c,C,rfl,hC.mono s04.ts,ok,fun l5 H5 s5 hl5 m5=>?_⟩
  obtain⟨p1,e1,r1⟩:=m1
  obtain⟨p2,e2,r2⟩:=m2
  obtain⟨p3,e3,r3⟩:=m3
  obtain⟨p4,e4,r4⟩:=m4
  obtain⟨p5,e5,r5⟩:=m5
  have n1:=r1.1
  have n2:=r2.1
  have n3:=r3.1
  have n4:=r4.1
  have n5:=r5.1
  rw[qX] at n1 n2 n3 n4 n5
  have s45:=s4.trans s5
  have s35:=s3.trans s45
  have s25:=s2.trans s35
  walk_at "r"
  refine⟨l5,D1,_,_,rfl,rfl,e5,s25 _ _ e1,by simp;omega,fun l6 hl6=>?_⟩
  rw[<-List.map_append]
  have s6:=Same.upd (o:= .lst ((p5++p1).map V.ref)) hl6
  have e6:=qg (H:=H5) (a:=l6) (o:= .lst ((p5++p1).map V.ref))
  generalize upd H5 l6 (.lst ((p5++p1).map V.ref))=H6 at s6 e6 ⊢
  walk_at "r"
  refine⟨l6,D2,_,_,rfl,rfl,e6,s6 _ _ (s35 _ _ e2),by simp;omega,fun l7 hl7=>?_⟩
  rw[<-List.map_append]
  have s7:=Same.upd (o:= .lst ((p5++p1++p2).map V.ref)) hl7
  have e7:=qg (H:=H6) (a:=l7) (o:= .lst ((p5++p1++p2).map V.ref))
  generalize upd H6 l7 (.lst ((p5++p1++p2).map V.ref))=H7 at s7 e7 ⊢
  have s67:=s6.trans s7
  walk_at "r"
  refine⟨l7,D3,_,_,rfl,rfl,e7,s67 _ _ (s45 _ _ e3),by simp;omega,fun l8 hl8=>?_⟩
  rw[<-List.map_append]
  have s8:=Same.upd (o:= .lst ((p5++p1++p2++p3).map V.ref)) hl8
  have e8:=qg (H:=H7) (a:=l8) (o:= .lst ((p5++p1++p2++p3).map V.ref))
  generalize upd H7 l8 (.lst ((p5++p1++p2++p3).map V.ref))=H8 at s8 e8 ⊢
  have s68:=s67.trans s8
  walk_at "r"
  refine⟨l8,D4,_,_,rfl,rfl,e8,s68 _ _ (s5 _ _ e4),by simp;omega,fun l9 hl9=>?_⟩
  rw[<-List.map_append]
  have s9:=Same.upd (o:= .lst ((p5++p1++p2++p3++p4).map V.ref)) hl9
  have e9:=qg (H:=H8) (a:=l9) (o:= .lst ((p5++p1++p2++p3++p4).map V.ref))
  generalize upd H8 l9 (.lst ((p5++p1++p2++p3++p4).map V.ref))=H9 at s9 e9 ⊢
  have s69:=s68.trans s9
  have s09:=(s04.trans s5).trans s69
  refine k l9 H9 s09 ?_ ⟨_,e9,?_⟩
  ·exact (((s04.trans s5).trans s68).free hl9)
  ·exact q3c (q3c (q3c (q3c (r5.mono fun _ _=>DAt.mono s69) (r1.mono fun _ _=>DAt.mono (s25.trans s69))) (r2.mono fun _ _=>DAt.mono (s35.trans s69))) (r3.mono fun _ _=>DAt.mono (s45.trans s69))) (r4.mono fun _ _=>DAt.mono (s5.trans s69))
theorem qbK (T:Txt mg cs)(L:Laid K mg "fit_deeds" q0R ["cellar","stand"])(C_all_deeds:Cal P w K mg base 5 "all_deeds" ["cellar"] (q7H cs))(vc:∀d,VMeth P w K mg base 6 (dcls cs d) "can" ["self","cellar","stand"] (qbc cs d)):Cal P w K mg base 7 "fit_deeds" ["cellar","stand"] (q7F cs):=by
 refine L.cal (k:=6) q4T (fun vs H Q E h=>?_) (fun f cdv A outer s H vs Q E hr h=>?_)
 ·obtain ⟨c,q,C,st,rfl,_⟩:=h
  rfl
 ·obtain ⟨c,q,C,st,rfl,hC,ok,hq,sok,k⟩:=h
  have big:=qC
  have hal:=q6P ok
  refine⟨_,(qj (qu (q2n (q0y (N:=["deed","cellar","stand"]) (own:=1) (caps:=[0,1]) ["cellar","stand"] (qh q0R) (by walk_at "k")) rfl (q0c K (qB C_all_deeds hr (by decide) rfl (qa (pv 0) qe))) (fun _ _ _ _=>(qr (i:=0) (show List.Nodup (["deed","cellar","stand"]:List Str) by walk_at "k") rfl (Or.inl rfl))) (fun _ _ _ _=>(q3U (q0J (qaG (k:=6) P w K mg base hr (by decide) (pv 0) (qa (pv 1) (qa (pv 2) qe)))))) (fun _ _ _ _=>(pv 0))))),?_⟩
  walk_at "r"
  refine⟨c,C,rfl,hC,ok,fun l H1 s1 hl0 m1=>?_⟩
  obtain⟨ps,e1,r1⟩:=m1
  walk_at "r"
  intro D hD
  refine q16 (ps.map V.ref) (fun i σ H'=>∃v0,σ=[v0,some (.ref c),some (.ref q)]/\Same H1 H'/\qJ (DAt cs) H' D (((allD C).take i).filter fun x=>canD C st x.1 (x.2:Int))) ⟨none,rfl,Same.upd hD,⟨[],qg,Rows.nil⟩⟩ ?_ ?_ ?_
  ·rintro i σ H' ⟨_,rfl,s2,_⟩
   exact SqL.of (s2 _ _ e1)
  ·rintro i x σ H' hx ⟨v0,rfl,s2,qs,hqs,hrw⟩
   have hi:i<(allD C).length:=by have:=(yA hx).1;rw[yC,r1.1] at this;exact this
   obtain⟨p,ep,hob⟩:=r1.get hi
   rw[hx] at ep
   cases ep
   have hob2:=DAt.mono s2 hob
   obtain⟨dx,hp⟩:=hob2.ex
   have s12:=s1.trans s2
   have hqlen:qs.length<=100:=by
    rw[hrw.1]
    refine Nat.le_trans (List.length_filter_le _ _) ?_
    rw[List.length_take];omega
   walk_at "r"
   refine r_vm hp (vc _) (df_can _ _) ?_
   walk_at "r"
   refine⟨p,c,q,C,st,_,rfl,hob2,hC.mono s12.ts,ok,s12 _ _ hq,sok,fun H3 s3=>?_⟩
   have hq3:=s3 _ _ hqs
   walk_at "r"
   rw[List.take_succ_eq_append_getElem hi,List.filter_append]
   refine ite2 (fun hc=>?_) (fun hc=>?_)
   ·walk_at "r"
    refine⟨_,hq3,by rw[yC];omega,_,rfl,(s2.trans s3).put hD,?_⟩
    rw[show([(allD C)[i]].filter fun x=>canD C st x.1 (x.2:Int))=[(allD C)[i]] by simp[hc]]
    exact qP (fun _ _=>DAt.put hq3) (hrw.mono fun _ _=>DAt.mono s3) (DAt.mono s3 hob2)
   ·refine ⟨_,rfl,s2.trans s3,qs,hq3,?_⟩
    rw[show([(allD C)[i]].filter fun x=>canD C st x.1 (x.2:Int))=[] by simp[hc],List.append_nil]
    exact hrw.mono fun _ _=>DAt.mono s3
  ·rintro σ H' ⟨v0,rfl,s2,m2⟩
   rw[yC,r1.1,List.take_length] at m2
   exact k D H' (s1.trans s2) (s1.free hD) m2
end
seal L2.PA L2.PE L2.PI L2.PS L2.PSs L2.PG L2.PT
def Sml (n:Int):Prop:=n.natAbs.log2<1920
theorem Sml.of {n:Int}(h:n.natAbs<2 ^ 1000):Sml n:=by
 unfold Sml
 by_cases h0:n.natAbs=0
 ·rw [h0];walk_at "k"
 ·have:=(Nat.log2_lt h0).mpr h
  omega
theorem hu8_of {A:Around}{k:Nat}(hr:Room k A):A.units+8<cLine:=by have:=hr.un;omega
theorem jc {y:Str}{ts:List TE}{n:Nat}{σ:St}{H:Hp}{Q:VK}(hy:y.length<=100)(hn:n<=500000)(q:∀m,m<=n+100->q4P ts m σ H Q):q4P (tC (.str y)::ts) n σ H Q:=⟨y,rfl,by have:=qC;omega,q _ (by omega)⟩
theorem jn {n:Nat}{σ:St}{H:Hp}{Q:VK}(q:∀z:Str,z.length<=n->Q (.str z) H):q4P [] n σ H Q:=fun z hz=>q z (by omega)
theorem jft {te:TE}{ts:List TE}{n:Nat}{σ:St}{H:Hp}{Q:VK}{p:Addr}{xs:List V}(hp:H p=some (.tup xs))(hl:xs.length<=20)(hx:∀y∈xs,q3G y)(hn:n<=500000)(ht:∀K:VK,K (.ref p) H->te σ H K)(q:∀m,m<=n+50000->q4P ts m σ H Q):q4P (tFt te::ts) n σ H Q:=
 ht _ ⟨p,xs,rfl,hp,hl,hx,fun z hz=>⟨z,rfl,by have:=qC;omega,q _ (by omega)⟩⟩
theorem q7i (x:Int)(t:Nat):decide (Builtin.bitAnd (x / 2 ^ t) 1=0)= !bit x t:=by
 unfold bit
 rw[PyProof.Rows.bitAnd_m1,Bool.eq_iff_iff]
 simp
 omega
theorem q0a {H H':Hp}{a:Addr}{o:HO}(e:upd H a o=H')(h:H a=none):Same H H':=e▸Same.upd h
theorem q0b {H H':Hp}{a:Addr}{o:HO}(e:upd H a o=H'):H' a=some o:=e▸qg
theorem hu3_of {A:Around}{k:Nat}(hr:Room k A):A.units+1+1<cLine:=by have:=hr.un;omega
def LAt (f:Sd->List Sd)(H:Hp)(p:Addr)(x:Sd):Prop:=qJ SAt H p (f x)
theorem LAt.mono {f:Sd->List Sd}{H H':Hp}(s:Same H H'){p:Addr}{x:Sd}(h:LAt f H p x):LAt f H' p x:=by
 obtain⟨ps,h1,h2⟩:=h
 exact⟨ps,s _ _ h1,h2.mono fun _ _=>SAt.mono s.ts⟩
theorem q5r {H:Hp}{D:Addr}{kvs:List (List Key×V)}{o:HO}(hD:H D=some (.dT kvs)):q0f H (upd H D o):=fun p xs h=>by rw[ql (q2o h hD (by intro z;cases z))];exact h
theorem LAt.dput {f:Sd->List Sd}{H:Hp}{D:Addr}{kvs:List (List Key×V)}{o:HO}(hD:H D=some (.dT kvs)){p:Addr}{x:Sd}(h:LAt f H p x):LAt f (upd H D o) p x:=by
 obtain⟨ps,h1,h2⟩:=h
 exact⟨ps,by rw[ql (q2o h1 hD (by intro z;cases z))];exact h1,h2.mono fun _ _=>SAt.mono (q5r hD)⟩
def lkD (ss:List Sd)(ls:List Addr):Dk:=List.zipWith (fun s l=>(s,V.ref l)) ss ls
theorem q14:∀{ss:List Sd} {ls:List Addr},ls.length=ss.length->(lkD ss ls).map (·.1)=ss
 |[],[],_=>rfl
 |[],_::_,h=>by simp at h
 |_::_,[],h=>by simp at h
 |s::ss,l::ls,h=>by
  show s::(lkD ss ls).map (·.1)=_
  rw[q14 (by simpa using h)]
theorem q1Y {ss:List Sd}{ls:List Addr}(h:ls.length=ss.length):(lkD ss ls).length=ss.length:=by have:=congrArg List.length (q14 h);simpa using this
theorem q4n {ss:List Sd}{ls:List Addr}{s:Sd}{l:Addr}(h:ls.length=ss.length):lkD (ss++[s]) (ls++[l])=lkD ss ls++[(s,.ref l)]:=by
 unfold lkD
 rw[List.zipWith_append h.symm]
 rfl
theorem q8n {ss:List Sd}{ls:List Addr}{i:Nat}{s:Sd}{l:Addr}(h:ls.length=ss.length)(hn:ss.Nodup)(hs:ss[i]? =some s)(hl:ls[i]? =some l):dat (lkD ss ls) s=some (.ref l):=by
 refine q6G (by rw[q14 h];exact hn) ?_
 have:(lkD ss ls)[i]? =some (s,.ref l):=by unfold lkD;rw[List.getElem?_zipWith,hs,hl]
 exact List.mem_of_getElem? this
theorem q2J:∀{l m:List Sd},l.Nodup->(∀x∈l,x∈m)->l.length<=m.length
 |[],_,_,_=>Nat.zero_le _
 |x::l,m,hn,h=>by
  rw[List.nodup_cons] at hn
  have hx:=h x (.head _)
  have:=q2J (m:=m.erase x) hn.2 fun y hy=>(List.mem_erase_of_ne fun e=>hn.1 (by rw[<-e];exact hy)).mpr (h y (List.mem_cons_of_mem _ hy))
  rw[List.length_erase_of_mem hx] at this
  have:0<m.length:=List.length_pos_of_mem hx
  rw[List.length_cons]
  omega
theorem DAtS.lput {H:Hp}{R D:Addr}{l:Dk}{xs:List V}{o:HO}(hR:H R=some (.lst xs))(h:DAtS H D l):DAtS (upd H R o) D l:=by
 show upd H R o D=_
 rw[ql (q2o h hR (by intro z;cases z))]
 exact h
theorem Rd.same {H H':Hp}(s:Same H H'){a:Addr}{u:HO}(h:Rd H a u):Rd H' a u:=by
 rcases h with h|⟨o,h⟩
 ·exact .inl (s _ _ h)
 ·exact .inr ⟨o,s _ _ h⟩
def gE (es:List (Sd×Sd))(y:Sd):List Sd:=(es.filter fun e=>decide (e.2=y)).map (·.1)
theorem qcd {es:List (Sd×Sd)}{x y:Sd}:gE (es++[(x,y)]) y=gE es y++[x]:=by simp[gE]
theorem qag {es:List (Sd×Sd)}{x y z:Sd}(h:z≠y):gE (es++[(x,y)]) z=gE es z:=by simp[gE,Ne.symm h]
theorem gE_len (es:List (Sd×Sd))(y:Sd):(gE es y).length<=es.length:=by rw[gE,yC];exact List.length_filter_le _ _
theorem q6D {es:List (Sd×Sd)}{x y:Sd}:x∈gE es y↔(x,y)∈es:=by
 simp only[gE,List.mem_map,List.mem_filter,decide_eq_true_eq]
 constructor
 ·rintro ⟨⟨a,b⟩,⟨h1,h2⟩,h3⟩
  have h2':b=y:=h2
  have h3':a=x:=h3
  subst h2' h3'
  exact h1
 ·exact fun h=>⟨(x,y),⟨h,rfl⟩,rfl⟩
def eds (f:Sd->List Sd)(ss:List Sd):List (Sd×Sd):=ss.flatMap fun x=>(f x).map fun y=>(x,y)
theorem qam (f:Sd->List Sd)(ss:List Sd)(x:Sd):eds f (ss++[x])=eds f ss++(f x).map fun y=>(x,y):=by simp[eds]
theorem q4m {f:Sd->List Sd}{ss:List Sd}{x y:Sd}:(x,y)∈eds f ss↔x∈ss/\y∈f x:=by
 simp only[eds,List.mem_flatMap,List.mem_map,Prod.mk.injEq]
 constructor
 ·rintro ⟨a,h1,b,h2,h3,h4⟩
  subst h3 h4
  exact⟨h1,h2⟩
 ·exact fun⟨h1,h2⟩=>⟨x,h1,y,h2,rfl,rfl⟩
theorem q5Y {f:Sd->List Sd}:∀{ss:List Sd},(∀x∈ss,(f x).length<=500)->(eds f ss).length<=500*ss.length
 |[],_=>Nat.zero_le _
 |x::ss,h=>by
  have:=q5Y (ss:=ss) fun y hy=>h y (List.mem_cons_of_mem _ hy)
  have h1:=h x (.head _)
  have e:(eds f (x::ss)).length=(f x).length+(eds f ss).length:=by simp[eds]
  rw[e,List.length_cons]
  omega
theorem q4s {ss:List Sd}{ls:List Addr}{i:Nat}{p:List Key×V}(hl:ls.length=ss.length)(h:(dkv (lkD ss ls))[i]? =some p):∃s l,ss[i]? =some s/\ls[i]? =some l/\p=(s.key,.ref l):=by
 have hi:i<ss.length:=by
  have:=(yA h).1
  rw[show(dkv (lkD ss ls)).length=(lkD ss ls).length by simp[dkv],q1Y hl] at this
  exact this
 refine⟨ss[i],ls[i]'(by omega),yB hi,yB (by omega),?_⟩
 have e:(lkD ss ls)[i]? =some (ss[i],.ref (ls[i]'(by omega))):=by unfold lkD;rw[List.getElem?_zipWith,yB hi,yB (by omega)]
 rw[dkv,List.getElem?_map,e] at h
 exact(Option.some.inj h).symm
theorem q6B {α:Type}{l:List α}(h:l.Nodup){i j:Nat}{x:α}(hi:l[i]? =some x)(hj:l[j]? =some x):i=j:=by
 obtain⟨h1,e1⟩:=yA hi
 obtain⟨h2,e2⟩:=yA hj
 exact(List.getElem_inj h).mp (e1.trans e2.symm)
theorem q7O {es:List (Sd×Sd)}{H:Hp}{ls qs:List Addr}{ss:List Sd}{j:Nat}{l p:Addr}{x y:Sd}(hr:Rows (LAt (gE es)) H ls ss)(hn:ls.Nodup)(hs:ss.Nodup)(hj:ls[j]? =some l)(hy:ss[j]? =some y)(hqs:H l=some (.lst (qs.map V.ref)))(rq:Rows SAt H qs (gE es y))(hp:SAt H p x):
  Rows (LAt (gE (es++[(x,y)]))) (upd H l (.lst (qs.map V.ref++[.ref p]))) ls ss:=by
 refine⟨hr.1,fun k q z hk hz=>?_⟩
 by_cases e:k=j
 ·subst e
  rw[hj] at hk
  cases hk
  rw[hy] at hz
  cases hz
  show qJ SAt _ _ _
  rw[qcd]
  exact qP (fun _ _=>SAt.put hqs) rq hp
 ·have nq:q≠l:=fun z=>e (q6B hn (z▸hk) hj)
  have nz:z≠y:=fun w=>e (q6B hs (w▸hz) hy)
  obtain⟨rs,h1,h2⟩:=hr.2 k q z hk hz
  show qJ SAt _ _ _
  rw[qag nz]
  exact⟨rs,by rw[ql nq];exact h1,h2.mono fun _ _=>SAt.put hqs⟩
def PrAt (C:Cl)(s:Sd)(H:Hp)(p:Addr)(x:Wd×Nat):Prop:=∃t r,H p=some (.tup [.ref t,.ref r])/\TAt H t x/\SAt H r (q00 C s x.1 (x.2:Int))
theorem PrAt.mono {C:Cl}{s:Sd}{H H':Hp}(ts:q0f H H'){p:Addr}{x:Wd×Nat}(h:PrAt C s H p x):PrAt C s H' p x:=let ⟨t,r,a,b,c⟩:=h;⟨t,r,ts _ _ a,ts _ _ b,ts _ _ c⟩
def q3i:Sp:=fun vs H Q _=>∃(c q:Addr) (C:Cl) (s:Sd),vs=[.ref c,.ref q]/\ClAt H c C/\ClOk C/\SAt H q s/\s.ok C/\∀(l:Addr) (H':Hp),Same H H'->H l=none->qJ (PrAt C s) H' l (fitD C s)->Q (.ref l) H'
section
variable {P:Program}{w:World}{K:W.Frag}{mg:Str->Option Value}{base:Heap}{cs:Cs}
theorem q9P (T:Txt mg cs)(L:Laid K mg "leads" q3n ["cellar","stand"])(C_fit_deeds:Cal P w K mg base 7 "fit_deeds" ["cellar","stand"] (q7F cs))(vt:∀d,VMeth P w K mg base 1 (dcls cs d) "told" ["self"] (q5G cs d))(vd:∀d,VMeth P w K mg base 2 (dcls cs d) "done" ["self","cellar","stand"] (q3k cs d)):Cal P w K mg base 8 "leads" ["cellar","stand"] q3i:=by
 refine L.cal (k:=7) q9o (fun vs H Q E h=>?_) (fun f cdv A outer s H vs Q E hr h=>?_)
 ·obtain ⟨c,q,C,st,rfl,_⟩:=h
  rfl
 ·obtain ⟨c,q,C,st,rfl,hC,ok,hq,sok,k⟩:=h
  have big:=qC
  have hal:=q3f ok st
  refine⟨_,(qj (qu (q2n (q0y (N:=["deed","cellar","stand"]) (own:=1) (caps:=[0,1]) ["cellar","stand"] (qh q3n) (by walk_at "k")) rfl (q0c K (qB C_fit_deeds hr (by decide) rfl (qa (pv 0) (qa (pv 1) qe)))) (fun _ _ _ _=>(qr (i:=0) (show List.Nodup (["deed","cellar","stand"]:List Str) by walk_at "k") rfl (Or.inl rfl))) (fun _ _ _ _=>q1N) (fun _ _ _ _=>(qG (qa (qbx (k:=1) P w K mg base hr (by decide) (pv 0)) (qa (qaG (k:=2) P w K mg base hr (by decide) (pv 0) (qa (pv 1) (qa (pv 2) qe))) qe))))))),?_⟩
  walk_at "r"
  refine⟨c,q,C,st,rfl,hC,ok,hq,sok,fun l H1 s1 hl0 m1=>?_⟩
  obtain⟨ps,e1,r1⟩:=m1
  walk_at "r"
  intro D hD
  refine q16 (ps.map V.ref) (fun i σ H'=>∃v0,σ=[v0,some (.ref c),some (.ref q)]/\Same H1 H'/\qJ (PrAt C st) H' D ((fitD C st).take i)) ⟨none,rfl,Same.upd hD,⟨[],qg,Rows.nil⟩⟩ ?_ ?_ ?_
  ·rintro i σ H' ⟨_,rfl,s2,_⟩
   exact SqL.of (s2 _ _ e1)
  ·rintro i x σ H' hx ⟨v0,rfl,s2,qs,hqs,hrw⟩
   have hi:i<(fitD C st).length:=by have:=(yA hx).1;rw[yC,r1.1] at this;exact this
   obtain⟨p,ep,hob⟩:=r1.get hi
   rw[hx] at ep
   cases ep
   have hc:canD C st (fitD C st)[i].1 ((fitD C st)[i].2:Int)=true:=q3d.mp (List.getElem_mem hi)
   have hob2:=DAt.mono s2 hob
   obtain⟨dx,hp⟩:=hob2.ex
   have hqlen:qs.length<=100:=by
    rw[hrw.1,List.length_take];omega
   have s12:=s1.trans s2
   walk_at "r"
   refine r_vm hp (vt _) (qcp _ _) ?_
   refine⟨p,_,rfl,hob2,fun t H3 s3 ht3=>?_⟩
   have hq3:=s3 _ _ hqs
   have hob3:=DAt.mono s3 hob2
   obtain⟨dx3,hp3⟩:=hob3.ex
   have s13:=s12.trans s3
   walk_at "r"
   refine r_vm hp3 (vd _) (qcr _ _) ?_
   walk_at "r"
   refine⟨p,c,q,C,st,_,rfl,hob3,hC.mono s13.ts,ok,s13 _ _ hq,sok,hc,fun r H4 s4 hr4=>?_⟩
   have hq4:=s4 _ _ hq3
   walk_at "r"
   intro z hz
   have s5:=Same.upd (o:= .tup [.ref t,.ref r]) hz
   have hq5:=s5 _ _ hq4
   have hz5:=qg (H:=H4) (a:=z) (o:= .tup [.ref t,.ref r])
   generalize upd H4 z (.tup [.ref t,.ref r])=H5 at s5 hq5 hz5 ⊢
   refine⟨_,hq5,by rw[yC];omega,_,rfl,(((s2.trans s3).trans s4).trans s5).put hD,?_⟩
   rw[List.take_succ_eq_append_getElem hi]
   exact qP (fun _ _ h=>PrAt.mono (q0f.lst hq5) h) (hrw.mono fun _ _=>PrAt.mono ((s3.trans s4).trans s5).ts) ⟨t,r,hz5,(s4.trans s5) _ _ ht3,s5 _ _ hr4⟩
  ·rintro σ H' ⟨v0,rfl,s2,m2⟩
   rw[yC,r1.1,List.take_length] at m2
   exact k D H' (s1.trans s2) (s1.free hD) m2
end
def setD (l:Dk)(s:Sd)(v:V):Dk:=l.map fun x=>if x.1=s then(x.1,v) else x
theorem qcm {l:Dk}{s:Sd}{v:V}(h:s∈l.map (·.1)):putK (dkv l) s.key v=dkv (setD l s v):=by
 unfold putK
 rw[q37,q4r,q0Q,decide_eq_true h,if_pos rfl]
 unfold dkv setD
 rw[List.map_map,List.map_map]
 refine List.map_congr_left fun x _=>?_
 show(if x.1.key=s.key then(x.1.key,v) else(x.1.key,x.2))=((if x.1=s then(x.1,v) else x).1.key,(if x.1=s then(x.1,v) else x).2)
 by_cases e:x.1=s
 ·rw [if_pos e,if_pos (by rw[e])]
 ·rw [if_neg e,if_neg fun z=>e (Sd.key_inj z)]
theorem dput_o {H:Hp}{a b:Addr}{l:Dk}{s:Sd}{v:V}(h:DAtS H a l)(hb:SAt H b s)(hl:l.length<sizeLine)(hn:s∈l.map (·.1)):DPut H a (.ref b) v (upd H a (.dT (dkv (setD l s v)))):=by
 have:=DPut.t (k:=s.key) (v:=v) h hb (by simpa[dkv] using hl)
 rwa [qcm hn] at this
def Few (C:Cl)(s:Sd):Prop:=∀row:List Sd,row.Nodup->(∀x∈row,Rch (NxR C) s x)->row.length<=288
def PrL (C:Cl)(H:Hp)(l:Addr)(x:Sd):Prop:=qJ (PrAt C x) H l (fitD C x)
theorem PrL.same {C:Cl}{H H':Hp}{l:Addr}{x:Sd}(s:Same H H')(h:PrL C H l x):PrL C H' l x:=let ⟨ps,h1,h2⟩:=h;⟨ps,s _ _ h1,h2.mono fun _ _=>PrAt.mono s.ts⟩
theorem PrL.dput {C:Cl}{H:Hp}{l D:Addr}{x:Sd}{kvs:List (List Key×V)}{o:HO}(hD:H D=some (.dT kvs))(h:PrL C H l x):PrL C (upd H D o) l x:=let ⟨ps,h1,h2⟩:=h;⟨ps,by rw[ql (q2o h1 hD (by intro z;cases z))];exact h1,h2.mono fun _ _=>PrAt.mono (q5r hD)⟩
theorem PrL.put {C:Cl}{H:Hp}{l R:Addr}{x:Sd}{xs:List V}{o:HO}(hR:H R=some (.lst xs))(n:l≠R)(h:PrL C H l x):PrL C (upd H R o) l x:=let ⟨ps,h1,h2⟩:=h;⟨ps,by rw[ql n];exact h1,h2.mono fun _ _ z=>PrAt.mono (q0f.lst hR) z⟩
def WkD (C:Cl)(R:Addr)(H:Hp)(row:List Sd)(ls:List Addr)(n:Nat):Prop:=ls.length=row.length/\∀i,i<n->∀p x,ls[i]? =some p->row[i]? =some x->p≠R/\PrL C H p x
section
variable {C:Cl}{R:Addr}{H H':Hp}{row:List Sd}{ls:List Addr}{n:Nat}
theorem WkD.mono (h:WkD C R H row ls n)(f:∀p x,p≠R->PrL C H p x->PrL C H' p x):WkD C R H' row ls n:=⟨h.1,fun i hi p x h1 h2=>let ⟨a,b⟩:=h.2 i hi p x h1 h2;⟨a,f p x a b⟩⟩
theorem WkD.snoc {y:Sd}{e:Addr}(h:WkD C R H row ls n)(hn:n<=row.length):WkD C R H (row++[y]) (ls++[e]) n:=⟨by rw[List.length_append,List.length_append,h.1];rfl,fun i hi p x h1 h2=>h.2 i hi p x (by rwa [List.getElem?_append_left (by rw[h.1];omega)] at h1) (by rwa [List.getElem?_append_left (by omega)] at h2)⟩
theorem WkD.set {x:Sd}{lp:Addr}(h:WkD C R H row ls n)(hx:row[n]? =some x)(ne:lp≠R)(hp:PrL C H lp x):WkD C R H row (ls.set n lp) (n+1):=⟨by rw[List.length_set];exact h.1,fun i hi p y h1 h2=>by
 rw[List.getElem?_set] at h1
 by_cases e:n=i
 ·subst e
  rw[if_pos rfl] at h1
  split at h1
  ·cases h1;rw[hx] at h2;cases h2;exact⟨ne,hp⟩
  ·cases h1
 ·rw [if_neg e] at h1
  exact h.2 i (by omega) p y h1 h2⟩
theorem qbW {x:Sd}{lp:Addr}(h:ls.length=row.length)(nd:row.Nodup)(hx:row[n]? =some x):setD (lkD row ls) x (.ref lp)=lkD row (ls.set n lp):=by
 refine List.ext_getElem? fun i=>?_
 unfold setD lkD
 rw[List.getElem?_map,List.getElem?_zipWith,List.getElem?_zipWith,List.getElem?_set]
 obtain⟨hn,en⟩:=yA hx
 by_cases hi:i<row.length
 ·rw [yB hi,yB (by omega)]
  by_cases e:n=i
  ·subst e
   rw[if_pos rfl,if_pos (by omega)]
   simp[en]
  ·have:row[i]≠x:=fun z=>by
    rw[<-en] at z
    exact e ((List.getElem_inj nd).mp z).symm
   rw[if_neg e]
   simp[this]
 ·rw [List.getElem?_eq_none (by omega)]
  simp
end
def spWF:Sp:=fun vs H Q _=>∃(c q:Addr) (C:Cl) (s:Sd),vs=[.ref c,.ref q]/\ClAt H c C/\ClOk C/\Few C s/\SAt H q s/\s.ok C/\∀(d:Addr) (row:List Sd) (ls:List Addr) (H':Hp),Same H H'->H d=none->DAtS H' d (lkD row ls)->Rows (PrL C) H' ls row->row.Nodup->(∀x,x∈row↔Rch (NxR C) s x)->Q (.ref d) H'
section
variable {P:Program}{w:World}{K:W.Frag}{mg:Str->Option Value}{base:Heap}{cs:Cs}
theorem qbF (T:Txt mg cs)(L:Laid K mg "walk_from" q1h ["cellar","begin"])(C_leads:Cal P w K mg base 8 "leads" ["cellar","stand"] q3i):Cal P w K mg base 9 "walk_from" ["cellar","begin"] spWF:=by
 obtain⟨t1,e_MOST_STANDS⟩:=T.e_MOST_STANDS
 refine L.cal (k:=8) q05 (fun vs H Q E h=>?_) (fun f cdv A outer s H vs Q E hr h=>?_)
 ·obtain ⟨c,q,C,st,rfl,_⟩:=h
  rfl
 ·obtain ⟨c,q,C,st,rfl,hC,ok,sm,hq,sok,k⟩:=h
  have big:=qC
  refine⟨_,(qd (qy (i:=2) q05.nd rfl (Or.inl rfl) (q6x (q0u hr) (pv 1) (q0w qe)))
   (qd (qy (i:=3) q05.nd rfl (Or.inl rfl) (q0w (qa (pv 1) qe)))
   (qd (qy (i:=4) q05.nd rfl (Or.inl rfl) qc)
   (qd (q4h PassesOwn.never (qz q75 (pv 4) (qI (lenK K) rfl T.n_len q0p (qa (pv 3) qe)) (qw _)) (qd (qy (i:=5) q05.nd rfl (Or.inl rfl) (qm (q0n K) (pv 3) (pv 4) (fun _ _=>rfl)))
   (qd (qaC (i:=4) q05.nd rfl (Or.inl rfl) qc q8w)
   (qd (qy (i:=6) q05.nd rfl (Or.inl rfl) (qB C_leads hr (by decide) rfl (qa (pv 0) (qa (pv 5) qe))))
   (qd (q2m (q0u hr) (pv 2) (pv 5) (pv 6) rfl)
   (qd (q0o PassesOwn.never rfl (q0c K (pv 6)) (q0H (n:=2) K rfl (qE (qr (i:=7) q05.nd rfl (Or.inl rfl)) (qE (qr (i:=8) q05.nd rfl (Or.inl rfl)) q0G))) (qj (q03 (q3o (q2C (q0u hr) (pv 8) (pv 2))) (qd (q2m (q0u hr) (pv 2) (pv 8) (q0w qe) rfl)
   (qj (qZ (q3r PySem.F.plainAttrs_list PySem.F.slot_list_append PySem.F.type_list_append q0h (pv 3) (qa (pv 8) qe))))) qD)))
   (qj (q03 (qz q34 (qI (lenK K) rfl T.n_len q0p (qa (pv 3) qe)) (qv (v:= .int 300) rfl e_MOST_STANDS ⟨_,rfl⟩) (qw _)) (qj q6t) qD))))))))
   (qj (qu (pv 2))))))),?_⟩
  walk_at "r"
  intro D hD
  have s1:=Same.upd (o:= .dT []) hD
  have h1:=qg (H:=H) (a:=D) (o:= .dT [])
  generalize upd H D (.dT [])=H1 at s1 h1 ⊢
  walk_at "r"
  intro e0 he0
  have s2:=s1.trans (Same.upd (o:= .lst []) he0)
  have h2:=(Same.upd (o:= .lst []) he0) _ _ h1
  generalize upd H1 e0 (.lst [])=H2 at s2 h2 ⊢
  refine⟨q,st.key,rfl,h2,s2 _ _ hq,?_⟩
  have s3:Same H (upd H2 D (.dT [(st.key,V.ref e0)])):=s2.put hD
  have d3:DAtS (upd H2 D (.dT [(st.key,V.ref e0)])) D [(st,V.ref e0)]:=qg
  generalize upd H2 D (.dT [(st.key,V.ref e0)])=H3 at s3 d3 ⊢
  walk_at "r"
  intro R hR3
  have hR:H R=none:=s3.free hR3
  have s4:=s3.trans (Same.upd (o:= .lst [.ref q]) hR3)
  have d4:DAtS (upd H3 R (.lst [.ref q])) D [(st,V.ref e0)]:=(Same.upd (o:= .lst [.ref q]) hR3) _ _ d3
  have hR4:=qg (H:=H3) (a:=R) (o:= .lst [.ref q])
  generalize upd H3 R (.lst [.ref q])=H4 at s4 d4 hR4 ⊢
  walk_at "r"
  refine q5P (fun m σ H'=>∃(row:List Sd) (ls:List Addr) (pl:Nat) (v5 v6 v7 v8:Option V),σ=[some (.ref c),some (.ref q),some (.ref D),some (.ref R),some (.int pl),v5,v6,v7,v8]/\Same H H'/\qJ SAt H' R row/\DAtS H' D (lkD row ls)/\WkD C R H' row ls pl/\Srch (NxR C) st row pl/\pl<=row.length/\m=2000 - pl) (2000 - 0)
   ⟨[st],[e0],0,none,none,none,none,rfl,s4,⟨[q],hR4,Rows.nil.snoc (s4 _ _ hq)⟩,d4,⟨rfl,fun i z=>absurd z (Nat.not_lt_zero i)⟩,Srch.start,by simp,rfl⟩ ?_
  rintro m σ H5 ⟨row,ls,pl,v5,v6,v7,v8,rfl,s5,⟨qs,hqs,rqs⟩,hd5,hk,sr,hpl,hm⟩
  have hql:qs.length=row.length:=rqs.1
  have hrl:row.length<=288:=sm _ sr.nd sr.rch
  walk_at "r"
  rw[yC,hql]
  refine ifd (fun hlt=>?_) (fun hge=>?_)
  ·have hlt':pl<row.length:=by omega
   obtain⟨p,ep,hp5⟩:=rqs.get hlt'
   generalize hx:row[pl]=x at hp5
   have hrx:row[pl]? =some x:=by rw[yB hlt',hx]
   have hxr:x∈row:=List.mem_of_getElem? hrx
   have hp5:SAt H5 p x:=hp5
   have xok:x.ok C:=q8U ok sok (sr.rch x hxr)
   have hfl:=q3f ok x
   refine⟨fun σ' H'=>∃(row:List Sd) (ls:List Addr) (v6 v7 v8:Option V),σ'=[some (.ref c),some (.ref q),some (.ref D),some (.ref R),some (.int ((pl:Int)+1)),some (.ref p),v6,v7,v8]/\Same H H'/\qJ SAt H' R row/\DAtS H' D (lkD row ls)/\WkD C R H' row ls (pl+1)/\Srch (NxR C) st row (pl+1)/\pl+1<=row.length,?_,?_⟩
   ·rintro σ' H' ⟨row,ls,v6,v7,v8,rfl,z1,z2,z3,z4,z5,z6⟩
    exact⟨2000 - (pl+1),by omega,row,ls,pl+1,some (.ref p),v6,v7,v8,rfl,z1,z2,z3,z4,z5,z6,rfl⟩
   ·walk_at "r"
    refine⟨c,p,C,x,rfl,hC.mono s5.ts,ok,hp5,xok,fun lp H6 s6 hl0 m6=>?_⟩
    obtain⟨ps,hps,rps⟩:=m6
    have s06:=s5.trans s6
    have hd6:DAtS H6 D (lkD row ls):=s6 _ _ hd5
    have neR:lp≠R:=fun z=>by subst z;rw[hl0] at hqs;cases hqs
    have neD:lp≠D:=fun z=>by rw[z,show H5 D=some _ from hd5] at hl0;cases hl0
    have hll:=q1Y hk.1
    walk_at "r"
    refine⟨D,_,rfl,dput_o hd6 (s6 _ _ hp5) (by omega) (by rw[q14 hk.1];exact hxr),?_⟩
    rw[qbW hk.1 sr.nd hrx]
    have ts7:=q5r (o:= .dT (dkv (lkD row (ls.set pl lp)))) hd6
    have s07:Same H (upd H6 D (.dT (dkv (lkD row (ls.set pl lp))))):=s06.put hD
    have d7:DAtS (upd H6 D (.dT (dkv (lkD row (ls.set pl lp))))) D (lkD row (ls.set pl lp)):=qg
    have l7:upd H6 D (.dT (dkv (lkD row (ls.set pl lp)))) lp=some (.lst (ps.map V.ref)):=by rw[ql neD];exact hps
    have R7:upd H6 D (.dT (dkv (lkD row (ls.set pl lp)))) R=some (.lst (qs.map V.ref)):=by rw[ql (q2o (s6 _ _ hqs) hd6 (by intro z;cases z))];exact s6 _ _ hqs
    have k7:=((hk.mono fun _ _ _ z=>PrL.dput (o:= .dT (dkv (lkD row (ls.set pl lp)))) hd6 (PrL.same s6 z)).set hrx neR ⟨ps,l7,rps.mono fun _ _=>PrAt.mono ts7⟩)
    generalize upd H6 D (.dT (dkv (lkD row (ls.set pl lp))))=H7 at ts7 s07 d7 l7 R7 k7 ⊢
    have ts67:=s6.ts.trans ts7
    walk_at "r"
    refine q21 (ps.map V.ref) (fun i σ' H'=>∃(row:List Sd) (ls:List Addr) (v7 v8:Option V),σ'=[some (.ref c),some (.ref q),some (.ref D),some (.ref R),some (.int ((pl:Int)+1)),some (.ref p),some (.ref lp),v7,v8]/\Same H H'/\H' lp=some (.lst (ps.map V.ref))/\Rows (PrAt C x) H' ps (fitD C x)/\qJ SAt H' R row/\DAtS H' D (lkD row ls)/\WkD C R H' row ls (pl+1)/\Mid (NxR C) st x row pl ((nx C x).take i))
     ⟨row,ls.set pl lp,v7,v8,rfl,s07,l7,rps.mono fun _ _=>PrAt.mono ts7,⟨qs,R7,rqs.mono fun _ _=>SAt.mono ts67⟩,d7,k7,sr.mid hrx⟩ ?_ ?_ ?_
    ·rintro i σ' H' ⟨_,_,_,_,rfl,_,e,_⟩
     exact SqL.of e
    ·rintro i z σ' H8 hz ⟨row,ls,v7,v8,rfl,s8,l8,rps8,⟨qs,hqs,rqs⟩,hd8,hk,md⟩
     have hi:i<(fitD C x).length:=by have:=(yA hz).1;rw[yC,rps.1] at this;exact this
     obtain⟨p',ep',hp8⟩:=rps8.get hi
     rw[hz] at ep'
     cases ep'
     obtain⟨t,r,e8,_,hr8⟩:=hp8
     have hi':i<(nx C x).length:=by unfold nx;rw[yC];exact hi
     have ey:q00 C x (fitD C x)[i].1 ((fitD C x)[i].2:Int)=(nx C x)[i]:=by simp[nx]
     rw[ey] at hr8
     have hy:NxR C x (nx C x)[i]:=List.getElem_mem hi'
     rw[List.take_succ_eq_append_getElem hi']
     generalize (nx C x)[i]=y at hr8 hy ⊢
     have hr8:SAt H8 r y:=hr8
     have hrl:row.length<=288:=sm _ md.nd md.rch
     have hll:=q1Y hk.1
     walk_at "r"
     refine⟨D,_,rfl,q22 (.inl hd8) hr8,?_⟩
     rw[q0Q,q14 hk.1]
     walk_at "r"
     by_cases hin:y∈row
     ·rw [decide_eq_true hin]
      walk_at "r"
      exact⟨row,ls,_,_,rfl,s8,l8,rps8,⟨qs,hqs,rqs⟩,hd8,hk,md.old hin⟩
     ·rw [decide_eq_false hin]
      walk_at "r"
      intro e1 he1
      have s9:=Same.upd (o:= .lst []) he1
      generalize upd H8 e1 (.lst [])=H9 at s9 ⊢
      have hd9:DAtS H9 D (lkD row ls):=s9 _ _ hd8
      have hqs9:=s9 _ _ hqs
      have neRD:R≠D:=q2o hqs9 hd9 (by intro z;cases z)
      walk_at "r"
      refine⟨D,_,rfl,q41 hd9 (s9 _ _ hr8) (by omega) (by rw[q14 hk.1];exact hin),?_⟩
      rw[<-q4n hk.1]
      have ts10:=q5r (o:= .dT (dkv (lkD (row++[y]) (ls++[e1])))) hd9
      have s10:Same H (upd H9 D (.dT (dkv (lkD (row++[y]) (ls++[e1]))))):=(s8.trans s9).put hD
      have d10:DAtS (upd H9 D (.dT (dkv (lkD (row++[y]) (ls++[e1]))))) D (lkD (row++[y]) (ls++[e1])):=qg
      have l10:upd H9 D (.dT (dkv (lkD (row++[y]) (ls++[e1])))) lp=some (.lst (ps.map V.ref)):=by rw[ql neD];exact s9 _ _ l8
      have k10:=hk.mono fun _ _ _ z=>PrL.dput (o:= .dT (dkv (lkD (row++[y]) (ls++[e1])))) hd9 (PrL.same s9 z)
      have R10:upd H9 D (.dT (dkv (lkD (row++[y]) (ls++[e1])))) R=some (.lst (qs.map V.ref)):=by rw[ql neRD];exact hqs9
      generalize upd H9 D (.dT (dkv (lkD (row++[y]) (ls++[e1]))))=H10 at ts10 s10 d10 l10 R10 k10 ⊢
      have ts810:=s9.ts.trans ts10
      walk_at "r"
      refine q4g R10 (by rw[yC,rqs.1];omega) ?_
      exact⟨row++[y],ls++[e1],_,_,rfl,s10.put hR,by rw[ql neR];exact l10,rps8.mono fun _ _ h=>PrAt.mono (ts810.trans (q0f.lst R10)) h,qP (fun _ _=>SAt.put R10) (rqs.mono fun _ _=>SAt.mono ts810) (SAt.mono ts810 hr8),DAtS.lput R10 d10,(k10.mono fun _ _ n z=>PrL.put R10 n z).snoc (yA md.at').1,md.new hin hy⟩
    ·rintro σ' H8 ⟨row,ls,v7,v8,rfl,s8,l8,rps8,⟨qs,hqs,rqs⟩,hd8,hk,md⟩
     have hrl:row.length<=288:=sm _ md.nd md.rch
     have hql:qs.length=row.length:=rqs.1
     rw[yC,rps.1,show(fitD C x).length=(nx C x).length by simp[nx],List.take_length] at md
     walk_at "r"
     rw[yC,hql]
     refine ifd (fun hgt=>absurd hgt (by omega)) (fun _=>?_)
     walk_at "r"
     exact⟨row,ls,_,_,_,rfl,s8,⟨qs,hqs,rqs⟩,hd8,hk,md.next fun y hy=>hy,(yA md.at').1⟩
  ·walk_at "r"
   exact k D row ls H5 s5 hD hd5 ⟨hk.1,fun i p x h1 h2=>(hk.2 i (by have:=(yA h2).1;omega) p x h1 h2).2⟩ sr.nd (sr.end (by omega))
def spTL:Sp:=fun vs H Q _=>∃(a:Addr) (o:Obj) (ss:List Sd) (f:Sd->List Sd) (ls:List Addr),vs=[.ref a]/\H a=some (.frz o (.dT (dkv (lkD ss ls))))/\Rows (LAt f) H ls ss/\ss.Nodup/\(∀x∈ss,∀y∈f x,y∈ss)/\ss.length<=1000/\(∀x∈ss,(f x).length<=500)/\
 ∀(t:Addr) (ls':List Addr) (H':Hp),Same H H'->H t=none->DAtS H' t (lkD ss ls')->Rows (LAt (gE (eds f ss))) H' ls' ss->Q (.ref t) H'
theorem q8f (T:Txt mg cs)(L:Laid K mg "turned_links" q0z ["links"]):Cal P w K mg base 1 "turned_links" ["links"] spTL:=by
 refine L.cal (k:=0) q0d (fun vs H Q E h=>?_) (fun f cdv A outer s H vs Q E hr h=>?_)
 ·obtain ⟨a,o,ss,f,ls,rfl,_⟩:=h
  rfl
 ·obtain ⟨a,o,ss,g,ls,rfl,ha,hrw,nd,hcl,hln,hfl,k⟩:=h
  have big:=qC
  have hll:ls.length=ss.length:=hrw.1
  have hkl:(dkv (lkD ss ls)).length=ss.length:=by rw[show(dkv (lkD ss ls)).length=(lkD ss ls).length by simp[dkv],q1Y hll]
  have hel:=q5Y hfl
  refine⟨_,(qd (qy (i:=1) q0d.nd rfl (Or.inl rfl) q4j)
   (qd (q0o PassesOwn.never rfl (qaF K (pv 0)) (qr (i:=2) q0d.nd rfl (Or.inl rfl)) (qj (q2m (q0u hr) (pv 1) (pv 2) (q0w qe) rfl)))
   (qd (q0o PassesOwn.never rfl (qaE K (pv 0)) (q0H (n:=2) K rfl (qE (qr (i:=2) q0d.nd rfl (Or.inl rfl)) (qE (qr (i:=3) q0d.nd rfl (Or.inl rfl)) q0G))) (qj (q0o PassesOwn.never rfl (q0c K (pv 3)) (qr (i:=4) q0d.nd rfl (Or.inl rfl)) (qj (qZ (q3r PySem.F.plainAttrs_list PySem.F.slot_list_append PySem.F.type_list_append q0h (q2N (q0u hr) (pv 1) (pv 4) (fun _ _=>rfl)) (qa (pv 2) qe)))))))
   (qj (qu (pv 1)))))),?_⟩
  walk_at "r"
  intro D hD
  have s1:=Same.upd (o:= .dT []) hD
  have d1:DAtS (upd H D (.dT [])) D []:=qg
  generalize upd H D (.dT [])=H1 at s1 d1 ⊢
  walk_at "r"
  refine⟨a,o,_,rfl,s1 _ _ ha,?_⟩
  refine for_dk (fun i σ H'=>∃v2 ls',σ=[some (.ref a),some (.ref D),v2,none,none]/\Same H H'/\DAtS H' D (lkD (ss.take i) ls')/\Rows (LAt (gE [])) H' ls' (ss.take i)/\ls'.Nodup/\∀l∈ls',H l=none) ⟨none,[],rfl,s1,d1,Rows.nil,List.nodup_nil,fun l h=>nomatch h⟩ ?_ ?_ ?_
  ·rintro i σ H' ⟨v2,ls',rfl,s2,_⟩
   exact s2 _ _ ha
  ·rintro i b p σ H' hp hb ⟨v2,ls',rfl,s2,hd,hrw',hn',hfr⟩
   obtain⟨x,l,hx,hl,rfl⟩:=q4s hll hp
   have hb':SAt H' b x:=hb
   have hi:i<ss.length:=(yA hx).1
   have ex:ss[i]=x:=(yA hx).2
   have hlen:ls'.length=(ss.take i).length:=hrw'.1
   walk_at "r"
   intro q hq
   have s3:=Same.upd (o:= .lst []) hq
   have h3:=qg (H:=H') (a:=q) (o:= .lst [])
   generalize upd H' q (.lst [])=H3 at s3 h3 ⊢
   have hd3:DAtS H3 D _:=s3 _ _ hd
   have et:ss.take (i+1)=ss.take i++[x]:=by rw[List.take_succ_eq_append_getElem hi,ex]
   have hnx:x∉ss.take i:=fun h=>by
    have:=nd.sublist (List.take_sublist (i+1) ss)
    rw[et,List.nodup_append] at this
    exact this.2.2 _ h _ (by simp) rfl
   walk_at "r"
   refine⟨D,_,rfl,q41 hd3 (s3 _ _ hb') (by rw[q1Y hlen,List.length_take];omega) (by rw[q14 hlen];exact hnx),?_⟩
   refine⟨_,ls'++[q],rfl,(s2.trans s3).put hD,?_,?_,?_,?_⟩
   ·rw [et,q4n hlen]
    exact qg
   ·rw [et]
    exact(hrw'.mono fun _ _ z=>LAt.dput hd3 (LAt.mono s3 z)).snoc (LAt.dput hd3 ⟨[],h3,Rows.nil⟩)
   ·refine List.nodup_append.mpr ⟨hn',by simp,fun a' h1 b' h2 e=>?_⟩
    rw[List.mem_singleton.mp h2] at e
    subst e
    obtain⟨y,_,rs,hy,_⟩:=Rows.mem hrw' h1
    rw[hq] at hy
    cases hy
   ·intro l h
    rcases List.mem_append.mp h with h|h
    ·exact hfr l h
    ·rw [List.mem_singleton.mp h];exact s2.free hq
  ·rintro σ H2 ⟨v2,ls',rfl,s2,hd2,hrw2,hn2,hfr⟩
   rw[hkl,List.take_length] at hd2 hrw2
   have hlen:ls'.length=ss.length:=hrw2.1
   walk_at "r"
   refine⟨a,o,_,rfl,s2 _ _ ha,?_⟩
   refine qaJ (fun i σ H'=>∃v2 v3 v4,σ=[some (.ref a),some (.ref D),v2,v3,v4]/\Same H H'/\DAtS H' D (lkD ss ls')/\Rows (LAt (gE (eds g (ss.take i)))) H' ls' ss) ⟨_,_,_,rfl,s2,hd2,hrw2⟩ ?_ ?_ ?_
   ·rintro i σ H' ⟨v2,v3,v4,rfl,s3,_⟩
    exact s3 _ _ ha
   ·rintro i b T' p σ H' hp hb hT ⟨v2,v3,v4,rfl,s3,hd,hr3⟩
    obtain⟨x,l,hx,hl,rfl⟩:=q4s hll hp
    have hi:i<ss.length:=(yA hx).1
    have ex:ss[i]=x:=(yA hx).2
    have hxs:x∈ss:=List.mem_of_getElem? hx
    have hb':SAt H' b x:=hb
    have s4:=Same.upd (o:= .tup [.ref b,.ref l]) hT
    have h4:=qg (H:=H') (a:=T') (o:= .tup [.ref b,.ref l])
    show _
    generalize upd H' T' (.tup [.ref b,.ref l])=H4 at s4 h4 ⊢
    have s34:=s3.trans s4
    have hb4:SAt H4 b x:=s4 _ _ hb'
    obtain⟨os,hos,ros⟩:=hrw.2 i l x hl hx
    have hos4:=s34 _ _ hos
    have et:eds g (ss.take (i+1))=eds g (ss.take i)++(g x).map fun y=>(x,y):=by rw[List.take_succ_eq_append_getElem hi,ex,qam]
    have hel4:(eds g (ss.take i)).length<=500*ss.length:=Nat.le_trans (q5Y fun y hy=>hfl y (List.mem_of_mem_take hy)) (by rw[List.length_take];omega)
    have hgx:=hfl x hxs
    walk_at "r"
    refine q21 (os.map V.ref) (fun j σ H'=>∃v4,σ=[some (.ref a),some (.ref D),some (.ref b),some (.ref l),v4]/\Same H H'/\SAt H' b x/\DAtS H' D (lkD ss ls')/\Rows (LAt (gE (eds g (ss.take i)++((g x).take j).map fun y=>(x,y)))) H' ls' ss) ⟨v4,rfl,s34,hb4,s4 _ _ hd,by simpa using hr3.mono fun _ _=>LAt.mono s4⟩ ?_ ?_ ?_
    ·rintro j σ H' ⟨_,rfl,s5,_⟩
     exact SqL.of (s5 _ _ hos)
    ·rintro j z σ H5 hz ⟨v4,rfl,s5,hb5,hd5,hr5⟩
     have hj:j<(g x).length:=by have:=(yA hz).1;rw[yC,ros.1] at this;exact this
     obtain⟨p,ep,hp⟩:=ros.get hj
     rw[hz] at ep
     cases ep
     have hp5:SAt H5 p (g x)[j]:=SAt.mono s5.ts hp
     have hy:(g x)[j]∈g x:=List.getElem_mem hj
     rw[List.take_succ_eq_append_getElem hj,List.map_append,<-List.append_assoc]
     have hbd:(eds g (ss.take i)++((g x).take j).map fun y=>(x,y)).length<=501000:=by rw[List.length_append,yC,List.length_take];omega
     generalize eds g (ss.take i)++((g x).take j).map (fun y=>(x,y))=es at hr5 hbd ⊢
     generalize (g x)[j]=y at hp5 hy ⊢
     obtain⟨m,hm,em⟩:=List.getElem_of_mem (hcl x hxs y hy)
     have hsm:ss[m]? =some y:=by rw[yB hm,em]
     have hlm:ls'[m]? =some (ls'[m]'(by omega)):=yB _
     generalize ls'[m]'(by omega)=lm at hlm
     obtain⟨qs,hqs,rqs⟩:=hr5.2 m lm y hlm hsm
     have hl5:=gE_len es y
     have hfm:=hfr lm (List.mem_of_getElem? hlm)
     have dg:=q22 (.inl hd5) hp5
     rw[q8n hlen nd hsm hlm] at dg
     walk_at "r"
     refine⟨D,_,rfl,dg,?_⟩
     walk_at "r"
     refine⟨lm,_,_,rfl,rfl,hqs,by rw[yC,rqs.1];omega,?_⟩
     refine⟨_,rfl,s5.put hfm,SAt.put hqs hb5,DAtS.lput hqs hd5,?_⟩
     exact q7O hr5 hn2 nd hlm hsm hqs rqs hb5
    ·rintro σ H5 ⟨v4,rfl,s5,hb5,hd5,hr5⟩
     rw[yC,ros.1,List.take_length] at hr5
     exact⟨_,_,_,rfl,s5,hd5,by rw[et];exact hr5⟩
   ·rintro σ H3 ⟨v2,v3,v4,rfl,s3,hd3,hr3⟩
    rw[hkl,List.take_length] at hr3
    walk_at "r"
    exact k D ls' H3 s3 hD hd3 hr3
def PrF (C:Cl)(F:Sd->List (Wd×Nat))(H:Hp)(l:Addr)(x:Sd):Prop:=qJ (PrAt C x) H l (F x)
theorem PrF.same {C:Cl}{F:Sd->List (Wd×Nat)}{H H':Hp}{l:Addr}{x:Sd}(s:Same H H')(h:PrF C F H l x):PrF C F H' l x:=let ⟨ps,h1,h2⟩:=h;⟨ps,s _ _ h1,h2.mono fun _ _=>PrAt.mono s.ts⟩
def nxF (C:Cl)(F:Sd->List (Wd×Nat))(s:Sd):List Sd:=(F s).map fun x=>q00 C s x.1 (x.2:Int)
def spLk:Sp:=fun vs H Q _=>∃(a:Addr) (C:Cl) (F:Sd->List (Wd×Nat)) (o:Obj) (ss:List Sd) (ls:List Addr),vs=[.ref a]/\(∀x,(F x).length<=56)/\H a=some (.frz o (.dT (dkv (lkD ss ls))))/\Rows (PrF C F) H ls ss/\ss.Nodup/\ss.length<=1000/\
 ∀(t:Addr) (ls':List Addr) (H':Hp),Same H H'->H t=none->DAtS H' t (lkD ss ls')->Rows (LAt (nxF C F)) H' ls' ss->Q (.ref t) H'
theorem q9N (T:Txt mg cs)(L:Laid K mg "links_of" q1b ["walk"]):Cal P w K mg base 1 "links_of" ["walk"] spLk:=by
 refine L.cal (k:=0) q1g (fun vs H Q E h=>?_) (fun f cdv A outer s H vs Q E hr h=>?_)
 ·obtain ⟨a,C,F,o,ss,ls,rfl,_⟩:=h
  rfl
 ·obtain ⟨a,C,F,o,ss,ls,rfl,hF,ha,hrw,nd,hln,k⟩:=h
  have big:=qC
  have hll:ls.length=ss.length:=hrw.1
  have hkl:(dkv (lkD ss ls)).length=ss.length:=by rw[show(dkv (lkD ss ls)).length=(lkD ss ls).length by simp[dkv],q1Y hll]
  refine⟨_,(qd (qy (i:=1) q1g.nd rfl (Or.inl rfl) q4j)
   (qd (q0o PassesOwn.never rfl (qaE K (pv 0)) (q0H (n:=2) K rfl (qE (qr (i:=2) q1g.nd rfl (Or.inl rfl)) (qE (qr (i:=3) q1g.nd rfl (Or.inl rfl)) q0G))) (qj (q2m (q0u hr) (pv 1) (pv 2) (q2n (q0y (N:=["deed","other"]) (own:=2) (caps:=[]) ["walk","links","stand","pairs"] (qh q1b) (by walk_at "k")) rfl (q0c K (pv 3)) (fun _ _ _ _=>(q0H (n:=2) K rfl (qE (qr (i:=0) (show List.Nodup (["deed","other"]:List Str) by walk_at "k") rfl (Or.inl rfl)) (qE (qr (i:=1) (show List.Nodup (["deed","other"]:List Str) by walk_at "k") rfl (Or.inl rfl)) q0G)))) (fun _ _ _ _=>q1N) (fun _ _ _ _=>(pv 1))) rfl)))
   (qj (qu (pv 1))))),?_⟩
  walk_at "r"
  intro D hD
  have d1:DAtS (upd H D (.dT [])) D []:=qg
  have s1:=Same.upd (o:= .dT []) hD
  generalize upd H D (.dT [])=H1 at d1 s1 ⊢
  have ha1:=s1 _ _ ha
  walk_at "r"
  refine⟨a,o,_,rfl,ha1,?_⟩
  refine qaJ (fun i σ H'=>∃v2 v3 ls',σ=[some (.ref a),some (.ref D),v2,v3]/\Same H H'/\DAtS H' D (lkD (ss.take i) ls')/\Rows (LAt (nxF C F)) H' ls' (ss.take i)) ⟨none,none,[],rfl,s1,d1,Rows.nil⟩ ?_ ?_ ?_
  ·rintro i σ H' ⟨_,_,_,rfl,s3,_⟩
   exact s3 _ _ ha
  ·rintro i b T' p σ H' hp hb hT ⟨v2,v3,ls',rfl,s3,hd,hr3⟩
   obtain⟨x,l,hx,hl,rfl⟩:=q4s hll hp
   have hi:i<ss.length:=(yA hx).1
   have ex:ss[i]=x:=(yA hx).2
   have hb':SAt H' b x:=hb
   have s4:=Same.upd (o:= .tup [.ref b,.ref l]) hT
   have h4:=qg (H:=H') (a:=T') (o:= .tup [.ref b,.ref l])
   show _
   generalize upd H' T' (.tup [.ref b,.ref l])=H4 at s4 h4 ⊢
   have s34:=s3.trans s4
   obtain⟨ps,hps,rps⟩:=PrF.same s34 (hrw.2 i l x hl hx)
   have hfl:=hF x
   have et:ss.take (i+1)=ss.take i++[x]:=by rw[List.take_succ_eq_append_getElem hi,ex]
   have hnx:x∉ss.take i:=fun h=>by
    have:=nd.sublist (List.take_sublist (i+1) ss)
    rw[et,List.nodup_append] at this
    exact this.2.2 _ h _ (by simp) rfl
   walk_at "r"
   intro D2 hD2'
   refine q16 (ps.map V.ref) (fun j σ H''=>∃v0 v1,σ=[v0,v1]/\Same H4 H''/\qJ SAt H'' D2 ((nxF C F x).take j)) ⟨none,none,rfl,Same.upd hD2',[],qg,Rows.nil⟩ ?_ ?_ ?_
   ·rintro j σ H'' ⟨_,_,rfl,s5,_⟩
    exact SqL.of (s5 _ _ hps)
   ·rintro j z σ H5 hz ⟨v0,v1,rfl,s5,qs,hqs,rqs⟩
    have hj:j<(F x).length:=by have:=(yA hz).1;rw[yC,rps.1] at this;exact this
    obtain⟨p,ep,hp⟩:=rps.get hj
    rw[hz] at ep
    cases ep
    obtain⟨t,r,e5,_,hr5⟩:=PrAt.mono s5.ts hp
    have hj':j<(nxF C F x).length:=by unfold nxF;rw[yC];exact hj
    have ey:q00 C x (F x)[j].1 ((F x)[j].2:Int)=(nxF C F x)[j]:=by simp[nxF]
    rw[ey] at hr5
    walk_at "r"
    refine⟨_,hqs,by rw[yC,rqs.1,List.length_take];omega,_,_,rfl,s5.put hD2',?_⟩
    rw[List.take_succ_eq_append_getElem hj']
    exact qP (fun _ _=>SAt.put hqs) rqs hr5
   ·rintro σ H5 ⟨v0,v1,rfl,s5,m5⟩
    rw[yC,rps.1,show(F x).length=(nxF C F x).length by simp[nxF],List.take_length] at m5
    have s35:=s34.trans s5
    have hd5:DAtS H5 D _:=(s4.trans s5) _ _ hd
    have hlen:ls'.length=(ss.take i).length:=hr3.1
    walk_at "r"
    refine⟨D,_,rfl,q41 hd5 ((s4.trans s5) _ _ hb') (by rw[q1Y hlen,List.length_take];omega) (by rw[q14 hlen];exact hnx),?_⟩
    refine⟨_,_,ls'++[D2],rfl,s35.put hD,?_,?_⟩
    ·rw [et,q4n hlen]
     exact qg
    ·rw [et]
     exact(hr3.mono fun _ _ z=>LAt.dput hd5 (LAt.mono (s4.trans s5) z)).snoc (LAt.dput hd5 m5)
  ·rintro σ H3 ⟨v2,v3,ls',rfl,s3,hd3,hr3⟩
   rw[hkl,List.take_length] at hd3 hr3
   walk_at "r"
   exact k D ls' H3 s3 hD hd3 hr3
end
structure Cnt (g:Sd->List Sd)(B:List Sd)(L:List (Sd×Int))(pl:Nat):Prop where
 nd:(L.map (·.1)).Nodup
 bg:∀b∈B,b∈L.map (·.1)
 ge:∀x∈L,0<=x.2
 up:∀x∈L,(x.1∈B/\x.2=0)\/∃p∈L,x.1∈g p.1/\x.2=p.2+1
 cl:∀i,i<pl->∀p,L[i]? =some p->∀y∈g p.1,y∈L.map (·.1)
 bz:∀b∈B,(b,(0:Int))∈L
 so:∀(i j:Nat) (p q:Sd×Int),i<=j->L[i]? =some p->L[j]? =some q->p.2<=q.2
 hi:∀p,L[pl]? =some p->∀x∈L,x.2<=p.2+1
 le:∀i,i<pl->∀p,L[i]? =some p->∀y∈g p.1,∀m,(y,m)∈L->m<=p.2+1
structure CntM (g:Sd->List Sd)(B:List Sd)(L:List (Sd×Int))(pl:Nat)(p:Sd×Int)(done:List Sd):Prop extends Cnt g B L pl where
 at':L[pl]? =some p
 dn:∀y∈done,y∈L.map (·.1)
structure CntE (g:Sd->List Sd)(B:List Sd)(L:List (Sd×Int)):Prop where
 nd:(L.map (·.1)).Nodup
 bg:∀b∈B,b∈L.map (·.1)
 ge:∀x∈L,0<=x.2
 up:∀x∈L,(x.1∈B/\x.2=0)\/∃p∈L,x.1∈g p.1/\x.2=p.2+1
 cl:∀p∈L,∀y∈g p.1,y∈L.map (·.1)
 bz:∀b∈B,(b,(0:Int))∈L
 le:∀p∈L,∀y∈g p.1,∀m,(y,m)∈L->m<=p.2+1
section
variable {g:Sd->List Sd}{B:List Sd}{L:List (Sd×Int)}{pl:Nat}{p:Sd×Int}{done:List Sd}{y:Sd}
theorem Cnt.start (hB:B.Nodup):Cnt g B (B.map fun b=>(b,0)) 0:=by
 have e:(B.map fun b=>(b,(0:Int))).map (·.1)=B:=by rw[List.map_map];exact List.map_id B
 have z:∀x∈B.map fun b=>(b,(0:Int)),x.2=0:=fun x hx=>by
  obtain⟨b,_,rfl⟩:=List.mem_map.mp hx
  rfl
 refine⟨by rw[e];exact hB,fun b hb=>by rw[e];exact hb,fun x hx=>?_,fun x hx=>?_,fun i hi=>absurd hi (Nat.not_lt_zero i),fun b hb=>List.mem_map.mpr ⟨b,hb,rfl⟩,fun i j p q _ hp hq=>?_,fun p hp x hx=>?_,fun i hi=>absurd hi (Nat.not_lt_zero i)⟩
 ·obtain ⟨b,_,rfl⟩:=List.mem_map.mp hx
  exact Int.le_refl 0
 ·obtain ⟨b,hb,rfl⟩:=List.mem_map.mp hx
  exact .inl ⟨hb,rfl⟩
 ·rw [z p (List.mem_of_getElem? hp),z q (List.mem_of_getElem? hq)]
  exact Int.le_refl 0
 ·rw [z p (List.mem_of_getElem? hp),z x hx]
  decide
theorem Cnt.mid (h:Cnt g B L pl)(e:L[pl]? =some p):CntM g B L pl p []:=⟨h,e,fun y hy=>nomatch hy⟩
theorem CntM.old (h:CntM g B L pl p done)(hy:y∈L.map (·.1)):CntM g B L pl p (done++[y]):=⟨h.toCnt,h.at',fun z hz=>(List.mem_append.mp hz).elim (h.dn z) fun e=>by rw[List.mem_singleton.mp e];exact hy⟩
theorem CntM.new (h:CntM g B L pl p done)(hn:y∉L.map (·.1))(hy:y∈g p.1):CntM g B (L++[(y,p.2+1)]) pl p (done++[y]):=by
 have hpl:pl<L.length:=(yA h.at').1
 have hm:=List.mem_of_getElem? h.at'
 have e:(L++[(y,p.2+1)]).map (·.1)=L.map (·.1)++[y]:=by rw[List.map_append];rfl
 have inl:∀z,z∈L.map (·.1)->z∈(L++[(y,p.2+1)]).map (·.1):=fun z hz=>by rw[e];exact List.mem_append_left _ hz
 have ep:(L++[(y,p.2+1)])[pl]? =some p:=by rw[List.getElem?_append_left hpl];exact h.at'
 have hh:∀x∈L++[(y,p.2+1)],x.2<=p.2+1:=fun x hx=>by
  rcases List.mem_append.mp hx with hx|hx
  ·exact h.hi p h.at' x hx
  ·rw [List.mem_singleton.mp hx]
   exact Int.le_refl _
 refine⟨⟨?_,fun b hb=>inl b (h.bg b hb),fun x hx=>?_,fun x hx=>?_,fun i hi q hq z hz=>?_,fun b hb=>List.mem_append_left _ (h.bz b hb),fun i j q r hij hq hr=>?_,fun q hq x hx=>?_,fun i hi q hq z hz m hzm=>?_⟩,ep,fun z hz=>?_⟩
 ·rw [e]
  exact List.nodup_append.mpr ⟨h.nd,by simp,fun a ha b hb e=>hn (by rw[List.mem_singleton.mp hb] at e;rw[<-e];exact ha)⟩
 ·rcases List.mem_append.mp hx with hx|hx
  ·exact h.ge x hx
  ·rw [List.mem_singleton.mp hx]
   have:=h.ge p hm
   show 0<=p.2+1
   omega
 ·rcases List.mem_append.mp hx with hx|hx
  ·exact (h.up x hx).imp id fun⟨q,a,b⟩=>⟨q,List.mem_append_left _ a,b⟩
  ·rw [List.mem_singleton.mp hx]
   exact .inr ⟨p,List.mem_append_left _ hm,hy,rfl⟩
 ·rw [List.getElem?_append_left (by omega)] at hq
  exact inl z (h.cl i hi q hq z hz)
 ·by_cases hj:j<L.length
  ·rw [List.getElem?_append_left hj] at hr
   rw[List.getElem?_append_left (by omega)] at hq
   exact h.so i j q r hij hq hr
  ·have hj2:=(yA hr).1
   rw[List.length_append,List.length_singleton] at hj2
   have ej:j=L.length:=by omega
   rw[ej,List.getElem?_append_right (Nat.le_refl _),Nat.sub_self] at hr
   cases hr
   exact hh q (List.mem_of_getElem? hq)
 ·rw [ep] at hq
  cases hq
  exact hh x hx
 ·rw [List.getElem?_append_left (by omega)] at hq
  rcases List.mem_append.mp hzm with hzm|hzm
  ·exact h.le i hi q hq z hz m hzm
  ·have ez:z=y:=congrArg Prod.fst (List.mem_singleton.mp hzm)
   exact absurd (h.cl i hi q hq z hz) (by rw[ez];exact hn)
 ·rcases List.mem_append.mp hz with hz|hz
  ·exact inl z (h.dn z hz)
  ·rw [List.mem_singleton.mp hz,e]
   simp
theorem CntM.next (h:CntM g B L pl p done)(hd:∀y∈g p.1,y∈done):Cnt g B L (pl+1):=by
 refine {h.toCnt with cl:=fun i hi q hq z hz=>?_,hi:=fun q hq x hx=>?_,le:=fun i hi q hq z hz m hm=>?_}
 ·by_cases e:i=pl
  ·rw [e,h.at'] at hq
   cases hq
   exact h.dn z (hd z hz)
  ·exact h.cl i (by omega) q hq z hz
 ·have a:=h.hi p h.at' x hx
  have b:=h.so pl (pl+1) p q (Nat.le_succ _) h.at' hq
  omega
 ·by_cases e:i=pl
  ·rw [e,h.at'] at hq
   cases hq
   exact h.hi p h.at' _ hm
  ·exact h.le i (by omega) q hq z hz m hm
theorem Cnt.end (h:Cnt g B L pl)(hp:L.length<=pl):CntE g B L:=by
 have at':∀p∈L,∃i,i<pl/\L[i]? =some p:=fun p hp'=>by
  obtain⟨i,hi,e⟩:=List.getElem_of_mem hp'
  exact⟨i,by omega,by rw[yB hi,e]⟩
 refine {h with cl:=fun p hp' y hy=>?_,le:=fun p hp' y hy m hm=>?_}
 ·obtain ⟨i,hi,e⟩:=at' p hp'
  exact h.cl i hi p e y hy
 ·obtain ⟨i,hi,e⟩:=at' p hp'
  exact h.le i hi p e y hy m hm
end
def cnL (L:List (Sd×Int)):Dk:=L.map fun x=>(x.1,V.int x.2)
theorem q2b {L:List (Sd×Int)}:(cnL L).map (·.1)=L.map (·.1):=by unfold cnL;rw[List.map_map];rfl
theorem q8Y {L:List (Sd×Int)}:(cnL L).length=L.length:=yC _
theorem q6I {L:List (Sd×Int)}{s:Sd}{n:Int}:cnL (L++[(s,n)])=cnL L++[(s,.int n)]:=by unfold cnL;rw[List.map_append];rfl
theorem q3A {L:List (Sd×Int)}{s:Sd}{n:Int}(nd:(L.map (·.1)).Nodup)(h:(s,n)∈L):dat (cnL L) s=some (.int n):=q6G (by rw[q2b];exact nd) (List.mem_map.mpr ⟨_,h,rfl⟩)
def spCF:Sp:=fun vs H Q _=>∃(b a:Addr) (B ss:List Sd) (f:Sd->List Sd) (ls:List Addr),vs=[.ref b,.ref a]/\qJ SAt H b B/\Rd H a (.dT (dkv (lkD ss ls)))/\Rows (LAt f) H ls ss/\ss.Nodup/\B.Nodup/\(∀x∈B,x∈ss)/\(∀x∈ss,∀y∈f x,y∈ss)/\ss.length<=1000/\
 ∀(d:Addr) (L:List (Sd×Int)) (H':Hp),Same H H'->H d=none->DAtS H' d (cnL L)->CntE f B L->(∀x∈L.map (·.1),x∈ss)->Q (.ref d) H'
section
variable {P:Program}{w:World}{K:W.Frag}{mg:Str->Option Value}{base:Heap}{cs:Cs}
theorem q9X (T:Txt mg cs)(L:Laid K mg "counts_from" q0L ["begins","links"]):Cal P w K mg base 1 "counts_from" ["begins","links"] spCF:=by
 refine L.cal (k:=0) qY (fun vs H Q E h=>?_) (fun f cdv A outer s H vs Q E hr h=>?_)
 ·obtain ⟨b,a,B,ss,f,ls,rfl,_⟩:=h
  rfl
 ·obtain ⟨b,a,B,ss,g,ls,rfl,⟨bs,hb,rb⟩,ha,hrw,nd,ndB,hB,hcl,hln,k⟩:=h
  have big:=qC
  have hBl:B.length<=ss.length:=q2J ndB hB
  refine⟨_,(qd (qy (i:=2) qY.nd rfl (Or.inl rfl) (q0V (lstOfK K) rfl T.n_list q99 (qa (pv 0) qe)))
   (qd (qy (i:=3) qY.nd rfl (Or.inl rfl) q4j)
   (qd (q0o PassesOwn.never rfl (q0c K (pv 0)) (qr (i:=4) qY.nd rfl (Or.inl rfl)) (qj (q2m (q0u hr) (pv 3) (pv 4) qc rfl)))
   (qd (qy (i:=5) qY.nd rfl (Or.inl rfl) qc)
   (qd (q4h PassesOwn.never (qz q75 (pv 5) (qI (lenK K) rfl T.n_len q0p (qa (pv 2) qe)) (qw _)) (qd (qy (i:=6) qY.nd rfl (Or.inl rfl) (qm (q0n K) (pv 2) (pv 5) (fun _ _=>rfl)))
   (qd (qaC (i:=5) qY.nd rfl (Or.inl rfl) qc q8w)
   (qj (q0o PassesOwn.never rfl (q0c K (q2N (q0u hr) (pv 1) (pv 6) (fun _ _=>rfl))) (qr (i:=7) qY.nd rfl (Or.inl rfl)) (qj (q03 (q3o (q2C (q0u hr) (pv 7) (pv 3))) (qd (q2m (q0u hr) (pv 3) (pv 7) (qq q0l (q2N (q0u hr) (pv 3) (pv 6) (fun _ _=>rfl)) qc) rfl)
   (qj (qZ (q3r PySem.F.plainAttrs_list PySem.F.slot_list_append PySem.F.type_list_append q0h (pv 2) (qa (pv 7) qe))))) qD)))))))
   (qj (qu (pv 3)))))))),?_⟩
  walk_at "r"
  refine⟨b,_,rfl,.inl (SqL.of hb),fun R hR=>?_⟩
  have s1:=Same.upd (o:= .lst (bs.map V.ref)) hR
  have h1:=qg (H:=H) (a:=R) (o:= .lst (bs.map V.ref))
  generalize upd H R (.lst (bs.map V.ref))=H1 at s1 h1 ⊢
  have hb1:=s1 _ _ hb
  walk_at "r"
  intro D hD1
  have hD:H D=none:=s1.free hD1
  have s2:=s1.trans (Same.upd (o:= .dT []) hD1)
  have h2:=(Same.upd (o:= .dT []) hD1) _ _ h1
  have hb2:=(Same.upd (o:= .dT []) hD1) _ _ hb1
  have d2:DAtS (upd H1 D (.dT [])) D []:=qg
  generalize upd H1 D (.dT [])=H2 at s2 h2 hb2 d2 ⊢
  walk_at "r"
  refine q21 (bs.map V.ref) (fun i σ H'=>∃v4,σ=[some (.ref b),some (.ref a),some (.ref R),some (.ref D),v4,none,none,none]/\Same H H'/\H' R=some (.lst (bs.map V.ref))/\H' b=some (.lst (bs.map V.ref))/\DAtS H' D (cnL ((B.take i).map fun b=>(b,0)))) ⟨none,rfl,s2,h2,hb2,d2⟩ ?_ ?_ ?_
  ·rintro i σ H' ⟨v4,rfl,_,_,e,_⟩
   exact SqL.of e
  ·rintro i x σ H' hx ⟨v4,rfl,s3,hR3,hb3,hd⟩
   have hi:i<B.length:=by have:=(yA hx).1;rw[yC,rb.1] at this;exact this
   obtain⟨p0,e0,hp0⟩:=rb.get hi
   rw[hx] at e0
   cases e0
   have ek:(cnL ((B.take i).map fun b=>(b,0))).map (·.1)=B.take i:=by rw[q2b,List.map_map];exact List.map_id _
   have hnx:B[i]∉B.take i:=fun z=>by
    have:=ndB.sublist (List.take_sublist (i+1) B)
    rw[List.take_succ_eq_append_getElem hi,List.nodup_append] at this
    exact this.2.2 _ z _ (by simp) rfl
   walk_at "r"
   refine⟨D,_,rfl,q41 hd (s3 _ _ hp0) (by rw[q8Y,yC,List.length_take];omega) (by rw[ek];exact hnx),?_⟩
   have ne1:R≠D:=q2o hR3 hd (by intro z;cases z)
   have ne2:b≠D:=q2o hb3 hd (by intro z;cases z)
   refine⟨_,rfl,s3.put hD,by rw[ql ne1];exact hR3,by rw[ql ne2];exact hb3,?_⟩
   rw[List.take_succ_eq_append_getElem hi,List.map_append,List.map_singleton,q6I]
   exact qg
  ·rintro σ H3 ⟨v4,rfl,s3,hR3,hb3,hd3⟩
   rw[yC,rb.1,List.take_length] at hd3
   have eB:(B.map fun b=>(b,(0:Int))).map (·.1)=B:=by rw[List.map_map];exact List.map_id B
   walk_at "r"
   refine q5P (fun m σ H'=>∃(L:List (Sd×Int)) (pl:Nat) (v6 v7:Option V),σ=[some (.ref b),some (.ref a),some (.ref R),some (.ref D),v4,some (.int pl),v6,v7]/\Same H H'/\qJ SAt H' R (L.map (·.1))/\DAtS H' D (cnL L)/\Cnt g B L pl/\(∀x∈L.map (·.1),x∈ss)/\pl<=(L.map (·.1)).length/\m=2000 - pl) (2000 - 0)
    ⟨B.map fun b=>(b,0),0,none,none,rfl,s3,⟨bs,hR3,by rw[eB];exact rb.mono fun _ _=>SAt.mono s3.ts⟩,hd3,Cnt.start ndB,fun x hx=>by rw[eB] at hx;exact hB x hx,Nat.zero_le _,rfl⟩ ?_
   rintro m σ H4 ⟨L,pl,v6,v7,rfl,s4,⟨qs,hqs,rqs⟩,hd4,ct,hsub,hpl,hm⟩
   have nd4:=ct.nd
   obtain⟨row,hrow⟩:∃row,row=L.map (·.1):=⟨_,rfl⟩
   rw[<-hrow] at rqs nd4 hsub hpl
   have hql:qs.length=row.length:=rqs.1
   have hrl:row.length<=ss.length:=q2J nd4 hsub
   walk_at "r"
   rw[yC,hql]
   refine ifd (fun hlt=>?_) (fun hge=>?_)
   ·have hlt':pl<row.length:=by omega
    obtain⟨q,eq,hq4⟩:=rqs.get hlt'
    generalize hx:row[pl]=x at hq4
    have hrx:row[pl]? =some x:=by rw[yB hlt',hx]
    have hxr:x∈row:=List.mem_of_getElem? hrx
    have hq4:SAt H4 q x:=hq4
    have hxs:=hsub x hxr
    refine⟨fun σ' H'=>∃(L:List (Sd×Int)) (v7:Option V),σ'=[some (.ref b),some (.ref a),some (.ref R),some (.ref D),v4,some (.int ((pl:Int)+1)),some (.ref q),v7]/\Same H H'/\qJ SAt H' R (L.map (·.1))/\DAtS H' D (cnL L)/\Cnt g B L (pl+1)/\(∀x∈L.map (·.1),x∈ss)/\pl+1<=(L.map (·.1)).length,?_,?_⟩
    ·rintro σ' H' ⟨L,v7,rfl,z1,z2,z3,z4,z5,z6⟩
     exact⟨2000 - (pl+1),by omega,L,pl+1,some (.ref q),v7,rfl,z1,z2,z3,z4,z5,z6,rfl⟩
    ·walk_at "r"
     obtain⟨j,hj,ej⟩:=List.getElem_of_mem (hsub x hxr)
     have hll:ls.length=ss.length:=hrw.1
     have hsj:ss[j]? =some x:=by rw[yB hj,ej]
     have hlj:ls[j]? =some (ls[j]'(by omega)):=yB _
     generalize ls[j]'(by omega)=l at hlj
     obtain⟨os,hos,ros⟩:=hrw.2 j l x hlj hsj
     have dg:=q22 (Rd.same s4 ha) hq4
     rw[q8n hll nd hsj hlj] at dg
     refine⟨a,.ref l,rfl,dg,?_⟩
     have hos4:=s4 _ _ hos
     walk_at "r"
     obtain⟨n,hLp⟩:∃n,L[pl]? =some (x,n):=by
      rw[hrow,List.getElem?_map] at hrx
      obtain⟨⟨x',n⟩,h1,h2⟩:=Option.map_eq_some_iff.mp hrx
      cases h2
      exact⟨n,h1⟩
     refine q21 (os.map V.ref) (fun i σ' H'=>∃(L:List (Sd×Int)) (v7:Option V),σ'=[some (.ref b),some (.ref a),some (.ref R),some (.ref D),v4,some (.int ((pl:Int)+1)),some (.ref q),v7]/\Same H H'/\qJ SAt H' R (L.map (·.1))/\DAtS H' D (cnL L)/\CntM g B L pl (x,n) ((g x).take i)/\(∀x∈L.map (·.1),x∈ss)/\SAt H' q x)
      ⟨L,v7,rfl,s4,⟨qs,hqs,hrow▸rqs⟩,hd4,ct.mid hLp,hrow▸hsub,hq4⟩ ?_ ?_ ?_
     ·rintro i σ' H' ⟨_,_,rfl,s5,_⟩
      exact SqL.of (s5 _ _ hos)
     ·rintro i z σ' H5 hz ⟨L,v7,rfl,s5,⟨qs,hqs,rqs⟩,hd5,md,hsub,hx5⟩
      have hi:i<(g x).length:=by have:=(yA hz).1;rw[yC,ros.1] at this;exact this
      obtain⟨p,ep,hp⟩:=ros.get hi
      rw[hz] at ep
      cases ep
      have hp5:SAt H5 p (g x)[i]:=SAt.mono s5.ts hp
      have hy:(g x)[i]∈g x:=List.getElem_mem hi
      rw[List.take_succ_eq_append_getElem hi]
      generalize (g x)[i]=y at hp5 hy ⊢
      have hrl:(L.map (·.1)).length<=ss.length:=q2J md.nd hsub
      have hll2:(L.map (·.1)).length=L.length:=yC _
      walk_at "r"
      refine⟨D,_,rfl,q22 (.inl hd5) hp5,?_⟩
      rw[q0Q,q2b]
      walk_at "r"
      by_cases hin:y∈L.map (·.1)
      ·rw [decide_eq_true hin]
       walk_at "r"
       exact⟨L,_,rfl,s5,⟨qs,hqs,rqs⟩,hd5,md.old hin,hsub,hx5⟩
      ·rw [decide_eq_false hin]
       walk_at "r"
       have hn:=q3A md.nd (List.mem_of_getElem? md.at')
       have dg5:=q22 (.inl hd5) hx5
       rw[hn] at dg5
       refine⟨D,_,rfl,dg5,?_⟩
       walk_at "r"
       have ne1:R≠D:=q2o hqs hd5 (by intro z;cases z)
       refine⟨D,_,rfl,q41 hd5 hp5 (by rw[q8Y];omega) (by rw[q2b];exact hin),?_⟩
       rw[<-q6I]
       have e6:(L++[(y,n+1)]).map (·.1)=L.map (·.1)++[y]:=by rw[List.map_append];rfl
       have hR6:upd H5 D (.dT (dkv (cnL (L++[(y,n+1)])))) R=some (.lst (qs.map V.ref)):=by rw[ql ne1];exact hqs
       have hd6:DAtS (upd H5 D (.dT (dkv (cnL (L++[(y,n+1)]))))) D (cnL (L++[(y,n+1)])):=qg
       walk_at "r"
       refine⟨R,_,_,rfl,rfl,hR6,by rw[yC,rqs.1];omega,?_⟩
       refine⟨L++[(y,n+1)],_,rfl,(s5.put hD).put hR,?_,DAtS.lput hR6 hd6,md.new hin hy,?_,SAt.put hR6 (SAt.mono (q5r hd5) hx5)⟩
       ·rw [e6]
        exact qP (fun _ _=>SAt.put hR6) (rqs.mono fun _ _=>SAt.mono (q5r hd5)) (SAt.mono (q5r hd5) hp5)
       ·rw [e6]
        intro z hz'
        rcases List.mem_append.mp hz' with z1|z1
        ·exact hsub z z1
        ·rw [List.mem_singleton.mp z1];exact hcl x hxs y hy
     ·rintro σ' H5 ⟨L,v7,rfl,s5,hR5,hd5,md,hsub,_⟩
      rw[yC,ros.1,List.take_length] at md
      exact⟨L,v7,rfl,s5,hR5,hd5,md.next fun y hy=>hy,hsub,by rw[yC];exact(yA md.at').1⟩
   ·walk_at "r"
    exact k D L H4 s4 hD hd4 (ct.end (by rw[hrow,yC] at hge hpl;omega)) (hrow▸hsub)
def isO (x:Wd×Nat)(o:Wd×Int):Bool:=decide (x.1=o.1/\(x.2:Int)=o.2)
theorem qb7:∀{a b:Wd},a.str=b.str->a=b:=by
 intro a b h
 cases a<;>cases b<;>first|rfl|exact absurd h (by decide)
theorem eqO (u:Wd×Nat)(o:Wd×Int):eqVs [.str u.1.str,.int ((u.2:Nat):Int)] [.str o.1.str,.int o.2]=isO u o:=by
 show(true&&(decide (u.1.str=o.1.str)&&(decide (((u.2:Nat):Int)=o.2)&&true)))=isO u o
 rw[Bool.true_and,Bool.and_true]
 unfold isO
 rw[Bool.eq_iff_iff,Bool.and_eq_true,decide_eq_true_eq,decide_eq_true_eq,decide_eq_true_eq]
 exact⟨fun h=>⟨qb7 h.1,h.2⟩,fun h=>⟨by rw[h.1],h.2⟩⟩
def canO (C:Cl)(o:Wd×Int)(x:Sd):Bool:=(fitD C x).any fun u=>isO u o
def gl (C:Cl)(oo:Option (Wd×Int))(x:Sd):Bool:=match oo with
 |none=>decide (x.rm=C.lst)
 |some o=>canO C o x
structure WAt (H:Hp)(a:Addr)(C:Cl)(F:Sd->List (Wd×Nat))(row:List Sd):Prop where
 ex:∃(ob:Obj) (ls:List Addr),H a=some (.frz ob (.dT (dkv (lkD row ls))))/\Rows (PrF C F) H ls row
 nd:row.Nodup
 ln:row.length<=288
 fl:∀x,(F x).length<=56
theorem WAt.same {H H':Hp}{a:Addr}{C:Cl}{F:Sd->List (Wd×Nat)}{row:List Sd}(s:Same H H')(h:WAt H a C F row):WAt H' a C F row:=⟨let ⟨o,l,a,b⟩:=h.ex;⟨o,l,s _ _ a,b.mono fun _ _=>PrF.same s⟩,h.nd,h.ln,h.fl⟩
theorem WAt.get {H:Hp}{a q:Addr}{C:Cl}{F:Sd->List (Wd×Nat)}{row:List Sd}{x:Sd}(h:WAt H a C F row)(hx:x∈row)(hq:SAt H q x):∃l,DGet H a (.ref q) (some (.ref l))/\qJ (PrAt C x) H l (F x):=by
 obtain⟨ob,ls,ha,hrw⟩:=h.ex
 obtain⟨j,hj,ej⟩:=List.getElem_of_mem hx
 have hll:ls.length=row.length:=hrw.1
 have hsj:row[j]? =some x:=by rw[yB hj,ej]
 have hlj:ls[j]? =some (ls[j]'(by omega)):=yB _
 refine⟨ls[j]'(by omega),?_,hrw.2 j _ x hlj hsj⟩
 have dg:=q22 (.inr ⟨ob,ha⟩) hq
 rwa [q8n hll h.nd hsj hlj] at dg
def qay:Sp:=fun vs H Q _=>∃(c d:Addr) (C:Cl) (F:Sd->List (Wd×Nat)) (row:List Sd),vs=[.ref c,.ref d]/\ClAt H c C/\WAt H d C F row/\∀(r:Addr) (H':Hp),Same H H'->H r=none->qJ SAt H' r (row.filter (gl C none))->Q (.ref r) H'
def spCTo:Sp:=fun vs H Q _=>∃(e d:Addr) (C:Cl) (F:Sd->List (Wd×Nat)) (row G:List Sd),vs=[.ref e,.ref d]/\qJ SAt H e G/\G.Nodup/\(∀x∈G,x∈row)/\WAt H d C F row/\(∀x∈row,∀y∈nxF C F x,y∈row)/\
 ∀(t:Addr) (L:List (Sd×Int)) (H':Hp),Same H H'->H t=none->DAtS H' t (cnL L)->CntE (gE (eds (nxF C F) row)) G L->(∀x∈L.map (·.1),x∈row)->Q (.ref t) H'
theorem qbL (T:Txt mg cs)(L:Laid K mg "ends_of" q1U ["cellar","walk"]):Cal P w K mg base 1 "ends_of" ["cellar","walk"] qay:=by
 obtain⟨t1,e_ROOM⟩:=T.e_ROOM
 obtain⟨t2,e_LAST⟩:=T.e_LAST
 refine L.cal (k:=0) q6Z (fun vs H Q E h=>?_) (fun f cdv A outer s H vs Q E hr h=>?_)
 ·obtain ⟨c,d,C,F,row,rfl,_⟩:=h
  rfl
 ·obtain ⟨c,d,C,F,row,rfl,hC,hW,k⟩:=h
  have big:=qC
  have hln:=hW.ln
  obtain⟨ob,ls,hd,hrw⟩:=hW.ex
  have hll:ls.length=row.length:=hrw.1
  have hkl:(dkv (lkD row ls)).length=row.length:=by rw[show(dkv (lkD row ls)).length=(lkD row ls).length by simp[dkv],q1Y hll]
  obtain⟨wv,tv,lv,vv,hc,_⟩:=hC.ex
  refine⟨_,(qj (qu (q2n (q0y (N:=["stand","cellar"]) (own:=1) (caps:=[0]) ["cellar","walk"] (qh q1U) (by walk_at "k")) rfl (qaF K (pv 1)) (fun _ _ _ _=>(qr (i:=0) (show List.Nodup (["stand","cellar"]:List Str) by walk_at "k") rfl (Or.inl rfl))) (fun _ _ _ _=>(q3U (qz q07 (qm (qk K) (pv 0) (qv (v:= .int 0) rfl e_ROOM ⟨_,rfl⟩) (fun _ _=>rfl)) (qm (qk K) (pv 1) (qv (v:= .int 2) rfl e_LAST ⟨_,rfl⟩) (fun _ _=>rfl)) (qw _)))) (fun _ _ _ _=>(pv 0))))),?_⟩
  walk_at "r"
  refine⟨d,ob,_,rfl,hd,fun D hD=>?_⟩
  refine qcu (fun i σ H'=>∃v0,σ=[v0,some (.ref c)]/\Same H H'/\qJ SAt H' D ((row.take i).filter (gl C none))) ⟨none,rfl,Same.upd hD,[],qg,Rows.nil⟩ ?_ ?_ ?_
  ·rintro i σ H' ⟨v0,rfl,s2,_⟩
   exact s2 _ _ hd
  ·rintro i b p σ H' hp hb ⟨v0,rfl,s2,qs,hqs,rqs⟩
   obtain⟨x,l,hx,hl,rfl⟩:=q4s hll hp
   have hi:i<row.length:=(yA hx).1
   have ex:row[i]=x:=(yA hx).2
   have hb':H' b=some (.tup [.int x.rm,.int x.tk,.int x.op,.int x.b,.int x.wt]):=hb
   have hc2:=s2 _ _ hc
   have hql:qs.length<=288:=by rw[rqs.1];refine Nat.le_trans (List.length_filter_le _ _) ?_;rw[List.length_take];omega
   rw[List.take_succ_eq_append_getElem hi,ex,List.filter_append]
   walk_at "r"
   refine ifd (fun e=>?_) (fun e=>?_)
   ·walk_at "r"
    refine⟨_,hqs,by rw[yC];omega,_,rfl,s2.put hD,?_⟩
    rw[show [x].filter (gl C none)=[x] by simp[gl,e]]
    exact qP (fun _ _=>SAt.put hqs) rqs hb
   ·refine ⟨_,rfl,s2,qs,hqs,?_⟩
    rw[show [x].filter (gl C none)=[] by simp[gl,e],List.append_nil]
    exact rqs
  ·rintro σ H' ⟨v0,rfl,s2,m2⟩
   rw[hkl,List.take_length] at m2
   exact k D H' s2 hD m2
theorem ok_cto (T:Txt mg cs)(L:Laid K mg "counts_to" q1j ["ends","walk"])(C_links_of:Cal P w K mg base 1 "links_of" ["walk"] spLk)(C_turned_links:Cal P w K mg base 1 "turned_links" ["links"] spTL)(C_counts_from:Cal P w K mg base 1 "counts_from" ["begins","links"] spCF):Cal P w K mg base 2 "counts_to" ["ends","walk"] spCTo:=by
 refine L.cal (k:=1) q4V (fun vs H Q E h=>?_) (fun f cdv A outer s H vs Q E hr h=>?_)
 ·obtain ⟨e,d,C,F,row,G,rfl,_⟩:=h
  rfl
 ·obtain ⟨e,d,C,F,row,G,rfl,hG,ndG,sG,hW,hcl,k⟩:=h
  have big:=qC
  have hln:=hW.ln
  obtain⟨ob,ls,hd,hrw⟩:=hW.ex
  refine⟨_,(qj (qu (qB C_counts_from hr (by decide) rfl (qa (pv 0) (qa (qB C_turned_links hr (by decide) rfl (qa (q85 (qB C_links_of hr (by decide) rfl (qa (pv 1) qe))) qe)) qe))))),?_⟩
  walk_at "r"
  refine⟨d,C,F,ob,row,ls,rfl,hW.fl,hd,hrw,hW.nd,by omega,fun t ls1 H1 s1 ht0 ht rt=>?_⟩
  refine⟨t,_,rfl,ht,fun o1=>?_⟩
  have s2:Same H (upd H1 t (.frz o1 (.dT (dkv (lkD row ls1))))):=s1.put ht0
  have e2:=qg (H:=H1) (a:=t) (o:= .frz o1 (.dT (dkv (lkD row ls1))))
  have r2:Rows (LAt (nxF C F)) (upd H1 t (.frz o1 (.dT (dkv (lkD row ls1))))) ls1 row:=rt.mono fun _ _=>LAt.dput ht
  generalize upd H1 t (.frz o1 (.dT (dkv (lkD row ls1))))=H2 at s2 e2 r2 ⊢
  walk_at "r"
  refine⟨t,o1,row,nxF C F,ls1,rfl,e2,r2,hW.nd,hcl,by omega,fun x _=>by unfold nxF;rw[yC];have:=hW.fl x;omega,fun t3 ls3 H3 s3 ht3 h3 r3=>?_⟩
  walk_at "r"
  obtain⟨gs,hgs,rgs⟩:=hG
  have s23:=s2.trans s3
  refine⟨e,t3,G,row,_,ls3,rfl,⟨gs,s23 _ _ hgs,rgs.mono fun _ _=>SAt.mono s23.ts⟩,.inl h3,r3,hW.nd,ndG,sG,fun x hx y hy=>(q4m.mp (q6D.mp hy)).1,by omega,fun d4 L H4 s4 hd4 h4 ce sb=>?_⟩
  walk_at "r"
  exact k d4 L H4 (s23.trans s4) (s23.free hd4) h4 ce sb
def PthF (C:Cl)(F:Sd->List (Wd×Nat)):Sd->List (Wd×Nat)->Sd->Prop
 |s,[],t=>s=t
 |s,x::r,t=>x∈F s/\PthF C F (q00 C s x.1 (x.2:Int)) r t
theorem PthF.snoc {C:Cl}{F:Sd->List (Wd×Nat)}{x:Wd×Nat}:∀{ds:List (Wd×Nat)} {s t:Sd},PthF C F s ds t->x∈F t->PthF C F s (ds++[x]) (q00 C t x.1 (x.2:Int))
 |[],_,_,h,hx=>by cases h;exact⟨hx,rfl⟩
 |_::_,_,_,h,hx=>⟨h.1,PthF.snoc h.2 hx⟩
theorem q5W {α:Type}[DecidableEq α]:∀{l m:List α},l.Nodup->(∀x∈l,x∈m)->l.length<=m.length
 |[],_,_,_=>Nat.zero_le _
 |x::l,m,hn,h=>by
  rw[List.nodup_cons] at hn
  have hx:=h x (.head _)
  have:=q5W (m:=m.erase x) hn.2 fun y hy=>(List.mem_erase_of_ne fun e=>hn.1 (by rw[<-e];exact hy)).mpr (h y (List.mem_cons_of_mem _ hy))
  rw[List.length_erase_of_mem hx] at this
  have:0<m.length:=List.length_pos_of_mem hx
  rw[List.length_cons]
  omega
theorem CntE.lt {g:Sd->List Sd}{B:List Sd}{L:List (Sd×Int)}(h:CntE g B L){x:Sd×Int}(hx:x∈L):x.2<L.length:=by
 have all:∀n:Nat,∀x∈L,x.2=n->∀k:Nat,k<=n->(k:Int)∈L.map (·.2):=fun n=>by
  induction n with
  |zero=>
   intro x hx e k hk
   obtain rfl:k=0:=by omega
   exact List.mem_map.mpr ⟨x,hx,e⟩
  |succ n ih=>
   intro x hx e k hk
   by_cases ek:k=n+1
   ·exact List.mem_map.mpr ⟨x,hx,by rw[e,ek]⟩
   ·rcases h.up x hx with⟨_,e0⟩|⟨p,hp,_,e2⟩
    ·omega
    ·exact ih p hp (by omega) k (by omega)
 have h0:=h.ge x hx
 have:=q5W (l:=(List.range (x.2.toNat+1)).map fun k:Nat=>(k:Int)) (m:=L.map (·.2)) (List.pairwise_map.mpr (List.nodup_range.imp fun h z=>h (by omega))) fun y hy=>by
  obtain⟨k,hk,rfl⟩:=List.mem_map.mp hy
  exact all x.2.toNat x hx (by omega) k (by have:=List.mem_range.mp hk;omega)
 rw[yC,yC,List.length_range] at this
 omega
def qax:Sp:=fun vs H Q _=>∃(d n q:Addr) (C:Cl) (F:Sd->List (Wd×Nat)) (row:List Sd) (L:List (Sd×Int)) (x:Sd) (m:Int),vs=[.ref d,.ref n,.ref q]/\WAt H d C F row/\DAtS H n (cnL L)/\(L.map (·.1)).Nodup/\SAt H q x/\x∈row/\(x,m)∈L/\(∃y∈nxF C F x,(y,m - 1)∈L)/\
 ∀(r t u:Addr) (z:Wd×Nat) (H':Hp),Same H H'->H' r=some (.tup [.ref t,.ref u])->TAt H' t z->SAt H' u (q00 C x z.1 (z.2:Int))->z∈F x->(q00 C x z.1 (z.2:Int),m - 1)∈L->Q (.ref r) H'
def spRow:Sp:=fun vs H Q _=>∃(e q d:Addr) (C:Cl) (F:Sd->List (Wd×Nat)) (row G:List Sd) (s:Sd),vs=[.ref e,.ref q,.ref d]/\qJ SAt H e G/\G.Nodup/\(∀x∈G,x∈row)/\WAt H d C F row/\SAt H q s/\(∀x,x∈row↔Rch (fun x y=>y∈nxF C F x) s x)/\
 (∀H',Same H H'->G=[]->Q .non H')/\∀(l:Addr) (ds:List (Wd×Nat)) (t:Sd) (H':Hp),Same H H'->H l=none->qJ TAt H' l ds->ds.length<=288->PthF C F s ds t->t∈G->(∀(es:List (Wd×Nat)) (t':Sd),PthF C F s es t'->t'∈G->ds.length<=es.length)->Q (.ref l) H'
theorem qbH (T:Txt mg cs)(L:Laid K mg "nearer" q3b ["walk","counts","stand"]):Cal P w K mg base 1 "nearer" ["walk","counts","stand"] qax:=by
 refine L.cal (k:=0) q3m (fun vs H Q E h=>?_) (fun f cdv A outer s H vs Q E hr h=>?_)
 ·obtain ⟨d,n,q,C,F,row,L,x,m,rfl,_⟩:=h
  rfl
 ·obtain ⟨d,n,q,C,F,row,L,x,m,rfl,hW,hn,nd,hq,hx,hm,hex,k⟩:=h
  have big:=qC
  obtain⟨l,dg,ps,hps,rps⟩:=hW.get hx hq
  have dm:=q22 (.inl hn) hq
  rw[q3A nd hm] at dm
  refine⟨_,(qd (q0o PassesOwn.never rfl (q0c K (q2N (q0u hr) (pv 0) (pv 2) (fun _ _=>rfl))) (q0H (n:=2) K rfl (qE (qr (i:=3) q3m.nd rfl (Or.inl rfl)) (qE (qr (i:=4) q3m.nd rfl (Or.inl rfl)) q0G))) (qj (q03 (qz q07 (q9G (q0u hr) (pv 1) (pv 4) ⟨rfl,rfl,rfl,rfl⟩) (qq q2Y (q2N (q0u hr) (pv 1) (pv 2) (fun _ _=>rfl)) qc) (qw _)) (qj (qu (qG (qa (pv 3) (qa (pv 4) qe))))) qD)))
   (qj (qu q6w))),?_⟩
  walk_at "r"
  refine⟨d,.ref l,rfl,dg,?_⟩
  walk_at "r"
  refine q21 (ps.map V.ref) (fun i σ H'=>∃v3 v4,σ=[some (.ref d),some (.ref n),some (.ref q),v3,v4]/\H'=H/\∀y∈(nxF C F x).take i,(y,m - 1)∉L) ⟨none,none,rfl,rfl,fun y hy=>nomatch hy⟩ ?_ ?_ ?_
  ·rintro i σ H' ⟨_,_,rfl,rfl,_⟩
   exact SqL.of hps
  ·rintro i z σ H' hz ⟨v3,v4,rfl,rfl,no⟩
   have hi:i<(F x).length:=by have:=(yA hz).1;rw[yC,rps.1] at this;exact this
   have hi':i<(nxF C F x).length:=by unfold nxF;rw[yC];exact hi
   obtain⟨pz,ep,hpz⟩:=rps.get hi
   rw[hz] at ep
   cases ep
   obtain⟨t,u,e5,ht5,hu5⟩:=hpz
   have hzF:(F x)[i]∈F x:=List.getElem_mem hi
   have ey:q00 C x (F x)[i].1 ((F x)[i].2:Int)=(nxF C F x)[i]:=by simp[nxF]
   rw[List.take_succ_eq_append_getElem hi',<-ey]
   generalize (F x)[i]=zz at ht5 hu5 hzF ⊢
   generalize hy:q00 C x zz.1 (zz.2:Int)=y at hu5 ⊢
   have hu5:SAt H' u y:=hu5
   have dy:=q22 (.inl hn) hu5
   walk_at "r"
   refine⟨n,rfl,.inr ⟨_,.inl hn⟩,?_⟩
   walk_at "r"
   refine⟨_,dy,?_⟩
   walk_at "r"
   refine⟨n,.int m,rfl,dm,?_⟩
   walk_at "r"
   by_cases hin:∃v,(y,v)∈L
   ·obtain ⟨v,hv⟩:=hin
    have ev:=q3A nd hv
    rw[ev]
    show rEq (.int v) (.int (m - 1)) _ _
    walk_at "r"
    refine ifd (fun e=>?_) (fun e=>?_)
    ·walk_at "r"
     intro r hr0
     have s1:=Same.upd (o:= .tup [.ref t,.ref u]) hr0
     exact k r t u zz _ s1 qg (s1 _ _ ht5) (by rw[hy];exact s1 _ _ hu5) hzF (by rw[hy,<-e];exact hv)
    ·refine ⟨_,_,rfl,rfl,fun y1 h1=>?_⟩
     rcases List.mem_append.mp h1 with h1|h1
     ·exact no y1 h1
     ·rw [List.mem_singleton.mp h1]
      intro z
      have:=q3A nd z
      rw[ev] at this
      injection this with this
      injection this with this
      exact e this
   ·have en:dat (cnL L) y=none:=by
     have:=q0Q (l:=cnL L) (s:=y)
     rw[q2b,decide_eq_false fun z=>hin (let ⟨p,a,b⟩:=List.mem_map.mp z;⟨p.2,by rw[<-b];exact a⟩)] at this
     cases e:dat (cnL L) y with
     |none=>rfl
     |some v=>rw[e] at this;cases this
    rw[en]
    refine⟨rfl,?_⟩
    rw[show decide (Option.getD none V.non=V.int (m - 1))=false by simp]
    walk_at "r"
    refine⟨_,_,rfl,rfl,fun y1 h1=>?_⟩
    rcases List.mem_append.mp h1 with h1|h1
    ·exact no y1 h1
    ·rw [List.mem_singleton.mp h1]
     exact fun z=>hin ⟨_,z⟩
  ·rintro σ H' ⟨v3,v4,rfl,rfl,no⟩
   obtain⟨y,hy,hL⟩:=hex
   rw[yC,rps.1,show(F x).length=(nxF C F x).length by simp[nxF],List.take_length] at no
   exact absurd hL (no y hy)
theorem ok_row (T:Txt mg cs)(L:Laid K mg "row_to" q3a ["ends","begin","walk"])(C_counts_to:Cal P w K mg base 2 "counts_to" ["ends","walk"] spCTo)(C_nearer:Cal P w K mg base 1 "nearer" ["walk","counts","stand"] qax):Cal P w K mg base 3 "row_to" ["ends","begin","walk"] spRow:=by
 refine L.cal (k:=2) q1a (fun vs H Q E h=>?_) (fun f cdv A outer s H vs Q E hr h=>?_)
 ·obtain ⟨e,q,d,C,F,row,G,st,rfl,_⟩:=h
  rfl
 ·obtain ⟨e,q,d,C,F,row,G,st,rfl,hG,ndG,sG,hW,hq,rch,kn,ky⟩:=h
  have big:=qC
  have hln:=hW.ln
  have hcl:∀x∈row,∀y∈nxF C F x,y∈row:=fun x hx y hy=>(rch y).mpr (((rch x).mp hx).step hy)
  refine⟨_,(qd (qy (i:=3) q1a.nd rfl (Or.inl rfl) (qB C_counts_to hr (by decide) rfl (qa (pv 0) (qa (pv 2) qe))))
   (qd (q03 (q3o (q2C (q0u hr) (pv 1) (pv 3))) (qj (qu q6w)) qD)
   (qd (qy (i:=4) q1a.nd rfl (Or.inl rfl) (q0w qe))
   (qd (qy (i:=5) q1a.nd rfl (Or.inl rfl) (pv 1))
   (qd (q4h PassesOwn.never (qz q34 (q2N (q0u hr) (pv 3) (pv 5) (fun _ _=>rfl)) qc (qw _)) (qd (qy (i:=6) q1a.nd rfl (Or.inl rfl) (qB C_nearer hr (by decide) rfl (qa (pv 2) (qa (pv 3) (qa (pv 5) qe)))))
   (qd (qZ (q3r PySem.F.plainAttrs_list PySem.F.slot_list_append PySem.F.type_list_append q0h (pv 4) (qa (qm (qk K) (pv 6) qc (fun _ _=>rfl)) qe)))
   (qj (qy (i:=5) q1a.nd rfl (Or.inl rfl) (qm (qk K) (pv 6) qc (fun _ _=>rfl)))))))
   (qj (qu (pv 4)))))))),?_⟩
  walk_at "r"
  refine⟨e,d,C,F,row,G,rfl,hG,ndG,sG,hW,hcl,fun n L H1 s1 hn0 hn ce sb=>?_⟩
  have hLl:L.length<=row.length:=by have:=q2J ce.nd sb;rwa [yC] at this
  have hq1:SAt H1 q st:=s1 _ _ hq
  walk_at "r"
  refine⟨n,_,rfl,q22 (.inl hn) hq1,?_⟩
  rw[q0Q,q2b]
  walk_at "r"
  have back:∀x y,y∈nxF C F x->x∈row->y∈L.map (·.1)->x∈L.map (·.1):=fun x y hy hx hm=>by
   obtain⟨p,hp,rfl⟩:=List.mem_map.mp hm
   exact ce.cl p hp x (q6D.mpr (q4m.mpr ⟨hx,hy⟩))
  by_cases hin:st∈L.map (·.1)
  ·rw [decide_eq_true hin]
   walk_at "r"
   intro R hR
   generalize hG2:upd _ R _=H2
   have s2:=q0a hG2 hR
   have hR2:=q0b hG2
   have hR0:H R=none:=s1.free hR
   obtain⟨⟨st',c0⟩,h0,rfl⟩:=List.mem_map.mp hin
   have hc0:=ce.lt h0
   have hc1:=ce.ge _ h0
   dsimp only at hc0 hc1
   walk_at "r"
   refine q5P (fun m σ H'=>∃(hp:Addr) (x:Sd) (c:Int) (ds:List (Wd×Nat)) (v6:Option V),σ=[some (.ref e),some (.ref q),some (.ref d),some (.ref n),some (.ref R),some (.ref hp),v6]/\Same H H'/\Same H1 H'/\SAt H' hp x/\(x,c)∈L/\qJ TAt H' R ds/\PthF C F st' ds x/\(ds.length:Int)+c=c0/\m=c.toNat) c0.toNat ⟨q,st',c0,[],none,rfl,s1.trans s2,s2,s2 _ _ hq1,h0,⟨[],hR2,Rows.nil⟩,rfl,by simp,rfl⟩ ?_
   rintro m σ H3 ⟨hp,x,c,ds,v6,rfl,s3,s13,hp3,hxc,⟨ps,hps,rps⟩,pth,ec,hm⟩
   have hn3:DAtS H3 n (cnL L):=s13 _ _ hn
   have dg:=q22 (.inl hn3) hp3
   rw[q3A ce.nd hxc] at dg
   have c0':=ce.ge _ hxc
   dsimp only at c0'
   walk_at "r"
   refine⟨n,.int c,rfl,dg,?_⟩
   walk_at "r"
   refine ifd (fun hpos=>?_) (fun hz=>?_)
   ·refine ⟨fun σ' H'=>∃(hp:Addr) (x:Sd) (ds:List (Wd×Nat)) (v6:Option V),σ'=[some (.ref e),some (.ref q),some (.ref d),some (.ref n),some (.ref R),some (.ref hp),v6]/\Same H H'/\Same H1 H'/\SAt H' hp x/\(x,c - 1)∈L/\qJ TAt H' R ds/\PthF C F st' ds x/\(ds.length:Int)+(c - 1)=c0,?_,?_⟩
    ·rintro σ' H' ⟨hp,x,ds,v6,rfl,z1,z2,z3,z4,z5,z6,z7⟩
     exact⟨(c - 1).toNat,by omega,hp,x,c - 1,ds,v6,rfl,z1,z2,z3,z4,z5,z6,z7,rfl⟩
    ·walk_at "r"
     have hxr:x∈row:=sb x (List.mem_map.mpr ⟨_,hxc,rfl⟩)
     obtain⟨y,hy,hyL⟩:∃y∈nxF C F x,(y,c - 1)∈L:=by
      rcases ce.up _ hxc with⟨_,z⟩|⟨p,hp,z1,z2⟩
      ·dsimp only at z
       omega
      ·dsimp only at z1 z2
       exact⟨p.1,(q4m.mp (q6D.mp z1)).2,by rw[show c - 1=p.2 by omega];exact hp⟩
     refine⟨d,n,hp,C,F,row,L,x,c,rfl,hW.same s3,hn3,ce.nd,hp3,hxr,hxc,⟨y,hy,hyL⟩,fun r t u z H4 s4 hr4 ht4 hu4 hz4 hL4=>?_⟩
     have hps4:=s4 _ _ hps
     walk_at "r"
     refine q4g hps4 (by rw[yC,rps.1];omega) ?_
     have ts5:=q0f.lst (o:= .lst (ps.map V.ref++[.ref t])) hps4
     have hr5:=ts5 _ _ hr4
     have m5:qJ TAt (upd H4 R (.lst (ps.map V.ref++[.ref t]))) R (ds++[z]):=qP (fun _ _ h=>TAt.mono ts5 h) (rps.mono fun _ _=>TAt.mono s4.ts) ht4
     have s5:Same H (upd H4 R (.lst (ps.map V.ref++[.ref t]))):=(s3.trans s4).put hR0
     have s15:Same H1 (upd H4 R (.lst (ps.map V.ref++[.ref t]))):=(s13.trans s4).put hR
     generalize upd H4 R (.lst (ps.map V.ref++[.ref t]))=H5 at ts5 hr5 m5 s5 s15 ⊢
     walk_at "r"
     exact⟨u,_,ds++[z],_,rfl,s5,s15,SAt.mono ts5 hu4,hL4,m5,pth.snoc hz4,by rw[List.length_append,List.length_singleton];omega⟩
   ·walk_at "r"
    refine ky R ds x H3 s3 hR0 ⟨ps,hps,rps⟩ (by omega) pth ?_ fun es t' pt ht'=>?_
    case' refine_2=>
     have key:∀(es:List (Wd×Nat)) (x:Sd),x∈row->PthF C F x es t'->∃m,(x,m)∈L/\m<=(es.length:Int):=fun es=>by
      induction es with
      |nil=>exact fun x _ e=>⟨0,by rw[show x=t' from e];exact ce.bz t' ht',by simp⟩
      |cons u es ih=>
       intro x hx e
       have hn:q00 C x u.1 (u.2:Int)∈nxF C F x:=List.mem_map.mpr ⟨u,e.1,rfl⟩
       obtain⟨m,hm,hle⟩:=ih _ (hcl x hx _ hn) e.2
       obtain⟨⟨x',m'⟩,hm',ex⟩:=List.mem_map.mp (back x _ hn hx (List.mem_map.mpr ⟨_,hm,rfl⟩))
       cases ex
       refine⟨m',hm',?_⟩
       have:=ce.le _ hm x' (q6D.mpr (q4m.mpr ⟨hx,hn⟩)) m' hm'
       dsimp only at this
       rw[List.length_cons]
       omega
     obtain⟨m,hm,hle⟩:=key es st' ((rch st').mpr .refl) pt
     have e1:=congrArg (fun z=>z) (q3A ce.nd hm)
     rw[q3A ce.nd h0] at e1
     cases e1
     omega
    rcases ce.up _ hxc with⟨z,_⟩|⟨p,hp,_,z2⟩
    ·exact z
    ·have:=ce.ge p hp
     dsimp only at z2
     omega
  ·rw [decide_eq_false hin]
   walk_at "r"
   refine kn H1 s1 ?_
   cases G with
   |nil=>rfl
   |cons g G=>
    exfalso
    refine hin ?_
    have key:∀x,Rch (fun x y=>y∈nxF C F x) st x->x∈L.map (·.1)->st∈L.map (·.1):=fun x r=>by
     induction r with
     |refl=>exact id
     |step r1 r2 ih=>exact fun h=>ih (back _ _ r2 ((rch _).mpr r1) h)
    exact key g ((rch g).mp (sG g (.head _))) (ce.bg g (.head _))
def st0 (C:Cl):Sd:=⟨C.fst,0,0,C.bars,C.water⟩
def q5J:Sp:=fun vs H Q _=>∃(c:Addr) (v:V) (C:Cl),vs=[.ref c,v]/\ClAt H c C/\((v= .non/\∀(p:Addr) (H':Hp),Same H H'->SAt H' p (st0 C)->Q (.ref p) H')\/∃q,v= .ref q/\Q (.ref q) H)
theorem q9c {c:Addr}{v:V}{C:Cl}{s:Sd}{H:Hp}{Q:VK}{E:XK}(hC:ClAt H c C)(hs:(v= .non/\s=st0 C)\/∃q,v= .ref q/\SAt H q s)(k:∀(q:Addr) (H1:Hp),Same H H1->SAt H1 q s->Q (.ref q) H1):q5J [.ref c,v] H Q E:=by
 refine⟨c,v,C,rfl,hC,?_⟩
 rcases hs with⟨rfl,rfl⟩|⟨q,rfl,hq⟩
 ·exact .inl ⟨rfl,k⟩
 ·exact .inr ⟨q,rfl,k q H (Same.refl H) hq⟩
theorem q9Z (T:Txt mg cs)(L:Laid K mg "begin_of" q25 ["cellar","stand"])(C_start:Cal P w K mg base 1 "start" ["cellar"] q5F):Cal P w K mg base 2 "begin_of" ["cellar","stand"] q5J:=by
 refine L.cal (k:=1) q5K (fun vs H Q E h=>?_) (fun f cdv A outer s H vs Q E hr h=>?_)
 ·obtain ⟨c,v,C,rfl,_⟩:=h
  rfl
 ·obtain ⟨c,v,C,rfl,hC,h⟩:=h
  refine⟨_,(qj (qu (q4i (q3o (q88 (pv 1))) (qB C_start hr (by decide) rfl (qa (pv 0) qe)) (pv 1)))),?_⟩
  rcases h with⟨rfl,k⟩|⟨q,rfl,k⟩
  ·walk_at "r"
   refine ifd (fun _=>?_) (fun z=>absurd rfl z)
   walk_at "r"
   exact⟨c,C,rfl,hC,fun p H' s' hp=>k p H' s' hp⟩
  ·walk_at "r"
   refine ifd (fun z=>nomatch z) (fun _=>?_)
   walk_at "r"
   exact k
def q3l (K:W.Frag):Sp:=fun vs H Q _=>∃(a:Addr) (ns:List Int) (i:Int),vs=[.ref a,.int i]/\SqL K H a (ns.map V.int)/\ns.length<=63/\0<=i/\i<=100000/\∀c:Int,Q (.int c) H
def K3 (H:Hp)(a:Addr):Prop:=∃k0 k1 k2:Int,H a=some (.lst [.int k0,.int k1,.int k2])/\(0<=k0/\k0<12)/\(0<=k1/\k1<12)/\(0<=k2/\k2<12)
theorem K3.same {H H':Hp}{a:Addr}(s:Same H H')(h:K3 H a):K3 H' a:=let ⟨x,y,z,e,r⟩:=h;⟨x,y,z,s _ _ e,r⟩
def q7E:Sp:=fun vs H Q _=>∃(c:Int) (ks:Addr),vs=[.int c,.ref ks]/\K3 H ks/\∀(p:Addr) (gt:Gt) (H':Hp),Same H H'->gt.ok->H' p=some (.tup gt.vs)->Q (.ref p) H'
def isDr (x:Way):Bool:=x.g.dk.isSome
def q6i (K:W.Frag):Sp:=fun vs H Q _=>∃(a ks:Addr) (ns:List Int) (R dn:Int),vs=[.ref a,.int R,.int dn,.ref ks]/\SqL K H a (ns.map V.int)/\ns.length<=63/\1<=R/\R<=14/\0<=dn/\dn<=8/\K3 H ks/\∀(p:Addr) (ws:List Way) (H':Hp),Same H H'->q3P q2I H' p ws->(∀x∈ws,WOk R x)->ws.length<=17->(ws.countP isDr:Int)<=dn->Q (.ref p) H'
theorem seq4 {A1 A2 A3 A4 B:TS}{D:Ends}{σ:St}{H:Hp}(M:St->Hp->Prop)(h2:∀σ H,M σ H->B D σ H)(h1:∀B:TS,(∀σ H,M σ H->B D σ H)->tSeq A1 (tSeq A2 (tSeq A3 (tSeq A4 B))) D σ H):tSeq A1 (tSeq A2 (tSeq A3 (tSeq A4 B))) D σ H:=h1 B h2
theorem seq2 {A1 A2 B:TS}{D:Ends}{σ:St}{H:Hp}(M:St->Hp->Prop)(h2:∀σ H,M σ H->B D σ H)(h1:∀B:TS,(∀σ H,M σ H->B D σ H)->tSeq A1 (tSeq A2 B) D σ H):tSeq A1 (tSeq A2 B) D σ H:=h1 B h2
theorem qcb (gt:Gt):atI gt.vs 0=some (.str gt.word):=by cases gt<;>rfl
theorem qca (gt:Gt):decide (gt.word="door")=gt.dk.isSome:=by cases gt<;>first|rfl|decide
theorem at3 {k0 k1 k2 c:Int}(h0:0<=k0/\k0<12)(h1:0<=k1/\k1<12)(h2:0<=k2/\k2<12):∃k,atI [V.int k0,V.int k1,V.int k2] (c % 3)=some (.int k)/\0<=k/\k<12:=by
 obtain h|h|h:c % 3=0\/c % 3=1\/c % 3=2:=by omega
 ·exact ⟨k0,by rw[h];rfl,h0⟩
 ·exact ⟨k1,by rw[h];rfl,h1⟩
 ·exact ⟨k2,by rw[h];rfl,h2⟩
theorem q9Y (T:Txt mg cs)(L:Laid K mg "_law_cell" q1q ["_law_script","_law_k"]):Cal P w K mg base 1 "_law_cell" ["_law_script","_law_k"] (q3l K):=by
 refine L.cal (k:=0) q1T (fun vs H Q E h=>?_) (fun f cdv A outer s H vs Q E hr h=>?_)
 ·obtain ⟨a,ns,i,rfl,_⟩:=h
  rfl
 ·obtain ⟨a,ns,i,rfl,hS,hl,h0,h1,k⟩:=h
  have hlm:(ns.map V.int).length=ns.length:=yC _
  refine⟨_,(qd (q03 (qz q75 (pv 1) (qI (lenK K) rfl T.n_len q0p (qa (pv 0) qe)) (qw _)) (qj (qu (qm (q0n K) (pv 0) (pv 1) (fun _ _=>rfl)))) qD)
   (qd (qy (i:=2) q1T.nd rfl (Or.inl rfl) (qq q0l (qq q3W (pv 1) qc) qc))
   (qd (q03 (qz q34 (qI (lenK K) rfl T.n_len q0p (qa (pv 0) qe)) qc (qw _)) (qj (qy (i:=2) q1T.nd rfl (Or.inl rfl) (qq qM (qq q0l (qq q3W (qm (q0n K) (pv 0) (qq qM (qq q3W (pv 1) qc) (qI (lenK K) rfl T.n_len q0p (qa (pv 0) qe))) (fun _ _=>rfl)) qc) (qq q3W (pv 1) qc)) qc))) qD)
   (qj (qu (qq qM (qq q3W (pv 2) (pv 2)) qc)))))),?_⟩
  walk_at "r"
  rw[hlm]
  refine ifd (fun h=>?_) (fun h=>?_)
  ·obtain ⟨j,rfl⟩:∃j:Nat,i=(j:Int):=⟨i.toNat,by omega⟩
   walk_at "r"
   refine q4f hS (q6N (by omega)) ?_
   walk_at "r"
   exact k _
  ·walk_at "r"
   rw[hlm]
   refine ifd (fun h2=>?_) (fun h2=>?_)
   ·have hlp:(0:Int)<((ns.map V.int).length:Int):=by rw[hlm];omega
    walk_at "r"
    rw[hlm]
    obtain⟨j,hj,ej⟩:=q8j (i*7) ns.length (by omega)
    rw[ej]
    refine q4f hS (q6N hj) ?_
    have a0:=q09 (ns.getD j 0*48271+i*3001) (n:=2147483647) (by decide)
    have a1:=q0e (ns.getD j 0*48271+i*3001) (n:=2147483647) (by decide)
    walk_at "r"
    generalize (ns.getD j 0*48271+i*3001) % 2147483647=z at a0 a1 ⊢
    exact k _
   ·walk_at "r"
    exact k _
theorem q9T (T:Txt mg cs)(L:Laid K mg "_law_gate" q1p ["_law_cell_here","_law_kinds"]):Cal P w K mg base 1 "_law_gate" ["_law_cell_here","_law_kinds"] q7E:=by
 refine L.cal (k:=0) q2U (fun vs H Q E h=>?_) (fun f cdv A outer s H vs Q E hr h=>?_)
 ·obtain ⟨c,ks,rfl,_⟩:=h
  rfl
 ·obtain ⟨c,ks,rfl,⟨k0,k1,k2,hk,b0,b1,b2⟩,k⟩:=h
  obtain⟨kd,ek,d0,d1⟩:=at3 (c:=c / 12) b0 b1 b2
  have e8:=q09 (c / 12) (n:=8) (by decide)
  have e8':=q0e (c / 12) (n:=8) (by decide)
  have e10:=q09 (c / 12) (n:=10) (by decide)
  have e10':=q0e (c / 12) (n:=10) (by decide)
  have f10:=q09 (c / 36) (n:=10) (by decide)
  have f10':=q0e (c / 36) (n:=10) (by decide)
  refine⟨_,(qd (qy (i:=2) q2U.nd rfl (Or.inl rfl) (qm (q0n K) (pv 1) (qq qM (qq q0r (pv 0) qc) qc) (fun _ _=>rfl)))
   (qd (q03 (qz q75 (qq qM (pv 0) qc) qc (qw _)) (qj (qu (qG (qa qK (qa (pv 2) qe))))) qD)
   (qd (q03 (qz q75 (qq qM (pv 0) qc) qc (qw _)) (qj (qu (qG (qa qK (qa (pv 2) qe))))) qD)
   (qd (q03 (qz q07 (qq qM (pv 0) qc) qc (qw _)) (qj (qu (qG (qa qK (qa (qq qM (qq q0r (pv 0) qc) qc) qe))))) qD)
   (qd (q03 (qz q07 (qq qM (pv 0) qc) qc (qw _)) (qj (qu (qG (qa qK (qa (qq qM (qq q0r (pv 0) qc) qc) (qa (pv 2) qe)))))) qD)
   (qd (q03 (qz q07 (qq qM (pv 0) qc) qc (qw _)) (qj (qu (qG (qa qK (qa (qq qM (qq q0r (pv 0) qc) qc) qe))))) qD)
   (qj (qu (qG (qa qK qe)))))))))),?_⟩
  walk_at "r"
  refine ifd (fun _=>?_) (fun _=>?_)
  ·walk_at "r"
   exact fun p hp=>k p (.need kd) _ (Same.upd hp) (show 0<=kd/\kd<12 from⟨d0,d1⟩) qg
  walk_at "r"
  refine ifd (fun _=>?_) (fun _=>?_)
  ·walk_at "r"
   exact fun p hp=>k p (.door kd) _ (Same.upd hp) (show 0<=kd/\kd<12 from⟨d0,d1⟩) qg
  walk_at "r"
  refine ifd (fun _=>?_) (fun _=>?_)
  ·walk_at "r"
   exact fun p hp=>k p (.bar (c / 12 % 8)) _ (Same.upd hp) (show 0<=c / 12 % 8/\c / 12 % 8<8 from⟨e8,e8'⟩) qg
  walk_at "r"
  refine ifd (fun _=>?_) (fun _=>?_)
  ·walk_at "r"
   exact fun p hp=>k p (.wade (c / 36 % 10) kd) _ (Same.upd hp) (show(0<=c / 36 % 10/\c / 36 % 10<10)/\0<=kd/\kd<12 from⟨⟨f10,f10'⟩,d0,d1⟩) qg
  walk_at "r"
  refine ifd (fun _=>?_) (fun _=>?_)
  ·walk_at "r"
   exact fun p hp=>k p (.float (c / 12 % 10)) _ (Same.upd hp) (show 0<=c / 12 % 10/\c / 12 % 10<10 from⟨e10,e10'⟩) qg
  walk_at "r"
  exact fun p hp=>k p .plain _ (Same.upd hp) trivial qg
theorem qbE (T:Txt mg cs)(L:Laid K mg "_law_ways" q1l ["_law_script","_law_rooms","_law_doors","_law_kinds"])(C__law_cell:Cal P w K mg base 1 "_law_cell" ["_law_script","_law_k"] (q3l K))(C__law_gate:Cal P w K mg base 1 "_law_gate" ["_law_cell_here","_law_kinds"] q7E):Cal P w K mg base 2 "_law_ways" ["_law_script","_law_rooms","_law_doors","_law_kinds"] (q6i K):=by
 refine L.cal (k:=1) qS (fun vs H Q E h=>?_) (fun f cdv A outer s H vs Q E hr h=>?_)
 ·obtain ⟨a,ks,ns,R,dn,rfl,_⟩:=h
  rfl
 ·obtain ⟨a,ks,ns,R,dn,rfl,hS,hl,R1,R2,dn0,dn1,hk,k⟩:=h
  have big:=qC
  have R0:0<R:=by omega
  refine⟨_,(qd (qy (i:=4) qS.nd rfl (Or.inl rfl) (q0w qe))
   (qd (q0o PassesOwn.never rfl (qT rfl T.n_range (qa (qq q0l (qq q2Y (pv 1) qc) (qq q3W (qq qM (qB C__law_cell hr (by decide) rfl (qa (pv 0) (qa qc qe))) qc) (q0V int1 rfl T.n_int q9a (qa (qW q34 (pv 1) qc (qw _)) qe)))) qe)) (qr (i:=5) qS.nd rfl (Or.inl rfl)) (qd (qy (i:=6) qS.nd rfl (Or.inl rfl) (qq qM (qB C__law_cell hr (by decide) rfl (qa (pv 0) (qa (qq q0l qc (pv 5)) qe))) (qq q5j qc qc)))
   (qd (qy (i:=7) qS.nd rfl (Or.inl rfl) (qq qM (pv 6) (pv 1)))
   (qd (qy (i:=8) qS.nd rfl (Or.inl rfl) (qq qM (qq q0l (qq q0l (pv 7) qc) (qq qM (qq q0r (pv 6) qc) (qI (max2 rfl) rfl T.n_max bt_max (qa qc (qa (qq q2Y (pv 1) qc) qe))))) (pv 1)))
   (qd (q03 (qz q75 (pv 5) (qq q2Y (pv 1) qc) (qw _)) (qd (qy (i:=7) qS.nd rfl (Or.inl rfl) (qq qM (pv 6) (qq q0l (pv 5) qc)))
   (qj (qy (i:=8) qS.nd rfl (Or.inl rfl) (qq q0l (pv 5) qc)))) qD)
   (qd (qy (i:=9) qS.nd rfl (Or.inl rfl) (qB C__law_gate hr (by decide) rfl (qa (qq q0r (pv 6) qc) (qa (pv 3) qe))))
   (qd (q03 (PW.pt (q2A (qz q07 (qm (qk K) (pv 9) qc (fun _ _=>rfl)) qK (qw _)) (q1X (qz q07 (pv 2) qc (qw _))))) (qj (qy (i:=9) qS.nd rfl (Or.inl rfl) (qG (qa qK qe)))) qD)
   (qd (qy (i:=2) qS.nd rfl (Or.inl rfl) (qq q2Y (pv 2) (q0V int1 rfl T.n_int q9a (qa (qW q07 (qm (qk K) (pv 9) qc (fun _ _=>rfl)) qK (qw _)) qe))))
   (qj (qZ (q3r PySem.F.plainAttrs_list PySem.F.slot_list_append PySem.F.type_list_append q0h (pv 4) (qa (qG (qa (pv 7) (qa (pv 8) (qa (pv 9) (qa (qW q34 (qq qM (qq q0r (pv 6) qc) qc) qc (qw _)) qe))))) qe))))))))))))
   (qj (qu (q0V (q6f K) rfl T.n_tuple q3g (qa (pv 4) qe)))))),?_⟩
  walk_at "r"
  intro D hD
  have s1:=Same.upd (o:= .lst []) hD
  have h1:=qg (H:=H) (a:=D) (o:= .lst [])
  generalize upd H D (.lst [])=H1 at s1 h1 ⊢
  walk_at "r"
  refine⟨a,ns,1,rfl,s1.seq hS,hl,by decide,by decide,fun c1=>?_⟩
  have m0:=q09 c1 (n:=5) (by decide)
  have m1:=q0e c1 (n:=5) (by decide)
  walk_at "r"
  obtain⟨N,eN,N0,N1,NR⟩:∃N:Int,(R - 1+c1 % 5*if decide (1<R)=true then 1 else 0)=N/\0<=N/\N<=17/\(0<N->1<R):=by
   by_cases h:1<R
   ·exact ⟨_,rfl,by simp[h];omega,by simp[h];omega,fun _=>h⟩
   ·exact ⟨_,rfl,by simp[h];omega,by simp[h];omega,fun z=>by rw[decide_eq_false h] at z;simp at z;omega⟩
  rw[eN]
  refine r_rg (by omega) ?_
  refine q1K (fun i σ H'=>∃(dv:Int) (v5 v6 v7 v8 v9:Option V) (ws:List Way),σ=[some (.ref a),some (.int R),some (.int dv),some (.ref ks),some (.ref D),v5,v6,v7,v8,v9]/\Same H H'/\0<=dv/\qJ q2I H' D ws/\(∀x∈ws,WOk R x)/\ws.length=i/\(ws.countP isDr:Int)+dv=dn) ⟨dn,none,none,none,none,none,[],rfl,s1,dn0,⟨[],h1,Rows.nil⟩,(fun x hx=>nomatch hx),rfl,by simp⟩ ?_ ?_
  ·rintro i σ H2 hi ⟨dv,v5,v6,v7,v8,v9,ws,rfl,s2,dv0,⟨ps,hps,rps⟩,wo,wl,wd⟩
   have hi17:i<17:=by omega
   have R3:1<R:=NR (by omega)
   show tSeq _ _ _ _ _
   refine seq4 (fun σ H'=>∃(z wa wb:Int),σ=[some (.ref a),some (.int R),some (.int dv),some (.ref ks),some (.ref D),some (.int (0+(i:Nat))),some (.int z),some (.int wa),some (.int wb),v9]/\H'=H2/\(0<=wa/\wa<R)/\(0<=wb/\wb<R)/\wa≠wb) ?_ (fun B fin=>?_)
   ·rintro σ H3 ⟨z,wa,wb,rfl,rfl,ra,rb,ne⟩
    refine seq2 (fun σ H'=>∃(g:Addr) (gt:Gt),σ=[some (.ref a),some (.int R),some (.int dv),some (.ref ks),some (.ref D),some (.int (0+(i:Nat))),some (.int z),some (.int wa),some (.int wb),some (.ref g)]/\Same H3 H'/\H' g=some (.tup gt.vs)/\gt.ok/\(gt.dk.isSome=true->dv≠0)) ?_ (fun B fin=>?_)
    ·rintro σ H4 ⟨g,gt,rfl,s4,hg,gok,gd⟩
     have hps4:=s4 _ _ hps
     have hw:=qcb gt
     have hdr:=qca gt
     walk_at "r"
     rw[hdr]
     intro t0 ht0
     generalize hG5:upd _ t0 _=H5
     have s5:=q0a hG5 ht0
     have h5:=q0b hG5
     have hps5:=s5 _ _ hps4
     walk_at "r"
     refine q4g hps5 (by rw[yC,rps.1];omega) ?_
     refine⟨_,_,_,_,_,_,ws++[⟨wa,wb,gt,_⟩],rfl,(s2.trans (s4.trans s5)).put hD,?_,qP (fun _ _ h=>q2I.mono (q0f.lst hps5) h) (rps.mono fun _ _=>q2I.mono (s4.trans s5).ts) ⟨g,h5,s5 _ _ hg⟩,fun x hx=>?_,by simp[wl],?_⟩
     ·cases hs:gt.dk.isSome with
      |true=>have:=gd hs;show 0<=dv - 1;omega
      |false=>show 0<=dv - 0;omega
     ·rcases List.mem_append.mp hx with hx|hx
      ·exact wo x hx
      ·rw [List.mem_singleton.mp hx]
       exact⟨ra,rb,ne,gok⟩
     ·rw [List.countP_append,List.countP_singleton]
      show((List.countP isDr ws+if gt.dk.isSome=true then 1 else 0:Nat):Int)+_=dn
      cases hs:gt.dk.isSome with
      |true=>show((List.countP isDr ws+1:Nat):Int)+(dv - 1)=dn;omega
      |false=>show((List.countP isDr ws+0:Nat):Int)+(dv - 0)=dn;omega
    ·walk_at "r"
     refine⟨_,ks,rfl,hk.same s2,fun g gt H4 s4 gok hg=>?_⟩
     have hw:=qcb gt
     have hdr:=qca gt
     walk_at "r"
     rw[hdr]
     cases hs:gt.dk.isSome with
     |false=>
      walk_at "r"
      exact fin _ _ ⟨g,gt,rfl,s4,hg,gok,fun z=>by rw[hs] at z;cases z⟩
     |true=>
      walk_at "r"
      refine ifd (fun z=>?_) (fun z=>?_)
      ·walk_at "r"
       intro t0 ht0
       have s5:=Same.upd (o:= .tup [.str "plain"]) ht0
       exact fin _ _ ⟨t0,.plain,rfl,s4.trans s5,qg,trivial,fun z=>by cases z⟩
      ·exact fin _ _ ⟨g,gt,rfl,s4,hg,gok,fun _=>z⟩
   ·walk_at "r"
    refine⟨a,ns,_,rfl,s2.seq hS,hl,by omega,by omega,fun c=>?_⟩
    walk_at "r"
    rw[show(10:Int) ^ Int.toNat 9=1000000000 from rfl]
    walk_at "r"
    generalize c % 1000000000=z
    have a0:=q09 z R0
    have a1:=q0e z R0
    obtain⟨M,eM,M1,M2⟩:∃M:Int,(if 1<R - 1 then R - 1 else 1)=M/\1<=M/\M<=R - 1:=⟨_,rfl,by split<;>omega,by split<;>omega⟩
    refine ifd (fun h=>?_) (fun h=>?_)
    ·have p0:=q09 z (n:=0+(i:Nat)+1) (by omega)
     have p1:=q0e z (n:=0+(i:Nat)+1) (by omega)
     walk_at "r"
     exact fin _ _ ⟨z,_,_,rfl,rfl,⟨p0,by omega⟩,by omega,by omega⟩
    ·have q0:=q09 (z / 14) (n:=M) (by omega)
     have q1:=q0e (z / 14) (n:=M) (by omega)
     have e0:=q09 (z % R+1+z / 14 % M) R0
     have e1:=q0e (z % R+1+z / 14 % M) R0
     have ne:z % R≠(z % R+1+z / 14 % M) % R:=by
      intro y
      by_cases y2:z % R+1+z / 14 % M<R
      ·rw [Int.emod_eq_of_lt (by omega) y2] at y;omega
      ·have:(z % R+1+z / 14 % M) % R=z % R+1+z / 14 % M - R:=by rw[<-Int.sub_emod_right,Int.emod_eq_of_lt (by omega) (by omega)]
       omega
     refine fin _ _ ⟨z,_,_,rfl,rfl,⟨a0,a1⟩,?_,?_⟩
     ·rw [eM]
      exact⟨e0,e1⟩
     ·rw [eM]
      exact ne
  ·rintro σ H2 ⟨dv,v5,v6,v7,v8,v9,ws,rfl,s2,dv0,⟨ps,hps,rps⟩,wo,wl,wd⟩
   walk_at "r"
   refine q9r (SqL.of hps) fun t0 ht0=>?_
   have s3:=Same.upd (o:= .tup (ps.map V.ref)) ht0
   exact k t0 ws _ (s2.trans s3) ⟨ps,qg,rps.mono fun _ _=>q2I.mono s3.ts⟩ wo (by omega) (by omega)
def szL:List (Int×Int×Int×Int×Int):=[(4,2,2,1,1),(9,5,0,0,0),(14,2,1,1,0),(3,1,1,2,2),(2,3,2,1,1),(5,0,0,4,1),(3,3,3,0,0)]
structure SzOk (C:Cl):Prop where
 ex:∃z∈szL,C.rooms<=z.1/\(C.things.length:Int)<=z.2.1/\(C.ways.countP isDr:Int)<=z.2.2.1/\(C.levers.length:Int)<=z.2.2.2.1/\(C.wheels.length:Int)<=z.2.2.2.2
def spCave (K:W.Frag):Sp:=fun vs H Q _=>∃(a:Addr) (ns:List Int),vs=[.ref a]/\SqL K H a (ns.map V.int)/\ns.length<=63/\∀(p:Addr) (C:Cl) (H':Hp),Same H H'->ClAt H' p C->ClOk C->SzOk C->Q (.ref p) H'
abbrev NV:List Str:=["_law_script","_law_cell_here","_law_sizes","_law_most","_law_things","_law_doors","_law_levers","_law_wheels","_law_rooms","_law_kinds","_law_lain","_law_k","_law_at","_law_pulled","_law_turned","_law_last","_law_first","_law_ways_here","_law_rest"]
theorem cave_c {f:Addr}{cdv:Value}{A:Around}{outer:List Env}{s:Shared}{H0:Hp}{E:XK}(T:Txt mg cs)(C__law_cell:Cal P w K mg base 1 "_law_cell" ["_law_script","_law_k"] (q3l K))(C__law_ways:Cal P w K mg base 2 "_law_ways" ["_law_script","_law_rooms","_law_doors","_law_kinds"] (q6i K))(hr:Room 2 (A.deeper (PyProof.Rows.envOfC "_law_cave" (qh q08) s.heap.objs.size f cdv))):
  ∃tt,PSs (cxOf CX0 P w K mg base NV "_law_cave" (qh q08) f cdv A outer s H0 E).nox ((qR q08).drop 11) tt/\∀(nx bk ct:St->Hp->Prop) (rt:VK) (v2 v11 v12:Option V) (a ks l1 l2 l3:Addr) (ns:List Int) (c R dn m t l v:Int) (x1 x2 x3:List (Int×Int)) (Hb H:Hp),SqL K Hb a (ns.map V.int)->ns.length<=63->(m,t,dn,l,v)∈szL->(1<=R/\R<=m/\m<=14)->K3 H ks->Same Hb H->qJ qN H l1 x1->(∀x∈x1,POk R 0 11 x)->(x1.length:Int)<=t->qJ qN H l2 x2->(∀x∈x2,POk R 1 255 x)->(x2.length:Int)<=l->qJ qN H l3 x3->(∀x∈x3,POk R 0 9 x)->(x3.length:Int)<=v->
   (∀(p:Addr) (C:Cl) (H':Hp),Same Hb H'->ClAt H' p C->ClOk C->SzOk C->rt (.ref p) H')->
   tt ⟨nx,rt,bk,ct⟩ [some (.ref a),some (.int c),v2,some (.int m),some (.int t),some (.int dn),some (.int l),some (.int v),some (.int R),some (.ref ks),some (.ref l1),v11,v12,some (.ref l2),some (.ref l3),none,none,none,none] H:=by
 refine⟨_,(qd (qy (i:=15) qx.nd rfl (Or.inl rfl) (qq qM (qB C__law_cell hr (by decide) rfl (qa (pv 0) (qa qc qe))) (pv 8)))
   (qd (qy (i:=16) qx.nd rfl (Or.inl rfl) (qm (q0n K) (q0w (qa qc (qa (qq qM (qB C__law_cell hr (by decide) rfl (qa (pv 0) (qa qc qe))) (pv 8)) qe))) (qq qM (qq q0r (pv 1) qc) qc) (fun _ _=>rfl)))
   (qd (qy (i:=17) qx.nd rfl (Or.inl rfl) (qB C__law_ways hr (by decide) rfl (qa (pv 0) (qa (pv 8) (qa (pv 5) (qa (pv 9) qe))))))
   (qd (qy (i:=18) qx.nd rfl (Or.inl rfl) (qG (qa (qq qM (qB C__law_cell hr (by decide) rfl (qa (pv 0) (qa qc qe))) qc) (qa (qq qM (qB C__law_cell hr (by decide) rfl (qa (pv 0) (qa qc qe))) qc) qe))))
   (qj (qu (qq (q9J K) (qG (pa_c (pv 8) (pa_c (pv 16) (pa_c (pv 15) (pa_c (pv 17) (pa_c (q0V (q6f K) rfl T.n_tuple q3g (qa (pv 10) qe)) (pa_c (q0V (q6f K) rfl T.n_tuple q3g (qa (pv 13) qe)) (pa_c (q0V (q6f K) rfl T.n_tuple q3g (qa (pv 14) qe)) qe)))))))) (pv 18)))))))),?_⟩
 intro nx bk ct rt v2 v11 v12 a ks l1 l2 l3 ns c R dn m t l v x1 x2 x3 Hb H hS hl hz hR hk sb p1 o1 n1 p2 o2 n2 p3 o3 n3 k
 have big:=qC
 have R0:0<R:=by omega
 obtain⟨q1,e1,r1⟩:=p1
 obtain⟨q2,e2,r2⟩:=p2
 obtain⟨q3,e3,r3⟩:=p3
 walk_at "r"
 refine⟨a,ns,5,rfl,sb.seq hS,hl,by decide,by decide,fun c5=>?_⟩
 have a0:=q09 c5 R0
 have a1:=q0e c5 R0
 walk_at "r"
 generalize c5 % R=la at a0 a1 ⊢
 refine⟨a,ns,6,rfl,sb.seq hS,hl,by decide,by decide,fun c6=>?_⟩
 have b0:=q09 c6 R0
 have b1:=q0e c6 R0
 walk_at "r"
 generalize c6 % R=fb at b0 b1 ⊢
 intro lf hlf
 generalize hG1:upd _ lf _=H1
 have s1:=q0a hG1 hlf
 have h1:=q0b hG1
 obtain⟨fi,ef,f0,f1⟩:∃fi,atI [V.int 0,V.int fb] (c / 200000 % 2)=some (.int fi)/\0<=fi/\fi<R:=by
  obtain h|h:c / 200000 % 2=0\/c / 200000 % 2=1:=by omega
  ·exact ⟨0,by rw[h];rfl,by omega,R0⟩
  ·exact ⟨fb,by rw[h];rfl,b0,b1⟩
 walk_at "r"
 refine⟨a,ks,ns,R,dn,rfl,(sb.trans s1).seq hS,hl,by omega,by omega,?_,?_,hk.same s1,fun pw ws H2 s2 hws wo wl wd=>?_⟩
 ·simp only[szL,List.mem_cons,Prod.mk.injEq,List.not_mem_nil,or_false] at hz
  omega
 ·simp only[szL,List.mem_cons,Prod.mk.injEq,List.not_mem_nil,or_false] at hz
  omega
 have zz:t<=8/\l<=4/\v<=4:=by
  simp only[szL,List.mem_cons,Prod.mk.injEq,List.not_mem_nil,or_false] at hz
  omega
 have s02:=sb.trans (s1.trans s2)
 walk_at "r"
 refine⟨a,ns,7,rfl,s02.seq hS,hl,by decide,by decide,fun c7=>?_⟩
 have d0:=q09 c7 (n:=256) (by decide)
 have d1:=q0e c7 (n:=256) (by decide)
 walk_at "r"
 generalize c7 % 256=bb at d0 d1 ⊢
 refine⟨a,ns,8,rfl,s02.seq hS,hl,by decide,by decide,fun c8=>?_⟩
 have g0:=q09 c8 (n:=10) (by decide)
 have g1:=q0e c8 (n:=10) (by decide)
 walk_at "r"
 generalize c8 % 10=ww at g0 g1 ⊢
 intro t3 ht3
 generalize hG3:upd _ t3 _=H3
 have s3:=q0a hG3 ht3
 have h3:=q0b hG3
 have s13:=s1.trans (s2.trans s3)
 walk_at "r"
 refine q9r (SqL.of (s13 _ _ e1)) fun t4 ht4=>?_
 generalize hG4:upd _ t4 _=H4
 have s4:=q0a hG4 ht4
 have h4:=q0b hG4
 walk_at "r"
 refine q9r (SqL.of ((s13.trans s4) _ _ e2)) fun t5 ht5=>?_
 generalize hG5:upd _ t5 _=H5
 have s5:=q0a hG5 ht5
 have h5:=q0b hG5
 walk_at "r"
 refine q9r (SqL.of ((s13.trans (s4.trans s5)) _ _ e3)) fun t6 ht6=>?_
 generalize hG6:upd _ t6 _=H6
 have s6:=q0a hG6 ht6
 have h6:=q0b hG6
 walk_at "r"
 intro t7 ht7
 generalize hG7:upd _ t7 _=H7
 have s7:=q0a hG7 ht7
 have h7:=q0b hG7
 have s37:=s4.trans (s5.trans (s6.trans s7))
 walk_at "r"
 refine r_catT (SqT.of h7) (SqT.of (s37 _ _ h3)) (by simp) (by simp) rfl fun t8 ht8=>?_
 generalize hG8:upd _ t8 _=H8
 have s8:=q0a hG8 ht8
 have h8:=q0b hG8
 have z:=s13.trans (s37.trans s8)
 have m':=z.ts
 have z2:=s3.trans (s37.trans s8)
 refine k t8 ⟨R,fi,la,ws,x1,x2,x3,bb,ww⟩ H8 (sb.trans z) ⟨pw,t4,t5,t6,h8,hws.mono z2.ts fun _ _=>q2I.mono z2.ts,⟨q1,(s5.trans (s6.trans (s7.trans s8))) _ _ h4,r1.mono fun _ _=>qN.mono m'⟩,⟨q2,(s6.trans (s7.trans s8)) _ _ h5,r2.mono fun _ _=>qN.mono m'⟩,⟨q3,(s7.trans s8) _ _ h6,r3.mono fun _ _=>qN.mono m'⟩⟩ ?_ ⟨_,hz,hR.2.1,n1,wd,n2,n3⟩
 exact {r1:=hR.1,r2:=by show R<=14;omega,f:=⟨f0,f1⟩,l:=⟨a0,a1⟩,wl:=by show ws.length<=20;omega,tl:=by show x1.length<=8;omega,ll:=by show x2.length<=4;omega,vl:=by show x3.length<=4;omega,w:=wo,t:=fun x hx=>⟨(o1 x hx).1,(o1 x hx).2.1,by have:=(o1 x hx).2.2;omega⟩,lv:=o2,wh:=o3,b:=by show 0<=bb/\bb<=255;omega,wa:=by show 0<=ww/\ww<=9;omega}
theorem cave_b {f:Addr}{cdv:Value}{A:Around}{outer:List Env}{s:Shared}{H0:Hp}{E:XK}(T:Txt mg cs)(C__law_cell:Cal P w K mg base 1 "_law_cell" ["_law_script","_law_k"] (q3l K))(C__law_ways:Cal P w K mg base 2 "_law_ways" ["_law_script","_law_rooms","_law_doors","_law_kinds"] (q6i K))(hr:Room 2 (A.deeper (PyProof.Rows.envOfC "_law_cave" (qh q08) s.heap.objs.size f cdv))):
  ∃tt,PSs (cxOf CX0 P w K mg base NV "_law_cave" (qh q08) f cdv A outer s H0 E).nox ((qR q08).drop 5) tt/\∀(nx bk ct:St->Hp->Prop) (rt:VK) (v2:Option V) (a ks:Addr) (ns:List Int) (c R dn m t l v:Int) (Hb H:Hp),SqL K Hb a (ns.map V.int)->ns.length<=63->(m,t,dn,l,v)∈szL->(1<=R/\R<=m/\m<=14)->K3 H ks->Same Hb H->
   (∀(p:Addr) (C:Cl) (H':Hp),Same Hb H'->ClAt H' p C->ClOk C->SzOk C->rt (.ref p) H')->
   tt ⟨nx,rt,bk,ct⟩ [some (.ref a),some (.int c),v2,some (.int m),some (.int t),some (.int dn),some (.int l),some (.int v),some (.int R),some (.ref ks),none,none,none,none,none,none,none,none,none] H:=by
 obtain⟨tc,hc,kc⟩:=cave_c (P:=P) (w:=w) (K:=K) (base:=base) (outer:=outer) (H0:=H0) (E:=E) T C__law_cell C__law_ways hr
 refine⟨_,(qd (qy (i:=10) qx.nd rfl (Or.inl rfl) (q0w qe))
   (qd (q0o PassesOwn.never rfl (qT rfl T.n_range (qa (qq qM (qB C__law_cell hr (by decide) rfl (qa (pv 0) (qa qc qe))) (qq q0l (pv 4) qc)) qe)) (qr (i:=11) qx.nd rfl (Or.inl rfl)) (qd (qy (i:=12) qx.nd rfl (Or.inl rfl) (qq qM (qB C__law_cell hr (by decide) rfl (qa (pv 0) (qa (qq q0l qc (pv 11)) qe))) (qq q5j qc qc)))
   (qj (qZ (q3r PySem.F.plainAttrs_list PySem.F.slot_list_append PySem.F.type_list_append q0h (pv 10) (qa (qG (qa (qq qM (pv 12) (pv 8)) (qa (qm (q0n K) (pv 9) (qq qM (qq q0r (pv 12) qc) qc) (fun _ _=>rfl)) qe))) qe))))))
   (qd (qy (i:=13) qx.nd rfl (Or.inl rfl) (q0w qe))
   (qd (q0o PassesOwn.never rfl (qT rfl T.n_range (qa (qq qM (qB C__law_cell hr (by decide) rfl (qa (pv 0) (qa qc qe))) (qq q0l (pv 6) qc)) qe)) (qr (i:=11) qx.nd rfl (Or.inl rfl)) (qd (qy (i:=12) qx.nd rfl (Or.inl rfl) (qq qM (qB C__law_cell hr (by decide) rfl (qa (pv 0) (qa (qq q0l qc (pv 11)) qe))) (qq q5j qc qc)))
   (qj (qZ (q3r PySem.F.plainAttrs_list PySem.F.slot_list_append PySem.F.type_list_append q0h (pv 13) (qa (qG (qa (qq qM (pv 12) (pv 8)) (qa (qq q0l qc (qq qM (qq q0r (pv 12) qc) qc)) qe))) qe))))))
   (qd (qy (i:=14) qx.nd rfl (Or.inl rfl) (q0w qe))
   (qd (q0o PassesOwn.never rfl (qT rfl T.n_range (qa (qq qM (qB C__law_cell hr (by decide) rfl (qa (pv 0) (qa qc qe))) (qq q0l (pv 7) qc)) qe)) (qr (i:=11) qx.nd rfl (Or.inl rfl)) (qd (qy (i:=12) qx.nd rfl (Or.inl rfl) (qq qM (qB C__law_cell hr (by decide) rfl (qa (pv 0) (qa (qq q0l qc (pv 11)) qe))) (qq q5j qc qc)))
   (qj (qZ (q3r PySem.F.plainAttrs_list PySem.F.slot_list_append PySem.F.type_list_append q0h (pv 14) (qa (qG (qa (qq qM (pv 12) (pv 8)) (qa (qq qM (qq q0r (pv 12) qc) qc) qe))) qe))))))
   hc)))))),?_⟩
 intro nx bk ct rt v2 a ks ns c R dn m t l v Hb H hS hl hz hR hk sb k
 have big:=qC
 have R0:0<R:=by omega
 have zz:(0<=t/\t<=8)/\(0<=l/\l<=4)/\0<=v/\v<=4:=by
  simp only[szL,List.mem_cons,Prod.mk.injEq,List.not_mem_nil,or_false] at hz
  omega
 obtain⟨k0,k1,k2,ek,b0,b1,b2⟩:=hk
 walk_at "r"
 intro l1 hl1
 have s1:=Same.upd (o:= .lst []) hl1
 have h1:=qg (H:=H) (a:=l1) (o:= .lst [])
 generalize upd H l1 (.lst [])=H1 at s1 h1 ⊢
 walk_at "r"
 refine⟨a,ns,2,rfl,(sb.trans s1).seq hS,hl,by decide,by decide,fun c2=>?_⟩
 have m0:=q09 c2 (n:=t+1) (by omega)
 have m1:=q0e c2 (n:=t+1) (by omega)
 walk_at "r"
 generalize c2 % (t+1)=n1 at m0 m1 ⊢
 try refine r_rg (by omega) ?_
 refine q1K (fun i σ H'=>∃(v11 v12:Option V) (x1:List (Int×Int)),σ=[some (.ref a),some (.int c),v2,some (.int m),some (.int t),some (.int dn),some (.int l),some (.int v),some (.int R),some (.ref ks),some (.ref l1),v11,v12,none,none,none,none,none,none]/\Same H H'/\qJ qN H' l1 x1/\(∀x∈x1,POk R 0 11 x)/\x1.length=i) ⟨none,none,[],rfl,s1,⟨[],h1,Rows.nil⟩,(fun x hx=>nomatch hx),rfl⟩ ?_ ?_
 ·rintro i σ H' hi ⟨v11,v12,x1,rfl,s2,⟨ps,hps,rps⟩,xo,xl⟩
  have ek2:=s2 _ _ ek
  walk_at "r"
  refine⟨a,ns,_,rfl,(sb.trans s2).seq hS,hl,by omega,by omega,fun c3=>?_⟩
  walk_at "r"
  rw[show(10:Int) ^ Int.toNat 6=1000000 from rfl]
  walk_at "r"
  generalize c3 % 1000000=z
  obtain⟨kd,ekd,kd0,kd1⟩:=at3 (c:=z / 14) b0 b1 b2
  have a0:=q09 z R0
  have a1:=q0e z R0
  walk_at "r"
  intro t0 ht0
  generalize hG:upd _ t0 _=H3
  have s3:=q0a hG ht0
  have h3:=q0b hG
  have hps3:=s3 _ _ hps
  walk_at "r"
  refine q4g hps3 (by rw[yC,rps.1];omega) ?_
  refine⟨_,_,x1++[(z % R,kd)],rfl,(s2.trans s3).put hl1,qP (fun _ _ h=>qN.mono (q0f.lst hps3) h) (rps.mono fun _ _=>qN.mono s3.ts) h3,fun x hx=>?_,by simp[xl]⟩
  rcases List.mem_append.mp hx with hx|hx
  ·exact xo x hx
  ·rw [List.mem_singleton.mp hx]
   exact⟨⟨a0,a1⟩,kd0,by show kd<=11;omega⟩
 ·rintro σ H2 ⟨v11,v12,x1,rfl,s2,hx1,xo1,xl1⟩
  walk_at "r"
  intro l2 hl2
  have s3:=s2.trans (Same.upd (o:= .lst []) hl2)
  have h3:=qg (H:=H2) (a:=l2) (o:= .lst [])
  have hl20:H l2=none:=s2.free hl2
  have q1:qJ qN (upd H2 l2 (.lst [])) l1 x1:=let ⟨ps,e,r⟩:=hx1;⟨ps,(Same.upd hl2) _ _ e,r.mono fun _ _=>qN.mono (Same.upd hl2).ts⟩
  generalize upd H2 l2 (.lst [])=H3 at s3 h3 q1 ⊢
  have ne12:l1≠l2:=fun z=>by
   obtain⟨ps,e,_⟩:=hx1
   rw[z,hl2] at e
   cases e
  walk_at "r"
  refine⟨a,ns,3,rfl,(sb.trans s3).seq hS,hl,by decide,by decide,fun c4=>?_⟩
  have m2:=q09 c4 (n:=l+1) (by omega)
  have m3:=q0e c4 (n:=l+1) (by omega)
  walk_at "r"
  generalize c4 % (l+1)=n2 at m2 m3 ⊢
  try refine r_rg (by omega) ?_
  refine q1K (fun i σ H'=>∃(v11 v12:Option V) (x2:List (Int×Int)),σ=[some (.ref a),some (.int c),v2,some (.int m),some (.int t),some (.int dn),some (.int l),some (.int v),some (.int R),some (.ref ks),some (.ref l1),v11,v12,some (.ref l2),none,none,none,none,none]/\Same H H'/\qJ qN H' l1 x1/\qJ qN H' l2 x2/\(∀x∈x2,POk R 1 255 x)/\x2.length=i) ⟨v11,v12,[],rfl,s3,q1,⟨[],h3,Rows.nil⟩,(fun x hx=>nomatch hx),rfl⟩ ?_ ?_
  ·rintro i σ H' hi ⟨v11,v12,x2,rfl,s4,⟨qs,hqs,rqs⟩,⟨ps,hps,rps⟩,xo,xl⟩
   walk_at "r"
   refine⟨a,ns,_,rfl,(sb.trans s4).seq hS,hl,by omega,by omega,fun c5=>?_⟩
   walk_at "r"
   rw[show(10:Int) ^ Int.toNat 6=1000000 from rfl]
   walk_at "r"
   generalize c5 % 1000000=z
   have a0:=q09 z R0
   have a1:=q0e z R0
   have a2:=q09 (z / 14) (n:=255) (by decide)
   have a3:=q0e (z / 14) (n:=255) (by decide)
   intro t0 ht0
   generalize hG:upd _ t0 _=H5
   have s5:=q0a hG ht0
   have h5:=q0b hG
   have hps5:=s5 _ _ hps
   walk_at "r"
   refine q4g hps5 (by rw[yC,rps.1];omega) ?_
   refine⟨_,_,x2++[(z % R,1+z / 14 % 255)],rfl,(s4.trans s5).put hl20,⟨qs,by rw[ql ne12];exact s5 _ _ hqs,rqs.mono fun _ _ h=>qN.mono (q0f.lst hps5) (qN.mono s5.ts h)⟩,qP (fun _ _ h=>qN.mono (q0f.lst hps5) h) (rps.mono fun _ _=>qN.mono s5.ts) h5,fun x hx=>?_,by simp[xl]⟩
   rcases List.mem_append.mp hx with hx|hx
   ·exact xo x hx
   ·rw [List.mem_singleton.mp hx]
    exact⟨⟨a0,a1⟩,by show 1<=1+z / 14 % 255/\1+z / 14 % 255<=255;omega⟩
  ·rintro σ H4 ⟨v11,v12,x2,rfl,s4,hx1,hx2,xo2,xl2⟩
   walk_at "r"
   intro l3 hl3
   have s5:=s4.trans (Same.upd (o:= .lst []) hl3)
   have h5:=qg (H:=H4) (a:=l3) (o:= .lst [])
   have hl30:H l3=none:=s4.free hl3
   have q1:qJ qN (upd H4 l3 (.lst [])) l1 x1:=let ⟨ps,e,r⟩:=hx1;⟨ps,(Same.upd hl3) _ _ e,r.mono fun _ _=>qN.mono (Same.upd hl3).ts⟩
   have q2:qJ qN (upd H4 l3 (.lst [])) l2 x2:=let ⟨ps,e,r⟩:=hx2;⟨ps,(Same.upd hl3) _ _ e,r.mono fun _ _=>qN.mono (Same.upd hl3).ts⟩
   generalize upd H4 l3 (.lst [])=H5 at s5 h5 q1 q2 ⊢
   have ne13:l1≠l3:=fun z=>by
    obtain⟨ps,e,_⟩:=hx1
    rw[z,hl3] at e
    cases e
   have ne23:l2≠l3:=fun z=>by
    obtain⟨ps,e,_⟩:=hx2
    rw[z,hl3] at e
    cases e
   walk_at "r"
   refine⟨a,ns,4,rfl,(sb.trans s5).seq hS,hl,by decide,by decide,fun c6=>?_⟩
   have m4:=q09 c6 (n:=v+1) (by omega)
   have m5:=q0e c6 (n:=v+1) (by omega)
   walk_at "r"
   generalize c6 % (v+1)=n3 at m4 m5 ⊢
   try refine r_rg (by omega) ?_
   refine q1K (fun i σ H'=>∃(v11 v12:Option V) (x3:List (Int×Int)),σ=[some (.ref a),some (.int c),v2,some (.int m),some (.int t),some (.int dn),some (.int l),some (.int v),some (.int R),some (.ref ks),some (.ref l1),v11,v12,some (.ref l2),some (.ref l3),none,none,none,none]/\Same H H'/\qJ qN H' l1 x1/\qJ qN H' l2 x2/\qJ qN H' l3 x3/\(∀x∈x3,POk R 0 9 x)/\x3.length=i) ⟨v11,v12,[],rfl,s5,q1,q2,⟨[],h5,Rows.nil⟩,(fun x hx=>nomatch hx),rfl⟩ ?_ ?_
   ·rintro i σ H' hi ⟨v11,v12,x3,rfl,s6,⟨qs,hqs,rqs⟩,⟨us,hus,rus⟩,⟨ps,hps,rps⟩,xo,xl⟩
    walk_at "r"
    refine⟨a,ns,_,rfl,(sb.trans s6).seq hS,hl,by omega,by omega,fun c7=>?_⟩
    walk_at "r"
    rw[show(10:Int) ^ Int.toNat 6=1000000 from rfl]
    walk_at "r"
    generalize c7 % 1000000=z
    have a0:=q09 z R0
    have a1:=q0e z R0
    have a2:=q09 (z / 14) (n:=10) (by decide)
    have a3:=q0e (z / 14) (n:=10) (by decide)
    intro t0 ht0
    generalize hG:upd _ t0 _=H7
    have s7:=q0a hG ht0
    have h7:=q0b hG
    have hps7:=s7 _ _ hps
    walk_at "r"
    refine q4g hps7 (by rw[yC,rps.1];omega) ?_
    refine⟨_,_,x3++[(z % R,z / 14 % 10)],rfl,(s6.trans s7).put hl30,⟨qs,by rw[ql ne13];exact s7 _ _ hqs,rqs.mono fun _ _ h=>qN.mono (q0f.lst hps7) (qN.mono s7.ts h)⟩,⟨us,by rw[ql ne23];exact s7 _ _ hus,rus.mono fun _ _ h=>qN.mono (q0f.lst hps7) (qN.mono s7.ts h)⟩,qP (fun _ _ h=>qN.mono (q0f.lst hps7) h) (rps.mono fun _ _=>qN.mono s7.ts) h7,fun x hx=>?_,by simp[xl]⟩
    rcases List.mem_append.mp hx with hx|hx
    ·exact xo x hx
    ·rw [List.mem_singleton.mp hx]
     exact⟨⟨a0,a1⟩,by show 0<=z / 14 % 10/\z / 14 % 10<=9;omega⟩
   ·rintro σ H6 ⟨v11,v12,x3,rfl,s6,hx1,hx2,hx3,xo3,xl3⟩
    exact kc _ _ _ _ _ _ _ a ks l1 l2 l3 ns c R dn m t l v x1 x2 x3 Hb H6 hS hl hz hR ⟨k0,k1,k2,s6 _ _ ek,b0,b1,b2⟩ (sb.trans s6) hx1 xo1 (by omega) hx2 xo2 (by omega) hx3 xo3 (by omega) k
theorem qbM (T:Txt mg cs)(L:Laid K mg "_law_cave" q08 ["_law_script"])(C__law_cell:Cal P w K mg base 1 "_law_cell" ["_law_script","_law_k"] (q3l K))(C__law_ways:Cal P w K mg base 2 "_law_ways" ["_law_script","_law_rooms","_law_doors","_law_kinds"] (q6i K)):Cal P w K mg base 3 "_law_cave" ["_law_script"] (spCave K):=by
 refine L.cal (k:=2) qx (fun vs H Q E h=>?_) (fun f cdv A outer s H vs Q E hr h=>?_)
 ·obtain ⟨a,ns,rfl,_⟩:=h
  rfl
 ·obtain ⟨a,ns,rfl,hS,hl,k⟩:=h
  have big:=qC
  obtain⟨tb,hb,kb⟩:=cave_b (P:=P) (w:=w) (base:=base) (outer:=outer) (H0:=H) (E:=E) T C__law_cell C__law_ways hr
  refine⟨_,(qd (qy (i:=1) qx.nd rfl (Or.inl rfl) (qq qM (qB C__law_cell hr (by decide) rfl (qa (pv 0) (qa qc qe))) (qq q5j qc qc)))
   (qd (qy (i:=2) qx.nd rfl (Or.inl rfl) (q0w (pa_c (qG (qa qc (qa qc (qa qc (qa qc (qa qc qe)))))) (pa_c (qG (qa qc (qa qc (qa qc (qa qc (qa qc qe)))))) (pa_c (qG (qa qc (qa qc (qa qc (qa qc (qa qc qe)))))) (pa_c (qG (qa qc (qa qc (qa qc (qa qc (qa qc qe)))))) (pa_c (qG (qa qc (qa qc (qa qc (qa qc (qa qc qe)))))) (pa_c (qG (qa qc (qa qc (qa qc (qa qc (qa qc qe)))))) qe))))))))
   (qd (q7Z (qm (q0n K) (qq q2D (pv 2) (q0w (qa (qG (qa qc (qa qc (qa qc (qa qc (qa qc qe)))))) qe))) (qq qM (pv 1) qc) (fun _ _=>rfl)) (q0H (n:=5) K rfl (qE (qr (i:=3) qx.nd rfl (Or.inl rfl)) (qE (qr (i:=4) qx.nd rfl (Or.inl rfl)) (qE (qr (i:=5) qx.nd rfl (Or.inl rfl)) (qE (qr (i:=6) qx.nd rfl (Or.inl rfl)) (qE (qr (i:=7) qx.nd rfl (Or.inl rfl)) q0G)))))))
   (qd (qy (i:=8) qx.nd rfl (Or.inl rfl) (qq q0l qc (qq qM (qq q0r (pv 1) qc) (pv 3))))
   (qd (qy (i:=9) qx.nd rfl (Or.inl rfl) (q0w (qa (qq qM (qq q0r (pv 1) qc) qc) (qa (qq qM (qq q0r (pv 1) qc) qc) (qa (qq qM (qq q0r (pv 1) qc) qc) qe)))))
   hb))))),?_⟩
  rw[show L2.start NV [V.ref a]=[some (V.ref a),none,none,none,none,none,none,none,none,none,none,none,none,none,none,none,none,none,none] from rfl]
  walk_at "r"
  refine⟨a,ns,0,rfl,hS,hl,by decide,by decide,fun c0=>?_⟩
  walk_at "r"
  rw[show(10:Int) ^ Int.toNat 9=1000000000 from rfl]
  walk_at "r"
  generalize c0 % 1000000000=c
  intro p1 g1
  generalize hG1:upd _ p1 _=H1
  have s1:=q0a hG1 g1
  have h1:=q0b hG1
  walk_at "r"
  intro p2 g2
  generalize hG2:upd _ p2 _=H2
  have s2:=q0a hG2 g2
  have h2:=q0b hG2
  walk_at "r"
  intro p3 g3
  generalize hG3:upd _ p3 _=H3
  have s3:=q0a hG3 g3
  have h3:=q0b hG3
  walk_at "r"
  intro p4 g4
  generalize hG4:upd _ p4 _=H4
  have s4:=q0a hG4 g4
  have h4:=q0b hG4
  walk_at "r"
  intro p5 g5
  generalize hG5:upd _ p5 _=H5
  have s5:=q0a hG5 g5
  have h5:=q0b hG5
  walk_at "r"
  intro p6 g6
  generalize hG6:upd _ p6 _=H6
  have s6:=q0a hG6 g6
  have h6:=q0b hG6
  walk_at "r"
  intro la gla
  generalize hG7:upd _ la _=H7
  have s7:=q0a hG7 gla
  have h7:=q0b hG7
  walk_at "r"
  intro p7 g7
  generalize hG8:upd _ p7 _=H8
  have s8:=q0a hG8 g7
  have h8:=q0b hG8
  walk_at "r"
  intro lb glb
  generalize hG9:upd _ lb _=H9
  have s9:=q0a hG9 glb
  have h9:=q0b hG9
  walk_at "r"
  refine⟨la,lb,_,_,rfl,rfl,(s8.trans s9) _ _ h7,h9,by simp;omega,fun lc glc=>?_⟩
  generalize hG10:upd _ lc _=H10
  have s10:=q0a hG10 glc
  have h10:=q0b hG10
  have z9:=s9.trans s10
  have z8:=s8.trans z9
  have z7:=s7.trans z8
  have z6:=s6.trans z7
  have z5:=s5.trans z6
  have z4:=s4.trans z5
  have z3:=s3.trans z4
  have z2:=s2.trans z3
  have z1:=s1.trans z2
  obtain⟨g,m,t,dn,l,v,eg,hg,hz⟩:∃(g:Addr) (m t dn l v:Int),atI [V.ref p1,V.ref p2,V.ref p3,V.ref p4,V.ref p5,V.ref p6,V.ref p7] (c % 7)=some (.ref g)/\H10 g=some (.tup [.int m,.int t,.int dn,.int l,.int v])/\(m,t,dn,l,v)∈szL:=by
   obtain h|h|h|h|h|h|h:c % 7=0\/c % 7=1\/c % 7=2\/c % 7=3\/c % 7=4\/c % 7=5\/c % 7=6:=by omega
   all_goals rw[h]
   ·exact ⟨p1,_,_,_,_,_,rfl,z2 _ _ h1,by simp[szL]⟩
   ·exact ⟨p2,_,_,_,_,_,rfl,z3 _ _ h2,by simp[szL]⟩
   ·exact ⟨p3,_,_,_,_,_,rfl,z4 _ _ h3,by simp[szL]⟩
   ·exact ⟨p4,_,_,_,_,_,rfl,z5 _ _ h4,by simp[szL]⟩
   ·exact ⟨p5,_,_,_,_,_,rfl,z6 _ _ h5,by simp[szL]⟩
   ·exact ⟨p6,_,_,_,_,_,rfl,z7 _ _ h6,by simp[szL]⟩
   ·exact ⟨p7,_,_,_,_,_,rfl,z9 _ _ h8,by simp[szL]⟩
  have mm:1<=m/\m<=14:=by
   simp only[szL,List.mem_cons,Prod.mk.injEq,List.not_mem_nil,or_false] at hz
   omega
  have r0:=q09 (c / 7) (n:=m) (by omega)
  have r1:=q0e (c / 7) (n:=m) (by omega)
  have a0:=q09 (c / 98) (n:=12) (by decide)
  have a1:=q0e (c / 98) (n:=12) (by decide)
  have b0:=q09 (c / 1176) (n:=12) (by decide)
  have b1:=q0e (c / 1176) (n:=12) (by decide)
  have d0:=q09 (c / 14112) (n:=12) (by decide)
  have d1:=q0e (c / 14112) (n:=12) (by decide)
  walk_at "r"
  intro ks gks
  generalize hG11:upd _ ks _=H11
  have s11:=q0a hG11 gks
  have h11:=q0b hG11
  walk_at "r"
  exact kb _ _ _ _ _ a ks ns c (1+c / 7 % m) dn m t l v H H11 hS hl hz ⟨by omega,by omega,mm.2⟩ ⟨_,_,_,h11,⟨a0,a1⟩,⟨b0,b1⟩,d0,d1⟩ (z1.trans s11) k
def xs2:List Nat->Nat->List Nat
 |[],b=>[b]
 |m::ms,b=>xs2 ms b++xs2 ms (b ^^^ m)
theorem q5C:∀(ms:List Nat) (b:Nat),(xs2 ms b).length=2 ^ ms.length
 |[],_=>rfl
 |m::ms,b=>by
  show(xs2 ms b++xs2 ms (b ^^^ m)).length=2 ^ (ms.length+1)
  rw[List.length_append,q5C,q5C,Nat.pow_succ]
  omega
theorem q6d:∀(ms:List Nat) (b:Nat),b∈xs2 ms b
 |[],_=> .head _
 |_::ms,b=>List.mem_append_left _ (q6d ms b)
theorem q2q {m:Nat}:∀{ms:List Nat} {b c:Nat},c∈xs2 ms b->c ^^^ m∈xs2 ms (b ^^^ m)
 |[],b,c,h=>by rw[List.mem_singleton.mp h];exact .head _
 |m'::ms,b,c,h=>by
  rcases List.mem_append.mp h with h|h
  ·exact List.mem_append_left _ (q2q h)
  ·refine List.mem_append_right _ ?_
   have:=q2q (m:=m) h
   rwa [Nat.xor_assoc,Nat.xor_comm m' m,<-Nat.xor_assoc] at this
theorem q7n {m:Nat}:∀{ms:List Nat} {b c:Nat},c∈xs2 ms b->m∈ms->c ^^^ m∈xs2 ms b
 |[],_,_,_,hm=>nomatch hm
 |m'::ms,b,c,h,hm=>by
  rcases List.mem_cons.mp hm with e|hm
  ·subst e
   rcases List.mem_append.mp h with h|h
   ·exact List.mem_append_right _ (q2q h)
   ·refine List.mem_append_left _ ?_
    have:=q2q (m:=m) h
    rwa [Nat.xor_assoc,Nat.xor_self,Nat.xor_zero] at this
  ·rcases List.mem_append.mp h with h|h
   ·exact List.mem_append_left _ (q7n h hm)
   ·exact List.mem_append_right _ (q7n h hm)
def allB:Nat->List (List Bool)
 |0=>[[]]
 |n+1=>(allB n).flatMap fun l=>[false::l,true::l]
theorem q6E:∀l:List Bool,l∈allB l.length
 |[]=> .head _
 |b::l=>List.mem_flatMap.mpr ⟨l,q6E l,by cases b<;>simp⟩
def prsT (T D:Nat):List (Nat×List Bool):=(List.range (2 ^ T)).flatMap fun t=>((allB D).filter fun l=>decide (l.count true<=cnt (fun i=>t.testBit i) T)).map fun l=>(t,l)
theorem qb5:∀z∈([(4,2,2,1,1),(9,5,0,0,0),(14,2,1,1,0),(3,1,1,2,2),(2,3,2,1,1),(5,0,0,4,1),(3,3,3,0,0)]:List (Nat×Nat×Nat×Nat×Nat)),∀T,T<z.2.1+1->∀D,D<z.2.2.1+1->z.1*((prsT T D).length*(2 ^ z.2.2.2.1*(z.2.2.2.2+1)))<=288:=by walk_at "k"
def drs (C:Cl):List Nat:=(List.range C.ways.length).filter fun i=>(dsOf C i).isSome
theorem qcl (C:Cl):(drs C).length=C.ways.countP isDr:=by
 have:∀n,n<=C.ways.length->((List.range n).filter fun i=>(dsOf C i).isSome).length=(C.ways.take n).countP isDr:=fun n=>by
  induction n with
  |zero=>intro _;rfl
  |succ n ih=>
   intro h
   have hn:n<C.ways.length:=h
   rw[List.range_succ,List.filter_append,List.length_append,ih (by omega),List.take_succ_eq_append_getElem hn,List.countP_append]
   congr 1
   have e:(dsOf C n).isSome=isDr C.ways[n]:=by unfold dsOf;rw[yB hn];rfl
   rw[List.countP_singleton,List.filter_cons,e]
   cases isDr C.ways[n]<;>rfl
 have:=this C.ways.length (Nat.le_refl _)
 rwa [List.take_length] at this
theorem q5t (P:Nat->Bool):∀n,cnt P n=((List.range n).map P).count true
 |0=>rfl
 |n+1=>by
  rw[List.range_succ,List.map_append,List.count_append,<-q5t P n]
  show cnt P n+_=_
  congr 1
  cases h:P n<;>simp[h]
theorem qcy {x y:Int}(hx:0<=x)(hy:0<=y)(h:∀i,bit x i=bit y i):x=y:=by
 have:x.toNat=y.toNat:=Nat.eq_of_testBit_eq fun i=>by rw[<-q1L hx,<-q1L hy];exact h i
 omega
abbrev Cd:Type:=Int×Int×List Bool×Int×Int
def cdS (C:Cl)(s:Sd):Cd:=(s.rm,s.tk,(drs C).map (bit s.op),s.b,s.wt)
theorem qcv {C:Cl}{s t:Sd}(hs:s.ok C)(ht:t.ok C)(e:cdS C s=cdS C t):s=t:=by
 have e1:s.rm=t.rm:=congrArg (·.1) e
 have e2:s.tk=t.tk:=congrArg (·.2.1) e
 have e3:(drs C).map (bit s.op)=(drs C).map (bit t.op):=congrArg (·.2.2.1) e
 have e4:s.b=t.b:=congrArg (·.2.2.2.1) e
 have e5:s.wt=t.wt:=congrArg (·.2.2.2.2) e
 have e6:s.op=t.op:=by
  refine qcy hs.hop.1 ht.hop.1 fun i=>?_
  by_cases hi:i<C.ways.length
  ·cases hd:(dsOf C i).isSome with
   |true=>exact List.map_inj_left.mp e3 i (List.mem_filter.mpr ⟨List.mem_range.mpr hi,hd⟩)
   |false=>
    have a:bit s.op i=false:=by
     cases hb:bit s.op i with
     |false=>rfl
     |true=>rw[hs.dr i hi hb] at hd;cases hd
    have b:bit t.op i=false:=by
     cases hb:bit t.op i with
     |false=>rfl
     |true=>rw[ht.dr i hi hb] at hd;cases hd
    rw[a,b]
  ·rw [q9b hs.hop.1 hs.hop.2 (by omega),q9b ht.hop.1 ht.hop.2 (by omega)]
 obtain⟨a,b,c,d,f⟩:=s
 obtain⟨a',b',c',d',f'⟩:=t
 cases e1;cases e2;cases e4;cases e5;cases e6
 rfl
def uniC (C:Cl)(s0:Sd):List Cd:=(List.range C.rooms.toNat).flatMap fun r:Nat=>(prsT C.things.length (drs C).length).flatMap fun p:Nat×List Bool=>(xs2 (C.levers.map fun x:Int×Int=>x.2.toNat) s0.b.toNat).flatMap fun b:Nat=>(s0.wt::C.wheels.map fun x:Int×Int=>x.2).map fun w:Int=>((r:Int),(p.1:Int),p.2,(b:Int),w)
theorem q3e {α β:Type}{f:α->List β}{n:Nat}:∀{l:List α},(∀x∈l,(f x).length=n)->(l.flatMap f).length=l.length*n
 |[],_=>by simp
 |x::l,h=>by
  rw[List.flatMap_cons,List.length_append,h x (.head _),q3e fun y hy=>h y (List.mem_cons_of_mem _ hy),List.length_cons,Nat.succ_mul]
  omega
theorem q9i (C:Cl)(s0:Sd):(uniC C s0).length=C.rooms.toNat*((prsT C.things.length (drs C).length).length*(2 ^ C.levers.length*(C.wheels.length+1))):=by
 unfold uniC
 rw[q3e (n:=(prsT C.things.length (drs C).length).length*(2 ^ C.levers.length*(C.wheels.length+1))),List.length_range]
 intro r _
 rw[q3e (n:=2 ^ C.levers.length*(C.wheels.length+1))]
 intro p _
 rw[q3e (n:=C.wheels.length+1),q5C,yC]
 intro b _
 rw[yC,List.length_cons,yC]
structure Bs (C:Cl)(s0 s:Sd):Prop where
 ok:s.ok C
 b:s.b.toNat∈xs2 (C.levers.map fun x=>x.2.toNat) s0.b.toNat
 wt:s.wt∈s0.wt::C.wheels.map (·.2)
theorem Bs.come {C:Cl}{s0 s:Sd}(ok:ClOk C)(h0:s0.ok C)(r:Rch (NxR C) s0 s):Bs C s0 s:=by
 induction r with
 |refl=>exact⟨h0,q6d _ _,.head _⟩
 | @step s t _ r h=>
  have okt:=nx_ok ok h.ok r
  obtain⟨d,i,hc,rfl⟩:=nx_of r
  cases d with
  |go=>
   obtain⟨x,_,_,_,_,e⟩:=go_of hc
   rw[e] at okt ⊢
   exact⟨okt,h.b,h.wt⟩
  |pull=>
   obtain⟨x,hx,_,_,e⟩:=qbr hc
   rw[e] at okt ⊢
   have hm:=List.mem_of_getElem? hx
   have hl:=ok.lv x hm
   refine⟨okt,?_,h.wt⟩
   show(Builtin.bitXor s.b x.2).toNat∈_
   rw[q7p h.ok.hb.1 (by omega),Int.toNat_natCast]
   exact q7n h.b (List.mem_map.mpr ⟨x,hm,rfl⟩)
  |take=>
   obtain⟨x,_,e⟩:=qb3 hc
   rw[e] at okt ⊢
   exact⟨okt,h.b,h.wt⟩
  |turn=>
   obtain⟨x,hx,_,e⟩:=qb0 hc
   rw[e] at okt ⊢
   exact⟨okt,h.b,List.mem_cons_of_mem _ (List.mem_map.mpr ⟨x,List.mem_of_getElem? hx,rfl⟩)⟩
  |unlock=>
   obtain⟨x,kd,_,_,e⟩:=q7r hc
   rw[e] at okt ⊢
   exact⟨okt,h.b,h.wt⟩
theorem Bs.mem {C:Cl}{s0 s:Sd}(ok:ClOk C)(h:Bs C s0 s):cdS C s∈uniC C s0:=by
 have ho:=h.ok
 have t0:=ho.htk
 have hm:=ho.hrm
 have hb:=ho.hb
 have e1:((s.rm.toNat:Nat):Int)=s.rm:=by omega
 have e2:((s.tk.toNat:Nat):Int)=s.tk:=by omega
 have e3:((s.b.toNat:Nat):Int)=s.b:=by omega
 refine List.mem_flatMap.mpr ⟨s.rm.toNat,List.mem_range.mpr (by omega),List.mem_flatMap.mpr ⟨(s.tk.toNat,(drs C).map (bit s.op)),?_,List.mem_flatMap.mpr ⟨s.b.toNat,h.b,List.mem_map.mpr ⟨s.wt,h.wt,?_⟩⟩⟩⟩
 ·refine List.mem_flatMap.mpr ⟨s.tk.toNat,List.mem_range.mpr ?_,List.mem_map.mpr ⟨_,List.mem_filter.mpr ⟨?_,?_⟩,rfl⟩⟩
  ·have:((2 ^ C.things.length:Nat):Int)=(2:Int) ^ C.things.length:=by push_cast;rfl
   omega
  ·have:=q6E ((drs C).map (bit s.op))
   rwa [yC] at this
  ·refine decide_eq_true ?_
   have a:=q89 ok ho
   rw[q5t (bit s.op)] at a
   have b:((drs C).map (bit s.op)).count true<=((List.range C.ways.length).map (bit s.op)).count true:=(List.filter_sublist.map _).count_le true
   rw[show(cnt (fun i=>s.tk.toNat.testBit i) C.things.length)=cnt (bit s.tk) C.things.length from q3z fun i _=>(q1L t0.1 i).symm]
   omega
 ·show ((s.rm.toNat:Int),(s.tk.toNat:Int),(drs C).map (bit s.op),(s.b.toNat:Int),s.wt)=_
  rw[e1,e2,e3]
  rfl
theorem qaK {C:Cl}{s:Sd}(ok:ClOk C)(sz:SzOk C)(h0:s.ok C):Few C s:=fun row nd hr=>by
 have a:=q5W (l:=row.map (cdS C)) (m:=uniC C s) (List.pairwise_map.mpr (nd.imp_of_mem fun {x y} hx hy ne e=>ne (qcv (Bs.come ok h0 (hr x hx)).ok (Bs.come ok h0 (hr y hy)).ok e))) fun c hc=>by
  obtain⟨x,hx,rfl⟩:=List.mem_map.mp hc
  exact(Bs.come ok h0 (hr x hx)).mem ok
 rw[yC,q9i,qcl] at a
 obtain⟨⟨z1,z2,z3,z4,z5⟩,hz,c1,c2,c3,c4,c5⟩:=sz.ex
 dsimp only at c1 c2 c3 c4 c5
 have hzz:0<=z1/\0<=z2/\0<=z3/\0<=z4/\0<=z5/\(z1.toNat,z2.toNat,z3.toNat,z4.toNat,z5.toNat)∈([(4,2,2,1,1),(9,5,0,0,0),(14,2,1,1,0),(3,1,1,2,2),(2,3,2,1,1),(5,0,0,4,1),(3,3,3,0,0)]:List (Nat×Nat×Nat×Nat×Nat)):=by
  simp only[szL,List.mem_cons,Prod.mk.injEq,List.not_mem_nil,or_false] at hz
  rcases hz with⟨rfl,rfl,rfl,rfl,rfl⟩|⟨rfl,rfl,rfl,rfl,rfl⟩|⟨rfl,rfl,rfl,rfl,rfl⟩|⟨rfl,rfl,rfl,rfl,rfl⟩|⟨rfl,rfl,rfl,rfl,rfl⟩|⟨rfl,rfl,rfl,rfl,rfl⟩|⟨rfl,rfl,rfl,rfl,rfl⟩<;>decide
 have b:=qb5 _ hzz.2.2.2.2.2 C.things.length (by dsimp only;omega) (C.ways.countP isDr) (by dsimp only;omega)
 dsimp only at b
 refine Nat.le_trans a (Nat.le_trans (Nat.mul_le_mul (by omega) (Nat.mul_le_mul_left _ (Nat.mul_le_mul (Nat.pow_le_pow_right (by decide) (by omega)) (by omega)))) b)
def q46:Sp:=fun vs H Q _=>∃(c q:Addr) (C:Cl) (s:Sd) (kd:Int),vs=[.ref c,.ref q,.int kd]/\ClAt H c C/\ClOk C/\SAt H q s/\∀H',Same H H'->Q (.int (hold C s.tk s.op kd)) H'
def q7C:Sp:=fun vs H Q _=>∃(c q:Addr) (C:Cl) (s:Sd) (i:Nat) (x:Way),vs=[.ref c,.ref q,.int i]/\ClAt H c C/\ClOk C/\SAt H q s/\C.ways[i]? =some x/\∀H',Same H H'->Q (.bl (q3u x.g (hold C s.tk s.op) (bit s.op i) s.b s.wt)) H'
local macro_rules| `(tactic| walk_at "wk")=> `(tactic| repeat (first|walk_at "rd1" |(refine ifd (fun h=>absurd h (by decide)) (fun _=>?_))|(refine ifd (fun _=>?_) (fun h=>absurd (by decide) h))))
theorem q9Q (T:Txt mg cs)(L:Laid K mg "_law_held" q1o ["_law_cave_here","_law_stand","_law_kind"]):Cal P w K mg base 1 "_law_held" ["_law_cave_here","_law_stand","_law_kind"] q46:=by
 refine L.cal (k:=0) q0t (fun vs H Q E h=>?_) (fun f cdv A outer s H vs Q E hr h=>?_)
 ·obtain ⟨c,q,C,st,kd,rfl,_⟩:=h
  rfl
 ·obtain ⟨c,q,C,st,kd,rfl,hC,ok,hq,k⟩:=h
  obtain⟨pw,pt,pl,pv',h0,h1,h2,_⟩:=hC.ex
  obtain⟨wv,hw,hwl,hwg⟩:=h1.get
  obtain⟨tv,ht,htl,htg⟩:=h2.get
  have hq:H q=some (.tup [.int st.rm,.int st.tk,.int st.op,.int st.b,.int st.wt]):=hq
  have big:=qC
  have hu:=Nat.lt_of_succ_lt (qc9 hr)
  have okw:=ok.wl
  have okt:=ok.tl
  have htl2:(tv.length:Int)<=8:=by omega
  have hwl2:(wv.length:Int)<=20:=by omega
  refine⟨_,(qd (qy (i:=3) q0t.nd rfl (Or.inl rfl) qc)
   (qd (q0o PassesOwn.never rfl (qT rfl T.n_range (qa (qI (lenK K) rfl T.n_len q0p (qa (qm (qk K) (pv 0) qc (fun _ _=>rfl)) qe)) qe)) (qr (i:=4) q0t.nd rfl (Or.inl rfl)) (qj (q03 (PW.pt (q2A (qz q07 (qm (qk K) (qm (qk K) (qm (qk K) (pv 0) qc (fun _ _=>rfl)) (pv 4) (fun _ _=>rfl)) qc (fun _ _=>rfl)) (pv 2) (qw _)) (q1X (qz q07 (qq q3X (qq q3V (qm (qk K) (pv 1) qc (fun _ _=>rfl)) (pv 4)) qc) qc (qw _))))) (qj (qy (i:=3) q0t.nd rfl (Or.inl rfl) (qq q0l (pv 3) qc))) qD)))
   (qd (q0o PassesOwn.never rfl (qT rfl T.n_range (qa (qI (lenK K) rfl T.n_len q0p (qa (qm (qk K) (pv 0) qc (fun _ _=>rfl)) qe)) qe)) (qr (i:=4) q0t.nd rfl (Or.inl rfl)) (qj (q03 (PW.pt (q2A (qz (q8c K hu) (qm (qk K) (qm (qk K) (qm (qk K) (pv 0) qc (fun _ _=>rfl)) (pv 4) (fun _ _=>rfl)) qc (fun _ _=>rfl)) (qG (qa qK (qa (pv 2) qe))) (qw _)) (q1X (qz q07 (qq q3X (qq q3V (qm (qk K) (pv 1) qc (fun _ _=>rfl)) (pv 4)) qc) qc (qw _))))) (qj (qy (i:=3) q0t.nd rfl (Or.inl rfl) (qq q2Y (pv 3) qc))) qD)))
   (qj (qu (pv 3)))))),?_⟩
  walk_at "r"
  refine q1K (fun i σ H'=>∃v4,σ=[some (.ref c),some (.ref q),some (.int kd),some (.int (cnt (tP C st.tk kd) i:Int)),v4]/\H'=H) ⟨none,rfl,rfl⟩ ?_ ?_
  ·rintro i σ H' hi ⟨v4,rfl,rfl⟩
   have hi2:i<C.things.length:=by rw[<-htl];simpa using hi
   obtain⟨p2,hx,hp2⟩:=htg i hi2
   have step:=q8V (C:=C) (tk:=st.tk) (k:=kd) hi2
   have hp3:H' p2=_:=hp2
   walk_at "r"
   refine ifd (fun e1=>?_) (fun e1=>?_)
   ·walk_at "r"
    rw[q1e,Int.zero_add (i:Int),Int.toNat_natCast]
    refine ite2 (fun hb=>?_) (fun hb=>?_)
    ·walk_at "r"
     rw[if_pos hb,if_pos e1.symm] at step
     exact⟨_,by rw[step];rfl,rfl⟩
    ·walk_at "r"
     rw[if_neg hb] at step
     exact⟨_,by rw[step,Int.add_zero];rfl,rfl⟩
   ·walk_at "r"
    rw[if_neg (show¬kd=C.things[i].2 from fun z=>e1 z.symm)] at step
    exact⟨_,by rw[step];split<;>(rw[Int.add_zero];rfl),rfl⟩
  ·rintro σ H' ⟨v4,rfl,rfl⟩
   have e1:(↑tv.length:Int).toNat=C.things.length:=by rw[Int.toNat_natCast,htl]
   rw[e1]
   walk_at "r"
   refine q1K (fun i σ H2=>∃v4,σ=[some (.ref c),some (.ref q),some (.int kd),some (.int ((cnt (tP C st.tk kd) C.things.length:Int) - (cnt (dP (dsOf C) st.op kd) i:Int))),v4]/\Same H' H2) ⟨v4,by rw[show(cnt (dP (dsOf C) st.op kd) 0:Int)=0 from rfl,Int.sub_zero],Same.refl _⟩ ?_ ?_
   ·rintro i σ H2 hi ⟨v4,rfl,s2⟩
    have hi2:i<C.ways.length:=by rw[<-hwl];simpa using hi
    obtain⟨p2,hx,g2,hp2,hg2⟩:=hwg i hi2
    have hp3:=s2 _ _ hp2
    have hg3:=s2 _ _ hg2
    have h0c:=s2 _ _ h0
    have hwc:=s2 _ _ hw
    have step:=q8X (C:=C) (op:=st.op) (k:=kd) hi2
    walk_at "r"
    intro t5 ht5
    have s5:Same H2 (upd H2 t5 (.tup [.str "door",.int kd])):=Same.upd ht5
    have hq5:=(s2.trans s5) _ _ hq
    refine⟨g2,t5,_,_,rfl,rfl,SqT.of (s5 _ _ hg3),SqT.of qg,Gt.flat _,rfl,?_⟩
    rw[qck]
    walk_at "r"
    refine ifd (fun e1=>?_) (fun e1=>?_)
    ·walk_at "r"
     rw[q1e,Int.zero_add (i:Int),Int.toNat_natCast]
     refine ite2 (fun hb=>?_) (fun hb=>?_)
     ·walk_at "r"
      rw[if_pos hb,if_pos e1] at step
      exact⟨_,by rw[step,Int.sub_sub];rfl,s2.trans s5⟩
     ·walk_at "r"
      rw[if_neg hb] at step
      exact⟨_,by rw[step,Int.add_zero];rfl,s2.trans s5⟩
    ·walk_at "r"
     rw[if_neg e1] at step
     exact⟨_,by rw[step];split<;>(rw[Int.add_zero];rfl),s2.trans s5⟩
   ·rintro σ H2 ⟨v4,rfl,s2⟩
    have e2:(↑wv.length:Int).toNat=C.ways.length:=by rw[Int.toNat_natCast,hwl]
    rw[e2]
    walk_at "r"
    exact k H2 s2
theorem q9O (T:Txt mg cs)(L:Laid K mg "_law_lets" q1n ["_law_cave_here","_law_stand","_law_way"])(C__law_held:Cal P w K mg base 1 "_law_held" ["_law_cave_here","_law_stand","_law_kind"] q46):Cal P w K mg base 2 "_law_lets" ["_law_cave_here","_law_stand","_law_way"] q7C:=by
 refine L.cal (k:=1) q2T (fun vs H Q E h=>?_) (fun f cdv A outer s H vs Q E hr h=>?_)
 ·obtain ⟨c,q,C,st,i,x,rfl,_⟩:=h
  rfl
 ·obtain ⟨c,q,C,st,i,x,rfl,hC,ok,hq,hx,k⟩:=h
  obtain⟨pw,pt,pl,pv',h0,h1,_⟩:=hC.ex
  obtain⟨wv,hw,hwl,hwg⟩:=h1.get
  have hi:i<C.ways.length:=(yA hx).1
  have ex:C.ways[i]=x:=(yA hx).2
  obtain⟨p2,hxp,g2,hp2,hg2⟩:=hwg i hi
  have hxa:atI wv (i:Int)=some (.ref p2):=q0m hxp
  have okx:=ok.w x (List.mem_of_getElem? hx)
  rw[ex] at hp2 hg2
  have hq':H q=some (.tup [.int st.rm,.int st.tk,.int st.op,.int st.b,.int st.wt]):=hq
  refine⟨_,(qd (qy (i:=3) q2T.nd rfl (Or.inl rfl) (qm (qk K) (qm (qk K) (qm (qk K) (pv 0) qc (fun _ _=>rfl)) (pv 2) (fun _ _=>rfl)) qc (fun _ _=>rfl)))
   (qd (q03 (qz q07 (qm (qk K) (pv 3) qc (fun _ _=>rfl)) qK (qw _)) (qj (qu (qW q07 (qq q3X (qq q3V (qm (qk K) (pv 1) qc (fun _ _=>rfl)) (pv 2)) qc) qc (qw _)))) qD)
   (qd (q03 (qz q07 (qm (qk K) (pv 3) qc (fun _ _=>rfl)) qK (qw _)) (qj (qu (qW q34 (qB C__law_held hr (by decide) rfl (qa (pv 0) (qa (pv 1) (qa (qm (qk K) (pv 3) qc (fun _ _=>rfl)) qe)))) qc (qw _)))) qD)
   (qd (q03 (qz q07 (qm (qk K) (pv 3) qc (fun _ _=>rfl)) qK (qw _)) (qj (qu (qW q07 (qq q3X (qq q3V (qm (qk K) (pv 1) qc (fun _ _=>rfl)) (qm (qk K) (pv 3) qc (fun _ _=>rfl))) qc) qc (qw _)))) qD)
   (qd (q03 (qz q07 (qm (qk K) (pv 3) qc (fun _ _=>rfl)) qK (qw _)) (qj (qu (q9E (qW q9I (qm (qk K) (pv 1) qc (fun _ _=>rfl)) (qm (qk K) (pv 3) qc (fun _ _=>rfl)) (qw _)) (q2X (qW q34 (qB C__law_held hr (by decide) rfl (qa (pv 0) (qa (pv 1) (qa (qm (qk K) (pv 3) qc (fun _ _=>rfl)) qe)))) qc (qw _)))))) qD)
   (qj (qu (q9E (qW q07 (qm (qk K) (pv 3) qc (fun _ _=>rfl)) qK (qw _)) (q2X (qW op_ge (qm (qk K) (pv 1) qc (fun _ _=>rfl)) (qm (qk K) (pv 3) qc (fun _ _=>rfl)) (qw _))))))))))),?_⟩
  walk_at "r"
  have gok:=okx.2.2.2
  have held:∀(kd:Int) (Q':VK),(∀H',Same H H'->Q' (.int (hold C st.tk st.op kd)) H')->q46 [.ref c,.ref q,.int kd] H Q' E0:=fun kd Q' q'=>⟨c,q,C,st,kd,rfl,hC,ok,hq,q'⟩
  cases eg:x.g with
  |plain=>
   rw[eg] at hg2 k
   have hg5:H g2=some (.tup [.str "plain"]):=hg2
   walk_at "wk"
   exact k H (Same.refl _)
  |door kd=>
   rw[eg] at hg2 k
   have hg5:H g2=some (.tup [.str "door",.int kd]):=hg2
   walk_at "wk"
   rw[Int.toNat_natCast,q1e]
   exact k H (Same.refl _)
  |need kd=>
   rw[eg] at hg2 k
   have hg5:H g2=some (.tup [.str "need",.int kd]):=hg2
   walk_at "wk"
   refine held kd _ fun H4 s4=>?_
   walk_at "wk"
   exact k H4 s4
  |bar kd=>
   rw[eg] at hg2 gok k
   have hg5:H g2=some (.tup [.str "bar",.int kd]):=hg2
   have gok:0<=kd/\kd<8:=gok
   walk_at "wk"
   rw[q1e]
   exact k H (Same.refl _)
  |float h=>
   rw[eg] at hg2 k
   have hg5:H g2=some (.tup [.str "float",.int h]):=hg2
   walk_at "wk"
   exact k H (Same.refl _)
  |wade h kd=>
   rw[eg] at hg2 k
   have hg5:H g2=some (.tup [.str "wade",.int h,.int kd]):=hg2
   walk_at "wk"
   refine ifd (fun hw=>?_) (fun hw=>?_)
   ·walk_at "r"
    have:=k H (Same.refl _)
    rwa [show q3u (.wade h kd) (hold C st.tk st.op) (bit st.op i) st.b st.wt=true by simp[q3u,hw]] at this
   ·walk_at "r"
    refine held kd _ fun H4 s4=>?_
    walk_at "r"
    have:=k H4 s4
    rwa [show q3u (.wade h kd) (hold C st.tk st.op) (bit st.op i) st.b st.wt=decide (0<hold C st.tk st.op kd) by simp[q3u,hw]] at this
def canR (C:Cl)(s:Sd)(d:Wd)(n:Nat):List (Wd×Nat):=(rowD d n).filter fun x=>canB C s x.2 x.1
theorem q23 (C:Cl)(s:Sd)(d:Wd)(n:Nat):canR C s d (n+1)=canR C s d n++(if canB C s n d=true then [(d,n)] else []):=by
 unfold canR
 rw[q1V,List.filter_append,List.filter_cons]
 rfl
theorem q0A (C:Cl)(s:Sd)(d:Wd)(n:Nat):(canR C s d n).length<=n:=Nat.le_trans (List.length_filter_le _ _) (by rw[qX];omega)
theorem qci {C:Cl}{s:Sd}(h:¬s.rm=C.lst):fitD C s=canR C s .go C.ways.length++canR C s .pull C.levers.length++canR C s .take C.things.length++canR C s .turn C.wheels.length++canR C s .unlock C.ways.length:=by
 have e:(fun x:Wd×Nat=>canD C s x.1 (x.2:Int))=fun x=>canB C s x.2 x.1:=by funext x;exact q93 h
 unfold fitD allD canR
 rw[e,List.filter_append,List.filter_append,List.filter_append,List.filter_append]
theorem q8H {C:Cl}{s:Sd}(h:s.rm=C.lst):fitD C s=[]:=by
 unfold fitD
 exact List.filter_eq_nil_iff.mpr fun x _=>by rw[q5u h];decide
theorem seq1 {A B:TS}{D:Ends}{σ:St}{H:Hp}(M:St->Hp->Prop)(h2:∀σ H,M σ H->B D σ H)(h1:∀B:TS,(∀σ H,M σ H->B D σ H)->tSeq A B D σ H):tSeq A B D σ H:=h1 B h2
theorem can_go {C:Cl}{s:Sd}{i:Nat}{x:Way}(h:C.ways[i]? =some x):canB C s i .go=(q0E x s.rm&&q3u x.g (hold C s.tk s.op) (bit s.op i) s.b s.wt):=by simp only[canB,h]
theorem qaP {C:Cl}{s:Sd}{i:Nat}{x:Way}{k:Int}(h:C.ways[i]? =some x)(hg:x.g= .door k):canB C s i .unlock=((q0E x s.rm&& !bit s.op i)&&decide (0<hold C s.tk s.op k)):=by simp only[canB,h,hg,Gt.dk]
theorem q92 {C:Cl}{s:Sd}{i:Nat}{x:Way}(h:C.ways[i]? =some x)(hg:∀k,x.g≠ .door k):canB C s i .unlock=false:=by
 simp only[canB,h]
 cases e:x.g<;>first|rfl|exact absurd e (hg _)
theorem if_or {p:Prop}[Decidable p]{A B R:Prop}(hA:A)(h:A->¬p->R):if decide p=true then(if true=true then A else B) else R:=ifd (fun _=>hA) (h hA)
theorem q1O {α:Type}{At:Hp->Addr->α->Prop}{H H':Hp}{l:Addr}{xs:List α}(m:∀p x,At H p x->At H' p x)(s:Same H H')(h:qJ At H l xs):qJ At H' l xs:=let ⟨ps,a,b⟩:=h;⟨ps,s _ _ a,b.mono m⟩
theorem no_un {C:Cl}{s:Sd}{i:Nat}{x:Way}(h:C.ways[i]? =some x)(he:q0E x s.rm=false):canB C s i .unlock=false:=by
 by_cases hd:∃kd,x.g= .door kd
 ·obtain ⟨kd,hd⟩:=hd
  rw[qaP h hd,he]
  rfl
 ·exact q92 h fun kd z=>hd ⟨kd,z⟩
theorem qaz (x y:Sd):(!eqVs x.vs y.vs)= !decide (x=y):=by
 congr 1
 have e3:decide (x=y)=(decide (x.rm=y.rm)&&(decide (x.tk=y.tk)&&(decide (x.op=y.op)&&(decide (x.b=y.b)&&decide (x.wt=y.wt))))):=by
  cases x;cases y;simp[Bool.decide_and]
 rw[e3]
 simp[eqVs,Sd.vs,eqV]
 rfl
theorem bit_on {x:Int}{w:Nat}(h:bit x w=true):Builtin.bitOr x (2 ^ w)=x:=by
 rw[PyProof.Rows.bitOr_and,W.kbt_bit]
 have:x / 2 ^ w % 2=1:=by
  unfold bit at h
  exact of_decide_eq_true h
 rw[this,Int.one_mul]
 omega
def RwT (s:Sd)(H:Hp)(p:Addr)(x:Wd×Nat):Prop:=∃t r,H p=some (.tup [.ref t,.ref r])/\TAt H t x/\SAt H r {s with tk:=Builtin.bitOr s.tk (2 ^ x.2)}
theorem RwT.mono {s:Sd}{H H':Hp}(ts:q0f H H'){p:Addr}{x:Wd×Nat}(h:RwT s H p x):RwT s H' p x:=let ⟨t,r,a,b,c⟩:=h;⟨t,r,ts _ _ a,ts _ _ b,ts _ _ c⟩
theorem q9p {α:Type}{At:Hp->Addr->α->Prop}{H:Hp}{ps qs:List Addr}{xs ys:List α}(h1:Rows At H ps xs)(h2:Rows At H qs ys):Rows At H (ps++qs) (xs++ys):=by
 refine⟨by rw[List.length_append,List.length_append,h1.1,h2.1],fun i p x hp hx=>?_⟩
 by_cases hi:i<ps.length
 ·rw [List.getElem?_append_left hi] at hp
  rw[List.getElem?_append_left (by rw[<-h1.1];exact hi)] at hx
  exact h1.2 i p x hp hx
 ·rw [List.getElem?_append_right (by omega)] at hp
  rw[List.getElem?_append_right (by rw[<-h1.1];omega),<-h1.1] at hx
  exact h2.2 _ p x hp hx
theorem q4w {α:Type}{At:Hp->Addr->α->Prop}(mo:∀{H H':Hp},q0f H H'->∀p x,At H p x->At H' p x){H:Hp}{Q:VK}{p q:Addr}{xs ys:List α}(h1:qJ At H p xs)(h2:qJ At H q ys)(hl:xs.length+ys.length<=1000)(k:∀(r:Addr) (H':Hp),Same H H'->H r=none->qJ At H' r (xs++ys)->Q (.ref r) H'):rCat (.ref p) (.ref q) H Q:=by
 obtain⟨ps,hp,rp⟩:=h1
 obtain⟨qs,hq,rq⟩:=h2
 have big:=qC
 refine⟨p,q,_,_,rfl,rfl,hp,hq,by rw[yC,yC,rp.1,rq.1];omega,fun r hr=>?_⟩
 have s:=Same.upd (o:= .lst (ps.map V.ref++qs.map V.ref)) hr
 exact k r _ s hr ⟨ps++qs,by rw[List.map_append];exact qg,(q9p rp rq).mono (mo s.ts)⟩
abbrev NM:List Str:=["_law_cave_here","_law_stand","_law_room","_law_taken","_law_opened","_law_bars","_law_water","_law_goes","_law_unlocks","_law_w","_law_a","_law_b","_law_gate_here","_law_back","_law_pulls","_law_takes","_law_turns"]
def MvK (Hb:Hp)(C:Cl)(s:Sd)(rt:VK):Prop:=∀(l:Addr) (H':Hp),Same Hb H'->Hb l=none->qJ (PrAt C s) H' l (fitD C s)->rt (.ref l) H'
local macro_rules| `(tactic| walk_at "wk")=> `(tactic| repeat (first|walk_at "rd1" |(refine ifd (fun h=>absurd h (by decide)) (fun _=>?_))|(refine ifd (fun _=>?_) (fun h=>absurd (by decide) h))))
theorem mv_b {f:Addr}{cdv:Value}{A:Around}{outer:List Env}{s:Shared}{H0:Hp}{E:XK}(T:Txt mg cs)(hr:Room 2 (A.deeper (PyProof.Rows.envOfC "_law_moves" (qh qO) s.heap.objs.size f cdv))):
  ∃t,PSs (cxOf CX0 P w K mg base NM "_law_moves" (qh qO) f cdv A outer s H0 E).nox ((qR qO).drop 4) t/\∀(nx bk ct:St->Hp->Prop) (rt:VK) (v9 v10 v11 v12 v13:Option V) (c q D1 D2:Addr) (C:Cl) (st:Sd) (Hb H:Hp),Same Hb H->Hb D1=none->Hb D2=none->ClAt Hb c C->ClOk C->SAt Hb q st->st.ok C->qJ (PrAt C st) H D1 (canR C st .go C.ways.length)->qJ (PrAt C st) H D2 (canR C st .unlock C.ways.length)->MvK Hb C st rt->
   t ⟨nx,rt,bk,ct⟩ [some (.ref c),some (.ref q),some (.int st.rm),some (.int st.tk),some (.int st.op),some (.int st.b),some (.int st.wt),some (.ref D1),some (.ref D2),v9,v10,v11,v12,v13,none,none,none] H:=by
 have hu:=Nat.lt_of_succ_lt (qc9 hr)
 refine⟨_,(qd (q0U (i:=14) qA.nd rfl rfl (q0y (N:=["_law_k","_law_room","_law_taken","_law_opened","_law_bars","_law_cave_here","_law_water"]) (own:=1) (caps:=[2,3,4,5,0,6]) ["_law_cave_here","_law_stand","_law_room","_law_taken","_law_opened","_law_bars","_law_water","_law_goes","_law_unlocks","_law_w","_law_a","_law_b","_law_gate_here","_law_back","_law_pulls","_law_takes","_law_turns"] (qh qO) (by walk_at "k")) rfl (qT rfl T.n_range (qa (qI (lenK K) rfl T.n_len q0p (qa (qm (qk K) (pv 0) qc (fun _ _=>rfl)) qe)) qe)) (fun _ _ _ _=>(qr (i:=0) (show List.Nodup (["_law_k","_law_room","_law_taken","_law_opened","_law_bars","_law_cave_here","_law_water"]:List Str) by walk_at "k") rfl (Or.inl rfl))) (fun _ _ _ _=>q1N) (fun _ _ _ _=>(qG (qa (qG (qa qK (qa (pv 0) qe))) (qa (qG (qa (pv 1) (qa (pv 2) (qa (pv 3) (qa (qq qaH (pv 4) (qm (qk K) (qm (qk K) (qm (qk K) (pv 5) qc (fun _ _=>rfl)) (pv 0) (fun _ _=>rfl)) qc (fun _ _=>rfl))) (qa (pv 6) qe)))))) qe)))))
   (qd (q0U (i:=14) qA.nd rfl rfl (q0y (N:=["_law_row","_law_cave_here","_law_room"]) (own:=1) (caps:=[0,2]) ["_law_cave_here","_law_stand","_law_room","_law_taken","_law_opened","_law_bars","_law_water","_law_goes","_law_unlocks","_law_w","_law_a","_law_b","_law_gate_here","_law_back","_law_pulls","_law_takes","_law_turns"] (qh qO) (by walk_at "k")) rfl (q0c K (pv 14)) (fun _ _ _ _=>(qr (i:=0) (show List.Nodup (["_law_row","_law_cave_here","_law_room"]:List Str) by walk_at "k") rfl (Or.inl rfl))) (fun _ _ _ _=>(q3U (qz q07 (qm (qk K) (qm (qk K) (qm (qk K) (pv 1) qc (fun _ _=>rfl)) (qm (qk K) (qm (qk K) (pv 0) qc (fun _ _=>rfl)) qc (fun _ _=>rfl)) (fun _ _=>rfl)) qc (fun _ _=>rfl)) (pv 2) (qw _)))) (fun _ _ _ _=>(pv 0)))
   (qd (q0U (i:=15) qA.nd rfl rfl (q0y (N:=["_law_k","_law_room","_law_taken","_law_opened","_law_bars","_law_water"]) (own:=1) (caps:=[2,3,4,5,6]) ["_law_cave_here","_law_stand","_law_room","_law_taken","_law_opened","_law_bars","_law_water","_law_goes","_law_unlocks","_law_w","_law_a","_law_b","_law_gate_here","_law_back","_law_pulls","_law_takes","_law_turns"] (qh qO) (by walk_at "k")) rfl (qT rfl T.n_range (qa (qI (lenK K) rfl T.n_len q0p (qa (qm (qk K) (pv 0) qc (fun _ _=>rfl)) qe)) qe)) (fun _ _ _ _=>(qr (i:=0) (show List.Nodup (["_law_k","_law_room","_law_taken","_law_opened","_law_bars","_law_water"]:List Str) by walk_at "k") rfl (Or.inl rfl))) (fun _ _ _ _=>q1N) (fun _ _ _ _=>(qG (qa (qG (qa qK (qa (pv 0) qe))) (qa (qG (qa (pv 1) (qa (qq qbD (pv 2) (qq q6z qc (pv 0))) (qa (pv 3) (qa (pv 4) (qa (pv 5) qe)))))) qe)))))
   (qd (q0U (i:=15) qA.nd rfl rfl (q0y (N:=["_law_row","_law_cave_here","_law_room","_law_stand"]) (own:=1) (caps:=[0,2,1]) ["_law_cave_here","_law_stand","_law_room","_law_taken","_law_opened","_law_bars","_law_water","_law_goes","_law_unlocks","_law_w","_law_a","_law_b","_law_gate_here","_law_back","_law_pulls","_law_takes","_law_turns"] (qh qO) (by walk_at "k")) rfl (q0c K (pv 15)) (fun _ _ _ _=>(qr (i:=0) (show List.Nodup (["_law_row","_law_cave_here","_law_room","_law_stand"]:List Str) by walk_at "k") rfl (Or.inl rfl))) (fun _ _ _ _=>(q3U (PW.pt (q2A (qz q07 (qm (qk K) (qm (qk K) (qm (qk K) (pv 1) qc (fun _ _=>rfl)) (qm (qk K) (qm (qk K) (pv 0) qc (fun _ _=>rfl)) qc (fun _ _=>rfl)) (fun _ _=>rfl)) qc (fun _ _=>rfl)) (pv 2) (qw _)) (q1X (qz (q8a K hu) (qm (qk K) (pv 0) qc (fun _ _=>rfl)) (pv 3) (qw _))))))) (fun _ _ _ _=>(pv 0)))
   (qd (q0U (i:=16) qA.nd rfl rfl (q0y (N:=["_law_k","_law_room","_law_taken","_law_opened","_law_bars","_law_cave_here"]) (own:=1) (caps:=[2,3,4,5,0]) ["_law_cave_here","_law_stand","_law_room","_law_taken","_law_opened","_law_bars","_law_water","_law_goes","_law_unlocks","_law_w","_law_a","_law_b","_law_gate_here","_law_back","_law_pulls","_law_takes","_law_turns"] (qh qO) (by walk_at "k")) rfl (qT rfl T.n_range (qa (qI (lenK K) rfl T.n_len q0p (qa (qm (qk K) (pv 0) qc (fun _ _=>rfl)) qe)) qe)) (fun _ _ _ _=>(qr (i:=0) (show List.Nodup (["_law_k","_law_room","_law_taken","_law_opened","_law_bars","_law_cave_here"]:List Str) by walk_at "k") rfl (Or.inl rfl))) (fun _ _ _ _=>q1N) (fun _ _ _ _=>(qG (qa (qG (qa qK (qa (pv 0) qe))) (qa (qG (qa (pv 1) (qa (pv 2) (qa (pv 3) (qa (pv 4) (qa (qm (qk K) (qm (qk K) (qm (qk K) (pv 5) qc (fun _ _=>rfl)) (pv 0) (fun _ _=>rfl)) qc (fun _ _=>rfl)) qe)))))) qe)))))
   (qd (q0U (i:=16) qA.nd rfl rfl (q0y (N:=["_law_row","_law_cave_here","_law_room","_law_stand"]) (own:=1) (caps:=[0,2,1]) ["_law_cave_here","_law_stand","_law_room","_law_taken","_law_opened","_law_bars","_law_water","_law_goes","_law_unlocks","_law_w","_law_a","_law_b","_law_gate_here","_law_back","_law_pulls","_law_takes","_law_turns"] (qh qO) (by walk_at "k")) rfl (q0c K (pv 16)) (fun _ _ _ _=>(qr (i:=0) (show List.Nodup (["_law_row","_law_cave_here","_law_room","_law_stand"]:List Str) by walk_at "k") rfl (Or.inl rfl))) (fun _ _ _ _=>(q3U (PW.pt (q2A (qz q07 (qm (qk K) (qm (qk K) (qm (qk K) (pv 1) qc (fun _ _=>rfl)) (qm (qk K) (qm (qk K) (pv 0) qc (fun _ _=>rfl)) qc (fun _ _=>rfl)) (fun _ _=>rfl)) qc (fun _ _=>rfl)) (pv 2) (qw _)) (q1X (qz (q8a K hu) (qm (qk K) (pv 0) qc (fun _ _=>rfl)) (pv 3) (qw _))))))) (fun _ _ _ _=>(pv 0)))
   (qd (q03 (qz q07 (pv 2) (qm (qk K) (pv 0) qc (fun _ _=>rfl)) (qw _)) (qj (qu (q0w qe))) qD)
   (qj (qu (qq q2D (qq q2D (qq q2D (qq q2D (pv 7) (pv 14)) (pv 15)) (pv 16)) (pv 8))))))))))),?_⟩
 intro nx bk ct rt v9 v10 v11 v12 v13 c q D1 D2 C st Hb H sb nD1 nD2 hC ok hq sok g1 g2 k
 have big:=qC
 obtain⟨pw,pt,pl,pv',h0,_,hth,hlv,hwh⟩:=hC.ex
 obtain⟨lv,hlv0,llv,glv⟩:=hlv.get
 obtain⟨tv,hth0,lth,gth⟩:=hth.get
 obtain⟨vv,hwh0,lwh,gwh⟩:=hwh.get
 have okl:=ok.ll
 have okt:=ok.tl
 have okv:=ok.vl
 have okw:=ok.wl
 have x1:(lv.length:Int)<=4:=by omega
 have x2:(tv.length:Int)<=8:=by omega
 have x3:(vv.length:Int)<=4:=by omega
 have hq':Hb q=some (.tup [.int st.rm,.int st.tk,.int st.op,.int st.b,.int st.wt]):=hq
 have h01:=sb _ _ h0
 have hlv1:=sb _ _ hlv0
 walk_at "r"
 intro P1 gP1
 refine q15 (fun i σ H'=>∃v0,σ=[v0,some (.int st.rm),some (.int st.tk),some (.int st.op),some (.int st.b),some (.ref c),some (.int st.wt)]/\Same H H'/\qJ (PrAt C st) H' P1 (rowD .pull i)) ⟨none,rfl,Same.upd gP1,⟨[],qg,Rows.nil⟩⟩ ?_ ?_
 ·rintro i σ H1 hi ⟨v0,rfl,s1,ps,hps,rps⟩
  have hi2:i<C.levers.length:=by rw[<-llv];simpa using hi
  obtain⟨p2,hx,hp2⟩:=glv i hi2
  have hxa:atI lv (0+(i:Nat))=some (.ref p2):=by rw[Int.zero_add];exact q0m hx
  have s01:=sb.trans s1
  have hp3:=s01 _ _ hp2
  have h02:=s01 _ _ h0
  have hlv2:=s01 _ _ hlv0
  have hpl:ps.length<=4:=by rw[rps.1,qX];omega
  rw[q1V]
  walk_at "r"
  intro t5 ht5
  generalize hG5:upd _ t5 _=H2
  have s2:=q0a hG5 ht5
  have h2:=q0b hG5
  have hp4:=s2 _ _ hp3
  have h03:=s2 _ _ h02
  have hlv3:=s2 _ _ hlv2
  walk_at "r"
  intro t6 ht6
  generalize hG6:upd _ t6 _=H3
  have s3:=q0a hG6 ht6
  have h3:=q0b hG6
  walk_at "r"
  intro t7 ht7
  generalize hG7:upd _ t7 _=H4
  have s4:=q0a hG7 ht7
  have h4:=q0b hG7
  have s14:=s2.trans (s3.trans s4)
  have hps4:=s14 _ _ hps
  refine⟨_,hps4,by rw[yC];omega,_,rfl,(s1.trans s14).put gP1,?_⟩
  refine qP (fun _ _ h=>PrAt.mono (q0f.lst hps4) h) (rps.mono fun _ _ h=>PrAt.mono s14.ts h) ⟨t5,t6,h4,?_,?_⟩
  ·show H4 t5=some (.tup [.str Wd.pull.str,.int ((i:Nat):Int)])
   rw[<-Int.zero_add (i:Int)]
   exact(s3.trans s4) _ _ h2
  ·show H4 t6=some (HO.tup (q0P C st (i:Int).toNat .pull).vs)
   rw[Int.toNat_natCast]
   simp only[q0P,yB hi2]
   exact s4 _ _ h3
 ·rintro σ H1 ⟨v0,rfl,s1,m1⟩
  have e1:(↑lv.length:Int).toNat=C.levers.length:=by rw[Int.toNat_natCast,llv]
  rw[e1] at m1
  obtain⟨ps1,hps1,rps1⟩:=m1
  have s01:=sb.trans s1
  walk_at "r"
  intro P2 gP2
  refine q16 (ps1.map V.ref) (fun j σ H'=>∃v0,σ=[v0,some (.ref c),some (.int st.rm)]/\Same H1 H'/\qJ (PrAt C st) H' P2 (canR C st .pull j)) ⟨none,rfl,Same.upd gP2,⟨[],qg,Rows.nil⟩⟩ ?_ ?_ ?_
  ·rintro j σ H' ⟨_,rfl,s2,_⟩
   exact SqL.of (s2 _ _ hps1)
  ·rintro j z σ H2 hz ⟨v0,rfl,s2,qs,hqs,rqs⟩
   have hj:j<C.levers.length:=by have:=(yA hz).1;rw[yC,rps1.1,qX] at this;exact this
   obtain⟨pz,ep,hpz⟩:=rps1.get (show j<(rowD .pull C.levers.length).length by rw[qX];exact hj)
   rw[hz] at ep
   cases ep
   have er:(rowD .pull C.levers.length)[j]'(by rw[qX];exact hj)=(.pull,j):=by simp[rowD]
   rw[er] at hpz
   have hpz2:=PrAt.mono s2.ts hpz
   obtain⟨t,r,e5,ht5,hr5⟩:=hpz2
   have ht5':H2 t=some (.tup [.str Wd.pull.str,.int ((j:Nat):Int)]):=ht5
   obtain⟨p2,hx,hp2⟩:=glv j hj
   have hxa:atI lv ((j:Nat):Int)=some (.ref p2):=q0m hx
   have s02:=s01.trans s2
   have hp3:=s02 _ _ hp2
   have h02:=s02 _ _ h0
   have hlv2:=s02 _ _ hlv0
   have l1:=q0A C st .pull j
   have ec:canB C st j .pull=decide (st.rm=C.levers[j].1):=by simp only[canB,yB hj]
   rw[q23]
   walk_at "r"
   refine ifd (fun e=>?_) (fun e=>?_)
   ·walk_at "r"
    refine⟨_,hqs,by rw[yC,rqs.1];omega,_,rfl,s2.put gP2,?_⟩
    rw[show(if canB C st j .pull=true then [(Wd.pull,j)] else [])=[(Wd.pull,j)] from if_pos (by rw[ec];exact decide_eq_true e.symm)]
    exact qP (fun _ _ h=>PrAt.mono (q0f.lst hqs) h) rqs ⟨t,r,e5,ht5,hr5⟩
   ·refine ⟨_,rfl,s2,qs,hqs,?_⟩
    rw[show(if canB C st j .pull=true then [(Wd.pull,j)] else [])=[] from if_neg (by rw[ec,decide_eq_false fun z=>e z.symm];exact Bool.false_ne_true),List.append_nil]
    exact rqs
  ·rintro σ H2 ⟨v0,rfl,s2,m2⟩
   rw[yC,rps1.1,qX] at m2
   have s02:=s01.trans s2
   have h02:=s02 _ _ h0
   have hth2:=s02 _ _ hth0
   walk_at "r"
   intro P3 gP3
   refine q15 (fun i σ H'=>∃v0,σ=[v0,some (.int st.rm),some (.int st.tk),some (.int st.op),some (.int st.b),some (.int st.wt)]/\Same H2 H'/\qJ (RwT st) H' P3 (rowD .take i)) ⟨none,rfl,Same.upd gP3,⟨[],qg,Rows.nil⟩⟩ ?_ ?_
   ·rintro i σ H3 hi ⟨v0,rfl,s3,ps,hps,rps⟩
    have hi2:i<C.things.length:=by rw[<-lth];simpa using hi
    have hpl:ps.length<=8:=by rw[rps.1,qX];omega
    rw[q1V]
    walk_at "r"
    intro t5 ht5
    generalize hG5:upd _ t5 _=H4
    have s4:=q0a hG5 ht5
    have h4:=q0b hG5
    walk_at "r"
    intro t6 ht6
    generalize hG6:upd _ t6 _=H5
    have s5:=q0a hG6 ht6
    have h5:=q0b hG6
    walk_at "r"
    intro t7 ht7
    generalize hG7:upd _ t7 _=H6
    have s6:=q0a hG7 ht7
    have h6:=q0b hG7
    have s36:=s4.trans (s5.trans s6)
    have hps6:=s36 _ _ hps
    refine⟨_,hps6,by rw[yC];omega,_,rfl,(s3.trans s36).put gP3,?_⟩
    refine qP (fun _ _ h=>RwT.mono (q0f.lst hps6) h) (rps.mono fun _ _ h=>RwT.mono s36.ts h) ⟨t5,t6,h6,?_,?_⟩
    ·show H6 t5=some (.tup [.str Wd.take.str,.int ((i:Nat):Int)])
     rw[<-Int.zero_add (i:Int)]
     exact(s5.trans s6) _ _ h4
    ·have:H6 t6=_:=s6 _ _ h5
     rw[Int.one_mul,Int.zero_add,Int.toNat_natCast] at this
     exact this
   ·rintro σ H3 ⟨v0,rfl,s3,m3⟩
    have e3:(↑tv.length:Int).toNat=C.things.length:=by rw[Int.toNat_natCast,lth]
    rw[e3] at m3
    obtain⟨ps3,hps3,rps3⟩:=m3
    have s03:=s02.trans s3
    walk_at "r"
    intro P4 gP4
    refine q16 (ps3.map V.ref) (fun j σ H'=>∃v0,σ=[v0,some (.ref c),some (.int st.rm),some (.ref q)]/\Same H3 H'/\qJ (PrAt C st) H' P4 (canR C st .take j)) ⟨none,rfl,Same.upd gP4,⟨[],qg,Rows.nil⟩⟩ ?_ ?_ ?_
    ·rintro j σ H' ⟨_,rfl,s4,_⟩
     exact SqL.of (s4 _ _ hps3)
    ·rintro j z σ H4 hz ⟨v0,rfl,s4,qs,hqs,rqs⟩
     have hj:j<C.things.length:=by have:=(yA hz).1;rw[yC,rps3.1,qX] at this;exact this
     obtain⟨pz,ep,hpz⟩:=rps3.get (show j<(rowD .take C.things.length).length by rw[qX];exact hj)
     rw[hz] at ep
     cases ep
     have er:(rowD .take C.things.length)[j]'(by rw[qX];exact hj)=(.take,j):=by simp[rowD]
     rw[er] at hpz
     obtain⟨t,r,e5,ht5,hr5⟩:=RwT.mono s4.ts hpz
     have ht5':H4 t=some (.tup [.str Wd.take.str,.int ((j:Nat):Int)]):=ht5
     obtain⟨p2,hx,hp2⟩:=gth j hj
     have hxa:atI tv ((j:Nat):Int)=some (.ref p2):=q0m hx
     have s04:=s03.trans s4
     have hp3:=s04 _ _ hp2
     have h04:=s04 _ _ h0
     have hth4:=s04 _ _ hth0
     have hq4:SAt H4 q st:=s04 _ _ hq
     have l1:=q0A C st .take j
     have ec:canB C st j .take=(decide (st.rm=C.things[j].1)&& !bit st.tk j):=by simp only[canB,yB hj]
     rw[q23]
     walk_at "r"
     refine ifd (fun e=>?_) (fun e=>?_)
     ·walk_at "r"
      refine r_neT (SqT.of hr5) (SqT.of hq4) rfl rfl ?_
      rw[qaz]
      cases hbt:bit st.tk j with
      |true=>
       rw[bit_on hbt,decide_eq_true rfl]
       walk_at "r"
       refine⟨_,rfl,s4,qs,hqs,?_⟩
       rw[show(if canB C st j .take=true then [(Wd.take,j)] else [])=[] from if_neg (by rw[ec,hbt,Bool.not_true,Bool.and_false];exact Bool.false_ne_true),List.append_nil]
       exact rqs
      |false=>
       rw[q67 hbt] at hr5 ⊢
       rw[decide_eq_false (show¬({st with tk:=st.tk+2 ^ j}:Sd)=st from fun z=>by
        have:=congrArg Sd.tk z
        have p2:(0:Int)<2 ^ j:=Int.pow_pos (by decide)
        dsimp only at this
        omega)]
       walk_at "r"
       refine⟨_,hqs,by rw[yC,rqs.1];omega,_,rfl,s4.put gP4,?_⟩
       rw[show(if canB C st j .take=true then [(Wd.take,j)] else [])=[(Wd.take,j)] from if_pos (by rw[ec,hbt,decide_eq_true e.symm];rfl)]
       exact qP (fun _ _ h=>PrAt.mono (q0f.lst hqs) h) rqs ⟨t,r,e5,ht5,hr5⟩
     ·refine ⟨_,rfl,s4,qs,hqs,?_⟩
      rw[show(if canB C st j .take=true then [(Wd.take,j)] else [])=[] from if_neg (by rw[ec,decide_eq_false fun z=>e z.symm,Bool.false_and];exact Bool.false_ne_true),List.append_nil]
      exact rqs
    ·rintro σ H4 ⟨v0,rfl,s4,m4⟩
     rw[yC,rps3.1,qX] at m4
     have s04:=s03.trans s4
     have h04:=s04 _ _ h0
     have hwh4:=s04 _ _ hwh0
     walk_at "r"
     intro P5 gP5
     refine q15 (fun i σ H'=>∃v0,σ=[v0,some (.int st.rm),some (.int st.tk),some (.int st.op),some (.int st.b),some (.ref c)]/\Same H4 H'/\qJ (PrAt C st) H' P5 (rowD .turn i)) ⟨none,rfl,Same.upd gP5,⟨[],qg,Rows.nil⟩⟩ ?_ ?_
     ·rintro i σ H5 hi ⟨v0,rfl,s5,ps,hps,rps⟩
      have hi2:i<C.wheels.length:=by rw[<-lwh];simpa using hi
      obtain⟨p2,hx,hp2⟩:=gwh i hi2
      have hxa:atI vv (0+(i:Nat))=some (.ref p2):=by rw[Int.zero_add];exact q0m hx
      have hpl:ps.length<=4:=by rw[rps.1,qX];omega
      rw[q1V]
      walk_at "r"
      intro t5 ht5
      generalize hG5:upd _ t5 _=H6
      have s6:=q0a hG5 ht5
      have h6:=q0b hG5
      have s06:=s04.trans (s5.trans s6)
      have hp4:=s06 _ _ hp2
      have h06:=s06 _ _ h0
      have hwh6:=s06 _ _ hwh0
      walk_at "r"
      intro t6 ht6
      generalize hG6:upd _ t6 _=H7
      have s7:=q0a hG6 ht6
      have h7:=q0b hG6
      walk_at "r"
      intro t7 ht7
      generalize hG7:upd _ t7 _=H8
      have s8:=q0a hG7 ht7
      have h8:=q0b hG7
      have s58:=s6.trans (s7.trans s8)
      have hps8:=s58 _ _ hps
      refine⟨_,hps8,by rw[yC];omega,_,rfl,(s5.trans s58).put gP5,?_⟩
      refine qP (fun _ _ h=>PrAt.mono (q0f.lst hps8) h) (rps.mono fun _ _ h=>PrAt.mono s58.ts h) ⟨t5,t6,h8,?_,?_⟩
      ·show H8 t5=some (.tup [.str Wd.turn.str,.int ((i:Nat):Int)])
       rw[<-Int.zero_add (i:Int)]
       exact(s7.trans s8) _ _ h6
      ·show H8 t6=some (HO.tup (q0P C st (i:Int).toNat .turn).vs)
       rw[Int.toNat_natCast]
       simp only[q0P,yB hi2]
       exact s8 _ _ h7
     ·rintro σ H5 ⟨v0,rfl,s5,m5⟩
      have e5:(↑vv.length:Int).toNat=C.wheels.length:=by rw[Int.toNat_natCast,lwh]
      rw[e5] at m5
      obtain⟨ps5,hps5,rps5⟩:=m5
      have s05:=s04.trans s5
      walk_at "r"
      intro P6 gP6
      refine q16 (ps5.map V.ref) (fun j σ H'=>∃v0,σ=[v0,some (.ref c),some (.int st.rm),some (.ref q)]/\Same H5 H'/\qJ (PrAt C st) H' P6 (canR C st .turn j)) ⟨none,rfl,Same.upd gP6,⟨[],qg,Rows.nil⟩⟩ ?_ ?_ ?_
      ·rintro j σ H' ⟨_,rfl,s6,_⟩
       exact SqL.of (s6 _ _ hps5)
      ·rintro j z σ H6 hz ⟨v0,rfl,s6,qs,hqs,rqs⟩
       have hj:j<C.wheels.length:=by have:=(yA hz).1;rw[yC,rps5.1,qX] at this;exact this
       obtain⟨pz,ep,hpz⟩:=rps5.get (show j<(rowD .turn C.wheels.length).length by rw[qX];exact hj)
       rw[hz] at ep
       cases ep
       have er:(rowD .turn C.wheels.length)[j]'(by rw[qX];exact hj)=(.turn,j):=by simp[rowD]
       rw[er] at hpz
       obtain⟨t,r,e6,ht6,hr6⟩:=PrAt.mono s6.ts hpz
       have ht6':H6 t=some (.tup [.str Wd.turn.str,.int ((j:Nat):Int)]):=ht6
       obtain⟨p2,hx,hp2⟩:=gwh j hj
       have hxa:atI vv ((j:Nat):Int)=some (.ref p2):=q0m hx
       have s06:=s05.trans s6
       have hp3:=s06 _ _ hp2
       have h06:=s06 _ _ h0
       have hwh6:=s06 _ _ hwh0
       have hq6:SAt H6 q st:=s06 _ _ hq
       have l1:=q0A C st .turn j
       have ec:canB C st j .turn=(decide (st.rm=C.wheels[j].1)&& !decide (st.wt=C.wheels[j].2)):=by simp only[canB,yB hj]
       have ed:q00 C st .turn ((j:Nat):Int)={st with wt:=C.wheels[j].2}:=by
        show q0P C st (j:Int).toNat .turn=_
        rw[Int.toNat_natCast]
        simp only[q0P,yB hj]
       rw[q23]
       walk_at "r"
       refine ifd (fun e=>?_) (fun e=>?_)
       ·walk_at "r"
        refine r_neT (SqT.of hr6) (SqT.of hq6) rfl rfl ?_
        rw[qaz]
        by_cases hbt:st.wt=C.wheels[j].2
        ·rw [decide_eq_true (show q00 C st Wd.turn ((j:Nat):Int)=st by rw[ed,<-hbt])]
         walk_at "r"
         refine⟨_,rfl,s6,qs,hqs,?_⟩
         rw[show(if canB C st j .turn=true then [(Wd.turn,j)] else [])=[] from if_neg (by rw[ec,decide_eq_true hbt,Bool.not_true,Bool.and_false];exact Bool.false_ne_true),List.append_nil]
         exact rqs
        ·rw [decide_eq_false (show¬q00 C st Wd.turn ((j:Nat):Int)=st from fun z=>hbt (by rw[ed] at z;exact(congrArg Sd.wt z).symm))]
         walk_at "r"
         refine⟨_,hqs,by rw[yC,rqs.1];omega,_,rfl,s6.put gP6,?_⟩
         rw[show(if canB C st j .turn=true then [(Wd.turn,j)] else [])=[(Wd.turn,j)] from if_pos (by rw[ec,decide_eq_true e.symm,decide_eq_false hbt];rfl)]
         exact qP (fun _ _ h=>PrAt.mono (q0f.lst hqs) h) rqs ⟨t,r,e6,ht6,hr6⟩
       ·refine ⟨_,rfl,s6,qs,hqs,?_⟩
        rw[show(if canB C st j .turn=true then [(Wd.turn,j)] else [])=[] from if_neg (by rw[ec,decide_eq_false fun z=>e z.symm,Bool.false_and];exact Bool.false_ne_true),List.append_nil]
        exact rqs
      ·rintro σ H6 ⟨v0,rfl,s6,m6⟩
       rw[yC,rps5.1,qX] at m6
       have s06:=s05.trans s6
       have h06:=s06 _ _ h0
       walk_at "r"
       refine ifd (fun el=>?_) (fun el=>?_)
       ·walk_at "r"
        intro l gl0
        exact k l _ (s06.trans (Same.upd gl0)) (s06.free gl0) (by rw[q8H el];exact⟨[],qg,Rows.nil⟩)
       ·have mo:∀{H H':Hp},q0f H H'->∀p x,PrAt C st H p x->PrAt C st H' p x:=fun ts _ _ h=>PrAt.mono ts h
        have s16:=s1.trans (s2.trans (s3.trans (s4.trans (s5.trans s6))))
        have s26:=s3.trans (s4.trans (s5.trans s6))
        have s46:=s5.trans s6
        have a1:=q1O (mo s16.ts) s16 g1
        have a5:=q1O (mo s16.ts) s16 g2
        have a2:=q1O (mo s26.ts) s26 m2
        have a3:=q1O (mo s46.ts) s46 m4
        have c1:=q0A C st .go C.ways.length
        have c2:=q0A C st .pull C.levers.length
        have c3:=q0A C st .take C.things.length
        have c4:=q0A C st .turn C.wheels.length
        have c5:=q0A C st .unlock C.ways.length
        walk_at "r"
        refine q4w mo a1 a2 (by omega) fun r1 I1 t1 _ b1=>?_
        walk_at "r"
        refine q4w mo b1 (q1O (mo t1.ts) t1 a3) (by rw[List.length_append];omega) fun r2 I2 t2 _ b2=>?_
        have t12:=t1.trans t2
        walk_at "r"
        refine q4w mo b2 (q1O (mo t12.ts) t12 m6) (by rw[List.length_append,List.length_append];omega) fun r3 I3 t3 _ b3=>?_
        have t13:=t12.trans t3
        walk_at "r"
        refine q4w mo b3 (q1O (mo t13.ts) t13 a5) (by rw[List.length_append,List.length_append,List.length_append];omega) fun r4 I4 t4 n4 b4=>?_
        have s0:=s06.trans t13
        exact k r4 I4 (s0.trans t4) (s0.free n4) (by rw[qci el];exact b4)
theorem q9M (T:Txt mg cs)(L:Laid K mg "_law_moves" qO ["_law_cave_here","_law_stand"])(C__law_lets:Cal P w K mg base 2 "_law_lets" ["_law_cave_here","_law_stand","_law_way"] q7C)(C__law_held:Cal P w K mg base 1 "_law_held" ["_law_cave_here","_law_stand","_law_kind"] q46):Cal P w K mg base 3 "_law_moves" ["_law_cave_here","_law_stand"] q3i:=by
 refine L.cal (k:=2) qA (fun vs H Q E h=>?_) (fun f cdv A outer s H vs Q E hr h=>?_)
 ·obtain ⟨c,q,C,st,rfl,_⟩:=h
  rfl
 ·obtain ⟨c,q,C,st,rfl,hC,ok,hq,sok,k⟩:=h
  have big:=qC
  obtain⟨tb,hb,kb⟩:=mv_b (P:=P) (w:=w) (K:=K) (base:=base) (outer:=outer) (H0:=H) (E:=E) T hr
  obtain⟨pw,pt,pl,pv',h0,h1,_⟩:=hC.ex
  obtain⟨wv,hw,hwl,hwg⟩:=h1.get
  have okw:=ok.wl
  have hwl2:(wv.length:Int)<=20:=by omega
  have hq':H q=some (.tup [.int st.rm,.int st.tk,.int st.op,.int st.b,.int st.wt]):=hq
  refine⟨_,(qd (q7Z (pv 1) (q0H (n:=5) K rfl (qE (qr (i:=2) qA.nd rfl (Or.inr rfl)) (qE (qr (i:=3) qA.nd rfl (Or.inr rfl)) (qE (qr (i:=4) qA.nd rfl (Or.inr rfl)) (qE (qr (i:=5) qA.nd rfl (Or.inr rfl)) (qE (qr (i:=6) qA.nd rfl (Or.inr rfl)) q0G)))))))
   (qd (qy (i:=7) qA.nd rfl (Or.inl rfl) (q0w qe))
   (qd (qy (i:=8) qA.nd rfl (Or.inl rfl) (q0w qe))
   (qd (q0o PassesOwn.never rfl (qT rfl T.n_range (qa (qI (lenK K) rfl T.n_len q0p (qa (qm (qk K) (pv 0) qc (fun _ _=>rfl)) qe)) qe)) (qr (i:=9) qA.nd rfl (Or.inl rfl)) (qd (q7Z (qm (qk K) (qm (qk K) (pv 0) qc (fun _ _=>rfl)) (pv 9) (fun _ _=>rfl)) (q0H (n:=4) K rfl (qE (qr (i:=10) qA.nd rfl (Or.inl rfl)) (qE (qr (i:=11) qA.nd rfl (Or.inl rfl)) (qE (qr (i:=12) qA.nd rfl (Or.inl rfl)) (qE (qr (i:=13) qA.nd rfl (Or.inl rfl)) q0G))))))
   (qj (q03 (PW.pt (q5f (qz q07 (pv 2) (pv 10) (qw _)) (q3T (PW.pt (q2A (qz q07 (pv 2) (pv 11) (qw _)) (q1X (q0J (pv 13)))))))) (qd (q03 (q0J (qB C__law_lets hr (by decide) rfl (qa (pv 0) (qa (pv 1) (qa (pv 9) qe))))) (qj (qZ (q3r PySem.F.plainAttrs_list PySem.F.slot_list_append PySem.F.type_list_append q0h (pv 7) (qa (qG (qa (qG (qa qK (qa (pv 9) qe))) (qa (qG (qa (qq q2Y (qq q0l (pv 10) (pv 11)) (pv 2)) (qa (pv 3) (qa (pv 4) (qa (pv 5) (qa (pv 6) qe)))))) qe))) qe)))) qD)
   (qj (q03 (PW.pt (q2A (qz q07 (qm (qk K) (pv 12) qc (fun _ _=>rfl)) qK (qw _)) (q2A (qz q07 (qq q3X (qq q3V (pv 4) (pv 9)) qc) qc (qw _)) (q1X (qz q34 (qB C__law_held hr (by decide) rfl (qa (pv 0) (qa (pv 1) (qa (qm (qk K) (pv 12) qc (fun _ _=>rfl)) qe)))) qc (qw _)))))) (qj (qZ (q3r PySem.F.plainAttrs_list PySem.F.slot_list_append PySem.F.type_list_append q0h (pv 8) (qa (qG (qa (qG (qa qK (qa (pv 9) qe))) (qa (qG (qa (pv 2) (qa (pv 3) (qa (qq q0l (pv 4) (qq q6z qc (pv 9))) (qa (pv 5) (qa (pv 6) qe)))))) qe))) qe)))) qD))) qD))))
   hb)))),?_⟩
  rw[show L2.start NM [V.ref c,V.ref q]=[some (V.ref c),some (V.ref q),none,none,none,none,none,none,none,none,none,none,none,none,none,none,none] from rfl]
  walk_at "r"
  intro D1 hD1
  have s1:=Same.upd (o:= .lst []) hD1
  have e1:=qg (H:=H) (a:=D1) (o:= .lst [])
  generalize upd H D1 (.lst [])=H1 at s1 e1 ⊢
  walk_at "r"
  intro D2 hD2'
  have s2:=s1.trans (Same.upd (o:= .lst []) hD2')
  have f1:=(Same.upd (o:= .lst []) hD2') _ _ e1
  have f2:=qg (H:=H1) (a:=D2) (o:= .lst [])
  have hD2:H D2=none:=s1.free hD2'
  have ne:D1≠D2:=fun z=>by rw[<-z,e1] at hD2';cases hD2'
  generalize upd H1 D2 (.lst [])=H2 at s2 f1 f2 ⊢
  have h02:=s2 _ _ h0
  have hw2:=s2 _ _ hw
  walk_at "r"
  refine q1K (fun i σ H'=>∃v9 v10 v11 v12 v13,σ=[some (.ref c),some (.ref q),some (.int st.rm),some (.int st.tk),some (.int st.op),some (.int st.b),some (.int st.wt),some (.ref D1),some (.ref D2),v9,v10,v11,v12,v13,none,none,none]/\Same H H'/\qJ (PrAt C st) H' D1 (canR C st .go i)/\qJ (PrAt C st) H' D2 (canR C st .unlock i)) ⟨none,none,none,none,none,rfl,s2,⟨[],f1,Rows.nil⟩,⟨[],f2,Rows.nil⟩⟩ ?_ ?_
  ·rintro i σ H3 hi ⟨v9,v10,v11,v12,v13,rfl,s3,g1,g2⟩
   have hi2:i<C.ways.length:=by rw[<-hwl];simpa using hi
   obtain⟨p2,hx,ga,hp2,hg2⟩:=hwg i hi2
   have ex:C.ways[i]? =some C.ways[i]:=yB hi2
   have eg1:=can_go (s:=st) ex
   generalize C.ways[i]=x at hp2 hg2 ex eg1
   have hp3:=s3 _ _ hp2
   have hg3:=s3 _ _ hg2
   have h03:=s3 _ _ h0
   have hw3:=s3 _ _ hw
   have l1:=q0A C st .go i
   have l2:=q0A C st .unlock i
   rw[q23,q23]
   cases he:q0E x st.rm with
   |false=>
    rw[show(if canB C st i .go=true then [(Wd.go,i)] else [])=[] from if_neg (by rw[eg1,he];exact Bool.false_ne_true),show(if canB C st i .unlock=true then [(Wd.unlock,i)] else [])=[] from if_neg (by rw[no_un ex he];decide),List.append_nil,List.append_nil]
    walk_at "r"
    unfold q0E at he
    rw[Bool.or_eq_false_iff,Bool.and_eq_false_iff] at he
    refine ifd (fun z=>absurd z (of_decide_eq_false he.1)) (fun _=>?_)
    walk_at "r"
    refine ifd (fun z=>?_) (fun _=>?_)
    ·walk_at "r"
     refine ite2 (fun hbk=>?_) (fun hbk=>?_)
     ·rcases he.2 with y|y
      ·exact absurd z (of_decide_eq_false y)
      ·rw [hbk] at y;cases y
     ·exact ⟨_,_,_,_,_,rfl,s3,g1,g2⟩
    ·exact ⟨_,_,_,_,_,rfl,s3,g1,g2⟩
   |true=>
    have he':=he
    unfold q0E at he'
    walk_at "r"
    refine if_or ?_ (fun th np=>?_)
    rotate_left
    ·rw [decide_eq_false np,Bool.false_or,Bool.and_eq_true] at he'
     walk_at "r"
     refine ifd (fun _=>?_) (fun z=>absurd (of_decide_eq_true he'.1) z)
     walk_at "r"
     exact ite2 (fun _=>th) (fun z=>absurd he'.2 z)
    refine seq1 (fun σ H'=>σ=[some (.ref c),some (.ref q),some (.int st.rm),some (.int st.tk),some (.int st.op),some (.int st.b),some (.int st.wt),some (.ref D1),some (.ref D2),some (.int (0+(i:Nat))),some (.int x.a),some (.int x.b),some (.ref ga),some (.bl x.back),none,none,none]/\Same H H'/\q0f H3 H'/\qJ (PrAt C st) H' D1 (canR C st .go i++if canB C st i .go=true then [(Wd.go,i)] else [])/\qJ (PrAt C st) H' D2 (canR C st .unlock i)) ?_ (fun B fin=>?_)
    ·rintro σ H4 ⟨rfl,s4,ts4,g4,⟨qs,hqs,rqs⟩⟩
     have hg4:=ts4 _ _ hg3
     have hqs2:qs.length<=20:=by rw[rqs.1];omega
     by_cases hd:∃kd,x.g= .door kd
     ·obtain ⟨kd,hd⟩:=hd
      rw[hd] at hg4
      have hg5:H4 ga=some (.tup [.str "door",.int kd]):=hg4
      have eu:=qaP (s:=st) ex hd
      rw[he,Bool.true_and] at eu
      walk_at "wk"
      rw[Int.zero_add (i:Int),Int.toNat_natCast,q7i]
      cases hbt:bit st.op i with
      |true=>
       rw[hbt] at eu
       rw[show(if canB C st i .unlock=true then [(Wd.unlock,i)] else [])=[] from if_neg (by rw[eu];exact Bool.false_ne_true),List.append_nil]
       walk_at "r"
       exact⟨_,_,_,_,_,rfl,s4,g4,⟨qs,hqs,rqs⟩⟩
      |false=>
       rw[hbt,Bool.not_false,Bool.true_and] at eu
       walk_at "r"
       refine⟨c,q,C,st,kd,rfl,hC.mono s4.ts,ok,SAt.mono s4.ts hq,fun H5 s5=>?_⟩
       have hqs5:=s5 _ _ hqs
       have g5:=q1O (fun _ _ h=>PrAt.mono s5.ts h) s5 g4
       walk_at "r"
       refine ifd (fun hp=>?_) (fun hp=>?_)
       ·rw [show(if canB C st i .unlock=true then [(Wd.unlock,i)] else [])=[(Wd.unlock,i)] from if_pos (by rw[eu];exact decide_eq_true hp)]
        walk_at "r"
        intro t5 ht5
        generalize hG5:upd _ t5 _=H6
        have s6:=q0a hG5 ht5
        have h6:=q0b hG5
        walk_at "r"
        intro t6 ht6
        generalize hG6:upd _ t6 _=H7
        have s7:=q0a hG6 ht6
        have h7:=q0b hG6
        walk_at "r"
        intro t7 ht7
        generalize hG7:upd _ t7 _=H8
        have s8:=q0a hG7 ht7
        have h8:=q0b hG7
        have s58:=s6.trans (s7.trans s8)
        have hqs8:=s58 _ _ hqs5
        walk_at "r"
        refine q4g hqs8 (by rw[yC];omega) ?_
        have ts9:=q0f.lst (o:= .lst (qs.map V.ref++[.ref t7])) hqs8
        refine⟨_,_,_,_,_,rfl,((s4.trans s5).trans s58).put hD2,?_,qP (fun _ _ h=>PrAt.mono ts9 h) (rqs.mono fun _ _ h=>PrAt.mono (s5.trans s58).ts h) ⟨t5,t6,h8,(s7.trans s8) _ _ h6,?_⟩⟩
        ·obtain ⟨us,hus,rus⟩:=g5
         exact⟨us,by rw[ql ne];exact s58 _ _ hus,rus.mono fun _ _ h=>PrAt.mono (s58.ts.trans ts9) h⟩
        ·show H8 t6=_
         have:H8 t6=_:=s8 _ _ h7
         rw[this]
         show _=some (HO.tup (q0P C st (i:Int).toNat .unlock).vs)
         rw[Int.toNat_natCast,Int.one_mul]
         rfl
       ·rw [show(if canB C st i .unlock=true then [(Wd.unlock,i)] else [])=[] from if_neg (by rw[eu,decide_eq_false hp];exact Bool.false_ne_true),List.append_nil]
        exact⟨_,_,_,_,_,rfl,s4.trans s5,g5,⟨qs,hqs5,rqs.mono fun _ _ h=>PrAt.mono s5.ts h⟩⟩
     ·have c2:=q92 (s:=st) ex fun kd z=>hd ⟨kd,z⟩
      rw[show(if canB C st i .unlock=true then [(Wd.unlock,i)] else [])=[] from if_neg (by rw[c2];decide),List.append_nil]
      have hwd:=qcb x.g
      have hdr:=qca x.g
      have hn:x.g.dk.isSome=false:=by
       cases e:x.g<;>first|rfl|exact absurd ⟨_,e⟩ hd
      walk_at "r"
      rw[hdr,hn]
      walk_at "r"
      exact⟨_,_,_,_,_,rfl,s4,g4,⟨qs,hqs,rqs⟩⟩
    ·walk_at "r"
     refine⟨c,q,C,st,i,x,by rw[Int.zero_add];rfl,hC.mono s3.ts,ok,SAt.mono s3.ts hq,ex,fun H4 s4=>?_⟩
     have g14:=q1O (fun _ _ h=>PrAt.mono s4.ts h) s4 g1
     have g24:=q1O (fun _ _ h=>PrAt.mono s4.ts h) s4 g2
     cases hlt:q3u x.g (hold C st.tk st.op) (bit st.op i) st.b st.wt with
     |false=>
      walk_at "r"
      exact fin _ _ ⟨rfl,s3.trans s4,s4.ts,by rw[if_neg (by rw[eg1,he,hlt];decide),List.append_nil];exact g14,g24⟩
     |true=>
      obtain⟨ps,hps,rps⟩:=g14
      have hpl:ps.length<=20:=by rw[rps.1];omega
      walk_at "r"
      intro t5 ht5
      generalize hG5:upd _ t5 _=H5
      have s5:=q0a hG5 ht5
      have h5:=q0b hG5
      walk_at "r"
      intro t6 ht6
      generalize hG6:upd _ t6 _=H6
      have s6:=q0a hG6 ht6
      have h6:=q0b hG6
      walk_at "r"
      intro t7 ht7
      generalize hG7:upd _ t7 _=H7
      have s7:=q0a hG7 ht7
      have h7:=q0b hG7
      have s47:=s5.trans (s6.trans s7)
      have hps7:=s47 _ _ hps
      walk_at "r"
      refine q4g hps7 (by rw[yC];omega) ?_
      have ts8:=q0f.lst (o:= .lst (ps.map V.ref++[.ref t7])) hps7
      refine fin _ _ ⟨rfl,((s3.trans s4).trans s47).put hD1,(s4.trans s47).ts.trans ts8,?_,?_⟩
      ·rw [show(if canB C st i .go=true then [(Wd.go,i)] else [])=[(Wd.go,i)] from if_pos (by rw[eg1,he,hlt];rfl)]
       refine qP (fun _ _ h=>PrAt.mono ts8 h) (rps.mono fun _ _ h=>PrAt.mono s47.ts h) ⟨t5,t6,h7,?_,?_⟩
       ·show H7 t5=some (.tup [.str Wd.go.str,.int ((i:Nat):Int)])
        rw[<-Int.zero_add (i:Int)]
        exact(s6.trans s7) _ _ h5
       ·show H7 t6=_
        have:H7 t6=_:=s7 _ _ h6
        rw[this]
        show _=some (HO.tup (q0P C st (i:Int).toNat .go).vs)
        rw[Int.toNat_natCast]
        simp only[q0P,ex]
        rw[go_end he]
        rfl
      ·obtain ⟨qs,hqs,rqs⟩:=g24
       exact⟨qs,by rw[ql ne.symm];exact s47 _ _ hqs,rqs.mono fun _ _ h=>PrAt.mono (s47.ts.trans ts8) h⟩
  ·rintro σ H3 ⟨v9,v10,v11,v12,v13,rfl,s3,g1,g2⟩
   rw[Int.toNat_natCast,hwl] at g1 g2
   exact kb _ _ _ _ _ _ _ _ _ c q D1 D2 C st H H3 s3 hD1 hD2 hC ok hq sok g1 g2 k
end
theorem q69 (us:List Value)(hl:(us++[Value.none]).length=(["cellar","stand"]:List Str).length):BnD "fewest" q0K [Value.none] ⟨us,[]⟩ ((["cellar","stand"]:List Str).zip (us++[Value.none])):=by
 have hl2:us.length=1:=by simpa using hl
 clear hl;revert us;exact blS fun _=>bl0 (fun _ _ _ _ _ _ _=>⟨_,rfl,rfl⟩)
theorem q60:Vals [.non] [Value.none]:= .cons rfl .nil
theorem q68 (us:List Value)(hl:(us++[]).length=(["cellar","stand"]:List Str).length):BnD "fewest" q0K [Value.none] ⟨us,[]⟩ ((["cellar","stand"]:List Str).zip (us++[])):=by
 have hl2:us.length=2:=by simpa using hl
 clear hl;revert us;exact blS fun _=>blS fun _=>bl0 (fun _ _ _ _ _ _ _=>⟨_,rfl,rfl⟩)
theorem q5Z:Vals [] []:= .nil
def spSh (C:Addr):Sp:=fun vs H Q _=>∃(e q:Addr) (s:Sd),vs=[.ref e,.ref q]/\H e=some (ExcO e C none)/\H q=some (.tup s.vs)/\(∀x∈s.vs,q3G x)/\
 ∀(dx:Addr),H dx=none->dx≠e->Q .non (upd (upd (upd H dx (XdO dx [])) e (ExcO e C (some dx))) dx (XdO dx [("stand",.ref q)]))
section
variable {P:Program}{w:World}{K:W.Frag}{mg:Str->Option Value}{base:Heap}{xs:Xs}{cs:Cs}
theorem qbS (T:Txt mg cs)(TX:Tx K mg xs)(L:LaidX K mg "Shut" xs.Shut "Shut.__init__" q1z ["self","stand"]):MakesX P w K mg base 1 "Shut" xs.Shut ["self","stand"] (spSh xs.Shut):=by
 refine L.makes (k:=0) q54 (fun vs H Q E h=>?_) (fun f cdv A outer s H vs Q E hr h=>?_)
 ·obtain ⟨e,q,st,rfl,_⟩:=h
  rfl
 ·obtain ⟨e,q,st,rfl,he,hq,hs,k⟩:=h
  have big:=qC
  refine⟨_,(qd (qZ (pe_bi K TX.bi_DelveError rfl TX.at_DelveError (qa (pv 0) (qa (qbA (.cons qK (.cons (pe_ft hr.gd (hu8_of hr) (pv 1)) (.cons qK .nil)))) qe))))
   (qj (qbs K (pv 0) (pv 1) rfl))),?_⟩
  walk_at "r"
  refine r_bi0 ?_
  walk_at "r"
  refine jc (by walk_at "k") (by omega) fun m1 h1=>?_
  refine jft hq (by simp[Sd.vs]) hs (by omega) (fun K h=>⟨_,rfl,h⟩) fun m4 h4=>?_
  refine jc (by walk_at "k") (by omega) fun m3 h3=>?_
  refine jn fun y hy=>?_
  walk_at "r"
  refine r_bi he TX.xi_Shut (by simp;omega) ?_
  walk_at "r"
  refine qbi ?_
  walk_at "r"
  refine⟨e,xs.Shut,rfl,TX.xf_Shut,TX.xt_Shut,TX.nf_Shut_stand,.inl ⟨he,fun dx hd hne=>?_⟩⟩
  dsimp only
  exact k dx hd hne
end
def FewR (C:Cl)(s:Sd)(ds:List (Wd×Nat)):Prop:=∃t,PthF C (fitD C) s ds t/\gl C none t=true/\∀(es:List (Wd×Nat)) (t':Sd),PthF C (fitD C) s es t'->gl C none t'=true->ds.length<=es.length
def q7G (X:Addr):Sp:=fun vs H Q E=>∃(c q d:Addr) (C:Cl) (s:Sd) (row:List Sd),vs=[.ref c,.ref q,.ref d]/\ClAt H c C/\ClOk C/\SAt H q s/\(∀x∈s.vs,q3G x)/\WAt H d C (fitD C) row/\(∀x,x∈row↔Rch (NxR C) s x)/\
 (∀(l:Addr) (ds:List (Wd×Nat)) (H':Hp),Same H H'->H l=none->qJ TAt H' l ds->ds.length<=288->FewR C s ds->Q (.ref l) H')/\
 ∀(dx:Addr) (H':Hp),Same H H'->H' dx=some (XdO dx [("stand",.ref q)])->(∀x,Rch (NxR C) s x->gl C none x=false)->E (.ref X) (some dx) H'
theorem q2l {C:Cl}:∀{ds:List (Wd×Nat)} {r s t:Sd},Rch (NxR C) r s->PthF C (fitD C) s ds t->Rch (NxR C) r t
 |[],_,_,_,h,e=>by cases e;exact h
 |x::_,_,_,_,h,e=>q2l (h.step (List.mem_map.mpr ⟨x,e.1,rfl⟩)) e.2
section
variable {P:Program}{w:World}{K:W.Frag}{mg:Str->Option Value}{base:Heap}{xs:Xs}{cs:Cs}
theorem q9U (T:Txt mg cs)(TX:Tx K mg xs)(L:Laid K mg "fewest_in" q1i ["cellar","begin","walk"])(X_Shut:MakesX P w K mg base 1 "Shut" xs.Shut ["self","stand"] (spSh xs.Shut))(C_ends_of:Cal P w K mg base 1 "ends_of" ["cellar","walk"] qay)(C_row_to:Cal P w K mg base 3 "row_to" ["ends","begin","walk"] spRow):CalX P w K mg base 4 "fewest_in" ["cellar","begin","walk"] (q7G xs.Shut):=by
 refine L.calX (k:=3) q2R (fun vs H Q E h=>?_) (fun f cdv A outer s H vs Q E hr h=>?_)
 ·obtain ⟨c,q,d,C,st,row,rfl,_⟩:=h
  rfl
 ·obtain ⟨c,q,d,C,st,row,rfl,hC,ok,hq,hsh,hW,mem,k,ke⟩:=h
  have big:=qC
  refine⟨_,(qd (qy (i:=3) q2R.nd rfl (Or.inl rfl) (qB C_row_to hr (by decide) rfl (qa (qB C_ends_of hr (by decide) rfl (qa (pv 0) (qa (pv 2) qe))) (qa (pv 1) (qa (pv 2) qe)))))
   (qd (q03 (q3o (q88 (pv 3))) (qj (q7W X_Shut q72 rfl rfl hr (by decide) rfl (qa (pv 1) qe))) qD)
   (qj (qu (pv 3))))),?_⟩
  walk_at "r"
  refine⟨c,d,C,fitD C,row,rfl,hC,hW,fun r H1 s1 hr0 hr1=>?_⟩
  walk_at "r"
  refine⟨r,q,d,C,fitD C,row,_,st,rfl,hr1,hW.nd.filter _,fun x hx=>(List.mem_filter.mp hx).1,hW.same s1,s1 _ _ hq,mem,fun H2 s2 eG=>?_,fun l ds t H2 s2 hl0 hl hds pth tG mn=>?_⟩
  ·have s12:=s1.trans s2
   have hq2:H2 q=some (.tup st.vs):=s12 _ _ hq
   have none:∀x,Rch (NxR C) st x->gl C none x=false:=fun x hx=>by
    cases hg:gl C none x with
    |false=>rfl
    |true=>
     have:x∈row.filter (gl C none):=List.mem_filter.mpr ⟨(mem x).mpr hx,hg⟩
     rw[eG] at this
     cases this
   walk_at "r"
   refine ifd (fun _=>?_) (fun z=>absurd rfl z)
   walk_at "r"
   refine q9s ?_
   walk_at "r"
   intro e he
   refine⟨e,q,st,rfl,qg,by rw[ql (qp hq2 he)];exact hq2,hsh,fun d2 hd2 hne=>⟨rfl,some d2,?_,?_⟩⟩
   ·rw [ql (Ne.symm hne),qg]
   ·have hd0:H2 d2=Option.none:=by rw[ql hne] at hd2;exact hd2
    refine ke d2 _ (s12.trans fun b o qb=>?_) ?_ none
    ·have n1:=qp qb he
     have n2:=qp qb hd0
     rw[q2F n1,ql n2,ql n1,ql n2,ql n1]
     exact qb
    ·rw [q2F hne,qg]
  ·have s12:=s1.trans s2
   walk_at "r"
   refine ifd (fun z=>nomatch z) (fun _=>?_)
   walk_at "r"
   refine k l ds H2 s12 (s1.free hl0) hl hds ⟨t,pth,(List.mem_filter.mp tG).2,fun es t' pt ht'=>mn es t' pt (List.mem_filter.mpr ⟨(mem t').mpr (q2l .refl pt),ht'⟩)⟩
end
def q47 (X:Addr):Sp:=fun vs H Q E=>∃(c:Addr) (v:V) (C:Cl) (s:Sd),vs=[.ref c,v]/\ClAt H c C/\ClOk C/\s.ok C/\Few C s/\((v= .non/\s=st0 C)\/∃q,v= .ref q/\SAt H q s)/\(∀x∈s.vs,q3G x)/\
 (∀(l:Addr) (ds:List (Wd×Nat)) (H':Hp),Same H H'->H l=none->qJ TAt H' l ds->ds.length<=288->FewR C s ds->Q (.ref l) H')/\
 ∀(q dx:Addr) (H':Hp),Same H H'->SAt H' q s->H' dx=some (XdO dx [("stand",.ref q)])->(∀x,Rch (NxR C) s x->gl C none x=false)->E (.ref X) (some dx) H'
section
variable {P:Program}{w:World}{K:W.Frag}{mg:Str->Option Value}{base:Heap}{xs:Xs}{cs:Cs}
theorem q8h (T:Txt mg cs)(TX:Tx K mg xs)(L:LaidD K mg "fewest" q0K [.none])(C_begin_of:Cal P w K mg base 2 "begin_of" ["cellar","stand"] q5J)(C_walk_from:Cal P w K mg base 9 "walk_from" ["cellar","begin"] spWF)(C_fewest_in:CalX P w K mg base 4 "fewest_in" ["cellar","begin","walk"] (q7G xs.Shut)):CalDX P w K mg base 10 "fewest" ["cellar","stand"] (q47 xs.Shut) q0K [.none]:=by
 refine L.calX (k:=9) q4U (fun vs H Q E h=>?_) (fun f cdv A outer s H vs Q E hr h=>?_)
 ·obtain ⟨c,v,C,st,rfl,_⟩:=h
  rfl
 ·obtain ⟨c,v,C,st,rfl,hC,ok,sok,fw,hs,hsh,k,ke⟩:=h
  have big:=qC
  refine⟨_,(qd (qy (i:=2) q4U.nd rfl (Or.inl rfl) (qB C_begin_of hr (by decide) rfl (qa (pv 0) (qa (pv 1) qe))))
   (qj (qu (qbB C_fewest_in qbC hr (by decide) rfl (qa (pv 0) (qa (pv 2) (qa (q85 (qB C_walk_from hr (by decide) rfl (qa (pv 0) (qa (pv 2) qe)))) qe))))))),?_⟩
  walk_at "r"
  refine q9c hC hs fun q H1 s1 hq=>?_
  walk_at "r"
  refine⟨c,q,C,st,rfl,hC.mono s1.ts,ok,fw,hq,sok,fun a row ls H2 s2 ha0 ha hrw nd mem=>?_⟩
  have hln:row.length<=288:=fw row nd fun x hx=>(mem x).mp hx
  walk_at "r"
  refine⟨a,_,rfl,ha,fun o1=>?_⟩
  have s3:Same H1 (upd H2 a (.frz o1 (.dT (dkv (lkD row ls))))):=s2.put ha0
  have ha3:=qg (H:=H2) (a:=a) (o:= .frz o1 (.dT (dkv (lkD row ls))))
  have hrw3:Rows (PrF C (fitD C)) (upd H2 a (.frz o1 (.dT (dkv (lkD row ls))))) ls row:=hrw.mono fun _ _ h=>PrL.dput ha h
  generalize upd H2 a (.frz o1 (.dT (dkv (lkD row ls))))=H3 at s3 ha3 hrw3 ⊢
  have W3:WAt H3 a C (fitD C) row:=⟨⟨o1,ls,ha3,hrw3⟩,nd,hln,q3f ok⟩
  have s03:=s1.trans s3
  walk_at "r"
  exact⟨c,q,a,C,st,row,rfl,hC.mono s03.ts,ok,s3 _ _ hq,hsh,W3,mem,fun l ds H4 s4 hl0 hl hds fr=>k l ds H4 (s03.trans s4) (s03.free hl0) hl hds fr,fun dx H4 s4 hdx no=>ke q dx H4 (s03.trans s4) ((s3.trans s4) _ _ hq) hdx no⟩
end
def qcB (H:Hp)(r:Addr)(C:Cl)(s:Sd):Prop:=(∃l ds,H r=some (.tup [.str "row",.ref l])/\qJ TAt H l ds/\ds.length<=288/\FewR C s ds)\/∃q,H r=some (.tup [.str "shut",.ref q,.bl true])/\SAt H q s/\∀x,Rch (NxR C) s x->gl C none x=false
theorem q7R {te:TE}{sp:Sp}{dvs:List V}{t:TA}{th:TH}{D:Ends}{σ:St}{H:Hp}(q:te σ H fun x H1=>t σ H1 fun vs H2=>sp (vs++dvs) H2 (fun y H3=>∀p,H3 p=none->D.rt (.ref p) (upd H3 p (.tup [x,y]))) (fun cls od H'=>th cls od D σ H')):tTryH (xRet (xTup2 te (qaV sp dvs t))) th D σ H:=q
def qb8:Sp:=fun vs H Q _=>∃(c q:Addr) (C:Cl) (s:Sd),vs=[.ref c,.ref q]/\ClAt H c C/\ClOk C/\s.ok C/\Few C s/\SAt H q s/\(∀x∈s.vs,q3G x)/\∀(r:Addr) (H':Hp),Same H H'->qcB H' r C s->Q (.ref r) H'
def qb9:Sp:=fun vs H Q _=>∃(c:Addr) (C:Cl) (s:Sd),vs=[.ref c]/\ClAt H c C/\ClOk C/\s.ok C/\Few C s/\s=st0 C/\(∀x∈s.vs,q3G x)/\∀(r:Addr) (H':Hp),Same H H'->qcB H' r C s->Q (.ref r) H'
section
variable {P:Program}{w:World}{K:W.Frag}{mg:Str->Option Value}{base:Heap}{xs:Xs}{cs:Cs}
theorem qbG (T:Txt mg cs)(TX:Tx K mg xs)(L:Laid K mg "_law_told" q1m ["_law_cave_here","_law_stand"])(C_fewest:CalDX P w K mg base 10 "fewest" ["cellar","stand"] (q47 xs.Shut) q0K [.none]):Cal P w K mg base 11 "_law_told" ["_law_cave_here","_law_stand"] (qb8):=by
 refine L.cal (k:=10) q2S (fun vs H Q E h=>?_) (fun f cdv A outer s H vs Q E hr h=>?_)
 ·obtain ⟨c,q,C,st,rfl,_⟩:=h
  rfl
 ·obtain ⟨c,q,C,st,rfl,hC,ok,sok,fw,hq,hsh,k⟩:=h
  have big:=qC
  refine⟨_,(qj (q7V rfl rfl rfl (q6s (q7U (q6u qK (q5i C_fewest rfl (q68) (q5Z) hr (by decide) rfl (qa (pv 0) (qa (pv 1) qe))))))
   (ph_as (i:=2) K rfl rfl TX.at_Shut q2S.nd rfl rfl rfl (fun _=>(qj (qu (qG (qa qK (qa (q86 K (pv 2)) (qa (q6y (qI (isiYK K) rfl T.n_isinstance q0x (qa (pv 2) (qa (qv (v:= .ref xs.DelveError) rfl TX.at_DelveError rfl) qe))) (q2X (qI (isiYK K) rfl T.n_isinstance q0x (qa (pv 2) (qa (q4k (v:= .ty "ValueError") rfl T.n_ValueError q4y rfl) qe))))) qe)))))))))),?_⟩
  walk_at "r"
  refine q7R ?_
  walk_at "r"
  refine⟨c,_,C,st,rfl,hC,ok,sok,fw,.inr ⟨q,rfl,hq⟩,hsh,fun l ds H1 s1 hl0 hl hds fr=>?_,fun q2 dx H1 s1 hq2 hdx no=>?_⟩
  ·intro r hr0
   have s2:=Same.upd (o:= .tup [.str "row",.ref l]) hr0
   exact k r _ (s1.trans s2) (.inl ⟨l,ds,qg,q1O (fun _ _=>TAt.mono s2.ts) s2 hl,hds,fr⟩)
  ·refine ⟨TX.mo_Shut_0,fun a oe ho hod hda ha=>?_⟩
   generalize hG1:upd _ a _=H2
   have s2:=q0a hG1 ha
   have h1:=q0b hG1
   have hdx2:=s2 _ _ hdx
   have s12:=s1.trans s2
   walk_at "r"
   try simp only[Ends.lose]
   walk_at "r"
   refine q7S ?_
   walk_at "r"
   refine⟨a,oe,_,xs.Shut,dx,[("stand",.ref q2)],.ref q2,rfl,h1,ho,hod,hda,TX.xf_Shut,TX.xt_Shut,TX.nf_Shut_stand,hdx2,rfl,?_⟩
   walk_at "r"
   refine r_isY h1 ho TX.xt_Shut TX.is_Shut_DelveError ?_
   walk_at "r"
   refine r_isYT h1 ho TX.xt_Shut TX.is_Shut_ValueError ?_
   walk_at "r"
   intro r hr0
   have s3:=Same.upd (o:= .tup [.str "shut",.ref q2,.bl true]) hr0
   exact k r _ (s12.trans s3) (.inr ⟨q2,qg,(s2.trans s3) _ _ hq2,no⟩)
theorem q8g (T:Txt mg cs)(TX:Tx K mg xs)(L:Laid K mg "_law_start" q0X ["_law_cave_here"])(C_fewest:CalDX P w K mg base 10 "fewest" ["cellar","stand"] (q47 xs.Shut) q0K [.none]):Cal P w K mg base 11 "_law_start" ["_law_cave_here"] (qb9):=by
 refine L.cal (k:=10) q2s (fun vs H Q E h=>?_) (fun f cdv A outer s H vs Q E hr h=>?_)
 ·obtain ⟨c,C,st,rfl,_⟩:=h
  rfl
 ·obtain ⟨c,C,st,rfl,hC,ok,sok,fw,est,hsh,k⟩:=h
  have big:=qC
  refine⟨_,(qj (q7V rfl rfl rfl (q6s (q7U (q6u qK (q5i C_fewest rfl (q69) (q60) hr (by decide) rfl (qa (pv 0) qe)))))
   (ph_as (i:=1) K rfl rfl TX.at_Shut q2s.nd rfl rfl rfl (fun _=>(qj (qu (qG (qa qK (qa (q86 K (pv 1)) (qa q2B qe)))))))))),?_⟩
  walk_at "r"
  refine q7R ?_
  walk_at "r"
  refine⟨c,_,C,st,rfl,hC,ok,sok,fw,.inl ⟨rfl,est⟩,hsh,fun l ds H1 s1 hl0 hl hds fr=>?_,fun q2 dx H1 s1 hq2 hdx no=>?_⟩
  ·intro r hr0
   have s2:=Same.upd (o:= .tup [.str "row",.ref l]) hr0
   exact k r _ (s1.trans s2) (.inl ⟨l,ds,qg,q1O (fun _ _=>TAt.mono s2.ts) s2 hl,hds,fr⟩)
  ·refine ⟨TX.mo_Shut_0,fun a oe ho hod hda ha=>?_⟩
   generalize hG1:upd _ a _=H2
   have s2:=q0a hG1 ha
   have h1:=q0b hG1
   have hdx2:=s2 _ _ hdx
   have s12:=s1.trans s2
   walk_at "r"
   try simp only[Ends.lose]
   walk_at "r"
   refine q7S ?_
   walk_at "r"
   refine⟨a,oe,_,xs.Shut,dx,[("stand",.ref q2)],.ref q2,rfl,h1,ho,hod,hda,TX.xf_Shut,TX.xt_Shut,TX.nf_Shut_stand,hdx2,rfl,?_⟩
   walk_at "r"
   intro r hr0
   have s3:=Same.upd (o:= .tup [.str "shut",.ref q2,.bl true]) hr0
   exact k r _ (s12.trans s3) (.inr ⟨q2,qg,(s2.trans s3) _ _ hq2,no⟩)
end
theorem q5g {C:Cl}{F:Sd->List (Wd×Nat)}:∀{es:List (Wd×Nat)} {u:Wd×Nat} {s y:Sd},PthF C F s (es++[u]) y->∃x,PthF C F s es x/\y∈nxF C F x
 |[],u,s,y,h=>⟨s,rfl,List.mem_map.mpr ⟨u,h.1,h.2⟩⟩
 |v::es,u,s,y,h=>let ⟨x,a,b⟩:=q5g (es:=es) h.2;⟨x,⟨h.1,a⟩,b⟩
theorem q6r {C:Cl}{F:Sd->List (Wd×Nat)}{es:List (Wd×Nat)}{s x y:Sd}(h:PthF C F s es x)(hy:y∈nxF C F x):∃es',PthF C F s es' y/\es'.length=es.length+1:=by
 obtain⟨u,hu,rfl⟩:=List.mem_map.mp hy
 exact⟨es++[u],h.snoc hu,by rw[List.length_append,List.length_singleton]⟩
structure Lvs (C:Cl)(s:Sd)(k:Nat)(E D:List Sd):Prop where
 ed:∀x∈E,∃es,PthF C (fitD C) s es x/\es.length=k
 al:∀(es:List (Wd×Nat)) (x:Sd),PthF C (fitD C) s es x->es.length<=k->x∈D
 or':∀(es:List (Wd×Nat)) (x:Sd),PthF C (fitD C) s es x->es.length=k->x∈E\/∃es',PthF C (fitD C) s es' x/\es'.length<k
 no:∀(es:List (Wd×Nat)) (x:Sd),PthF C (fitD C) s es x->es.length<k->gl C none x=false
 fd:∀x∈D,∃es,PthF C (fitD C) s es x/\es.length<=k
 nd:D.Nodup
 sub:∀x∈E,x∈D
 ne:E.Nodup
theorem Lvs.start {C:Cl}{s:Sd}:Lvs C s 0 [s] [s] where
 ed:=fun x hx=>⟨[],(List.mem_singleton.mp hx).symm,rfl⟩
 al:=fun es x h hl=>by
  cases es with
  |nil=>rw[show s=x from h];simp
  |cons u es=>simp at hl
 or':=fun es x h hl=>by
  cases es with
  |nil=>rw[show s=x from h];simp
  |cons u es=>simp at hl
 no:=fun es x h hl=>absurd hl (Nat.not_lt_zero _)
 fd:=fun x hx=>⟨[],(List.mem_singleton.mp hx).symm,Nat.le_refl _⟩
 nd:=by simp
 sub:=fun x hx=>hx
 ne:=by simp
structure LvM (C:Cl)(s:Sd)(k:Nat)(D N:List Sd):Prop where
 nd:(D++N).Nodup
 nw:∀y∈N,∃es,PthF C (fitD C) s es y/\es.length=k+1
theorem Lvs.mid {C:Cl}{s:Sd}{k:Nat}{E D:List Sd}(h:Lvs C s k E D):LvM C s k D []:=⟨by rw[List.append_nil];exact h.nd,fun y hy=>nomatch hy⟩
theorem LvM.new {C:Cl}{s:Sd}{k:Nat}{E D N:List Sd}{x y:Sd}(m:LvM C s k D N)(h:Lvs C s k E D)(hx:x∈E)(hy:y∈nxF C (fitD C) x)(hn:y∉D++N):LvM C s k D (N++[y]):=by
 refine⟨?_,fun z hz=>?_⟩
 ·rw [<-List.append_assoc]
  exact List.nodup_append.mpr ⟨m.nd,by simp,fun a ha b hb e=>hn (by rw[List.mem_singleton.mp hb] at e;rw[<-e];exact ha)⟩
 ·rcases List.mem_append.mp hz with hz|hz
  ·exact m.nw z hz
  ·rw [List.mem_singleton.mp hz]
   obtain⟨es,a,b⟩:=h.ed x hx
   obtain⟨es',a',b'⟩:=q6r a hy
   exact⟨es',a',by omega⟩
theorem LvM.next {C:Cl}{s:Sd}{k:Nat}{E D N:List Sd}(m:LvM C s k D N)(h:Lvs C s k E D)(hd:∀x∈E,∀y∈nxF C (fitD C) x,y∈D++N)(hg:∀x∈E,gl C none x=false):Lvs C s (k+1) N (D++N):=by
 have far:∀(es:List (Wd×Nat)) (y:Sd),PthF C (fitD C) s es y->es.length=k+1->y∈D++N:=fun es y p hl=>by
  rcases List.eq_nil_or_concat es with rfl|⟨es,u,rfl⟩
  ·simp at hl
  ·rw [List.concat_eq_append] at p hl
   obtain⟨x,px,hy⟩:=q5g p
   have hk:es.length=k:=by rw[List.length_append,List.length_singleton] at hl;omega
   rcases h.or' es x px hk with hx|⟨es',p',hl'⟩
   ·exact hd x hx y hy
   ·obtain ⟨es2,p2,l2⟩:=q6r p' hy
    exact List.mem_append_left _ (h.al es2 y p2 (by omega))
 refine⟨m.nw,fun es y p hl=>?_,fun es y p hl=>?_,fun es y p hl=>?_,fun y hy=>?_,m.nd,fun x hx=>List.mem_append_right _ hx,(List.nodup_append.mp m.nd).2.1⟩
 ·by_cases e:es.length=k+1
  ·exact far es y p e
  ·exact List.mem_append_left _ (h.al es y p (by omega))
 ·rcases List.mem_append.mp (far es y p hl) with hy|hy
  ·obtain ⟨es',p',l'⟩:=h.fd y hy
   exact .inr ⟨es',p',by omega⟩
  ·exact .inl hy
 ·by_cases e:es.length=k
  ·rcases h.or' es y p e with hy|⟨es',p',l'⟩
   ·exact hg y hy
   ·exact h.no es' y p' l'
  ·exact h.no es y p (by omega)
 ·rcases List.mem_append.mp hy with hy|hy
  ·obtain ⟨es',p',l'⟩:=h.fd y hy
   exact⟨es',p',by omega⟩
  ·obtain ⟨es',p',l'⟩:=m.nw y hy
   exact⟨es',p',by omega⟩
def q7B:Sp:=fun vs H Q _=>∃(c q:Addr) (C:Cl) (s:Sd),vs=[.ref c,.ref q]/\ClAt H c C/\ClOk C/\SAt H q s/\s.ok C/\Few C s/\
 (∀(m:Nat) (es:List (Wd×Nat)) (t:Sd) (H':Hp),Same H H'->PthF C (fitD C) s es t->gl C none t=true->es.length=m->(∀(es':List (Wd×Nat)) (t':Sd),PthF C (fitD C) s es' t'->gl C none t'=true->m<=es'.length)->Q (.int (m:Int)) H')/\
 ∀H',Same H H'->(∀(es':List (Wd×Nat)) (t':Sd),PthF C (fitD C) s es' t'->gl C none t'=true->300<=es'.length)->Q .non H'
theorem Lvs.len {C:Cl}{s:Sd}{k:Nat}{E D:List Sd}(h:Lvs C s k E D)(fw:Few C s):E.length<=288:=Nat.le_trans (q2J h.ne h.sub) (fw D h.nd fun x hx=>let ⟨_,p,_⟩:=h.fd x hx;q2l .refl p)
theorem LvM.len {C:Cl}{s:Sd}{k:Nat}{E D N:List Sd}(m:LvM C s k D N)(h:Lvs C s k E D)(fw:Few C s):(D++N).length<=288:=fw _ m.nd fun x hx=>by
 rcases List.mem_append.mp hx with hx|hx
 ·obtain ⟨_,p,_⟩:=h.fd x hx
  exact q2l .refl p
 ·obtain ⟨_,p,_⟩:=m.nw x hx
  exact q2l .refl p
section
variable {P:Program}{w:World}{K:W.Frag}{mg:Str->Option Value}{base:Heap}{cs:Cs}
theorem q9L (T:Txt mg cs)(L:Laid K mg "_law_near" q0S ["_law_cave_here","_law_first"])(C__law_moves:Cal P w K mg base 3 "_law_moves" ["_law_cave_here","_law_stand"] q3i):Cal P w K mg base 4 "_law_near" ["_law_cave_here","_law_first"] q7B:=by
 refine L.cal (k:=3) q06 (fun vs H Q E h=>?_) (fun f cdv A outer s H vs Q E hr h=>?_)
 ·obtain ⟨c,q,C,st,rfl,_⟩:=h
  rfl
 ·obtain ⟨c,q,C,st,rfl,hC,ok,hq,sok,fw,ky,kn⟩:=h
  obtain⟨pw,pt,pl,pv',h0,_⟩:=hC.ex
  have big:=qC
  refine⟨_,(qd (qy (i:=2) q06.nd rfl (Or.inl rfl) (q6x (q0u hr) (pv 1) q2B))
   (qd (qy (i:=3) q06.nd rfl (Or.inl rfl) (q0w (qa (pv 1) qe)))
   (qd (q0o PassesOwn.never rfl (qT rfl T.n_range (qa qc qe)) (qr (i:=4) q06.nd rfl (Or.inl rfl)) (qd (q03 (q0J (qI (anyK K) rfl T.n_any bt_any (qa (q2n (q0y (N:=["_law_stand","_law_cave_here"]) (own:=1) (caps:=[0]) ["_law_cave_here","_law_first","_law_found","_law_edge","_law_total","_law_far","_law_stand","_law_deed","_law_other"] (qh q0S) (by walk_at "k")) rfl (q0c K (pv 3)) (fun _ _ _ _=>(qr (i:=0) (show List.Nodup (["_law_stand","_law_cave_here"]:List Str) by walk_at "k") rfl (Or.inl rfl))) (fun _ _ _ _=>q1N) (fun _ _ _ _=>(qW q07 (qm (qk K) (pv 0) qc (fun _ _=>rfl)) (qm (qk K) (pv 1) qc (fun _ _=>rfl)) (qw _)))) qe))) (qj (qu (pv 4))) qD)
   (qd (qy (i:=5) q06.nd rfl (Or.inl rfl) (q0w qe))
   (qd (q0o PassesOwn.never rfl (q0c K (pv 3)) (qr (i:=6) q06.nd rfl (Or.inl rfl)) (qj (q0o PassesOwn.never rfl (q0c K (qB C__law_moves hr (by decide) rfl (qa (pv 0) (qa (pv 6) qe)))) (q0H (n:=2) K rfl (qE (qr (i:=7) q06.nd rfl (Or.inl rfl)) (qE (qr (i:=8) q06.nd rfl (Or.inl rfl)) q0G))) (qj (q03 (q3o (q2C (q0u hr) (pv 8) (pv 2))) (qd (q2m (q0u hr) (pv 2) (pv 8) q2B rfl)
   (qj (qZ (q3r PySem.F.plainAttrs_list PySem.F.slot_list_append PySem.F.type_list_append q0h (pv 5) (qa (pv 8) qe))))) qD)))))
   (qj (qy (i:=3) q06.nd rfl (Or.inl rfl) (pv 5)))))))
   (qj (qu q6w))))),?_⟩
  walk_at "r"
  intro D hD
  have s3:=Same.upd (o:= .dT []) hD
  have h3:=qg (H:=H) (a:=D) (o:= .dT [])
  generalize upd H D (.dT [])=H3 at s3 h3 ⊢
  have hq3:SAt H3 q st:=s3 _ _ hq
  walk_at "r"
  refine⟨q,st.key,rfl,h3,hq3,?_⟩
  have s4:Same H (upd H3 D (.dT [(st.key,V.bl true)])):=s3.put hD
  have d4:DAtS (upd H3 D (.dT [(st.key,V.bl true)])) D [(st,V.bl true)]:=qg
  generalize upd H3 D (.dT [(st.key,V.bl true)])=H4 at s4 d4 ⊢
  walk_at "r"
  intro R hR4
  have s5:=s4.trans (Same.upd (o:= .lst [.ref q]) hR4)
  have d5:DAtS (upd H4 R (.lst [.ref q])) D [(st,V.bl true)]:=(Same.upd (o:= .lst [.ref q]) hR4) _ _ d4
  have R5:=qg (H:=H4) (a:=R) (o:= .lst [.ref q])
  generalize upd H4 R (.lst [.ref q])=H5 at s5 d5 R5 ⊢
  walk_at "r"
  refine q1K (fun i σ H'=>∃(R:Addr) (E:List Sd) (dl:Dk) (v4 v5 v6 v7 v8:Option V),σ=[some (.ref c),some (.ref q),some (.ref D),some (.ref R),v4,v5,v6,v7,v8]/\Same H H'/\qJ SAt H' R E/\DAtS H' D dl/\Lvs C st i E (dl.map (·.1))) ⟨R,[st],[(st,V.bl true)],none,none,none,none,none,rfl,s5,⟨[q],R5,Rows.nil.snoc (s5 _ _ hq)⟩,d5,Lvs.start⟩ ?_ ?_
  ·rintro i σ H6 hi ⟨R,E,dl,v4,v5,v6,v7,v8,rfl,s6,⟨qs,hqs,rqs⟩,hd6,lv⟩
   have hEl:=lv.len fw
   have h06:=s6 _ _ h0
   walk_at "r"
   intro B hB
   refine q16 (qs.map V.ref) (fun j σ H'=>∃v0,σ=[v0,some (.ref c)]/\Same H6 H'/\H' B=some (.lst (((E.take j).map fun x=>gl C none x).map V.bl))) ⟨none,rfl,Same.upd hB,qg⟩ ?_ ?_ ?_
   ·rintro j σ H' ⟨_,rfl,s7,_⟩
    exact SqL.of (s7 _ _ hqs)
   ·rintro j z σ H7 hz ⟨v0,rfl,s7,h7⟩
    have hj:j<E.length:=by have:=(yA hz).1;rw[yC,rqs.1] at this;exact this
    obtain⟨pz,ep,hpz⟩:=rqs.get hj
    rw[hz] at ep
    cases ep
    have hpz7:=s7 _ _ hpz
    have h07:=s7 _ _ h06
    rw[List.take_succ_eq_append_getElem hj,List.map_append,List.map_append]
    generalize E[j]=x at hpz7 ⊢
    have hpz8:H7 pz=some (.tup [.int x.rm,.int x.tk,.int x.op,.int x.b,.int x.wt]):=hpz7
    walk_at "r"
    refine⟨_,h7,by rw[yC,yC,List.length_take];omega,_,rfl,s7.put hB,?_⟩
    rw[qg]
    rfl
   ·rintro σ H7 ⟨v0,rfl,s7,h7⟩
    rw[yC,rqs.1,List.take_length] at h7
    walk_at "r"
    refine⟨B,_,rfl,SqL.of h7,?_⟩
    rw[List.any_map]
    refine⟨_,rfl,?_⟩
    generalize hb:List.any E _=bb
    cases bb with
    |true=>
     obtain⟨x,hx,hg⟩:=List.any_eq_true.mp hb
     obtain⟨es,p,hl⟩:=lv.ed x hx
     have hg:gl C none x=true:=hg
     refine iteT ?_
     walk_at "r"
     rw[Int.zero_add]
     exact ky i es x H7 (s6.trans s7) p hg hl fun es' t' p' g'=>by
      by_cases z:es'.length<i
      ·rw [lv.no es' t' p' z] at g'
       cases g'
      ·omega
    |false=>
     have hng:∀x∈E,gl C none x=false:=fun x hx=>by
      cases hg:gl C none x with
      |false=>rfl
      |true=>exact absurd (hb.symm.trans (List.any_eq_true.mpr ⟨x,hx,hg⟩)) Bool.false_ne_true
     refine iteF ?_
     walk_at "r"
     intro Rf hRf
     have s07:=s6.trans s7
     have hRf0:H Rf=none:=s07.free hRf
     have neRF:R≠Rf:=fun z=>by rw[<-z,s7 _ _ hqs] at hRf;cases hRf
     generalize hG8:upd _ Rf _=H8
     have s8:=q0a hG8 hRf
     have h8:=q0b hG8
     have s78:=s7.trans s8
     have hqs8:=s78 _ _ hqs
     walk_at "r"
     refine q21 (qs.map V.ref) (fun i2 σ H'=>∃(N:List Sd) (dl':Dk) (v6 v7 v8:Option V),σ=[some (.ref c),some (.ref q),some (.ref D),some (.ref R),some (.int (0+(i:Nat))),some (.ref Rf),v6,v7,v8]/\Same H H'/\H' R=some (.lst (qs.map V.ref))/\Rows SAt H' qs E/\qJ SAt H' Rf N/\DAtS H' D dl'/\dl'.map (·.1)=dl.map (·.1)++N/\LvM C st i (dl.map (·.1)) N/\∀x∈E.take i2,∀y∈nxF C (fitD C) x,y∈dl.map (·.1)++N) ⟨[],dl,v6,v7,v8,rfl,s07.trans s8,s78 _ _ hqs,rqs.mono fun _ _=>SAt.mono s78.ts,⟨[],h8,Rows.nil⟩,s78 _ _ hd6,by rw[List.append_nil],lv.mid,fun x hx=>by simp at hx⟩ ?_ ?_ ?_
     ·rintro i2 σ H' ⟨_,_,_,_,_,rfl,_,e,_⟩
      exact SqL.of e
     ·rintro i2 z σ H9 hz ⟨N,dl',v6,v7,v8,rfl,s9,hR9,rq9,⟨ns,hns,rns⟩,hd9,hk9,lm,hdn⟩
      have hi2:i2<E.length:=by have:=(yA hz).1;rw[yC,rqs.1] at this;exact this
      obtain⟨px,epx,hpx⟩:=rq9.get hi2
      rw[hz] at epx
      cases epx
      have hxE:=List.getElem_mem hi2
      have et:E.take (i2+1)=E.take i2++[E[i2]]:=List.take_succ_eq_append_getElem hi2
      generalize E[i2]=x at hpx hxE et
      have hpx:SAt H9 px x:=hpx
      obtain⟨esx,pthx,_⟩:=lv.ed x hxE
      have xok:x.ok C:=q8U ok sok (q2l .refl pthx)
      walk_at "r"
      refine⟨c,px,C,x,rfl,hC.mono s9.ts,ok,hpx,xok,fun lp H10 s10 hl0 m10=>?_⟩
      obtain⟨ps,hps,rps⟩:=m10
      have neR:lp≠R:=fun z=>by subst z;rw[hl0] at hR9;cases hR9
      have neF:lp≠Rf:=fun z=>by subst z;rw[hl0] at hns;cases hns
      have neD:lp≠D:=fun z=>by rw[z,show H9 D=some _ from hd9] at hl0;cases hl0
      have hd10:DAtS H10 D dl':=s10 _ _ hd9
      walk_at "r"
      refine q21 (ps.map V.ref) (fun j σ H'=>∃(N:List Sd) (dl':Dk) (v7 v8:Option V),σ=[some (.ref c),some (.ref q),some (.ref D),some (.ref R),some (.int (0+(i:Nat))),some (.ref Rf),some (.ref px),v7,v8]/\Same H H'/\H' lp=some (.lst (ps.map V.ref))/\Rows (PrAt C x) H' ps (fitD C x)/\H' R=some (.lst (qs.map V.ref))/\Rows SAt H' qs E/\qJ SAt H' Rf N/\DAtS H' D dl'/\dl'.map (·.1)=dl.map (·.1)++N/\LvM C st i (dl.map (·.1)) N/\(∀x∈E.take i2,∀y∈nxF C (fitD C) x,y∈dl.map (·.1)++N)/\∀u∈(fitD C x).take j,q00 C x u.1 (u.2:Int)∈dl.map (·.1)++N) ⟨N,dl',v7,v8,rfl,s9.trans s10,hps,rps,s10 _ _ hR9,rq9.mono fun _ _=>SAt.mono s10.ts,⟨ns,s10 _ _ hns,rns.mono fun _ _=>SAt.mono s10.ts⟩,hd10,hk9,lm,hdn,fun u hu=>by simp at hu⟩ ?_ ?_ ?_
      ·rintro j σ H' ⟨_,_,_,_,rfl,_,e,_⟩
       exact SqL.of e
      ·rintro j z σ H11 hz ⟨N,dl',v7,v8,rfl,s11,l11,rps11,hR11,rq11,⟨ns,hns,rns⟩,hd11,hk11,lm,hdn,hdu⟩
       have hj:j<(fitD C x).length:=by have:=(yA hz).1;rw[yC,rps.1] at this;exact this
       obtain⟨pz,ep,hpz⟩:=rps11.get hj
       rw[hz] at ep
       cases ep
       have hin:=List.getElem_mem hj
       rw[List.take_succ_eq_append_getElem hj]
       generalize (fitD C x)[j]=u at hpz hin ⊢
       obtain⟨t,r,e8,ht8,hr8⟩:=hpz
       have hyn:q00 C x u.1 (u.2:Int)∈nxF C (fitD C) x:=List.mem_map.mpr ⟨u,hin,rfl⟩
       have hml:=lm.len lv fw
       have hll:List.length dl'=(dl.map (·.1)++N).length:=by rw[<-hk11,yC]
       have hNl:N.length<=288:=by rw[List.length_append] at hml;omega
       have key:∀N',q00 C x u.1 (u.2:Int)∈dl.map (·.1)++N'->(∀y∈dl.map (·.1)++N,y∈dl.map (·.1)++N')->∀u'∈(fitD C x).take j++[u],q00 C x u'.1 (u'.2:Int)∈dl.map (·.1)++N':=fun N' h1 h2 u' hu'=>by
        rcases List.mem_append.mp hu' with hu'|hu'
        ·exact h2 _ (hdu u' hu')
        ·rw [List.mem_singleton.mp hu']
         exact h1
       generalize hy:q00 C x u.1 (u.2:Int)=y at hr8 hyn key
       have hr8:SAt H11 r y:=hr8
       walk_at "r"
       refine⟨D,_,rfl,q22 (.inl hd11) hr8,?_⟩
       rw[q0Q,hk11]
       walk_at "r"
       by_cases hin2:y∈dl.map (·.1)++N
       ·rw [decide_eq_true hin2]
        walk_at "r"
        exact⟨N,dl',_,_,rfl,s11,l11,rps11,hR11,rq11,⟨ns,hns,rns⟩,hd11,hk11,lm,hdn,key N hin2 fun _ h=>h⟩
       ·rw [decide_eq_false hin2]
        have neFD:Rf≠D:=q2o hns hd11 (by intro z;cases z)
        have neRD:R≠D:=q2o hR11 hd11 (by intro z;cases z)
        walk_at "r"
        refine⟨D,_,rfl,q41 hd11 hr8 (by omega) (by rw[hk11];exact hin2),?_⟩
        have ts12:=q5r (o:= .dT (dkv (dl'++[(y,V.bl true)]))) hd11
        have s12:Same H (upd H11 D (.dT (dkv (dl'++[(y,V.bl true)])))):=s11.put hD
        have d12:DAtS (upd H11 D (.dT (dkv (dl'++[(y,V.bl true)])))) D (dl'++[(y,V.bl true)]):=qg
        have l12:upd H11 D (.dT (dkv (dl'++[(y,V.bl true)]))) lp=some (.lst (ps.map V.ref)):=by rw[ql neD];exact l11
        have F12:upd H11 D (.dT (dkv (dl'++[(y,V.bl true)]))) Rf=some (.lst (ns.map V.ref)):=by rw[ql neFD];exact hns
        have R12:upd H11 D (.dT (dkv (dl'++[(y,V.bl true)]))) R=some (.lst (qs.map V.ref)):=by rw[ql neRD];exact hR11
        generalize upd H11 D (.dT (dkv (dl'++[(y,V.bl true)])))=H12 at ts12 s12 d12 l12 F12 R12 ⊢
        walk_at "r"
        refine q4g F12 (by rw[yC,rns.1];omega) ?_
        have inl:∀z,z∈dl.map (·.1)++N->z∈dl.map (·.1)++(N++[y]):=fun z hz=>by rw[<-List.append_assoc];exact List.mem_append_left _ hz
        refine⟨N++[y],dl'++[(y,V.bl true)],_,_,rfl,s12.put hRf0,by rw[ql neF];exact l12,rps11.mono fun _ _ h=>PrAt.mono (ts12.trans (q0f.lst F12)) h,by rw[ql neRF];exact R12,rq11.mono fun _ _ h=>SAt.mono (ts12.trans (q0f.lst F12)) h,qP (fun _ _=>SAt.put F12) (rns.mono fun _ _=>SAt.mono ts12) (SAt.mono ts12 hr8),DAtS.lput F12 d12,by rw[List.map_append,hk11,List.append_assoc];rfl,lm.new lv hxE hyn hin2,fun x hx y hy=>inl _ (hdn x hx y hy),key _ (by simp) inl⟩
      ·rintro σ H11 ⟨N,dl',v7,v8,rfl,s11,l11,rps11,hR11,rq11,hN,hd11,hk11,lm,hdn,hdu⟩
       rw[yC,rps.1,List.take_length] at hdu
       refine⟨N,dl',_,_,_,rfl,s11,hR11,rq11,hN,hd11,hk11,lm,?_⟩
       rw[et]
       intro x' hx' y hy
       rcases List.mem_append.mp hx' with hx'|hx'
       ·exact hdn x' hx' y hy
       ·rw [List.mem_singleton.mp hx'] at hy
        obtain⟨u,hu,rfl⟩:=List.mem_map.mp hy
        exact hdu u hu
     ·rintro σ H9 ⟨N,dl',v6,v7,v8,rfl,s9,hR9,rq9,hN,hd9,hk9,lm,hdn⟩
      rw[yC,rqs.1,List.take_length] at hdn
      walk_at "r"
      refine⟨Rf,N,dl',_,_,_,_,_,rfl,s9,hN,hd9,?_⟩
      rw[hk9]
      exact lm.next lv hdn hng
  ·rintro σ H6 ⟨R,E,dl,v4,v5,v6,v7,v8,rfl,s6,hE,hd6,lv⟩
   walk_at "r"
   exact kn H6 s6 fun es' t' p g=>by
    by_cases hl:es'.length<300
    ·rw [lv.no es' t' p hl] at g
     cases g
    ·omega
abbrev toO (x:Wd×Nat):Wd×Int:=(x.1,(x.2:Int))
theorem q7j (C:Cl):(allD C).Nodup:=by
 have r:∀d n,(rowD d n).Nodup:=fun d n=>List.pairwise_map.mpr (List.nodup_range.imp fun h z=>h (Prod.mk.inj z).2)
 unfold allD
 refine List.nodup_append.mpr ⟨List.nodup_append.mpr ⟨List.nodup_append.mpr ⟨List.nodup_append.mpr ⟨r _ _,r _ _,?_⟩,r _ _,?_⟩,r _ _,?_⟩,r _ _,?_⟩
 all_goals
  rintro⟨d,i⟩ ha ⟨e,j⟩ hb z
  cases z
  simp only[List.mem_append,q6C] at ha hb
  rcases hb with⟨rfl,_⟩
  simp at ha
theorem qch {C:Cl}{s:Sd}{u:Wd×Nat}(h:u∈fitD C s){d:Wd×Int}(hd:isO u d=true):(fitD C s).filter (fun x=>isO x d)=[u]:=by
 have nd:((fitD C s).filter fun x=>isO x d).Nodup:=((q7j C).filter _).filter _
 have key:∀x,isO x d=true->x=u:=fun x hx=>by
  have a:=of_decide_eq_true hx
  have b:=of_decide_eq_true hd
  obtain⟨x1,x2⟩:=x
  obtain⟨u1,u2⟩:=u
  obtain⟨a1,a2⟩:=a
  obtain⟨b1,b2⟩:=b
  dsimp only at a1 a2 b1 b2
  rw[a1,b1]
  congr 1
  omega
 have hm:u∈(fitD C s).filter fun x=>isO x d:=List.mem_filter.mpr ⟨h,hd⟩
 match e:(fitD C s).filter (fun x=>isO x d),hm,nd with
 |[x],hm,_=>rw[List.mem_singleton.mp hm]
 |x::y::l,hm,nd=>
  have h1:=(List.mem_filter.mp (show x∈(fitD C s).filter fun x=>isO x d by rw[e];simp)).2
  have h2:=(List.mem_filter.mp (show y∈(fitD C s).filter fun x=>isO x d by rw[e];simp)).2
  rw[key x h1,key y h2] at nd
  simp at nd
theorem qaa (u:Wd×Nat):isO u (toO u)=true:=decide_eq_true ⟨rfl,rfl⟩
def qbb:Sp:=fun vs H Q _=>∃(c q r:Addr) (C:Cl) (s:Sd),vs=[.ref c,.ref q,.ref r]/\ClAt H c C/\ClOk C/\SAt H q s/\s.ok C/\Few C s/\qcB H r C s/\∀H',Same H H'->Q (.bl true) H'
theorem deq_sd {K:W.Frag}{H:Hp}{p q:Addr}{s:Sd}(hp:SAt H p s)(hq:SAt H q s):Deq K H 1 (.ref p) (.ref q) true:=by
 by_cases e:p=q
 ·rw [e]
  exact .same _
 ·have h:=Deq.tup (K:=K) (n:=0) (e:=fun _=>true) e (SqT.of hp) (SqT.of hq) (fun j h1 _=>by
   have hf:q1P (s.vs.getD j .non)=true:=by
    match j,h1 with
    |0,_=>rfl
    |1,_=>rfl
    |2,_=>rfl
    |3,_=>rfl
    |4,_=>rfl
   exact Deq.self (.inl hf))
  rw[q6O] at h
  simpa using h
theorem q9R (T:Txt mg cs)(L:Laid K mg "_law_good" q0T ["_law_cave_here","_law_stand","_law_told_here"])(C__law_moves:Cal P w K mg base 3 "_law_moves" ["_law_cave_here","_law_stand"] q3i)(C__law_near:Cal P w K mg base 4 "_law_near" ["_law_cave_here","_law_first"] q7B):Cal P w K mg base 5 "_law_good" ["_law_cave_here","_law_stand","_law_told_here"] qbb:=by
 refine L.cal (k:=4) q0C (fun vs H Q E h=>?_) (fun f cdv A outer s H vs Q E hr h=>?_)
 ·obtain ⟨c,q,r,C,st,rfl,_⟩:=h
  rfl
 ·obtain ⟨c,q,r,C,st,rfl,hC,ok,hq,sok,fw,tl,k⟩:=h
  have big:=qC
  have hu:=Nat.lt_of_succ_lt (qc9 hr)
  obtain⟨pw,pt,pl,pv',h0,_⟩:=hC.ex
  refine⟨_,(qd (qy (i:=3) q0C.nd rfl (Or.inl rfl) (qB C__law_near hr (by decide) rfl (qa (pv 0) (qa (pv 1) qe))))
   (qd (q03 (q3o (q88 (pv 3))) (qj (qu (qW (op_eqD K 1 (hu3_of hr)) (pv 2) (qG (qa qK (qa (pv 1) (qa q2B qe)))) (qw _)))) qD)
   (qd (q03 (PW.pt (q5f (qz q8b (qm (qk K) (pv 2) qc (fun _ _=>rfl)) qK (qw _)) (q5f (q2W (q0J (qI q3C rfl T.n_isinstance q0x (qa (qm (qk K) (pv 2) qc (fun _ _=>rfl)) (qa (q4k (v:= .ty "list") rfl T.n_list q99 rfl) qe))))) (q3T (qz q8b (qI (lenK K) rfl T.n_len q0p (qa (qm (qk K) (pv 2) qc (fun _ _=>rfl)) qe)) (pv 3) (qw _)))))) (qj (qu q2B)) qD)
   (qd (q0o PassesOwn.never rfl (q0c K (qm (qk K) (pv 2) qc (fun _ _=>rfl))) (qr (i:=4) q0C.nd rfl (Or.inr rfl)) (qd (q0U (i:=5) q0C.nd rfl rfl (q0y (N:=["_law_row","_law_deed"]) (own:=1) (caps:=[4]) ["_law_cave_here","_law_stand","_law_told_here","_law_near_here","_law_deed","_law_after"] (qh q0T) (by walk_at "k")) rfl (q0c K (qB C__law_moves hr (by decide) rfl (qa (pv 0) (qa (pv 1) qe)))) (fun _ _ _ _=>(qr (i:=0) (show List.Nodup (["_law_row","_law_deed"]:List Str) by walk_at "k") rfl (Or.inl rfl))) (fun _ _ _ _=>(q3U (qz (q8c K hu) (qm (qk K) (pv 0) qc (fun _ _=>rfl)) (pv 1) (qw _)))) (fun _ _ _ _=>(qm (qk K) (pv 0) qc (fun _ _=>rfl))))
   (qd (q03 (qz q8b (qI (lenK K) rfl T.n_len q0p (qa (pv 5) qe)) qc (qw _)) (qj (qu q2B)) qD)
   (qj (qy (i:=1) q0C.nd rfl (Or.inl rfl) (qm (q0n K) (pv 5) qc (fun _ _=>rfl)))))))
   (qj (qu (qW q07 (qm (qk K) (pv 1) qc (fun _ _=>rfl)) (qm (qk K) (pv 0) qc (fun _ _=>rfl)) (qw _)))))))),?_⟩
  walk_at "r"
  refine⟨c,q,C,st,rfl,hC,ok,hq,sok,fw,fun m es t H1 s1 p g em mn=>?_,fun H1 s1 far=>?_⟩
  ·rcases tl with⟨l,ds,hr1,hl,hds,t2,p2,g2,mn2⟩|⟨q2,hr1,hq2,no⟩
   ·have em2:ds.length=m:=Nat.le_antisymm (em▸mn2 es t p g) (mn ds t2 p2 g2)
    obtain⟨ws,hws,rws⟩:=hl
    have hr2:=s1 _ _ hr1
    have hws1:=s1 _ _ hws
    have hwn:ws.length=ds.length:=rws.1
    have hwm:((ws.map V.ref).length:Int)<=288:=by rw[yC];omega
    walk_at "r"
    refine ifd (fun z=>nomatch z) (fun _=>?_)
    walk_at "r"
    rw[decide_eq_true (rfl:Str.ofString "row"=Str.ofString "row")]
    refine iteF ?_
    walk_at "r"
    rw[decide_eq_true (show((ws.map V.ref).length:Int)=(m:Int) by rw[yC];omega)]
    refine iteF ?_
    walk_at "r"
    refine q21 (ws.map V.ref) (fun i σ H'=>∃(qi:Addr) (si:Sd) (v4 v5:Option V),σ=[some (.ref c),some (.ref qi),some (.ref r),some (.int (m:Int)),v4,v5]/\Same H1 H'/\SAt H' qi si/\si.ok C/\PthF C (fitD C) si (ds.drop i) t2) ⟨q,st,none,none,rfl,Same.refl _,s1 _ _ hq,sok,p2⟩ ?_ ?_ ?_
    ·rintro i σ H' ⟨_,_,_,_,rfl,s2,_⟩
     exact SqL.of (s2 _ _ hws1)
    ·rintro i z σ H2 hz ⟨qi,si,v4,v5,rfl,s2,hqi,siok,hpi⟩
     have hi:i<ds.length:=by have:=(yA hz).1;rw[yC,rws.1] at this;exact this
     obtain⟨pk,epk,hpk⟩:=rws.get hi
     rw[hz] at epk
     cases epk
     have s02:=s1.trans s2
     rw[List.drop_eq_getElem_cons hi] at hpi
     generalize ds[i]=u at hpi hpk
     obtain⟨hu1,hnext⟩:=hpi
     have hpk:TAt H pk u:=hpk
     walk_at "r"
     refine⟨c,qi,C,si,rfl,hC.mono s02.ts,ok,hqi,siok,fun lp H3 s3 hl0 m3=>?_⟩
     obtain⟨ps,hps,rps⟩:=m3
     have s03:=s02.trans s3
     have hpk3:H3 pk=some (.tup [.str (toO u).1.str,.int (toO u).2]):=s03 _ _ hpk
     have hfl:=q3f ok si
     walk_at "r"
     intro D hD
     refine q16 (ps.map V.ref) (fun j σ H'=>∃v0,σ=[v0,some (.ref pk)]/\Same H3 H'/\qJ SAt H' D ((((fitD C si).take j).filter fun x=>isO x (toO u)).map fun x=>q00 C si x.1 (x.2:Int))) ⟨none,rfl,Same.upd hD,⟨[],qg,Rows.nil⟩⟩ ?_ ?_ ?_
     ·rintro j σ H' ⟨_,rfl,s4,_⟩
      exact SqL.of (s4 _ _ hps)
     ·rintro j z σ H4 hz ⟨v0,rfl,s4,qs,hqs,rqs⟩
      have hj:j<(fitD C si).length:=by have:=(yA hz).1;rw[yC,rps.1] at this;exact this
      obtain⟨pz,ep,hpz⟩:=rps.get hj
      rw[hz] at ep
      cases ep
      obtain⟨t5,r5,e5,ht5,hr5⟩:=PrAt.mono s4.ts hpz
      have hpk4:=s4 _ _ hpk3
      have hql:qs.length<=56:=by rw[rqs.1,yC];refine Nat.le_trans (List.length_filter_le _ _) ?_;rw[List.length_take];omega
      rw[List.take_succ_eq_append_getElem hj,List.filter_append,List.map_append]
      generalize (fitD C si)[j]=y at ht5 hr5 ⊢
      walk_at "r"
      refine⟨t5,pk,_,_,rfl,rfl,SqT.of ht5,SqT.of hpk4,rfl,rfl,?_⟩
      rw[eqO]
      cases hy:isO y (toO u) with
      |true=>
       walk_at "r"
       refine⟨_,hqs,by rw[yC];omega,_,rfl,s4.put hD,?_⟩
       rw[show([y].filter fun x=>isO x (toO u)).map (fun x=>q00 C si x.1 (x.2:Int))=[q00 C si y.1 (y.2:Int)] by simp[hy]]
       exact qP (fun _ _=>SAt.put hqs) rqs hr5
      |false=>
       walk_at "r"
       refine⟨_,rfl,s4,qs,hqs,?_⟩
       rw[show([y].filter fun x=>isO x (toO u)).map (fun x=>q00 C si x.1 (x.2:Int))=[] by simp[hy],List.append_nil]
       exact rqs
     ·rintro σ H4 ⟨v0,rfl,s4,m4⟩
      rw[yC,rps.1,List.take_length,qch hu1 (qaa u)] at m4
      obtain⟨qs,hqs,rqs⟩:=m4
      obtain⟨q1,rfl⟩:∃q1,qs=[q1]:=List.length_eq_one_iff.mp rqs.1
      have hq1:SAt H4 q1 (q00 C si u.1 (u.2:Int)):=rqs.2 0 q1 _ rfl rfl
      have dok:(q00 C si u.1 (u.2:Int)).ok C:=q61 ok siok (q3d.mp hu1)
      walk_at "r"
      rw[show(!decide ((↑(List.map V.ref [q1]).length:Int)=1))=false from rfl]
      walk_at "r"
      exact⟨q1,_,_,_,rfl,s2.trans (s3.trans s4),hq1,dok,hnext⟩
    ·rintro σ H2 ⟨qi,si,v4,v5,rfl,s2,hqi,siok,hpi⟩
     rw[yC,rws.1,List.drop_length] at hpi
     have hpi:si=t2:=hpi
     have h02:=(s1.trans s2) _ _ h0
     have hqi':H2 qi=some (.tup [.int si.rm,.int si.tk,.int si.op,.int si.b,.int si.wt]):=hqi
     have hg:t2.rm=C.lst:=of_decide_eq_true g2
     walk_at "r"
     rw[hpi,decide_eq_true hg]
     exact k H2 (s1.trans s2)
   ·rw [no t (q2l .refl p)] at g
    cases g
  ·rcases tl with⟨l,ds,hr1,hl,hds,t2,p2,g2,mn2⟩|⟨q2,hr1,hq2,no⟩
   ·have:=far ds t2 p2 g2
    omega
   ·have hr2:=s1 _ _ hr1
    walk_at "r"
    refine ifd (fun _=>?_) (fun z=>absurd rfl z)
    walk_at "r"
    intro p0 hp0
    have s2:=Same.upd (o:= .tup [.str "shut",.ref q,.bl true]) hp0
    have h2:=qg (H:=H1) (a:=p0) (o:= .tup [.str "shut",.ref q,.bl true])
    generalize upd H1 p0 (.tup [.str "shut",.ref q,.bl true])=H2 at s2 h2 ⊢
    refine qbm (SqT.of (s2 _ _ hr2)) (SqT.of h2) rfl (fun j hj=>?_) (k H2 (s1.trans s2))
    have d:Deq K H2 1 (.ref q2) (.ref q) true:=deq_sd ((s1.trans s2) _ _ hq2) ((s1.trans s2) _ _ hq)
    match j,hj with
    |0,_=>exact Deq.self (.inl rfl)
    |1,_=>exact d
    |2,_=>exact Deq.self (.inl rfl)
end
theorem sml_b {n:Int}(h0:0<=n)(h1:n<2 ^ 400):Sml n:=Sml.of (by
 have:n.natAbs<2 ^ 400:=by omega
 exact Nat.lt_of_lt_of_le this (Nat.pow_le_pow_right (by decide) (by decide)))
theorem pow_b {n m:Nat}(h:n<=m):(2:Int) ^ n<=2 ^ m:=by
 have:=Nat.pow_le_pow_right (n:=2) (by decide) h
 exact_mod_cast this
theorem q7J {C:Cl}{s:Sd}(ok:ClOk C)(h:s.ok C):∀x∈s.vs,q3G x:=by
 have h1:=h.hrm
 have h2:=h.htk
 have h3:=h.hop
 have h4:=h.hb
 have h5:=h.hwt
 have r:=ok.r2
 have w:=ok.wl
 have t:=ok.tl
 have p1:=pow_b (n:=C.things.length) (m:=8) t
 have p2:=pow_b (n:=C.ways.length) (m:=20) w
 have b:∀n:Int,0<=n->n<2 ^ 30->q3G (.int n):=fun n a c=>sml_b a (Int.lt_trans c (by walk_at "k"))
 intro x hx
 simp only[Sd.vs,List.mem_cons,List.not_mem_nil,or_false] at hx
 rcases hx with rfl|rfl|rfl|rfl|rfl
 ·exact b _ h1.1 (by omega)
 ·exact b _ h2.1 (by omega)
 ·exact b _ h3.1 (by omega)
 ·exact b _ h4.1 (by omega)
 ·exact b _ h5.1 (by omega)
def q9m (K:W.Frag):Sp:=fun vs H Q _=>∃(a:Addr) (ns:List Int),vs=[.ref a]/\SqL K H a (ns.map V.int)/\ns.length<=63/\∀H',Q (.bl true) H'
section
variable {P:Program}{w:World}{K:W.Frag}{mg:Str->Option Value}{base:Heap}{xs:Xs}{cs:Cs}
theorem ok_law {f:Addr}{fd:FuncData}(F:Fun K "law" "law" qbe f fd)(T:Txt mg cs)(TC:Tcl K cs)(TX:Tx K mg xs)(L__wall:Laid K mg "_wall" q7M ["k"])(L_within:Laid K mg "within" q39 ["number","least","most"])(L_has_bit:Laid K mg "has_bit" q2t ["bits","place"])(L_changed:Laid K mg "changed" q2v ["parts","place","part"])(L_gate_of:Laid K mg "gate_of" q2u ["gate"])(L_start:Laid K mg "start" q4e ["cellar"])(L_held:Laid K mg "held" q6n ["cellar","stand"])(L_door_kinds:Laid K mg "door_kinds" q0D ["cellar"])(L_can_enter:Laid K mg "can_enter" q1k ["way","room"])(L_leads:Laid K mg "leads" q3n ["cellar","stand"])(L_fit_deeds:Laid K mg "fit_deeds" q0R ["cellar","stand"])(L_all_goes:Laid K mg "all_goes" q1c ["cellar"])(L_all_deeds:Laid K mg "all_deeds" q0k ["cellar"])(L_begin_of:Laid K mg "begin_of" q25 ["cellar","stand"])(L_walk_from:Laid K mg "walk_from" q1h ["cellar","begin"])(L_row_to:Laid K mg "row_to" q3a ["ends","begin","walk"])(L_nearer:Laid K mg "nearer" q3b ["walk","counts","stand"])(L_counts_to:Laid K mg "counts_to" q1j ["ends","walk"])(L_links_of:Laid K mg "links_of" q1b ["walk"])(L_counts_from:Laid K mg "counts_from" q0L ["begins","links"])(L_turned_links:Laid K mg "turned_links" q0z ["links"])(L_ends_of:Laid K mg "ends_of" q1U ["cellar","walk"])(L_fewest:LaidD K mg "fewest" q0K [.none])(L_fewest_in:Laid K mg "fewest_in" q1i ["cellar","begin","walk"])(L__law_cell:Laid K mg "_law_cell" q1q ["_law_script","_law_k"])(L__law_gate:Laid K mg "_law_gate" q1p ["_law_cell_here","_law_kinds"])(L__law_ways:Laid K mg "_law_ways" q1l ["_law_script","_law_rooms","_law_doors","_law_kinds"])(L__law_cave:Laid K mg "_law_cave" q08 ["_law_script"])(L__law_held:Laid K mg "_law_held" q1o ["_law_cave_here","_law_stand","_law_kind"])(L__law_lets:Laid K mg "_law_lets" q1n ["_law_cave_here","_law_stand","_law_way"])(L__law_moves:Laid K mg "_law_moves" qO ["_law_cave_here","_law_stand"])(L__law_near:Laid K mg "_law_near" q0S ["_law_cave_here","_law_first"])(L__law_told:Laid K mg "_law_told" q1m ["_law_cave_here","_law_stand"])(L__law_start:Laid K mg "_law_start" q0X ["_law_cave_here"])(L__law_good:Laid K mg "_law_good" q0T ["_law_cave_here","_law_stand","_law_told_here"])(LM_Plain_lets:LaidM K cs.Plain "lets" "Plain.lets" q0Y ["self","held","opened","bars","water"])(LM_Plain_told:LaidM K cs.Plain "told" "Gate.told" qU ["self"])(LI_Plain:LaidI K mg "Plain" cs.Plain "Plain.__init__" q0Z ["self"])(LM_Door_lets:LaidM K cs.Door "lets" "Door.lets" q1G ["self","held","opened","bars","water"])(LM_Door_told:LaidM K cs.Door "told" "Gate.told" qU ["self"])(LI_Door:LaidI K mg "Door" cs.Door "Door.__init__" q1H ["self","kind"])(LM_Need_lets:LaidM K cs.Need "lets" "Need.lets" q1D ["self","held","opened","bars","water"])(LM_Need_told:LaidM K cs.Need "told" "Gate.told" qU ["self"])(LI_Need:LaidI K mg "Need" cs.Need "Need.__init__" q1E ["self","kind"])(LM_Bar_lets:LaidM K cs.Bar "lets" "Bar.lets" q26 ["self","held","opened","bars","water"])(LM_Bar_told:LaidM K cs.Bar "told" "Gate.told" qU ["self"])(LI_Bar:LaidI K mg "Bar" cs.Bar "Bar.__init__" q27 ["self","bar"])(LM_Wade_lets:LaidM K cs.Wade "lets" "Wade.lets" q1r ["self","held","opened","bars","water"])(LM_Wade_told:LaidM K cs.Wade "told" "Gate.told" qU ["self"])(LI_Wade:LaidI K mg "Wade" cs.Wade "Wade.__init__" q1s ["self","height","kind"])(LM_Float_lets:LaidM K cs.Float "lets" "Float.lets" q12 ["self","held","opened","bars","water"])(LM_Float_told:LaidM K cs.Float "told" "Gate.told" qU ["self"])(LI_Float:LaidI K mg "Float" cs.Float "Float.__init__" q13 ["self","height"])(LM_Go_can:LaidM K cs.Go "can" "Deed.can" q04 ["self","cellar","stand"])(LM_Go_done:LaidM K cs.Go "done" "Go.done" q2y ["self","cellar","stand"])(LM_Go_fits:LaidM K cs.Go "fits" "Go.fits" q2x ["self","cellar","stand"])(LM_Go_own_part:LaidM K cs.Go "own_part" "Deed.own_part" qF ["self","cellar"])(LM_Go_told:LaidM K cs.Go "told" "Deed.told" qV ["self"])(LI_Go:LaidI K mg "Go" cs.Go "Go.__init__" q2w ["self","number"])(LM_Pull_can:LaidM K cs.Pull "can" "Deed.can" q04 ["self","cellar","stand"])(LM_Pull_done:LaidM K cs.Pull "done" "Pull.done" q1C ["self","cellar","stand"])(LM_Pull_fits:LaidM K cs.Pull "fits" "Pull.fits" q1B ["self","cellar","stand"])(LM_Pull_own_part:LaidM K cs.Pull "own_part" "Deed.own_part" qF ["self","cellar"])(LM_Pull_told:LaidM K cs.Pull "told" "Deed.told" qV ["self"])(LI_Pull:LaidI K mg "Pull" cs.Pull "Pull.__init__" q1A ["self","number"])(LM_Take_can:LaidM K cs.Take "can" "Deed.can" q04 ["self","cellar","stand"])(LM_Take_done:LaidM K cs.Take "done" "Take.done" q1y ["self","cellar","stand"])(LM_Take_fits:LaidM K cs.Take "fits" "Take.fits" q1x ["self","cellar","stand"])(LM_Take_own_part:LaidM K cs.Take "own_part" "Deed.own_part" qF ["self","cellar"])(LM_Take_told:LaidM K cs.Take "told" "Deed.told" qV ["self"])(LI_Take:LaidI K mg "Take" cs.Take "Take.__init__" q1w ["self","number"])(LM_Turn_can:LaidM K cs.Turn "can" "Deed.can" q04 ["self","cellar","stand"])(LM_Turn_done:LaidM K cs.Turn "done" "Turn.done" q1v ["self","cellar","stand"])(LM_Turn_fits:LaidM K cs.Turn "fits" "Turn.fits" q1u ["self","cellar","stand"])(LM_Turn_own_part:LaidM K cs.Turn "own_part" "Deed.own_part" qF ["self","cellar"])(LM_Turn_told:LaidM K cs.Turn "told" "Deed.told" qV ["self"])(LI_Turn:LaidI K mg "Turn" cs.Turn "Turn.__init__" q1t ["self","number"])(LM_Unlock_can:LaidM K cs.Unlock "can" "Deed.can" q04 ["self","cellar","stand"])(LM_Unlock_done:LaidM K cs.Unlock "done" "Unlock.done" q0O ["self","cellar","stand"])(LM_Unlock_fits:LaidM K cs.Unlock "fits" "Unlock.fits" q0N ["self","cellar","stand"])(LM_Unlock_own_part:LaidM K cs.Unlock "own_part" "Deed.own_part" qF ["self","cellar"])(LM_Unlock_told:LaidM K cs.Unlock "told" "Deed.told" qV ["self"])(LI_Unlock:LaidI K mg "Unlock" cs.Unlock "Unlock.__init__" q0M ["self","number"])(LX_Shut:LaidX K mg "Shut" xs.Shut "Shut.__init__" q1z ["self","stand"])(LC_Deed_init:LaidC K mg "Deed" "__init__" "Deed.__init__" q1I ["self","word","number","part"])(LC_Gate_init:LaidC K mg "Gate" "__init__" "Gate.__init__" q1F ["self","word","numbers"]):FnOk P w K mg base CX0 13 f fd ["_law_script"] (q9m K):=by
 have C_has_bit:Cal P w K mg base 1 "has_bit" ["bits","place"] q5I:=q76 T L_has_bit
 have C_within:Cal P w K mg base 1 "within" ["number","least","most"] q45:=q8e T L_within
 have C_can_enter:Cal P w K mg base 1 "can_enter" ["way","room"] q48:=q9V T L_can_enter
 have C_changed:Cal P w K mg base 1 "changed" ["parts","place","part"] q5H:=q78 T L_changed
 have C_door_kinds:Cal P w K mg base 1 "door_kinds" ["cellar"] spDk:=ok_dk T L_door_kinds
 have C_held:Cal P w K mg base 2 "held" ["cellar","stand"] q6j:=qbI T L_held C_has_bit C_door_kinds
 have C_Gate_init:CCal P w K mg base 1 "Gate" "__init__" ["self","word","numbers"] (q1S K):=q9S T LC_Gate_init
 have C_Plain:Makes P w K mg base 2 "Plain" cs.Plain ["self"] (spMk cs "plain"):=qa2 T TC LI_Plain C_Gate_init
 have C_Door:Makes P w K mg base 2 "Door" cs.Door ["self","kind"] (spMk cs "door"):=qbV T TC LI_Door C_Gate_init
 have C_Need:Makes P w K mg base 2 "Need" cs.Need ["self","kind"] (spMk cs "need"):=qbU T TC LI_Need C_Gate_init
 have C_Bar:Makes P w K mg base 2 "Bar" cs.Bar ["self","bar"] (spMk cs "bar"):=mk_bar T TC LI_Bar C_Gate_init
 have C_Wade:Makes P w K mg base 2 "Wade" cs.Wade ["self","height","kind"] (spMk cs "wade"):=qbP T TC LI_Wade C_Gate_init
 have C_Float:Makes P w K mg base 2 "Float" cs.Float ["self","height"] (spMk cs "float"):=qa3 T TC LI_Float C_Gate_init
 have C_gate_of:Cal P w K mg base 4 "gate_of" ["gate"] (qba cs):=q77 T L_gate_of C_Plain C_Door C_Need C_Bar C_Wade C_Float
 have vl:∀g:Gt,VMeth P w K mg base 2 (q8Z cs g) "lets" ["self","held","opened","bars","water"] (q2Q cs g.word):=fun g=>by
  cases g
  ·exact q42 T TC LM_Plain_lets
  ·exact q4F T TC LM_Door_lets
  ·exact q4E T TC LM_Need_lets
  ·exact q5D T TC LM_Bar_lets C_has_bit
  ·exact q4D T TC LM_Wade_lets
  ·exact q43 T TC LM_Float_lets
 have C_Deed_init:CCal P w K mg base 1 "Deed" "__init__" ["self","word","number","part"] (q2k K):=q9W T LC_Deed_init
 have C_Go:Makes P w K mg base 2 "Go" cs.Go ["self","number"] (q1R cs .go):=mk_go T TC LI_Go C_Deed_init
 have C_Pull:Makes P w K mg base 2 "Pull" cs.Pull ["self","number"] (q1R cs .pull):=qbT T TC LI_Pull C_Deed_init
 have C_Take:Makes P w K mg base 2 "Take" cs.Take ["self","number"] (q1R cs .take):=qbR T TC LI_Take C_Deed_init
 have C_Turn:Makes P w K mg base 2 "Turn" cs.Turn ["self","number"] (q1R cs .turn):=qbQ T TC LI_Turn C_Deed_init
 have C_Unlock:Makes P w K mg base 2 "Unlock" cs.Unlock ["self","number"] (q1R cs .unlock):=q8k T TC LI_Unlock C_Deed_init
 have vo:∀d,VMeth P w K mg base 1 (dcls cs d) "own_part" ["self","cellar"] (q3K cs d):=fun d=>by
  have D:=q2i TC d
  cases d
  ·exact q4C LM_Go_own_part D
  ·exact q4C LM_Pull_own_part D
  ·exact q4C LM_Take_own_part D
  ·exact q4C LM_Turn_own_part D
  ·exact q4C LM_Unlock_own_part D
 have vf:∀d,VMeth P w K mg base 5 (dcls cs d) "fits" ["self","cellar","stand"] (q3j cs d):=fun d=>by
  have D:=q2i TC d
  have v:=vo d
  cases d
  ·exact q6R T D LM_Go_fits v C_can_enter C_has_bit C_gate_of vl C_held
  ·exact q4I T D LM_Pull_fits v
  ·exact q4H T D LM_Take_fits v C_has_bit
  ·exact q4G T D LM_Turn_fits v
  ·exact q3H T D LM_Unlock_fits v C_can_enter C_has_bit C_held
 have vc:∀d,VMeth P w K mg base 6 (dcls cs d) "can" ["self","cellar","stand"] (qbc cs d):=fun d=>by
  have D:=q2i TC d
  have v:=vf d
  cases d
  ·exact q4M T LM_Go_can D C_within v
  ·exact q4M T LM_Pull_can D C_within v
  ·exact q4M T LM_Take_can D C_within v
  ·exact q4M T LM_Turn_can D C_within v
  ·exact q4M T LM_Unlock_can D C_within v
 have vd:∀d,VMeth P w K mg base 2 (dcls cs d) "done" ["self","cellar","stand"] (q3k cs d):=fun d=>by
  have D:=q2i TC d
  have v:=vo d
  cases d
  ·exact q6S T D LM_Go_done v C_changed
  ·exact q4L T D LM_Pull_done v C_changed
  ·exact q4K T D LM_Take_done C_changed
  ·exact q4J T D LM_Turn_done v C_changed
  ·exact q3I T D LM_Unlock_done C_changed
 have vt:∀d,VMeth P w K mg base 1 (dcls cs d) "told" ["self"] (q5G cs d):=fun d=>by
  have D:=q2i TC d
  cases d
  ·exact q2r LM_Go_told D
  ·exact q2r LM_Pull_told D
  ·exact q2r LM_Take_told D
  ·exact q2r LM_Turn_told D
  ·exact q2r LM_Unlock_told D
 have C_start:Cal P w K mg base 1 "start" ["cellar"] q5F:=q9K T L_start
 have C_all_goes:Cal P w K mg base 4 "all_goes" ["cellar"] (q7D cs):=qbJ T L_all_goes C_Go
 have C_all_deeds:Cal P w K mg base 5 "all_deeds" ["cellar"] (q7H cs):=qbN T L_all_deeds C_all_goes C_Pull C_Take C_Turn C_Unlock
 have C_fit_deeds:Cal P w K mg base 7 "fit_deeds" ["cellar","stand"] (q7F cs):=qbK T L_fit_deeds C_all_deeds vc
 have C_leads:=q9P T L_leads C_fit_deeds vt vd
 have C_walk_from:=qbF T L_walk_from C_leads
 have C_begin_of:=q9Z T L_begin_of C_start
 have C_links_of:=q9N (P:=P) (w:=w) (base:=base) T L_links_of
 have C_counts_from:=q9X (P:=P) (w:=w) (base:=base) T L_counts_from
 have C_turned_links:=q8f (P:=P) (w:=w) (base:=base) T L_turned_links
 have C_ends_of:=qbL (P:=P) (w:=w) (base:=base) T L_ends_of
 have C_counts_to:=ok_cto T L_counts_to C_links_of C_turned_links C_counts_from
 have C_nearer:=qbH (P:=P) (w:=w) (base:=base) T L_nearer
 have C_row_to:=ok_row T L_row_to C_counts_to C_nearer
 have C__law_cell:=q9Y (P:=P) (w:=w) (base:=base) T L__law_cell
 have C__law_gate:=q9T (P:=P) (w:=w) (base:=base) T L__law_gate
 have C__law_ways:=qbE T L__law_ways C__law_cell C__law_gate
 have C__law_cave:=qbM T L__law_cave C__law_cell C__law_ways
 have C__law_held:=q9Q (P:=P) (w:=w) (base:=base) T L__law_held
 have C__law_lets:=q9O T L__law_lets C__law_held
 have C__law_moves:=q9M T L__law_moves C__law_lets C__law_held
 have X_Shut:=qbS (P:=P) (w:=w) (base:=base) T TX LX_Shut
 have C_fewest_in:=q9U T TX L_fewest_in X_Shut C_ends_of C_row_to
 have C_fewest:=q8h T TX L_fewest C_begin_of C_walk_from C_fewest_in
 have C__law_told:=qbG T TX L__law_told C_fewest
 have C__law_start:=q8g T TX L__law_start C_fewest
 have C__law_near:=q9L T L__law_near C__law_moves
 have C__law_good:=q9R T L__law_good C__law_moves C__law_near
 refine F.ok (k:=12) q3R (fun vs H Q E h=>?_) (fun cdv A outer s H vs Q E hr h=>?_)
 ·obtain ⟨a,ns,rfl,_⟩:=h
  rfl
 ·obtain ⟨a,ns,rfl,hS,hl,k⟩:=h
  have big:=qC
  refine⟨_,(qd (qy (i:=1) q3R.nd rfl (Or.inl rfl) (qB C__law_cave hr (by decide) rfl (qa (pv 0) qe)))
   (qd (qy (i:=2) q3R.nd rfl (Or.inl rfl) (qG (qa (qm (qk K) (pv 1) qc (fun _ _=>rfl)) (qa qc (qa qc (qa (qm (qk K) (pv 1) qc (fun _ _=>rfl)) (qa (qm (qk K) (pv 1) qc (fun _ _=>rfl)) qe)))))))
   (qd (q03 (PW.pt (q5f (q2W (q0J (qB C__law_good hr (by decide) rfl (qa (pv 1) (qa (pv 2) (qa (qB C__law_start hr (by decide) rfl (qa (pv 1) qe)) qe)))))) (q3T (q2W (q0J (qB C__law_good hr (by decide) rfl (qa (pv 1) (qa (pv 2) (qa (qB C__law_told hr (by decide) rfl (qa (pv 1) (qa (pv 2) qe))) qe))))))))) (qj (qu q2B)) qD)
   (qd (q0o PassesOwn.never rfl (qT rfl T.n_range (qa (qq qM (qB C__law_cell hr (by decide) rfl (qa (pv 0) (qa qc qe))) qc) qe)) (qr (i:=3) q3R.nd rfl (Or.inl rfl)) (qd (qy (i:=4) q3R.nd rfl (Or.inl rfl) (qB C__law_moves hr (by decide) rfl (qa (pv 1) (qa (pv 2) qe))))
   (qj (q03 (qz q34 (qI (lenK K) rfl T.n_len q0p (qa (pv 4) qe)) qc (qw _)) (qd (qy (i:=2) q3R.nd rfl (Or.inl rfl) (qm (qk K) (qm (q0n K) (pv 4) (qq qM (qB C__law_cell hr (by decide) rfl (qa (pv 0) (qa (qq q0l qc (pv 3)) qe))) (qI (lenK K) rfl T.n_len q0p (qa (pv 4) qe))) (fun _ _=>rfl)) qc (fun _ _=>rfl)))
   (qj (q03 (PW.pt (q2A (qz q07 (qq qM (pv 3) qc) qc (qw _)) (q1X (q2W (q0J (qB C__law_good hr (by decide) rfl (qa (pv 1) (qa (pv 2) (qa (qB C__law_told hr (by decide) rfl (qa (pv 1) (qa (pv 2) qe))) qe))))))))) (qj (qu q2B)) qD))) qD))))
   (qj (qu q2B)))))),?_⟩
  walk_at "r"
  refine⟨a,ns,rfl,hS,hl,fun c C H1 s1 hC ok sz=>?_⟩
  obtain⟨pw,pt,pl,pv',h0,_⟩:=hC.ex
  walk_at "r"
  intro q0 hq0
  generalize hG2:upd _ q0 _=H2
  have s2:=q0a hG2 hq0
  have h2:SAt H2 q0 (st0 C):=q0b hG2
  have s02:=s1.trans s2
  have sok0:(st0 C).ok C:=q9l ok
  have f0:=qaK ok sz sok0
  have sh0:=q7J ok sok0
  walk_at "r"
  refine⟨c,C,st0 C,rfl,hC.mono s2.ts,ok,sok0,f0,rfl,sh0,fun r3 H3 s3 t3=>?_⟩
  walk_at "r"
  refine⟨c,q0,r3,C,st0 C,rfl,hC.mono (s2.trans s3).ts,ok,s3 _ _ h2,sok0,f0,t3,fun H4 s4=>?_⟩
  have s24:=s3.trans s4
  walk_at "r"
  refine⟨c,q0,C,st0 C,rfl,hC.mono (s2.trans s24).ts,ok,sok0,f0,s24 _ _ h2,sh0,fun r5 H5 s5 t5=>?_⟩
  have s25:=s24.trans s5
  walk_at "r"
  refine⟨c,q0,r5,C,st0 C,rfl,hC.mono (s2.trans s25).ts,ok,s25 _ _ h2,sok0,f0,t5,fun H6 s6=>?_⟩
  have s26:=s25.trans s6
  have s06:=s02.trans s26
  walk_at "r"
  refine⟨a,ns,46,rfl,s06.seq hS,hl,by decide,by decide,fun c0=>?_⟩
  have m0:=q09 c0 (n:=11) (by decide)
  have m1:=q0e c0 (n:=11) (by decide)
  walk_at "r"
  generalize c0 % 11=n at m0 m1 ⊢
  try refine r_rg (by omega) ?_
  refine q1K (fun i σ H'=>∃(q:Addr) (s:Sd) (v3 v4:Option V),σ=[some (.ref a),some (.ref c),some (.ref q),v3,v4]/\Same H1 H'/\SAt H' q s/\s.ok C) ⟨q0,st0 C,none,none,rfl,s2.trans s26,s26 _ _ h2,sok0⟩ ?_ ?_
  ·rintro i σ H7 hi ⟨q,s,v3,v4,rfl,s7,hq,sok⟩
   have hi2:i<11:=by omega
   walk_at "r"
   refine⟨c,q,C,s,rfl,hC.mono s7.ts,ok,hq,sok,fun lp H8 s8 hl0 m8=>?_⟩
   obtain⟨qs,hqs,rqs⟩:=m8
   have hql:qs.length=(fitD C s).length:=rqs.1
   have s18:=s7.trans s8
   walk_at "r"
   refine ifd (fun hpos=>?_) (fun _=>?_)
   ·rw [yC] at hpos
    have hqp:0<qs.length:=by omega
    walk_at "r"
    refine⟨a,ns,_,rfl,(s1.trans s18).seq hS,hl,by omega,by omega,fun c1=>?_⟩
    have hlp:(0:Int)<((qs.map V.ref).length:Int):=by rw[yC];omega
    walk_at "r"
    obtain⟨j,hj,ej⟩:=q8j c1 qs.length hqp
    rw[yC,ej]
    have hj2:j<(fitD C s).length:=by omega
    obtain⟨pz,ep,hpz⟩:=rqs.get hj2
    refine q4f (SqL.of hqs) (q0m ep) ?_
    have hin:=List.getElem_mem hj2
    generalize (fitD C s)[j]=u at hpz hin
    obtain⟨t,r,e5,ht5,hr5⟩:=hpz
    have dok:(q00 C s u.1 (u.2:Int)).ok C:=q61 ok sok (q3d.mp hin)
    generalize q00 C s u.1 (u.2:Int)=s9 at hr5 dok
    have f9:=qaK ok sz dok
    walk_at "r"
    refine ifd (fun _=>?_) (fun _=>?_)
    ·walk_at "r"
     refine⟨c,r,C,s9,rfl,hC.mono s18.ts,ok,dok,f9,hr5,q7J ok dok,fun r9 H9 sm9 t9=>?_⟩
     have s19:=s18.trans sm9
     walk_at "r"
     refine⟨c,r,r9,C,s9,rfl,hC.mono s19.ts,ok,sm9 _ _ hr5,dok,f9,t9,fun H10 s10=>?_⟩
     walk_at "r"
     exact⟨r,s9,_,_,rfl,s19.trans s10,(sm9.trans s10) _ _ hr5,dok⟩
    ·walk_at "r"
     exact⟨r,s9,_,_,rfl,s18,hr5,dok⟩
   ·exact ⟨q,s,_,_,rfl,s18,s8 _ _ hq,sok⟩
  ·rintro σ H7 ⟨q,s,v3,v4,rfl,s7,hq,sok⟩
   walk_at "r"
   exact k _
end
section
variable {K:W.Frag}{h:Heap}{mg:Str->Option Value}{x m q:Str}{C:Addr}{st:Stmt}{ps:List Str}{ds:List Value}
inductive GA (K:W.Frag)(x:Str)(st:Stmt):Prop
 |mk {f:Addr} {od an:Option Addr} {sl:Array (Option Value)} {oc kV dc pm cd ct:Value}:W.nsIn K mainGlobals x=some (some (.ref f))->K.lookup f=some ⟨oc,od,.func (W.fnOf x x (q0j st) (qR st) (qh st) .none kV dc pm an cd ct),sl⟩->W.codeIn K cd x=true->W.keepIn K (.ref f)=true->GA K x st
theorem GA.laid (X:K.In h)(G:h.Ns mainGlobals mg)(g:GA K x st)(hb:∀(kV doc pm:Value) (an:Option Addr) (cdv ct:Value) (us:List Value),us.length=ps.length->bindArgs (W.fnOf x x (q0j st) (qR st) (qh st) .none kV doc pm an cdv ct) ⟨us,[]⟩=pure (ps.zip us)):Laid K mg x st ps:=let ⟨a,l,c,k⟩:=g;qbZ X G a l c k hb
inductive DA (K:W.Frag)(x:Str)(st:Stmt)(ds:List Value):Prop
 |mk {f:Addr} {od an:Option Addr} {sl:Array (Option Value)} {oc kV dc pm cd ct:Value} {T:Addr} {oT:Value} {odT:Option Addr} {nT:Nat} {slT:Array (Option Value)}:W.nsIn K mainGlobals x=some (some (.ref f))->K.lookup f=some ⟨oc,od,.func (W.fnOf x x (q0j st) (qR st) (qh st) (.ref T) kV dc pm an cd ct),sl⟩->W.codeIn K cd x=true->W.keepIn K (.ref f)=true->K.lookup T=some ⟨oT,odT,.seq ds.toArray nT,slT⟩->DA K x st ds
theorem DA.laid (X:K.In h)(G:h.Ns mainGlobals mg)(g:DA K x st ds):LaidD K mg x st ds:=let ⟨a,l,c,k,d⟩:=g;qa8 X G a l c k d rfl
inductive MA (K:W.Frag)(C:Addr)(m q:Str)(st:Stmt):Prop
 |mk {f:Addr} {od an:Option Addr} {sl:Array (Option Value)} {oc kV dc pm cd ct:Value}:W.findIn K (.ref C) m=some (some (.ref f))->W.isFn K (.ref f)=true->K.lookup f=some ⟨oc,od,.func (W.fnOf m q (q0j st) (qR st) (qh st) .none kV dc pm an cd ct),sl⟩->W.codeIn K cd q=true->W.keepIn K (.ref f)=true->MA K C m q st
theorem MA.laid (g:MA K C m q st)(hb:∀(kV doc pm:Value) (an:Option Addr) (cdv ct:Value) (us:List Value),us.length=ps.length->bindArgs (W.fnOf m q (q0j st) (qR st) (qh st) .none kV doc pm an cdv ct) ⟨us,[]⟩=pure (ps.zip us)):LaidM K C m q st ps:=let ⟨a,i,l,c,k⟩:=g;⟨_,_,q20 l c k,⟨a,i,k⟩,(q20 l c k).binds hb⟩
inductive IA (K:W.Frag)(C:Addr)(q:Str)(st:Stmt):Prop
 |mk {f:Addr} {od an:Option Addr} {sl:Array (Option Value)} {oc kV dc pm cd ct:Value}:W.makesIn K C=true->W.keepIn K (.ref C)=true->W.findIn K (.ref C) "__init__"=some (some (.ref f))->W.isFn K (.ref f)=true->K.lookup f=some ⟨oc,od,.func (W.fnOf "__init__" q (q0j st) (qR st) (qh st) .none kV dc pm an cd ct),sl⟩->W.codeIn K cd q=true->W.keepIn K (.ref f)=true->IA K C q st
theorem IA.laid (g:IA K C q st)(hx:mg x=some (.ref C))(hb:∀(kV doc pm:Value) (an:Option Addr) (cdv ct:Value) (us:List Value),us.length=ps.length->bindArgs (W.fnOf "__init__" q (q0j st) (qR st) (qh st) .none kV doc pm an cdv ct) ⟨us,[]⟩=pure (ps.zip us)):LaidI K mg x C q st ps:=let ⟨z,y,a,i,l,c,k⟩:=g;⟨⟨_,_,q20 l c k,⟨z,a,i,y⟩,(q20 l c k).binds hb⟩,hx⟩
inductive CA (K:W.Frag)(C:Addr)(m q:Str)(st:Stmt):Prop
 |mk {f:Addr} {od an:Option Addr} {sl:Array (Option Value)} {oc kV dc pm cd ct:Value}:W.readsIn K C (.type "type")=true->W.findCls K (.ref C) (.type "type") m=some (.val (.ref f))->W.specialIn K (.ref C) "__getattribute__"=some (some (.builtin "type.__getattribute__"))->K.lookup f=some ⟨oc,od,.func (W.fnOf m q (q0j st) (qR st) (qh st) .none kV dc pm an cd ct),sl⟩->W.codeIn K cd q=true->W.keepIn K (.ref f)=true->CA K C m q st
theorem CA.laid (g:CA K C m q st)(hx:mg x=some (.ref C))(hb:∀(kV doc pm:Value) (an:Option Addr) (cdv ct:Value) (us:List Value),us.length=ps.length->bindArgs (W.fnOf m q (q0j st) (qR st) (qh st) .none kV doc pm an cdv ct) ⟨us,[]⟩=pure (ps.zip us)):LaidC K mg x m q st ps:=let ⟨r,y,z,l,c,k⟩:=g;⟨C,_,_,hx,q20 l c k,⟨r,y,z,k⟩,(q20 l c k).binds hb⟩
end
local macro_rules| `(tactic| walk_at "b1")=> `(tactic| exact fun _ _ _ _ _ _=>blS fun _=>bl0 rfl)
local macro_rules| `(tactic| walk_at "b2")=> `(tactic| exact fun _ _ _ _ _ _=>blS fun _=>blS fun _=>bl0 rfl)
local macro_rules| `(tactic| walk_at "b3")=> `(tactic| exact fun _ _ _ _ _ _=>blS fun _=>blS fun _=>blS fun _=>bl0 rfl)
local macro_rules| `(tactic| walk_at "b4")=> `(tactic| exact fun _ _ _ _ _ _=>blS fun _=>blS fun _=>blS fun _=>blS fun _=>bl0 rfl)
local macro_rules| `(tactic| walk_at "b5")=> `(tactic| exact fun _ _ _ _ _ _=>blS fun _=>blS fun _=>blS fun _=>blS fun _=>blS fun _=>bl0 rfl)
theorem all_mk {l:W.OpenLaw}{w:World}{K:W.Frag}{h:Heap}{mg:Str->Option Value}{fa C_Gate C_Plain C_Door C_Need C_Bar C_Wade C_Float C_Deed C_Go C_Pull C_Take C_Turn C_Unlock:Addr}(X:K.In h)(G:h.Ns mainGlobals mg)(hfa:mg "law"=some (.ref fa))
  (T0:TxtR (fun x v=>W.nsIn K mainGlobals x=some (some v)) (fun x=>W.nsIn K mainGlobals x=some none) (Cs.mk C_Gate C_Plain C_Door C_Need C_Bar C_Wade C_Float C_Deed C_Go C_Pull C_Take C_Turn C_Unlock))
  (TC:Tcl K (Cs.mk C_Gate C_Plain C_Door C_Need C_Bar C_Wade C_Float C_Deed C_Go C_Pull C_Take C_Turn C_Unlock))
  {X_DelveError X_NoCellar X_Shut X_Wide:Addr}
  (z0:W.nsIn K mainGlobals "DelveError"=some (some (.ref X_DelveError)))
  (z1:W.nsIn K mainGlobals "NoCellar"=some (some (.ref X_NoCellar)))
  (z2:W.nsIn K mainGlobals "Shut"=some (some (.ref X_Shut)))
  (z3:W.nsIn K mainGlobals "Wide"=some (some (.ref X_Wide)))
  (z4:W.excIn K X_NoCellar [.type "ValueError",.type "Exception",.type "BaseException",.type "object"] "ValueError.__new__"=true)
  (z5:W.exmOne K (.ref X_NoCellar) (.ref X_Shut)=some false)
  (z6:W.kitOne K (.ref X_NoCellar) (.ref X_DelveError)=some true)
  (z7:W.kitOne K (.ref X_NoCellar) (.type "ValueError")=some true)
  (z8:W.exmOne K (.ref X_Shut) (.ref X_Shut)=some true)
  (z9:W.kitOne K (.ref X_Shut) (.ref X_DelveError)=some true)
  (za:W.kitOne K (.ref X_Shut) (.type "ValueError")=some true)
  (zb:W.excIn K X_Wide [.type "ValueError",.type "Exception",.type "BaseException",.type "object"] "ValueError.__new__"=true)
  (zc:W.exmOne K (.ref X_Wide) (.ref X_Shut)=some false)
  (zd:W.kitOne K (.ref X_Wide) (.ref X_DelveError)=some true)
  (ze:W.kitOne K (.ref X_Wide) (.type "ValueError")=some true)
  {dd_Shut:Option Addr}{n1_Shut:Str}{n2_Shut:List Value}{n4_Shut:Addr}{n5_Shut:Str}{n7_Shut:List Str}{n8_Shut:List Value}{n9_Shut:Bool}{n10_Shut:Option Bool}{k0_Shut:Option Value}{k1_Shut:Option Value}{k2_Shut:Option Value}{k3_Shut:Option Value}{k5_Shut:Option Value}
  (zf:K.lookup X_Shut=some ⟨.type "type",dd_Shut,.cls ⟨n1_Shut,n2_Shut,[.ref X_Shut,.ref X_DelveError,.type "ValueError",.type "Exception",.type "BaseException",.type "object"],n4_Shut,n5_Shut,true,n7_Shut,n8_Shut,n9_Shut,n10_Shut,false⟩,#[k0_Shut,k1_Shut,k2_Shut,k3_Shut,some (.builtin "ValueError.__new__"),k5_Shut]⟩)
  (zg:W.keepIn K (.ref X_Shut)=true)
  (zh:W.findIn K (.ref X_Shut) "__setattr__"=some (some (.builtin "object.__setattr__")))
  (zi:W.findIn K (.ref X_Shut) "stand"=some none)
  {dd_DelveError:Option Addr}{n1_DelveError:Str}{n2_DelveError:List Value}{n4_DelveError:Addr}{n5_DelveError:Str}{n6_DelveError:Bool}{n7_DelveError:List Str}{n8_DelveError:List Value}{n9_DelveError:Bool}{n10_DelveError:Option Bool}{n11_DelveError:Bool}{sl_DelveError:Array (Option Value)}
  (zj:K.lookup X_DelveError=some ⟨.type "type",dd_DelveError,.cls ⟨n1_DelveError,n2_DelveError,[.ref X_DelveError,.type "ValueError",.type "Exception",.type "BaseException",.type "object"],n4_DelveError,n5_DelveError,n6_DelveError,n7_DelveError,n8_DelveError,n9_DelveError,n10_DelveError,n11_DelveError⟩,sl_DelveError⟩)
  (zk:W.excIn K X_DelveError [.type "ValueError",.type "Exception",.type "BaseException",.type "object"] "ValueError.__new__"=true)
  (zl:W.readsIn K X_DelveError (.type "type")=true)
  (zm:W.findCls K (.ref X_DelveError) (.type "type") "__init__"=some (.val (.builtin "ValueError.__init__")))
  (zn:W.specialIn K (.ref X_DelveError) "__getattribute__"=some (some (.builtin "type.__getattribute__")))
  (zo:W.findIn K (.ref X_NoCellar) "__getattribute__"=some (some (.builtin "BaseException.__getattribute__")))
  (zp:W.findIn K (.ref X_NoCellar) "__getattr__"=some none)
  (zq:W.findIn K (.ref X_NoCellar) "__class__"=some (some (.builtin "object.__class__")))
  (zr:W.mroIn K X_NoCellar (.type "object")=some true)
  (zs:W.mroIn K X_NoCellar (.type "BaseException")=some true)
  (zt:W.findIn K (.ref X_Shut) "__getattribute__"=some (some (.builtin "BaseException.__getattribute__")))
  (zu:W.findIn K (.ref X_Shut) "__getattr__"=some none)
  (zv:W.findIn K (.ref X_Shut) "__class__"=some (some (.builtin "object.__class__")))
  (zw:W.mroIn K X_Shut (.type "object")=some true)
  (zx:W.mroIn K X_Shut (.type "BaseException")=some true)
  (zy:W.findIn K (.ref X_Wide) "__getattribute__"=some (some (.builtin "BaseException.__getattribute__")))
  (zz:W.findIn K (.ref X_Wide) "__getattr__"=some none)
  (z10:W.findIn K (.ref X_Wide) "__class__"=some (some (.builtin "object.__class__")))
  (z11:W.mroIn K X_Wide (.type "object")=some true)
  (z12:W.mroIn K X_Wide (.type "BaseException")=some true)
  (h1:GA K "_wall" q7M)
  (h2:GA K "within" q39)
  (h3:GA K "has_bit" q2t)
  (h4:GA K "changed" q2v)
  (h5:GA K "gate_of" q2u)
  (h6:GA K "start" q4e)
  (h7:GA K "held" q6n)
  (h8:GA K "door_kinds" q0D)
  (h9:GA K "can_enter" q1k)
  (h10:GA K "leads" q3n)
  (h11:GA K "fit_deeds" q0R)
  (h12:GA K "all_goes" q1c)
  (h13:GA K "all_deeds" q0k)
  (h14:GA K "begin_of" q25)
  (h15:GA K "walk_from" q1h)
  (h16:GA K "row_to" q3a)
  (h17:GA K "nearer" q3b)
  (h18:GA K "counts_to" q1j)
  (h19:GA K "links_of" q1b)
  (h20:GA K "counts_from" q0L)
  (h21:GA K "turned_links" q0z)
  (h22:GA K "ends_of" q1U)
  (h23:DA K "fewest" q0K [.none])
  (h24:GA K "fewest_in" q1i)
  (h25:GA K "_law_cell" q1q)
  (h26:GA K "_law_gate" q1p)
  (h27:GA K "_law_ways" q1l)
  (h28:GA K "_law_cave" q08)
  (h29:GA K "_law_held" q1o)
  (h30:GA K "_law_lets" q1n)
  (h31:GA K "_law_moves" qO)
  (h32:GA K "_law_near" q0S)
  (h33:GA K "_law_told" q1m)
  (h34:GA K "_law_start" q0X)
  (h35:GA K "_law_good" q0T)
  (h36:GA K "law" qbe)
  (h37:MA K C_Plain "lets" "Plain.lets" q0Y)
  (h38:MA K C_Plain "told" "Gate.told" qU)
  (h39:IA K C_Plain "Plain.__init__" q0Z)
  (h40:MA K C_Door "lets" "Door.lets" q1G)
  (h41:MA K C_Door "told" "Gate.told" qU)
  (h42:IA K C_Door "Door.__init__" q1H)
  (h43:MA K C_Need "lets" "Need.lets" q1D)
  (h44:MA K C_Need "told" "Gate.told" qU)
  (h45:IA K C_Need "Need.__init__" q1E)
  (h46:MA K C_Bar "lets" "Bar.lets" q26)
  (h47:MA K C_Bar "told" "Gate.told" qU)
  (h48:IA K C_Bar "Bar.__init__" q27)
  (h49:MA K C_Wade "lets" "Wade.lets" q1r)
  (h50:MA K C_Wade "told" "Gate.told" qU)
  (h51:IA K C_Wade "Wade.__init__" q1s)
  (h52:MA K C_Float "lets" "Float.lets" q12)
  (h53:MA K C_Float "told" "Gate.told" qU)
  (h54:IA K C_Float "Float.__init__" q13)
  (h55:MA K C_Go "can" "Deed.can" q04)
  (h56:MA K C_Go "done" "Go.done" q2y)
  (h57:MA K C_Go "fits" "Go.fits" q2x)
  (h58:MA K C_Go "own_part" "Deed.own_part" qF)
  (h59:MA K C_Go "told" "Deed.told" qV)
  (h60:IA K C_Go "Go.__init__" q2w)
  (h61:MA K C_Pull "can" "Deed.can" q04)
  (h62:MA K C_Pull "done" "Pull.done" q1C)
  (h63:MA K C_Pull "fits" "Pull.fits" q1B)
  (h64:MA K C_Pull "own_part" "Deed.own_part" qF)
  (h65:MA K C_Pull "told" "Deed.told" qV)
  (h66:IA K C_Pull "Pull.__init__" q1A)
  (h67:MA K C_Take "can" "Deed.can" q04)
  (h68:MA K C_Take "done" "Take.done" q1y)
  (h69:MA K C_Take "fits" "Take.fits" q1x)
  (h70:MA K C_Take "own_part" "Deed.own_part" qF)
  (h71:MA K C_Take "told" "Deed.told" qV)
  (h72:IA K C_Take "Take.__init__" q1w)
  (h73:MA K C_Turn "can" "Deed.can" q04)
  (h74:MA K C_Turn "done" "Turn.done" q1v)
  (h75:MA K C_Turn "fits" "Turn.fits" q1u)
  (h76:MA K C_Turn "own_part" "Deed.own_part" qF)
  (h77:MA K C_Turn "told" "Deed.told" qV)
  (h78:IA K C_Turn "Turn.__init__" q1t)
  (h79:MA K C_Unlock "can" "Deed.can" q04)
  (h80:MA K C_Unlock "done" "Unlock.done" q0O)
  (h81:MA K C_Unlock "fits" "Unlock.fits" q0N)
  (h82:MA K C_Unlock "own_part" "Deed.own_part" qF)
  (h83:MA K C_Unlock "told" "Deed.told" qV)
  (h84:IA K C_Unlock "Unlock.__init__" q0M)
  (h85:MA K X_Shut "__init__" "Shut.__init__" q1z)
  (h86:CA K C_Deed "__init__" "Deed.__init__" q1I)
  (h87:CA K C_Gate "__init__" "Gate.__init__" q1F):
  ∃fd:FuncData,(∀(s:Shared) (v:Value),BindsTo s fd ⟨[v],[]⟩ [("_law_script",v)])/\∀base:Heap,K.In base->base.Ns mainGlobals mg->FnOk l.prog w K mg base CX0 13 fa fd ["_law_script"] (q9m K):=by
 obtain⟨al,ll,cl,kl⟩:=h36
 have e:=hfa.symm.trans (W.mg_of X G al)
 cases e
 have T:Txt mg (Cs.mk C_Gate C_Plain C_Door C_Need C_Bar C_Wade C_Float C_Deed C_Go C_Pull C_Take C_Turn C_Unlock):=T0.up (fun _ _ z=>W.mg_of X G z) fun _ z=>W.mg_none_of X G z
 have XL_Shut:ExcL K X_Shut X_DelveError:=⟨⟨_,_,_,_,_,_,_,_,_,_,_,_,_,_,zf⟩,⟨_,_,_,_,_,_,_,_,_,_,_,_,zj⟩,zk⟩
 have TX:Tx K mg (Xs.mk X_DelveError X_NoCellar X_Shut X_Wide):=⟨W.mg_of X G z0,W.mg_of X G z1,W.mg_of X G z2,W.mg_of X G z3,⟨_,_,_,PySem.F.excBase_ValueError,z4,rfl⟩,z5,z6,z7,z8,z9,za,⟨_,_,_,PySem.F.excBase_ValueError,zb,rfl⟩,zc,zd,ze,⟨zo,zp,zq,zr,zs⟩,⟨zt,zu,zv,zw,zx⟩,⟨zy,zz,z10,z11,z12⟩,XL_Shut.f zh,⟨_,XL_Shut⟩,zi,⟨zl,zm,zn⟩⟩
 exact⟨_,fun s v=> .of_eq rfl,fun base _ _=>ok_law (q20 ll cl kl) T TC TX (h1.laid X G (by walk_at "b1")) (h2.laid X G (by walk_at "b3")) (h3.laid X G (by walk_at "b2")) (h4.laid X G (by walk_at "b3")) (h5.laid X G (by walk_at "b1")) (h6.laid X G (by walk_at "b1")) (h7.laid X G (by walk_at "b2")) (h8.laid X G (by walk_at "b1")) (h9.laid X G (by walk_at "b2")) (h10.laid X G (by walk_at "b2")) (h11.laid X G (by walk_at "b2")) (h12.laid X G (by walk_at "b1")) (h13.laid X G (by walk_at "b1")) (h14.laid X G (by walk_at "b2")) (h15.laid X G (by walk_at "b2")) (h16.laid X G (by walk_at "b3")) (h17.laid X G (by walk_at "b3")) (h18.laid X G (by walk_at "b2")) (h19.laid X G (by walk_at "b1")) (h20.laid X G (by walk_at "b2")) (h21.laid X G (by walk_at "b1")) (h22.laid X G (by walk_at "b2")) (h23.laid X G) (h24.laid X G (by walk_at "b3")) (h25.laid X G (by walk_at "b2")) (h26.laid X G (by walk_at "b2")) (h27.laid X G (by walk_at "b4")) (h28.laid X G (by walk_at "b1")) (h29.laid X G (by walk_at "b3")) (h30.laid X G (by walk_at "b3")) (h31.laid X G (by walk_at "b2")) (h32.laid X G (by walk_at "b2")) (h33.laid X G (by walk_at "b2")) (h34.laid X G (by walk_at "b1")) (h35.laid X G (by walk_at "b3")) (h37.laid (by walk_at "b5")) (h38.laid (by walk_at "b1")) (h39.laid T.c_Plain (by walk_at "b1")) (h40.laid (by walk_at "b5")) (h41.laid (by walk_at "b1")) (h42.laid T.c_Door (by walk_at "b2")) (h43.laid (by walk_at "b5")) (h44.laid (by walk_at "b1")) (h45.laid T.c_Need (by walk_at "b2")) (h46.laid (by walk_at "b5")) (h47.laid (by walk_at "b1")) (h48.laid T.c_Bar (by walk_at "b2")) (h49.laid (by walk_at "b5")) (h50.laid (by walk_at "b1")) (h51.laid T.c_Wade (by walk_at "b3")) (h52.laid (by walk_at "b5")) (h53.laid (by walk_at "b1")) (h54.laid T.c_Float (by walk_at "b2")) (h55.laid (by walk_at "b3")) (h56.laid (by walk_at "b3")) (h57.laid (by walk_at "b3")) (h58.laid (by walk_at "b2")) (h59.laid (by walk_at "b1")) (h60.laid T.c_Go (by walk_at "b2")) (h61.laid (by walk_at "b3")) (h62.laid (by walk_at "b3")) (h63.laid (by walk_at "b3")) (h64.laid (by walk_at "b2")) (h65.laid (by walk_at "b1")) (h66.laid T.c_Pull (by walk_at "b2")) (h67.laid (by walk_at "b3")) (h68.laid (by walk_at "b3")) (h69.laid (by walk_at "b3")) (h70.laid (by walk_at "b2")) (h71.laid (by walk_at "b1")) (h72.laid T.c_Take (by walk_at "b2")) (h73.laid (by walk_at "b3")) (h74.laid (by walk_at "b3")) (h75.laid (by walk_at "b3")) (h76.laid (by walk_at "b2")) (h77.laid (by walk_at "b1")) (h78.laid T.c_Turn (by walk_at "b2")) (h79.laid (by walk_at "b3")) (h80.laid (by walk_at "b3")) (h81.laid (by walk_at "b3")) (h82.laid (by walk_at "b2")) (h83.laid (by walk_at "b1")) (h84.laid T.c_Unlock (by walk_at "b2")) (let ⟨a,i,l,cc,k⟩:=h85;⟨⟨_,_,q20 l cc k,⟨TX.xi_Shut,a,i,zg⟩,(q20 l cc k).binds (by walk_at "b2")⟩,TX.at_Shut⟩) (h86.laid T.c_Deed (by walk_at "b4")) (h87.laid T.c_Gate (by walk_at "b3"))⟩
theorem walk {l:W.OpenLaw}{q:Program}{loose:List Str}{XP:(Str->Option Value)->Heap->Prop}{YP:World->Heap->Prop}{d:DefRec}{K:Params->W.Frag}(hn:l.most=some 63)(hdf:d.params.defaults=[])
  (hY:∀(w:World) (h:Heap),YP w h->(K w.params).In h)
  (F:∀(w:World) (mg:Str->Option Value) (fa:Addr) (h:Heap),(K w.params).In h->h.Ns mainGlobals mg->mg d.name=some (.ref fa)->
   ∃fd:FuncData,(∀(s:Shared) (u:Value),BindsTo s fd ⟨[u],[]⟩ [("_law_script",u)])/\∀base:Heap,(K w.params).In base->base.Ns mainGlobals mg->FnOk l.prog w (K w.params) mg base CX0 13 fa fd ["_law_script"] (q9m (K w.params))):
  W.WalkO q loose XP YP l.row.toRowW d [] (fun f vs=>PySem.call f vs):=
 L2.qaW (n:=63) (k:=13) (x:="_law_script") (CX:=fun _=>CX0) (sp:=fun w=>q9m (K w.params)) hn (by decide) hdf ⟨rfl,by decide,by decide,rfl⟩ hY F (fun _ _ a ns hl _ hS=>⟨a,ns,rfl,hS,hl,fun _=>rfl⟩) fun _ _ _ _ _ z=>z
end Mine
open PySem PySem.W PyProof.Rows
set_option maxRecDepth 100000 in
set_option maxHeartbeats 0 in
theorem PySem.Challenge.cw_delve_k44_fewest_deeds_holds : PySem.Challenge.rw_delve_k44_fewest_deeds.Holds := by
 w_on;o_law;k_head;(case hw=>w_witness2)
 k_fill
 refine Mine.walk (l:=PySem.Challenge.rw_delve_k44_fewest_deeds) rfl rfl (fun w h Y=>PySem.W.kIn_of Y) ?F
 case F=>
  intro w mg fa h KX G hmg
  refine' Mine.all_mk KX G hmg ?T ?C ?z0 ?z1 ?z2 ?z3 ?z4 ?z5 ?z6 ?z7 ?z8 ?z9 ?za ?zb ?zc ?zd ?ze ?zf ?zg ?zh ?zi ?zj ?zk ?zl ?zm ?zn ?zo ?zp ?zq ?zr ?zs ?zt ?zu ?zv ?zw ?zx ?zy ?zz ?z10 ?z11 ?z12 ?_ ?_ ?_ ?_ ?_ ?_ ?_ ?_ ?_ ?_ ?_ ?_ ?_ ?_ ?_ ?_ ?_ ?_ ?_ ?_ ?_ ?_ ?_ ?_ ?_ ?_ ?_ ?_ ?_ ?_ ?_ ?_ ?_ ?_ ?_ ?_ ?_ ?_ ?_ ?_ ?_ ?_ ?_ ?_ ?_ ?_ ?_ ?_ ?_ ?_ ?_ ?_ ?_ ?_ ?_ ?_ ?_ ?_ ?_ ?_ ?_ ?_ ?_ ?_ ?_ ?_ ?_ ?_ ?_ ?_ ?_ ?_ ?_ ?_ ?_ ?_ ?_ ?_ ?_ ?_ ?_ ?_ ?_ ?_ ?_ ?_ ?_
  (case z0=>k_is)
  (case z1=>k_is)
  (case z2=>k_is)
  (case z3=>k_is)
  (case z4=>k_exc)
  (case z5=>kts_exm)
  (case z6=>kit_is)
  (case z7=>kit_is)
  (case z8=>kts_exm)
  (case z9=>kit_is)
  (case za=>kit_is)
  (case zb=>k_exc)
  (case zc=>kts_exm)
  (case zd=>kit_is)
  (case ze=>kit_is)
  (case zf=>k_is)
  (case zg=>k_is)
  (case zh=>k_is)
  (case zi=>k_is)
  (case zj=>k_is)
  (case zk=>k_exc)
  (case zl=>k_is)
  (case zm=>k_is)
  (case zn=>k_is)
  (case zo=>k_is)
  (case zp=>k_is)
  (case zq=>k_is)
  (case zr=>k_is)
  (case zs=>k_is)
  (case zt=>k_is)
  (case zu=>k_is)
  (case zv=>k_is)
  (case zw=>k_is)
  (case zx=>k_is)
  (case zy=>k_is)
  (case zz=>k_is)
  (case z10=>k_is)
  (case z11=>k_is)
  (case z12=>k_is)
  case T=>constructor<;>(try dsimp only)<;>first|k_is|exact⟨_,by k_is⟩
  case C=>constructor<;>(try dsimp only)<;>first|exact⟨by k_is,by k_is,by k_is,by k_is⟩|(unfold L2.qH;k_is)
  all_goals try dsimp only
  all_goals first|exact Mine.GA.mk (by k_is) (by k_is) (by k_is) (by k_is)|exact Mine.MA.mk (by k_is) (by k_is) (by k_is) (by k_is) (by k_is)|exact Mine.IA.mk (by k_is) (by k_is) (by k_is) (by k_is) (by k_is) (by k_is) (by k_is)|exact Mine.CA.mk (by k_is) (by k_is) (by k_is) (by k_is) (by k_is) (by k_is)|exact Mine.DA.mk (by k_is) (by k_is) (by k_is) (by k_is) (by k_is)|exact⟨_,Mine.DA.mk (by k_is) (by k_is) (by k_is) (by k_is) (by k_is)⟩|exact⟨_,_,Mine.DA.mk (by k_is) (by k_is) (by k_is) (by k_is) (by k_is)⟩
