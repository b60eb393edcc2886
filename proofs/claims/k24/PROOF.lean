import PyProof.Rows.All
import Wide.All
import OpenK.AllK
import Wide.FinOn
import Lean
import PyProof.EqAt
import PyProof.EqKinds
import PyProof.TupleCall
import PyProof.NeKinds
import PySem.Challenge.RW_delve_k24_rounds
namespace PySem.W.Fast
def tw6112566530967659069 := 0
def tw6356182117359359970 := 0
def tw12929388542525375673 := 0
def tw9194854451676407547 := 0
def tw14043962163052185645 := 0
def tw2559236486226724400 := 0
def tw16541234951705689218 := 0
def tw16721061851919715408 := 0
def tw13068387586519560502 := 0
def tw15001278000309478947 := 0
def tw4747655968580879685 := 0
def tw835971096534558897 := 0
def tw14121623516909428208 := 0
def tw17114639441948097581 := 0
def tw3208371383440974424 := 0
def tw11748845267514108063 := 0
def tw15465643861775414404 := 0
def tw12929863968273786512 := 0
def tw486953896810903402 := 0
def tw18147288540509719243 := 0
def tw851950817964711641 := 0
def tw1003278171497492444 := 0
def tw11253907845352783439 := 0
def tw5278484272559541080 := 0
def tw14709633153504111844 := 0
def tw1067353585081042451 := 0
def tw14542300775431598831 := 0
def tw10344311718114229722 := 0
def tw4432086397697442118 := 0
def tw8309353304712942209 := 0
def tw15256532180477416135 := 0
def tw16783642512930197432 := 0
def tw3308628122991190319 := 0
def tw8563841639557399215 := 0
def tw18135463133913177561 := 0
def tw13343195950477477481 := 0
def tw10248573966527244039 := 0
def tw2337715229931638617 := 0
def tw10377012203241879717 := 0
def tw13714042289991729924 := 0
def tw2987196615792964710 := 0
def tw9105358969921743011 := 0
def tw17520229856292163328 := 0
def tw6570638037625985075 := 0
def tw6315230299515238800 := 0
def tw3702289842606853292 := 0
def tw15103966134799511482 := 0
def tw9995366349192856998 := 0
def tw10887924239846679067 := 0
def tw11824725299906697166 := 0
def tw9953719027804180523 := 0
def tw8147636139994280753 := 0
def tw1383555656072413536 := 0
def tw13525545285390082036 := 0
def tw16659442781549077531 := 0
def tw4561251558673172237 := 0
def tw304407167345171368 := 0
def tw18133588745607797098 := 0
def tw2091620688519568155 := 0
def tw17327050915526273492 := 0
def tw5124987917907996423 := 0
def tw2972139509000338774 := 0
def tw13670465185899272481 := 0
def tw2926287460106004746 := 0
def tw12893299341999464485 := 0
def tw18120592753016960050 := 0
def tw17855135780735080700 := 0
def tw6071826985447040970 := 0
def tw17921585873931753481 := 0
def tw4511127816872856311 := 0
def tw6076673680863102002 := 0
def tw13705530255397105044 := 0
def tw17121727514490651691 := 0
def tw8381870323874863788 := 0
def tw4980160303163752740 := 0
def tw11259524560216960542 := 0
def tw12303237426508161616 := 0
def tw16310299391206647213 := 0
def tw5173210182482206831 := 0
def tw16775896510140589366 := 0
def tw15309500707033597771 := 0
def tw13757984114225865938 := 0
def tw7535716943334316889 := 0
def tw7710909104430082928 := 0
def tw12600649022059376524 := 0
def tw14965908504283754678 := 0
def tw3885863673335940474 := 0
def tw4661499116229250330 := 0
def tw8346497852924041616 := 0
def tw15898390088455285860 := 0
def tw11823012093576781867 := 0
def tw892332577674459494 := 0
def tw12246160421307328056 := 0
def tw6361881466133072693 := 0
def tw15586168151431138383 := 0
def tw7202693290939058417 := 0
def tw6067953065411642639 := 0
def tw17294839320812826443 := 0
def tw2276538516077583824 := 0
def tw15513282507669183553 := 0
def tw13387800954623846337 := 0
def tw13139801113480124496 := 0
def tw803717270134968329 := 0
def tw16308345171688290073 := 0
def tw16783363265653835079 := 0
def tw2452994192007773372 := 0
def tw13370318306830625154 := 0
def tw6275292383516264041 := 0
def tw11529942975902351583 := 0
def tw17893182396886650569 := 0
def tw12503967419098034842 := 0
def tw2770284728390762790 := 0
def tw12990925192148403705 := 0
def tw4444918249683603425 := 0
def tw6603716863964127876 := 0
def tw18249758209236535954 := 0
def tw18069135571913797171 := 0
def tw12938932604686043246 := 0
def tw16952003300345465226 := 0
def tw11893902547825423072 := 0
def tw9328308076006639279 := 0
def tw9563522746049581832 := 0
def tw5078596521168089525 := 0
def tw6674214396931939934 := 0
def tw3034560374738803026 := 0
def tw5561307760094503517 := 0
def tw10082220225008565562 := 0
def tw15451447581738564421 := 0
def tw10148158362796272611 := 0
def tw5909596360317074635 := 0
def tw158328042765740876 := 0
def tw15793958565487219070 := 0
def tw4859789946025738698 := 0
def tw733820001063152137 := 0
def tw11942006449227698023 := 0
def tw10228783907588783642 := 0
def tw5853572263294001110 := 0
def tw758031456239696996 := 0
def tw15838311122667059366 := 0
def tw3527096911837279177 := 0
def tw4322354882305084121 := 0
def tw4128271332699943900 := 0
def tw14052164712642220289 := 0
def tw10975167897217457509 := 0
def tw6758164372320694819 := 0
def tw7494347685484029318 := 0
def tw10294774243288637266 := 0
def tw2478625210503180462 := 0
def tw12954396630252344896 := 0
def tw7141426484903292655 := 0
def tw7938273463998292639 := 0
def tw15014532952692867508 := 0
def tw7677346753063032106 := 0
def tw11948951120049774851 := 0
def tw1842036171632591404 := 0
def tw11315894146366185512 := 0
def tw4736128806137365538 := 0
def tw1815910420810476926 := 0
def tw12372634526174536537 := 0
def tw1128059136845058009 := 0
def tw3828583575996093346 := 0
def tw2930226655934343220 := 0
def tw467883229978273991 := 0
def tw13525850013670864294 := 0
def tw4156613901964331141 := 0
def tw15469927484823103234 := 0
def tw6970707526014508130 := 0
def tw16345112295551790095 := 0
def tw6182670418736354860 := 0
def tw130369446522992681 := 0
def tw975730780278195512 := 0
def tw9353348032105375327 := 0
def tw8848460038515800770 := 0
def tw10702848284799415004 := 0
def tw9619965870875500926 := 0
def tw1938943288270343536 := 0
def tw13151420725371130805 := 0
def tw8947168251564982338 := 0
def tw9593982650097629132 := 0
def tw2015503148604301854 := 0
def tw7754235621155736988 := 0
def tw18224688586061010812 := 0
def tw3445755130074427331 := 0
def tw17563550434402380594 := 0
def tw6004897948802588192 := 0
def tw2370625720557922650 := 0
def tw13557859461311362429 := 0
def tw17044252633440401904 := 0
def tw2021052412449648262 := 0
def tw6113404907813881566 := 0
def tw5557749740426091473 := 0
def tw11848966576902183889 := 0
def tw599481548687148116 := 0
def tw18345426158075559925 := 0
def tw2287520040531719275 := 0
def tw15336278726133879452 := 0
def tw321543187053968724 := 0
def tw10438180221001920151 := 0
def tw6639510131472357233 := 0
def tw12772915820942608972 := 0
def tw7543964697385003707 := 0
def tw12605545152670497697 := 0
def tw6656724714748870876 := 0
def tw17242347234758960030 := 0
def tw7567374723793778863 := 0
def tw5805690296636027005 := 0
def tw1768569580963394580 := 0
def tw11084062083682558418 := 0
def tw878618584870138623 := 0
def tw4730105177775028112 := 0
def tw12071921388872931733 := 0
def tw8391545096341489173 := 0
def tw6327980854713999752 := 0
def tw6762311751621203352 := 0
def tw11527049027407662497 := 0
def tw14031438878024354091 := 0
def tw14240673970915978675 := 0
def tw15755594286674033875 := 0
def tw6414192849841045776 := 0
def tw2258262287904469245 := 0
def tw3535464041500139378 := 0
def tw17781231824596453731 := 0
def tw12363438519302338960 := 0
def tw18093920211188634404 := 0
def tw14409657509704940675 := 0
def tw17364964665127624912 := 0
def tw11776422473355753829 := 0
def tw10064573394652225876 := 0
def tw814857895050960438 := 0
def tw1999739509634473601 := 0
def tw8220915714744101755 := 0
def tw11699834776465632705 := 0
def tw17937102348334097379 := 0
def tw9476386999136454687 := 0
def tw2849566643382162981 := 0
def tw1533296254215593219 := 0
def tw4084815787589264036 := 0
def tw2174750910122366069 := 0
def tw12053074255105187835 := 0
def tw12329217950212375403 := 0
def tw11639740393422421981 := 0
def tw12790883914126772782 := 0
def tw381255406817746848 := 0
def tw10464726453748362514 := 0
def tw16505673453113491187 := 0
def tw16107727335847759669 := 0
def tw4783822510881633162 := 0
def tw716517041170697571 := 0
def tw9744650249444224711 := 0
def tw9296804964782537554 := 0
def tw17132915321663252757 := 0
def tw14599857132364674448 := 0
def tw6736673227854499014 := 0
def tw13473096552502907345 := 0
def tw8662452872841951016 := 0
def tw17912477749680904177 := 0
def tw5473955062117323586 := 0
def tw2945240316187522554 := 0
def tw8682260823012028762 := 0
def tw4546255369004791748 := 0
def tw17740800760192709060 := 0
def tw10422670634756034228 := 0
def tw12417360565704361878 := 0
def tw14804087786891711350 := 0
def tw13527553075928615094 := 0
def tw17367113549390971673 := 0
def tw9970008183172183448 := 0
def tw13330950079472291996 := 0
def tw15865909992335957982 := 0
def tw3764019824268786881 := 0
def tw13998851904446714062 := 0
def tw14124216636744401911 := 0
def tw1248181675716245610 := 0
def tw10590996946303169604 := 0
def tw8192254926231809448 := 0
def tw6074972787753896901 := 0
def tw13391275411956786477 := 0
def tw12114582780978354705 := 0
def tw18060312128573353049 := 0
def tw5780104681145817080 := 0
def tw9757286766434267569 := 0
def tw6462832036850683596 := 0
def tw12774992104278111619 := 0
def tw7936478125194036998 := 0
def tw8364869545640836959 := 0
def tw10936996913395906885 := 0
def tw3121812445559659971 := 0
def tw12693880634711264374 := 0
def tw11608461317459539711 := 0
def tw11049757280218258054 := 0
def tw10252442101231302167 := 0
def tw16364451275993604397 := 0
def tw2879631339742441714 := 0
def tw4922940307357275876 := 0
def tw4347137513137400241 := 0
def tw6366555088202291448 := 0
def tw1764990778037761540 := 0
def tw16415249787512613457 := 0
def tw13770018627342067930 := 0
def tw2940582366236775107 := 0
def tw9948935962715508210 := 0
def tw8343913577623311055 := 0
def tw13154809321767037374 := 0
def tw4638915884640475468 := 0
def tw12670426102837379359 := 0
def tw10621813179875357482 := 0
def tw5379052243691883046 := 0
def tw12700927217777658598 := 0
def tw11174679087930841758 := 0
def tw2296365265867943221 := 0
def tw2413947686730243750 := 0
def tw15478634135793476908 := 0
def tw17783015402833350156 := 0
def tw15040786379423304289 := 0
def tw1922792191214306285 := 0
def tw6340509587550641838 := 0
def tw5915978342577045573 := 0
def tw13320619687200546802 := 0
def tw11932143123153420429 := 0
def tw4160316885815346439 := 0
def tw10389850296255062111 := 0
def tw2281499100350826422 := 0
def tw4717746017816306836 := 0
def tw12036961399178617125 := 0
def tw8912388849700357031 := 0
def tw16313616291015368600 := 0
def tw4714252542439720201 := 0
def tw14876308336158587367 := 0
def tw4318771777335450743 := 0
def tw5558080679733316088 := 0
def tw6942178639858089575 := 0
def tw2918487823296587176 := 0
def tw15450124770118237359 := 0
def tw16163305425551391328 := 0
def tw4894254344353705402 := 0
def tw8572020019162376056 := 0
def tw179693350778308537 := 0
def tw8474114879833465377 := 0
def tw34587277812000602 := 0
def tw5616874825493846701 := 0
def tw11024303160393560768 := 0
def tw957465339821020320 := 0
def tw2547919897029377984 := 0
def tw15070567181133290473 := 0
def tw183847614446081348 := 0
def tw10099538093430052571 := 0
def tw8967235041804278230 := 0
def tw7019616920445052361 := 0
def tw155328595545356125 := 0
def tw4395981250924163546 := 0
def tw2181543755748197217 := 0
def tw6805159806918265588 := 0
def tw13134628958689413159 := 0
def tw15388224107235020532 := 0
def tw1467010733621890981 := 0
def tw14477984357341513068 := 0
def tw15091559837619450938 := 0
def tw9510834447592890704 := 0
def tw16730240913684514120 := 0
def tw3336014221507948219 := 0
def tw9046850754673886750 := 0
def tw4869695146905983993 := 0
def tw17981438811793132862 := 0
def tw8775842904645506420 := 0
def tw14101614812522438045 := 0
def tw4417576231550778056 := 0
def tw11704517472626061727 := 0
def tw17462955290660539195 := 0
def tw13541295802816248369 := 0
def tw8567050243943965424 := 0
def tw17334409671801413323 := 0
def tw1535399744227429000 := 0
def tw4511264227390931351 := 0
def tw8993491957398289462 := 0
def tw172995296903514031 := 0
def tw1436314762357714113 := 0
def tw1434362780742174891 := 0
def tw16383253627723947333 := 0
def tw13266189984083444022 := 0
def tw3962430455294672731 := 0
def tw2732207493626363035 := 0
def tw8454624291723826423 := 0
def tw16258528189963095822 := 0
def tw8866938729081756733 := 0
def tw3541649478736390484 := 0
def tw11566187059845125923 := 0
def tw7835004565183453753 := 0
def tw17340975130678595430 := 0
def tw5205426373691945546 := 0
def tw5887771983795319260 := 0
def tw14587239782724873343 := 0
def tw10632942210623733245 := 0
def tw9005373950655438738 := 0
def tw7739032825277998456 := 0
def tw17403116183765647128 := 0
def tw10346709446091454028 := 0
def tw17147879152846683061 := 0
def tw15580014791893203570 := 0
def tw14926817913269894499 := 0
def tw321080884169109204 := 0
def tw16141261187450067871 := 0
def tw15426298663269583049 := 0
def tw4663208010334347750 := 0
def tw10495201935325373446 := 0
def tw11463961378849249220 := 0
def tw8081653630860178449 := 0
def tw12665962614971998743 := 0
def tw7084331084795549608 := 0
def tw5682280372470710699 := 0
def tw13154347848236283046 := 0
def tw967409264597067189 := 0
def tw3258864786654171770 := 0
def tw16143203065991688418 := 0
def tw7869221935817692187 := 0
def tw984769846240731279 := 0
def tw8192022311239946342 := 0
def tw15748880355311573475 := 0
def tw14789903280365770437 := 0
def tw16603317848207882798 := 0
def tw13706290990544560376 := 0
def tw14187300792337625126 := 0
def tw1158674232446398720 := 0
def tw15885872679204535455 := 0
def tw7694256508120229973 := 0
def tw11540809993169220869 := 0
def tw6912314846350930106 := 0
def tw14517030849139525770 := 0
def tw16680268990175529519 := 0
def tw11129128602808510548 := 0
def tw1148733819611944083 := 0
def tw3172952886844029655 := 0
def tw17715816014943067343 := 0
def tw6778057546263478184 := 0
def tw16951119050275216396 := 0
def tw11640454472773219030 := 0
def tw16755480721618050596 := 0
def tw7082362779227843164 := 0
def tw1193232818189247278 := 0
def tw427751344729402241 := 0
def tw1008111885284464372 := 0
def tw10255188237475779728 := 0
def tw10991043266047645598 := 0
def tw16972352702634447978 := 0
def tw4717846427998989388 := 0
def tw12117787267499608269 := 0
def tw2065273265993990038 := 0
def tw1619402583922176467 := 0
def tw10089259857714589215 := 0
def tw5355164812724576730 := 0
def tw7972854552498495762 := 0
def tw7933626086294458209 := 0
def tw10669294154442422865 := 0
def tw3330973707083032726 := 0
def tw6342515510317192330 := 0
def tw17639605344620885966 := 0
def tw13421309647971672691 := 0
def tw3808192866003841115 := 0
def tw3579430703721167063 := 0
def tw2356122891533504815 := 0
def tw9918762048368961381 := 0
def tw11777499486121169572 := 0
def tw17906696342042303301 := 0
def tw11538353412425694921 := 0
def tw17265419075816570339 := 0
def tw7363299595118813033 := 0
def tw9761212232885752452 := 0
def tw16332821163139924937 := 0
def tw12789240379921445758 := 0
def tw5900744277364358580 := 0
def tw12192800879705177160 := 0
def tw10129708624124610005 := 0
def tw17221693513823935584 := 0
def tw18404249805821167286 := 0
def tw14798892314767993625 := 0
def tw932688896193857221 := 0
def tw6072127806506504188 := 0
def tw5669209093147941514 := 0
def tw6385521176168790404 := 0
def tw5490620997097680365 := 0
def tw1625251797889197865 := 0
def tw1371551384001889565 := 0
def tw8096275191077485395 := 0
def tw7067386108876555425 := 0
def tw15836540565912273218 := 0
def tw15457262744854158435 := 0
def tw18365534562408984511 := 0
def tw2755717679524438639 := 0
def tw2604928234663475383 := 0
def tw11271332779665010004 := 0
def tw5134280591323450969 := 0
def tw16439341009004507713 := 0
def tw6286799980716287965 := 0
def tw15179098383199594778 := 0
def tw23574662414211188 := 0
def tw6027308111273849349 := 0
def tw14559879314832638564 := 0
def tw17421105329930021815 := 0
def tw16922711731962558040 := 0
def tw9381867274299339772 := 0
def tw5519588968909292685 := 0
def tw14055259692565873086 := 0
def tw5279330439804768233 := 0
def tw14233647639762107697 := 0
def tw14654033653868883406 := 0
def tw12439709898077972184 := 0
def tw6647205905322360057 := 0
def tw17766144814435697145 := 0
def tw370391969571440605 := 0
def tw8135151656702944669 := 0
def tw9697482714147302144 := 0
def tw8547831569247075614 := 0
def tw17656238820638825157 := 0
def tw15649544712286881273 := 0
def tw1006713477841811545 := 0
def tw15484197050584795814 := 0
def tw12894728986651430271 := 0
def tw4214554861075851220 := 0
def tw13615008113788376169 := 0
def tw4381053190030158139 := 0
def tw13197260101546084272 := 0
def tw8435180311001646494 := 0
def tw11854310356171771449 := 0
def tw14326458469984316549 := 0
def tw14608957370767603012 := 0
def tw2217755021534026464 := 0
def tw11933224726651444509 := 0
def tw13810747321689405403 := 0
def tw11678212609312687210 := 0
def tw11080539622549337473 := 0
def tw8891850257501250803 := 0
def tw1175638817330564556 := 0
def tw13164330264670954357 := 0
def tw8479783513354309291 := 0
def tw2495845216810492803 := 0
def tw5515240559349176097 := 0
def tw9057082654558925489 := 0
def tw15965836117542511566 := 0
def tw1924867267825038579 := 0
def tw16721837398036274439 := 0
def tw3129742859382772039 := 0
def tw7028025888323828254 := 0
def tw7977392413144700825 := 0
def tw11870273973578090917 := 0
def tw12494235401678830262 := 0
def tw5862697144751834079 := 0
def tw14881744430479246914 := 0
def tw16889987550079684631 := 0
def tw7079763480329903213 := 0
def tw5821459309956648498 := 0
def tw8284370494673738809 := 0
def tw5517483452768991131 := 0
def tw12997338992193716142 := 0
def tw17053973623567474215 := 0
def tw2259536899475144863 := 0
def tw18040282985798225510 := 0
def tw7384796288982619458 := 0
def tw9953925671119278234 := 0
def tw15018184862105493209 := 0
def tw7646498165594610050 := 0
def tw6773690224216328274 := 0
def tw12781488135648534286 := 0
def tw12710084327201407679 := 0
def tw17713458796507635268 := 0
def tw14771140136448624881 := 0
def tw13078701015485952638 := 0
def tw3122914352136177624 := 0
def tw14739861718418717399 := 0
def tw11902583019924531916 := 0
def tw15456360121989488636 := 0
def tw11774009077464936176 := 0
def tw18046277919860698873 := 0
def tw6681082977127438356 := 0
def tw14351511085695183102 := 0
def tw5068701939525281440 := 0
def tw239978272879902474 := 0
def tw17476362469229258631 := 0
def tw14493228350669894984 := 0
def tw5767947965184951512 := 0
def tw14641225418106886267 := 0
def tw9549853340324861986 := 0
def tw647181854728140101 := 0
def tw15066935997553266340 := 0
def tw15857752030257364661 := 0
def tw9147235384081388701 := 0
def tw7426159739104904415 := 0
def tw15772796899136444185 := 0
def tw1935557960200674036 := 0
def tw16726386541306623967 := 0
def tw9647422955950985898 := 0
def tw11645331731819070497 := 0
def tw2009186414035883646 := 0
def tw7462292904156874180 := 0
def tw10962799480312296715 := 0
def tw557285957613676819 := 0
def tw4039561524802796476 := 0
def tw412441986017868411 := 0
def tw18127862076215628849 := 0
def tw15177186898061310960 := 0
def tw823711811106534791 := 0
def tw4713349477414305944 := 0
def tw3075295249205753320 := 0
def tw10554057609672281838 := 0
def tw13547318346039022809 := 0
def tw3301391069768025972 := 0
def tw1023570589375724081 := 0
def tw15200841589751868921 := 0
def tw12211649356061698631 := 0
def tw13230847570293933999 := 0
def tw11040225083683068228 := 0
def tw8142976402888332799 := 0
def tw14413750721221485711 := 0
def tw14793103886865768406 := 0
def tw10690518077279655212 := 0
def tw9046824046866392814 := 0
def tw18298180584596546782 := 0
def tw15005830786167817992 := 0
def tw10887737874099561657 := 0
def tw4641863044737250314 := 0
def tw16381087503600299904 := 0
def tw5295772645737911200 := 0
def tw10966252314921799232 := 0
def tw153302818739831794 := 0
def tw6196092566701749949 := 0
def tw3617680651413731043 := 0
def tw3565846419222696232 := 0
def tw10672017016159858294 := 0
def tw8249710179475505723 := 0
def tw10492211560331147736 := 0
def tw6246963262332705421 := 0
def tw9597262104736567901 := 0
def tw1190087728602992760 := 0
def tw13563200636231962409 := 0
def tw11981165276115117668 := 0
def tw5929115302475038809 := 0
def tw4565539588082549713 := 0
def tw3268796037879569576 := 0
def tw4313247458916849011 := 0
def tw4852494370940812188 := 0
def tw6125574534737044909 := 0
def tw12861803979696770977 := 0
end PySem.W.Fast
set_option Elab.async false
set_option linter.all false
set_option maxRecDepth 100000
namespace L2
open PySem PySem.Spec PyProof.Rows
abbrev Key := Sum Int Str
def keyIs : Key -> Value -> Bool
  | .inl k, v => Value.isInt k v
  | .inr x, v => Value.isStrOf x v
def keyH (w : World) : Key -> Int
  | .inl k => hashInt k
  | .inr x => hashStr w x
theorem keyIs_shape : ∀ {k : Key} {v : Value}, keyIs k v = true -> (∃ i t, k = Sum.inl i /\ v = Value.int i t) \/ (∃ x t, k = Sum.inr x /\ v = Value.str x t)
  | .inl i, v, h => by
    obtain ⟨t, e⟩ := Value.isInt_shape (k := i) (v := v) h
    exact .inl ⟨i, t, rfl, e⟩
  | .inr x, v, h => by
    obtain ⟨t, e⟩ := Value.isStrOf_shape (x := x) (v := v) h
    exact .inr ⟨x, t, rfl, e⟩
theorem keyIs_int (i : Int) (t : Tok) : keyIs (.inl i) (.int i t) = true := by simp [keyIs, Value.isInt]
theorem keyIs_str (x : Str) (t : Tok) : keyIs (.inr x) (.str x t) = true := by simp [keyIs, Value.isStrOf]
theorem key_ll (a b : Int) : decide ((Sum.inl a : Key) = Sum.inl b) = (a == b) := by
  by_cases e : a = b
  · subst e; simp
  · have h : ¬ (Sum.inl a : Key) = Sum.inl b := fun q => e (Sum.inl.inj q)
    rw [decide_eq_false h]
    exact (beq_eq_false_iff_ne.mpr e).symm
theorem key_rr (a b : Str) : decide ((Sum.inr a : Key) = Sum.inr b) = decide (a = b) := by
  by_cases e : a = b
  · subst e; simp
  · have h : ¬ (Sum.inr a : Key) = Sum.inr b := fun q => e (Sum.inr.inj q)
    rw [decide_eq_false h, decide_eq_false e]
theorem key_lr (a : Int) (b : Str) : decide ((Sum.inl a : Key) = Sum.inr b) = false := decide_eq_false (fun q => nomatch q)
theorem key_rl (a : Str) (b : Int) : decide ((Sum.inr a : Key) = Sum.inl b) = false := decide_eq_false (fun q => nomatch q)
def mixKind (prog : Program) (w : World) : PySem.KeyKind prog w Key where
  is := keyIs
  hash := keyH w
  inj := fun v a b ha hb => by
    rcases keyIs_shape ha with ⟨i, t, rfl, rfl⟩ | ⟨x, t, rfl, rfl⟩
    · rcases keyIs_shape hb with ⟨j, u, rfl, e⟩ | ⟨y, u, rfl, e⟩
      · injection e with e1 _; rw [e1]
      · exact nomatch e
    · rcases keyIs_shape hb with ⟨j, u, rfl, e⟩ | ⟨y, u, rfl, e⟩
      · exact nomatch e
      · injection e with e1 _; rw [e1]
  byValue := fun k v h => by
    rcases keyIs_shape h with ⟨i, t, rfl, rfl⟩ | ⟨x, t, rfl, rfl⟩ <;> rfl
  pyHash := fun hv h => by
    rcases keyIs_shape hv with ⟨i, t, rfl, rfl⟩ | ⟨x, t, rfl, rfl⟩
    · exact wpAny_pyHash_int h
    · exact wpAny_pyHash_str h
  eqBool := fun hu hv h => by
    rcases keyIs_shape hu with ⟨i, t, rfl, rfl⟩ | ⟨x, t, rfl, rfl⟩
    · rcases keyIs_shape hv with ⟨j, u, rfl, rfl⟩ | ⟨y, u, rfl, rfl⟩
      · rw [key_ll] at h; exact wpAny_eqBool_int h
      · rw [key_lr] at h; exact SeqAt.EqAt.int_str i t y u _ _ _ _ h
    · rcases keyIs_shape hv with ⟨j, u, rfl, rfl⟩ | ⟨y, u, rfl, rfl⟩
      · rw [key_rl] at h; exact SeqAt.EqAt.str_int x t j u _ _ _ _ h
      · rw [key_rr] at h; exact wpAny_eqBool_str h
  «strs» := fun k x t v h => by
    rcases keyIs_shape h with ⟨i, u, rfl, e⟩ | ⟨y, u, rfl, e⟩
    · exact nomatch e
    · injection e with e1 _
      subst e1
      cases v <;> rfl
theorem mixKind_int (prog : Program) (w : World) (i : Int) (t : Tok) : (mixKind prog w).is (.inl i) (.int i t) = true := keyIs_int i t
theorem mixKind_str (prog : Program) (w : World) (x : Str) (t : Tok) : (mixKind prog w).is (.inr x) (.str x t) = true := keyIs_str x t
end L2
namespace L2
open PySem PySem.Spec PyProof.Rows
inductive V where
  | non | bl (b : Bool) | int (i : Int) | str (x : Str) | byt (b : Array UInt8) | flt (b : UInt64) | ref (a : Addr) | ty (n : String)
  deriving DecidableEq
def RelV : V -> Value -> Prop
  | .non, u => u = Value.none
  | .bl b, u => u = Value.bool b
  | .int i, u => ∃ t, u = Value.int i t
  | .str x, u => ∃ t, u = Value.str x t
  | .byt b, u => ∃ t, u = Value.bytes b t
  | .flt b, u => ∃ t, u = Value.float b t
  | .ref a, u => u = Value.ref a
  | .ty n, u => u = Value.type n
abbrev Vals : List V -> List Value -> Prop := Paired RelV
theorem Vals.length {xs : List V} {us : List Value} (r : Vals xs us) : xs.length = us.length := Paired.length r
theorem Vals.get : ∀ {xs : List V} {us : List Value} {i : Nat} {x : V}, Vals xs us -> xs[i]? = some x -> ∃ u, us[i]? = some u /\ RelV x u
  | _, _, _, _, .nil, e => by simp at e
  | _, _, 0, _, .cons r _, e => by simp at e; subst e; exact ⟨_, rfl, r⟩
  | _, _, i + 1, x, .cons _ t, e => by
    obtain ⟨u, h1, h2⟩ := Vals.get (i := i) (x := x) t (by simpa using e)
    exact ⟨u, by simpa using h1, h2⟩
theorem Vals.set {x : V} {u : Value} (r : RelV x u) : ∀ {xs : List V} {us : List Value} (i : Nat), Vals xs us -> Vals (xs.set i x) (us.set i u)
  | _, _, _, .nil => .nil
  | _, _, 0, .cons _ t => .cons r t
  | _, _, i + 1, .cons q t => .cons q (Vals.set r i t)
theorem Vals.append : ∀ {xs ys : List V} {us ws : List Value}, Vals xs us -> Vals ys ws -> Vals (xs ++ ys) (us ++ ws)
  | _, _, _, _, .nil, s => s
  | _, _, _, _, .cons r t, s => .cons r (Vals.append t s)
theorem Vals.take : ∀ {xs : List V} {us : List Value} (n : Nat), Vals xs us -> Vals (xs.take n) (us.take n)
  | _, _, 0, _ => .nil
  | _, _, _ + 1, .nil => .nil
  | _, _, n + 1, .cons r t => .cons r (Vals.take n t)
theorem Vals.drop : ∀ {xs : List V} {us : List Value} (n : Nat), Vals xs us -> Vals (xs.drop n) (us.drop n)
  | _, _, 0, r => r
  | _, _, _ + 1, .nil => .nil
  | _, _, n + 1, .cons _ t => Vals.drop n t
def RelO : Option V -> Option Value -> Prop
  | some v, some u => RelV v u
  | none, none => True
  | _, _ => False
def KV {κ : Type} : List (κ × V) -> List (κ × Value) -> Prop := Paired fun (p : κ × V) (q : κ × Value) => p.1 = q.1 /\ RelV p.2 q.2
def kV : Key -> V
  | .inl i => .int i
  | .inr x => .str x
inductive HO where
  /-- a list -/
  | lst (xs : List V)
  /-- a tuple (never changes) -/
  | tup (xs : List V)
  /-- a dict whose keys are ints and texts; one whose keys are tuples of ints and texts (the empty one is both) -/
  | dK (kvs : List (Key × V)) | dT (kvs : List (List Key × V))
  /-- a set of ints: its members, its size -/
  | set (S : Int -> Bool) (n : Nat)
  /-- an instance of the class at C, its dict at dx, its attributes -/
  | ins (C dx : Addr) (fs : List (Str × V))
  /-- the dict of the instance at x -/
  | own (x : Addr)
  /-- the dict of an exception -/
  | xd (fs : List (Str × V))
  /-- a bound method, f of x -/
  | met (f x : Addr)
  /-- a range object lo, lo + 1, .. below hi -/
  | rng (lo hi : Int)
  /-- a thing that is known to the object (the script; a dict while a loop walks it): read, never written while it is so -/
  | frz (o : Obj) (u : HO)
  /-- a code object's table -/
  | tbl (ps : Array Value)
  /-- any other thing, by what is true of its one object (a def of one's own: SetO a S n := HO.ext fun h => ..) -/
  | ext (φ : Heap -> Prop)
abbrev Hp := Addr -> Option HO
def upd (H : Hp) (a : Addr) (o : HO) : Hp := fun b => if b = a then some o else H b
theorem upd_same {H : Hp} {a : Addr} {o : HO} : upd H a o a = some o := by unfold upd; rw [if_pos rfl]
theorem upd_ne {H : Hp} {a b : Addr} {o : HO} (h : b ≠ a) : upd H a o b = H b := by unfold upd; rw [if_neg h]
theorem upd_upd {H : Hp} {a : Addr} {o u : HO} : upd (upd H a o) a u = upd H a u := by
  funext b; unfold upd; split <;> rfl
theorem ne_of {H : Hp} {a b : Addr} {o u : HO} (h : H a = some o) (h' : H b = some u) (d : o ≠ u) : a ≠ b := by
  intro e; subst e; rw [h] at h'; exact d (Option.some.inj h')
theorem ne_of_none {H : Hp} {a b : Addr} {o : HO} (h : H a = some o) (h' : H b = none) : a ≠ b := by
  intro e; subst e; rw [h] at h'; cases h'
section
variable (P : Program) (w : World)
def ObjOk (H : Hp) (h : Heap) (a : Addr) : HO -> Prop
  | .lst xs => xs.length <= sizeLine /\ ∃ (its : List Value) (n : Nat), Vals xs its /\ h.get? a = some { cls := .type "list", data := .seq its.toArray n }
  | .tup xs => xs.length <= sizeLine /\ ∃ its : List Value, Vals xs its /\ IsTup h a its.toArray
  | .dK kvs => kvs.length <= sizeLine /\ (a == sysModules) = false /\ ∃ vs, KV kvs vs /\ h.DictOf (mixKind P w) a vs
  | .dT kvs => kvs.length <= sizeLine /\ (a == sysModules) = false /\ ∃ xs : List (List Key × Addr × Value),
      Paired (fun (p : List Key × V) (q : List Key × Addr × Value) => p.1 = q.1 /\ H q.2.1 = some (.tup (p.1.map kV)) /\ RelV p.2 q.2.2) kvs xs /\
      ∃ o es ep, h.get? a = some o /\ o.ExactDict /\ o.data = .dict es ep /\ es.toList = xs.map (entryOfKey (tupleKind (mixKind P w))) /\ (xs.map (·.1)).Nodup
  | .set S n => h.SetOf (intKind P w) a S n
  | .ins C dx fs => H dx = some (.own a) /\ fs.length <= 1000 /\ dx ≠ a /\ h.get? a = some (PySem.W.instObj C dx) /\
      ∃ mA, h.Ns1 dx mA /\ (∀ f, RelO (fs.lookup f) (mA f)) /\ PySem.Within mA (fs.map (·.1))
  | .own _ => ∃ o, h.get? a = some o
  | .xd fs => ∃ mA, h.Ns1 a mA /\ ∀ f, RelO (fs.lookup f) (mA f)
  | .rng lo hi => ∃ t u v, h.get? a = some { cls := .type "range", data := .fields #[.int lo t, .int hi u, .int 1 v] }
  | .frz o u => h.get? a = some o /\ ObjOk H h a u
  | .tbl ps => h.get? a = some { cls := .none, data := .fields ps }
  | .met f x => h.get? a = some (PySem.W.methodObj (.ref f) (.ref x))
  | .ext φ => φ h /\ (∃ o, h.get? a = some o) /\ ∀ h1 h2 : Heap, φ h1 -> (∀ o, h1.get? a = some o -> h2.get? a = some o) -> φ h2
def HOk (H : Hp) (h : Heap) : Prop := ∀ a o, H a = some o -> ObjOk P w H h a o
end
section
variable {P : Program} {w : World} {H H' : Hp} {h h' : Heap} {a : Addr} {o : HO}
theorem ObjOk.lt (x : ObjOk P w H h a o) : a < h.objs.size := by
  cases o with
  | lst xs => obtain ⟨_, _, _, _, e⟩ := x; exact Heap.lt_size e
  | tup xs => obtain ⟨_, _, _, p⟩ := x; exact p.lt
  | dK kvs => obtain ⟨_, _, _, _, o, _, _, e, _⟩ := x; exact Heap.lt_size e
  | dT kvs => obtain ⟨_, _, _, _, o, _, _, e, _⟩ := x; exact Heap.lt_size e
  | set S n => obtain ⟨o, _, _, _, e, _⟩ := x; exact Heap.lt_size e
  | ins C dx fs => obtain ⟨_, _, _, e, _⟩ := x; exact Heap.lt_size e
  | own y => obtain ⟨_, e⟩ := x; exact Heap.lt_size e
  | xd fs => obtain ⟨_, ⟨_, _, _, e, _⟩, _⟩ := x; exact Heap.lt_size e
  | rng lo hi => obtain ⟨_, _, _, e⟩ := x; exact Heap.lt_size e
  | frz ob u => obtain ⟨e, _⟩ := x; exact Heap.lt_size e
  | tbl ps => exact Heap.lt_size (show h.get? a = some _ from x)
  | met f y => exact Heap.lt_size (show h.get? a = some _ from x)
  | ext φ => obtain ⟨_, ⟨_, e⟩, _⟩ := x; exact Heap.lt_size e
theorem Paired.mapP {α β : Type} {F G : α -> β -> Prop} : ∀ {l₁ : List α} {l₂ : List β}, Paired F l₁ l₂ -> (∀ a b, F a b -> G a b) -> Paired G l₁ l₂
  | _, _, .nil, _ => .nil
  | _, _, .cons r t, f => .cons (f _ _ r) (Paired.mapP t f)
theorem ObjOk.stay (x : ObjOk P w H h a o) (k : ∀ b u, (b = a \/ H b = some (.own a)) -> h.get? b = some u -> h'.get? b = some u)
    (ho : ∀ b, H b = some (.own a) -> H' b = some (.own a)) (ht : ∀ b xs, H b = some (.tup xs) -> H' b = some (.tup xs)) : ObjOk P w H' h' a o := by
  induction o with
  | lst xs => obtain ⟨z, its, n, r, e⟩ := x; exact ⟨z, its, n, r, k _ _ (.inl rfl) e⟩
  | tup xs => obtain ⟨z, its, r, ob, e, c⟩ := x; exact ⟨z, its, r, ob, k _ _ (.inl rfl) e, c⟩
  | dK kvs => obtain ⟨z, y, vs, r, ob, es, ep, e, c⟩ := x; exact ⟨z, y, vs, r, ob, es, ep, k _ _ (.inl rfl) e, c⟩
  | dT kvs =>
    obtain ⟨z, y, xs, r, ob, es, ep, e, c⟩ := x
    exact ⟨z, y, xs, Paired.mapP r fun p q z => ⟨z.1, ht _ _ z.2.1, z.2.2⟩, ob, es, ep, k _ _ (.inl rfl) e, c⟩
  | set S n => obtain ⟨ob, es, ep, t, e, c⟩ := x; exact ⟨ob, es, ep, t, k _ _ (.inl rfl) e, c⟩
  | ins C dx fs =>
    obtain ⟨d, z, ne, e, mA, ⟨od, es, ep, e2, c⟩, r⟩ := x
    exact ⟨ho _ d, z, ne, k _ _ (.inl rfl) e, mA, ⟨od, es, ep, k _ _ (.inr d) e2, c⟩, r⟩
  | own y => obtain ⟨ob, e⟩ := x; exact ⟨ob, k _ _ (.inl rfl) e⟩
  | xd fs => obtain ⟨mA, ⟨od, es, ep, e, c⟩, r⟩ := x; exact ⟨mA, ⟨od, es, ep, k _ _ (.inl rfl) e, c⟩, r⟩
  | rng lo hi => obtain ⟨t, u, v, e⟩ := x; exact ⟨t, u, v, k _ _ (.inl rfl) e⟩
  | frz ob u ih => obtain ⟨e, q⟩ := x; exact ⟨k _ _ (.inl rfl) e, ih q⟩
  | tbl ps =>
    have e : h.get? a = some { cls := .none, data := .fields ps } := x
    show h'.get? a = some { cls := .none, data := .fields ps }
    exact k a _ (.inl rfl) e
  | met f y =>
    have e : h.get? a = some (PySem.W.methodObj (.ref f) (.ref y)) := x
    show h'.get? a = some (PySem.W.methodObj (.ref f) (.ref y))
    exact k a _ (.inl rfl) e
  | ext φ => obtain ⟨p, ⟨o, e⟩, st⟩ := x; exact ⟨st _ _ p fun o q => k _ _ (.inl rfl) q, ⟨o, k _ _ (.inl rfl) e⟩, st⟩
theorem HOk.lt (x : HOk P w H h) (e : H a = some o) : a < h.objs.size := (x a o e).lt
theorem HOk.fresh (x : HOk P w H h) (e : h.objs.size <= a) : H a = none := by
  cases q : H a with
  | none => rfl
  | some u => exact absurd (Nat.lt_of_lt_of_le (x.lt q) e) (Nat.lt_irrefl _)
theorem HOk.kept (x : HOk P w H h) (k : ∀ b u, h.get? b = some u -> h'.get? b = some u) : HOk P w H h' := fun a o e =>
  (x a o e).stay (fun b u _ q => k b u q) (fun _ q => q) fun _ _ q => q
theorem HOk.laid (x : HOk P w H h) (k : ∀ b u, h.get? b = some u -> h'.get? b = some u) (hp : h.objs.size <= a) (new : ObjOk P w (upd H a o) h' a o) : HOk P w (upd H a o) h' := fun b u e => by
  have hn := x.fresh hp
  by_cases hb : b = a
  · subst hb; rw [upd_same] at e; cases e; exact new
  · rw [upd_ne hb] at e
    exact (x b u e).stay (fun c v _ q => k c v q) (fun c q => by rw [upd_ne (ne_of_none q hn)]; exact q) fun c xs q => by rw [upd_ne (ne_of_none q hn)]; exact q
end
def Rd (H : Hp) (a : Addr) (u : HO) : Prop := H a = some u \/ ∃ o, H a = some (.frz o u)
theorem Rd.ok {P : Program} {w : World} {H : Hp} {h : Heap} {a : Addr} {u : HO} (r : Rd H a u) (x : HOk P w H h) : ObjOk P w H h a u := by
  rcases r with r | ⟨o, r⟩
  · exact x a u r
  · obtain ⟨_, q⟩ := x a _ r
    exact q
def Mut : Option HO -> Prop
  | some (.lst _) => True
  | some (.dK _) => True
  | some (.dT _) => True
  | some (.set _ _) => True
  | some (.ins _ _ _) => True
  | some (.ext _) => True
  | _ => False
section
variable {P : Program} {w : World} {H : Hp} {h h' : Heap} {x e : Addr} {o' : HO}
theorem HOk.write (ok : HOk P w H h) (mu : Mut (H x)) (he : e = x \/ H e = some (.own x)) (k : ∀ b u, b ≠ e -> h.get? b = some u -> h'.get? b = some u) (heo : ∃ u, h'.get? e = some u)
    (new : ObjOk P w (upd H x o') h' x o') : HOk P w (upd H x o') h' := fun b u q => by
  have nown : ∀ c y, H c = some (.own y) -> c ≠ x := fun c y r z => by subst z; rw [r] at mu; exact mu
  have ntup : ∀ c xs, H c = some (.tup xs) -> c ≠ x := fun c xs r z => by subst z; rw [r] at mu; exact mu
  by_cases hb : b = x
  · subst hb; rw [upd_same] at q; cases q; exact new
  · rw [upd_ne hb] at q
    by_cases hbe : b = e
    · have q' : H b = some (.own x) := by
        rcases he with z | z
        · exact absurd (hbe.trans z) hb
        · rw [hbe]; exact z
      rw [q] at q'; cases q'
      obtain ⟨v, hv⟩ := heo
      exact ⟨v, by rw [hbe]; exact hv⟩
    · refine (ok b u q).stay (fun c v hc r => k c v ?_ r) (fun c r => by rw [upd_ne (nown c b r)]; exact r) fun c xs r => by rw [upd_ne (ntup c xs r)]; exact r
      rcases hc with rfl | hc
      · exact hbe
      · rintro rfl
        rcases he with z | z
        · exact nown c b hc z
        · rw [hc] at z; cases z; exact hb rfl
end
structure Un (fs ex : List Addr) (H H' : Hp) (h h' : Heap) : Prop where
  keep : ∀ b o, h.get? b = some o -> H b = none -> b ∉ fs -> b ∉ ex -> h'.get? b = some o
  slot : ∀ b o, h.get? b = some o -> H b = none -> b ∈ fs -> b ∉ ex -> ∃ sl, h'.get? b = some { o with slots := sl }
  free : ∀ b o, h.get? b = some o -> H b = none -> b ∉ ex -> H' b = none
  there : ∀ b o, h.get? b = some o -> b ∉ ex -> ∃ o', h'.get? b = some o'
  tups : ∀ b xs, H b = some (.tup xs) -> H' b = some (.tup xs)
  frzs : ∀ b o u, H b = some (.frz o u) -> H' b = some (.frz o u)
  tbls : ∀ b ps, H b = some (.tbl ps) -> ∃ more, H' b = some (.tbl (ps ++ more))
section
variable {fs fs' ex ex' : List Addr} {H H1 H2 : Hp} {h h1 h2 h' : Heap} {a x e : Addr} {o : HO}
theorem Un.any (u : Un fs ex H H1 h h1) {b : Addr} {ob : Obj} (q : h.get? b = some ob) (n : H b = none) (hx : b ∉ ex) : ∃ sl, h1.get? b = some { ob with slots := sl } := by
  by_cases hb : b ∈ fs
  · exact u.slot b ob q n hb hx
  · exact ⟨ob.slots, u.keep b ob q n hb hx⟩
theorem Un.kept (k : ∀ b u, h.get? b = some u -> h'.get? b = some u) : Un fs ex H H h h' :=
  ⟨fun b ob q _ _ _ => k b ob q, fun b ob q _ _ _ => ⟨ob.slots, k b ob q⟩, fun _ _ _ n _ => n, fun b ob q _ => ⟨ob, k b ob q⟩, fun _ _ q => q, fun _ _ _ q => q, fun _ ps q => ⟨#[], by rw [q]; simp⟩⟩
theorem Un.refl : Un fs ex H H h h := Un.kept fun _ _ q => q
theorem Un.laid (k : ∀ b u, h.get? b = some u -> h'.get? b = some u) (hp : h.objs.size <= a) (hn : H a = none) : Un fs ex H (upd H a o) h h' where
  keep := fun b u q _ _ _ => k b u q
  slot := fun b u q _ _ _ => ⟨u.slots, k b u q⟩
  free := fun b u q n _ => by rw [upd_ne (Nat.ne_of_lt (Nat.lt_of_lt_of_le (Heap.lt_size q) hp))]; exact n
  there := fun b u q _ => ⟨u, k b u q⟩
  tups := fun b xs q => by rw [upd_ne (ne_of_none q hn)]; exact q
  frzs := fun b u xs q => by rw [upd_ne (ne_of_none q hn)]; exact q
  tbls := fun b ps q => ⟨#[], by rw [upd_ne (ne_of_none q hn), q]; simp⟩
theorem Un.write (mu : Mut (H x)) (he : e = x \/ H e = some (.own x)) (k : ∀ b u, b ≠ e -> h.get? b = some u -> h'.get? b = some u) (heo : ∃ u, h'.get? e = some u) : Un fs ex H (upd H x o) h h' := by
  have hx : ∀ b, H b = none -> b ≠ x := fun b n z => by subst z; rw [n] at mu; exact mu
  have hb : ∀ b, H b = none -> b ≠ e := fun b n z => by
    subst z
    rcases he with r | r
    · exact hx b n r
    · rw [n] at r; cases r
  have hm : ∀ b u, H b = some u -> ¬ Mut (some u) -> b ≠ x := fun b u q nm z => by subst z; rw [q] at mu; exact nm mu
  refine ⟨fun b u q n _ _ => k b u (hb b n) q, fun b u q n _ _ => ⟨u.slots, k b u (hb b n) q⟩, fun b u q n _ => by rw [upd_ne (hx b n)]; exact n, fun b u q _ => ?_,
    fun b xs q => by rw [upd_ne (hm b _ q fun z => z)]; exact q, fun b u xs q => by rw [upd_ne (hm b _ q fun z => z)]; exact q, fun b ps q => ⟨#[], by rw [upd_ne (hm b _ q fun z => z), q]; simp⟩⟩
  by_cases hbe : b = e
  · subst hbe; exact heo
  · exact ⟨u, k b u hbe q⟩
end
def trk (h : Heap) (H : Hp) : List Addr := (List.range h.objs.size).filter fun a => (H a).isSome
def hidT (h : Heap) (H : Hp) : Heap := PySem.W.hideAll h (trk h H)
theorem hidT_size (h : Heap) (H : Hp) : (hidT h H).objs.size = h.objs.size := PySem.W.hideAll_size _ _
theorem hidT_get {h : Heap} {H : Hp} {b : Addr} {o : Obj} (e : h.get? b = some o) (n : H b = none) : (hidT h H).get? b = some o :=
  PySem.W.hideAll_get _ e fun hm => by
    have q : (H b).isSome = true := (List.mem_filter.mp hm).2
    rw [n] at q; simp at q
theorem of_hidT {h : Heap} {H : Hp} {b : Addr} {o : Obj} (e : (hidT h H).get? b = some o) : h.get? b = some o /\ H b = none := by
  have e' : h.get? b = some o := PySem.W.of_hideAll (trk h H) e
  refine ⟨e', ?_⟩
  cases q : H b with
  | none => rfl
  | some x =>
    have hm : b ∈ trk h H := List.mem_filter.mpr ⟨List.mem_range.mpr (Heap.lt_size e'), by simp [q]⟩
    have z : (hidT h H).get? b = none := PySem.W.hideAll_none (trk h H) hm
    rw [z] at e; cases e
def allNews (g h : Heap) (L : Addr) : List (Addr × Obj) := (List.range h.objs.size).filterMap fun a => if a = L \/ (g.get? a).isSome = true then none else (h.get? a).map fun o => (a, o)
def rest (g h : Heap) (L d : Addr) : List (Addr × Obj) := (allNews g h L).filter fun p => decide (p.1 ≠ d)
end L2
namespace L2
open PySem PySem.Spec PyProof.Rows
structure Mod (K : PySem.W.Frag) (mg : Str -> Option Value) (base : Heap) : Prop where
  kin : K.In base
  glob : base.Ns mainGlobals mg
  blt : ∃ mb, base.Ns builtinsNs mb /\ ∀ x : Str, x ≠ "__name__" -> mb x = bootBuiltins x
  nolimit : base.NoLimit
structure Cx where
  prog : Program
  w : World
  K : PySem.W.Frag
  mg : Str -> Option Value
  base : Heap
  A : Around
  N : List Str
  s₀ : Shared
  H₀ : Hp
  env : Env
  outer : List Env
  stack : List Env
  ex : List Addr
  fn : Str -> Bool
  calm : Bool
  pn : List (Addr × Obj)
  xe : Value -> Shared -> Prop
def frs (l : List Env) : List Addr := l.filterMap (·.frame)
abbrev Cx.fs (X : Cx) : List Addr := frs X.outer
def Vis (sc : Scope) (x : Str) : Prop := sc.names.lookup x = some .local \/ sc.names.lookup x = some .cell \/ sc.names.lookup x = some .free
def Loc (sc : Scope) (x : Str) : Prop := sc.names.lookup x = some .local \/ sc.names.lookup x = some .cell
def Look (env : Env) (h : Heap) (m : Str -> Option Value) (x : Str) (u : Value) : Prop :=
  (env.kindOf x = some .local /\ m x = some u) \/ ((env.kindOf x = some .cell \/ env.kindOf x = some .free) /\ ∃ c, env.cells.lookup x = some c /\ h.IsCell c (some u))
structure Cx.Ok (X : Cx) : Prop where
  mod : Mod X.K X.mg X.base
  kind : X.env.scope.kind = .function
  glob : X.env.globals = mainGlobals
  blt : X.env.builtins = builtinsNs
  above : X.s₀.heap.objs.size <= X.env.locals
  inj : ∀ x y c, X.env.cells.lookup x = some c -> X.env.cells.lookup y = some c -> x = y
  has : ∀ x, (X.env.kindOf x = some .cell \/ X.env.kindOf x = some .free) -> ∃ c, X.env.cells.lookup x = some c
  cab : ∀ x c, X.fn x = true -> X.env.cells.lookup x = some c -> X.s₀.heap.objs.size <= c
  hd : X.calm = true -> X.A.handled = none
  frames : X.A.frames = some X.stack
  stk : X.stack = X.outer \/ (X.stack = X.env :: X.outer /\ X.env.frame = some X.env.locals)
  exf : ∀ b ∈ X.ex, b ≠ X.env.locals /\ ∀ x c, X.env.cells.lookup x = some c -> c ≠ b
  bs : ∀ b o, X.base.get? b = some o -> X.s₀.heap.get? b = some o /\ X.H₀ b = none
  bsz : X.base.objs.size <= X.s₀.heap.objs.size
  noex : ∀ b o, X.base.get? b = some o -> b ∉ X.ex
  exfs : ∀ b ∈ X.ex, b ∉ X.fs
  funs : X.s₀.heap.FunFrames X.base X.outer
  frf : ∀ b ∈ X.fs, X.H₀ b = none
structure Inv (X : Cx) (pins : List (Addr × Obj)) (σ : List (Option V)) (H : Hp) (s : Shared) : Prop where
  ok : X.Ok
  os : s.os = X.s₀.os
  bare : AllBare s.gens
  base : Un X.fs X.ex X.H₀ H X.s₀.heap s.heap
  loc : ∃ m, s.heap.Ns X.env.locals m /\ ∀ (i : Nat) (x : Str) (v : V), X.N[i]? = some x -> σ[i]? = some (some v) -> Vis X.env.scope x -> ∃ u, RelV v u /\ Look X.env s.heap m x u
  cell : ∀ x c, X.env.cells.lookup x = some c -> ∃ v, s.heap.IsCell c v
  free : H X.env.locals = none
  freeC : ∀ x c, X.env.cells.lookup x = some c -> H c = none
  pin : ∀ p ∈ X.pn ++ pins, s.heap.get? p.1 = some p.2 /\ H p.1 = none /\ p.1 ≠ X.env.locals /\ p.1 ∉ X.fs /\ ∀ v, p.2.data ≠ .cell v
  hok : HOk X.prog X.w H s.heap
  len : σ.length = X.N.length
section
variable {X : Cx} {pins : List (Addr × Obj)} {σ : List (Option V)} {H H' : Hp} {s : Shared} {h' : Heap}
theorem Cx.Ok.nofr (ok : X.Ok) {b : Addr} {o : Obj} (e : X.base.get? b = some o) : b ∉ X.fs := fun hb => by
  have := (ok.funs.mem hb).1
  rw [e] at this; cases this
theorem Inv.bs (I : Inv X pins σ H s) : ∀ b o, X.base.get? b = some o -> s.heap.get? b = some o /\ H b = none := fun b o e =>
  ⟨I.base.keep b o (I.ok.bs b o e).1 (I.ok.bs b o e).2 (I.ok.nofr e) (I.ok.noex b o e), I.base.free b o (I.ok.bs b o e).1 (I.ok.bs b o e).2 (I.ok.noex b o e)⟩
theorem Inv.bk (I : Inv X pins σ H s) : ∀ b o, X.base.get? b = some o -> s.heap.get? b = some o := fun b o e => (I.bs b o e).1
theorem Inv.mod (I : Inv X pins σ H s) : Mod X.K X.mg X.base := I.ok.mod
theorem Inv.kIn (I : Inv X pins σ H s) : X.K.In s.heap := I.ok.mod.kin.keeps I.bk
theorem Inv.lt (I : Inv X pins σ H s) : X.env.locals < s.heap.objs.size := let ⟨_, hn, _⟩ := I.loc; hn.lt
theorem Inv.sz (I : Inv X pins σ H s) : X.s₀.heap.objs.size <= s.heap.objs.size := Nat.le_trans I.ok.above (Nat.le_of_lt I.lt)
theorem Inv.nofs (I : Inv X pins σ H s) {a : Addr} (h : s.heap.objs.size <= a) : a ∉ X.fs := fun hb => by
  obtain ⟨_, o, ho, _⟩ := I.ok.funs.mem hb
  exact absurd (Nat.lt_of_lt_of_le (Heap.lt_size ho) (Nat.le_trans I.sz h)) (Nat.lt_irrefl _)
theorem Inv.cne (I : Inv X pins σ H s) : ∀ x c, X.env.cells.lookup x = some c -> c ≠ X.env.locals := fun x c e z => by
  obtain ⟨v, o, ho, hd⟩ := I.cell x c e
  obtain ⟨m, ⟨o', es, ep, ho', hd', _⟩, _⟩ := I.loc
  rw [z, ho'] at ho; cases ho; rw [hd'] at hd; cases hd
theorem Inv.funs (I : Inv X pins σ H s) : s.heap.FunFrames X.base X.outer := by
  have all : ∀ (l : List Env), (∀ b ∈ frs l, b ∈ X.fs) -> X.s₀.heap.FunFrames X.base l -> s.heap.FunFrames X.base l := by
    intro l
    induction l with
    | nil => intro _ _; trivial
    | cons env r ih =>
      intro hs hl
      obtain ⟨hk, ⟨L, o, hf, hn, ho, hd⟩, hr⟩ := hl
      have hL : L ∈ X.fs := hs L (by unfold frs; rw [List.filterMap_cons, hf]; exact List.mem_cons_self)
      obtain ⟨sl, e⟩ := I.base.slot L o ho (I.ok.frf L hL) hL fun z => I.ok.exfs L z hL
      exact ⟨hk, ⟨L, _, hf, hn, e, hd⟩, ih (fun b hb => hs b (by unfold frs; rw [List.filterMap_cons, hf]; exact List.mem_cons_of_mem _ hb)) hr⟩
  exact all X.outer (fun _ hb => hb) I.ok.funs
theorem Inv.stack (I : Inv X pins σ H s) : s.heap.FunFrames X.base X.stack := by
  rcases I.ok.stk with e | ⟨e, hf⟩
  · rw [e]; exact I.funs
  · rw [e]
    obtain ⟨m, hn, _⟩ := I.loc
    refine .cons (by rw [I.ok.kind]; decide) hf hn ?_ I.funs
    exact Heap.get?_none_of_le (Nat.le_trans I.ok.bsz I.ok.above)
theorem Inv.stkSub (I : Inv X pins σ H s) : ∀ b ∈ frs X.stack, b ∈ X.env.locals :: X.fs := fun b hb => by
  rcases I.ok.stk with e | ⟨e, hf⟩
  · rw [e] at hb; exact List.mem_cons_of_mem _ hb
  · rw [e] at hb
    unfold frs at hb
    rw [List.filterMap_cons, hf] at hb
    exact hb
theorem Inv.stkFree (I : Inv X pins σ H s) : ∀ b ∈ frs X.stack, H b = none := fun b hb => by
  rcases List.mem_cons.mp (I.stkSub b hb) with e | hb
  · rw [e]; exact I.free
  · obtain ⟨_, o, ho, _⟩ := I.ok.funs.mem hb
    exact I.base.free b o ho (I.ok.frf b hb) fun z => I.ok.exfs b z hb
theorem Inv.step {g' : Array GenState} {t' : Nat} {d' : Drawn} {ch : List Addr} (I : Inv X pins σ H s)
    (hch : ∀ b ∈ ch, (b ∈ X.ex \/ X.s₀.heap.objs.size <= b) /\ b ≠ X.env.locals /\ (∀ x c, X.env.cells.lookup x = some c -> c ≠ b) /\ ∀ p ∈ X.pn ++ pins, p.1 ≠ b)
    (keep : ∀ b o, b ≠ X.env.locals -> b ∉ X.fs -> b ∉ ch -> s.heap.get? b = some o -> H b = none -> h'.get? b = some o)
    (slot : ∀ b o, b ≠ X.env.locals -> b ∈ X.fs -> b ∉ ch -> s.heap.get? b = some o -> H b = none -> ∃ sl, h'.get? b = some { o with slots := sl }) (free : ∀ b o, b ∉ ch -> s.heap.get? b = some o -> H b = none -> H' b = none)
    (there : ∀ b o, b ∉ ch -> s.heap.get? b = some o -> ∃ o', h'.get? b = some o')
    (tups : ∀ b xs, H b = some (.tup xs) -> H' b = some (.tup xs)) (frzs : ∀ b o u, H b = some (.frz o u) -> H' b = some (.frz o u)) (tbls : ∀ b ps, H b = some (.tbl ps) -> ∃ more, H' b = some (.tbl (ps ++ more)))
    (ns : ∀ m, s.heap.Ns X.env.locals m -> h'.Ns X.env.locals m) (hok : HOk X.prog X.w H' h') (hg : AllBare g') :
    Inv X pins σ H' { s with heap := h', gens := g', drawn := d', toks := t' } := by
  have neL : ∀ b o, X.s₀.heap.get? b = some o -> b ≠ X.env.locals := fun b o e => Nat.ne_of_lt (Nat.lt_of_lt_of_le (Heap.lt_size e) I.ok.above)
  have neC : ∀ b o, X.s₀.heap.get? b = some o -> b ∉ X.ex -> b ∉ ch := fun b o e hx hb => by
    rcases (hch b hb).1 with z | z
    · exact hx z
    · exact absurd (Nat.lt_of_lt_of_le (Heap.lt_size e) z) (Nat.lt_irrefl _)
  have cellK : ∀ x c, X.env.cells.lookup x = some c -> ∀ v, s.heap.IsCell c v -> h'.IsCell c v := fun x c e v ⟨o, ho, hd⟩ => by
    have nch : c ∉ ch := fun z => (hch c z).2.2.1 x c e rfl
    by_cases hc : c ∈ X.fs
    · obtain ⟨sl, q⟩ := slot c o (I.cne x c e) hc nch ho (I.freeC x c e)
      exact ⟨_, q, hd⟩
    · exact ⟨o, keep c o (I.cne x c e) hc nch ho (I.freeC x c e), hd⟩
  refine ⟨I.ok, I.os, hg, ⟨fun b o e n hb hx => ?_, fun b o e n hb hx => ?_, fun b o e n hx => ?_, fun b o e hx => ?_, fun b xs e => tups b xs (I.base.tups b xs e), fun b o xs e => frzs b o xs (I.base.frzs b o xs e), fun b ps e => ?_⟩, ?_, fun x c e => ?_, ?_, fun x c e => ?_, fun p hp => ?_, hok, I.len⟩
  · exact keep b o (neL b o e) hb (neC b o e hx) (I.base.keep b o e n hb hx) (I.base.free b o e n hx)
  · obtain ⟨sl, e1⟩ := I.base.slot b o e n hb hx
    obtain ⟨sl', e2⟩ := slot b _ (neL b o e) hb (neC b o e hx) e1 (I.base.free b o e n hx)
    exact ⟨sl', e2⟩
  · obtain ⟨o', e1⟩ := I.base.there b o e hx
    exact free b o' (neC b o e hx) e1 (I.base.free b o e n hx)
  · obtain ⟨o', e1⟩ := I.base.there b o e hx
    exact there b o' (neC b o e hx) e1
  · obtain ⟨m1, e1⟩ := I.base.tbls b ps e
    obtain ⟨m2, e2⟩ := tbls b _ e1
    exact ⟨m1 ++ m2, by rw [e2, Array.append_assoc]⟩
  · obtain ⟨m, hn, hl⟩ := I.loc
    refine ⟨m, ns m hn, fun i x v e1 e2 e3 => ?_⟩
    obtain ⟨u, r, l⟩ := hl i x v e1 e2 e3
    refine ⟨u, r, ?_⟩
    rcases l with l | ⟨k, c, e, z⟩
    · exact .inl l
    · exact .inr ⟨k, c, e, cellK x c e _ z⟩
  · obtain ⟨v, z⟩ := I.cell x c e
    exact ⟨v, cellK x c e v z⟩
  · obtain ⟨m, ⟨o, _, _, ho, _⟩, _⟩ := I.loc
    exact free _ o (fun z => (hch _ z).2.1 rfl) ho I.free
  · obtain ⟨v, o, ho, hd⟩ := I.cell x c e
    exact free c o (fun z => (hch c z).2.2.1 x c e rfl) ho (I.freeC x c e)
  · obtain ⟨e, n, ne, nf, d⟩ := I.pin p hp
    have nch : p.1 ∉ ch := fun z => (hch p.1 z).2.2.2 p hp rfl
    exact ⟨keep p.1 p.2 ne nf nch e n, free p.1 p.2 nch e n, ne, nf, d⟩
theorem Inv.un {t' : Nat} (I : Inv X pins σ H s) (u : Un X.fs [] H H' s.heap h') (hok : HOk X.prog X.w H' h') : Inv X pins σ H' { s with heap := h', toks := t' } := by
  obtain ⟨m, ⟨o, es, ep, ho, r⟩, _⟩ := id I.loc
  obtain ⟨sl, hL⟩ := u.any ho I.free (by simp)
  exact I.step (g' := s.gens) (d' := s.drawn) (ch := []) (fun _ z => nomatch z) (fun b o _ hb _ e n => u.keep b o e n hb (by simp)) (fun b o _ hb _ e n => u.slot b o e n hb (by simp)) (fun b o _ e n => u.free b o e n (by simp)) (fun b o _ e => u.there b o e (by simp)) u.tups u.frzs u.tbls (fun m' hm => by
    obtain ⟨o', es', ep', ho', r'⟩ := hm
    rw [ho] at ho'; cases ho'
    exact ⟨_, es', ep', hL, r'⟩) hok I.bare
theorem Inv.call {g' : Array GenState} {t' : Nat} {d' : Drawn} {ch : List Addr} (I : Inv X pins σ H s) (u : Un (frs X.stack) ch H H' s.heap h') (hok : HOk X.prog X.w H' h') (hg : AllBare g')
    (hch : ∀ b ∈ ch, (b ∈ X.ex \/ X.s₀.heap.objs.size <= b) /\ b ≠ X.env.locals /\ (∀ x c, X.env.cells.lookup x = some c -> c ≠ b) /\ ∀ p ∈ X.pn ++ pins, p.1 ≠ b) :
    Inv X pins σ H' { s with heap := h', gens := g', drawn := d', toks := t' } := by
  obtain ⟨m, ⟨o, es, ep, ho, r⟩, _⟩ := id I.loc
  obtain ⟨sl, hL⟩ := u.any ho I.free fun z => (hch _ z).2.1 rfl
  exact I.step (ch := ch) hch (fun b o hL hb hc e n => u.keep b o e n (fun z => (List.mem_cons.mp (I.stkSub b z)).elim hL hb) hc) (fun b o _ _ hc e n => u.any e n hc) (fun b o hc e n => u.free b o e n hc) (fun b o hc e => u.there b o e hc) u.tups u.frzs u.tbls (fun m' hm => by
    obtain ⟨o', es', ep', ho', r'⟩ := hm
    rw [ho] at ho'; cases ho'
    exact ⟨_, es', ep', hL, r'⟩) hok hg
theorem Inv.turned {t' : Nat} {it : Addr} (I : Inv X pins σ H s) (k : ∀ b o, b ≠ it -> s.heap.get? b = some o -> h'.get? b = some o) (hn : H it = none) (hL : it ≠ X.env.locals)
    (h1 : it ∈ X.ex \/ X.s₀.heap.objs.size <= it) (h2 : ∀ x c, X.env.cells.lookup x = some c -> c ≠ it) (h3 : ∀ p ∈ X.pn ++ pins, p.1 ≠ it) : Inv X pins σ H { s with heap := h', toks := t' } := by
  have nit : ∀ b u, H b = some u -> b ≠ it := fun b u e z => by rw [z, hn] at e; cases e
  refine I.step (g' := s.gens) (d' := s.drawn) (ch := [it]) (fun b hb => ?_) (fun b o _ _ hc e _ => k b o (fun z => hc (by simp [z])) e) (fun b o _ _ hc e _ => ⟨o.slots, k b o (fun z => hc (by simp [z])) e⟩) (fun _ _ _ _ n => n)
    (fun b o hc e => ⟨o, k b o (fun z => hc (by simp [z])) e⟩) (fun _ _ e => e) (fun _ _ _ e => e) (fun b ps e => ⟨#[], by rw [e]; simp⟩) (fun m hm => ?_) (fun b u e => ?_) I.bare
  · have e : b = it := by simpa using hb
    subst e
    exact ⟨h1, hL, h2, h3⟩
  · obtain ⟨o, es, ep, ho, r⟩ := hm
    exact ⟨o, es, ep, k _ o (Ne.symm hL) ho, r⟩
  · refine (I.hok b u e).stay (fun c v hc q => k c v ?_ q) (fun _ q => q) fun _ _ q => q
    rcases hc with z | z
    · rw [z]; exact nit b u e
    · exact nit c _ z
theorem Inv.tok (I : Inv X pins σ H s) (t : Nat) : Inv X pins σ H { s with toks := t } := I.un (h' := s.heap) (t' := t) Un.refl I.hok
theorem Inv.kept {t' : Nat} (I : Inv X pins σ H s) (k : ∀ b u, s.heap.get? b = some u -> h'.get? b = some u) : Inv X pins σ H { s with heap := h', toks := t' } := I.un (Un.kept k) (I.hok.kept k)
theorem Inv.laid {a : Addr} {o : HO} {t' : Nat} (I : Inv X pins σ H s) (k : ∀ b u, s.heap.get? b = some u -> h'.get? b = some u) (hp : s.heap.objs.size <= a) (new : ObjOk X.prog X.w (upd H a o) h' a o) :
    Inv X pins σ (upd H a o) { s with heap := h', toks := t' } := I.un (Un.laid k hp (I.hok.fresh hp)) (I.hok.laid k hp new)
theorem Inv.write {x e : Addr} {o : HO} {t' : Nat} (I : Inv X pins σ H s) (mu : Mut (H x)) (he : e = x \/ H e = some (.own x)) (k : ∀ b u, b ≠ e -> s.heap.get? b = some u -> h'.get? b = some u) (heo : ∃ u, h'.get? e = some u)
    (new : ObjOk X.prog X.w (upd H x o) h' x o) : Inv X pins σ (upd H x o) { s with heap := h', toks := t' } := I.un (Un.write mu he k heo) (I.hok.write mu he k heo new)
theorem Inv.pins_of {pins' : List (Addr × Obj)} (I : Inv X pins σ H s) (h : ∀ p ∈ pins', s.heap.get? p.1 = some p.2 /\ H p.1 = none /\ p.1 ≠ X.env.locals /\ p.1 ∉ X.fs /\ ∀ v, p.2.data ≠ .cell v) : Inv X pins' σ H s :=
  ⟨I.ok, I.os, I.bare, I.base, I.loc, I.cell, I.free, I.freeC, fun p hp => (List.mem_append.mp hp).elim (fun z => I.pin p (List.mem_append_left _ z)) (h p), I.hok, I.len⟩
theorem nodup_ix {N : List Str} (hN : N.Nodup) {i j : Nat} {x : Str} (a : N[i]? = some x) (b : N[j]? = some x) : i = j := by
  obtain ⟨h1, e1⟩ := List.getElem?_eq_some_iff.mp a
  obtain ⟨h2, e2⟩ := List.getElem?_eq_some_iff.mp b
  exact (List.getElem_inj hN).mp (e1.trans e2.symm)
theorem store_ok2 {M : Model} {A : Around} {E : Value -> Shared -> Prop} {i : Nat} {x : Str} {v : V} {u : Value} {Q : Unit -> Shared -> Prop} (I : Inv X pins σ H s) (hN : X.N.Nodup) (hi : X.N[i]? = some x) (hx : Loc X.env.scope x) (r : RelV v u)
    (h : ∀ s', Inv X pins (σ.set i (some v)) H s' -> (∃ a, Heap.SameBut a s.heap s'.heap /\ (a = X.env.locals \/ X.env.cells.lookup x = some a)) -> Q () s') (hf : X.fn x = true \/ X.env.scope.names.lookup x = some .local := by first | exact .inl rfl | exact .inr rfl | assumption) : wpAny M A (storeName X.env x u) Q E s := by
  obtain ⟨m, hn, hl⟩ := id I.loc
  have hcls : (X.env.scope.kind == .class || (X.env.scope.kind == .module && X.env.locals != X.env.globals)) = false := by rw [I.ok.kind]; rfl
  have hiσ : i < σ.length := by rw [I.len]; exact (List.getElem?_eq_some_iff.mp hi).1
  have cne := I.cne
  have tracked : ∀ {a : Addr} {h' : Heap}, (∃ o, s.heap.get? a = some o /\ H a = none) -> Heap.SameBut a s.heap h' -> HOk X.prog X.w H h' := fun {a h'} ha hs b ob e => by
    obtain ⟨_, _, hfree⟩ := ha
    refine (I.hok b ob e).stay (fun c w' hc q => (hs.2 c ?_).trans q) (fun _ q => q) fun _ _ q => q
    rintro rfl
    rcases hc with rfl | hc
    · rw [hfree] at e; cases e
    · rw [hfree] at hc; cases hc
  rcases hx with hk | hk
  · refine wpAny_storeName_local hk hn (fun h' hn' hs => ?_) hcls
    obtain ⟨oL, _, _, hoL, _⟩ := id hn
    refine h _ ⟨I.ok, I.os, I.bare, ⟨fun b o e n hb hx => ?_, fun b o e n hb hx => ?_, I.base.free, fun b o e hx => ?_, I.base.tups, I.base.frzs, I.base.tbls⟩, ⟨_, hn', fun j y v' e1 e2 e3 => ?_⟩, fun y c e => ?_, I.free, I.freeC, fun p hp => ?_, tracked ⟨oL, hoL, I.free⟩ hs, by simpa using I.len⟩ ⟨_, hs, .inl rfl⟩
    · exact (hs.2 b (Nat.ne_of_lt (Nat.lt_of_lt_of_le (Heap.lt_size e) I.ok.above))).trans (I.base.keep b o e n hb hx)
    · obtain ⟨sl, e1⟩ := I.base.slot b o e n hb hx
      exact ⟨sl, (hs.2 b (Nat.ne_of_lt (Nat.lt_of_lt_of_le (Heap.lt_size e) I.ok.above))).trans e1⟩
    · obtain ⟨o', e1⟩ := I.base.there b o e hx
      exact ⟨o', (hs.2 b (Nat.ne_of_lt (Nat.lt_of_lt_of_le (Heap.lt_size e) I.ok.above))).trans e1⟩
    · by_cases hj : j = i
      · subst hj
        rw [hi] at e1; cases e1
        rw [List.getElem?_set_self hiσ] at e2
        cases e2
        exact ⟨u, r, .inl ⟨hk, by simp⟩⟩
      · rw [List.getElem?_set_ne (Ne.symm hj)] at e2
        obtain ⟨u', r', q⟩ := hl j y v' e1 e2 e3
        refine ⟨u', r', ?_⟩
        rcases q with ⟨k, e⟩ | ⟨k, c, e, z⟩
        · refine .inl ⟨k, ?_⟩
          have : y ≠ x := fun e => hj (nodup_ix hN e1 (e ▸ hi))
          simp [this, e]
        · exact .inr ⟨k, c, e, z.sameBut hs (cne y c e)⟩
    · obtain ⟨w', z⟩ := I.cell y c e
      exact ⟨w', z.sameBut hs (cne y c e)⟩
    · obtain ⟨e, n, ne, nf, d⟩ := I.pin p hp
      exact ⟨(hs.2 p.1 ne).trans e, n, ne, nf, d⟩
  · have hfn : X.fn x = true := by
      rcases hf with z | z
      · exact z
      · rw [z] at hk; cases hk
    obtain ⟨c, hc⟩ := I.ok.has x (.inl hk)
    obtain ⟨w', z⟩ := I.cell x c hc
    refine wpAny_storeName_cell I.ok.kind hk hc z (fun h' hc' hs => ?_)
    obtain ⟨oc, hoc, hocd⟩ := id z
    refine h { s with heap := h' } ⟨I.ok, I.os, I.bare, ⟨fun b o e n hb hx => ?_, fun b o e n hb hx => ?_, I.base.free, fun b o e hx => ?_, I.base.tups, I.base.frzs, I.base.tbls⟩, ⟨m, hn.sameBut hs (Ne.symm (cne x c hc)), fun j y v' e1 e2 e3 => ?_⟩, fun y c' e => ?_, I.free, I.freeC, fun p hp => ?_, tracked ⟨oc, hoc, I.freeC x c hc⟩ hs, by simpa using I.len⟩ ⟨c, hs, .inr hc⟩
    · exact (hs.2 b (Nat.ne_of_lt (Nat.lt_of_lt_of_le (Heap.lt_size e) (I.ok.cab x c hfn hc)))).trans (I.base.keep b o e n hb hx)
    · obtain ⟨sl, e1⟩ := I.base.slot b o e n hb hx
      exact ⟨sl, (hs.2 b (Nat.ne_of_lt (Nat.lt_of_lt_of_le (Heap.lt_size e) (I.ok.cab x c hfn hc)))).trans e1⟩
    · obtain ⟨o', e1⟩ := I.base.there b o e hx
      exact ⟨o', (hs.2 b (Nat.ne_of_lt (Nat.lt_of_lt_of_le (Heap.lt_size e) (I.ok.cab x c hfn hc)))).trans e1⟩
    · by_cases hj : j = i
      · subst hj
        rw [hi] at e1; cases e1
        rw [List.getElem?_set_self hiσ] at e2
        cases e2
        exact ⟨u, r, .inr ⟨.inl hk, c, hc, hc'⟩⟩
      · rw [List.getElem?_set_ne (Ne.symm hj)] at e2
        obtain ⟨u', r', q⟩ := hl j y v' e1 e2 e3
        refine ⟨u', r', ?_⟩
        rcases q with q | ⟨k, c', e, z'⟩
        · exact .inl q
        · refine .inr ⟨k, c', e, z'.sameBut hs ?_⟩
          rintro rfl
          exact hj (nodup_ix hN e1 (I.ok.inj _ _ _ e hc ▸ hi))
    · by_cases hcc : c' = c
      · subst hcc; exact ⟨_, hc'⟩
      · obtain ⟨w2, z2⟩ := I.cell y c' e
        exact ⟨w2, z2.sameBut hs hcc⟩
    · obtain ⟨e, n, ne, nf, d⟩ := I.pin p hp
      refine ⟨(hs.2 p.1 ?_).trans e, n, ne, nf, d⟩
      intro q
      rw [q, hoc] at e
      have q' : oc = p.2 := Option.some.inj e
      exact d w' (by rw [<- q']; exact hocd)
theorem store_ok {M : Model} {A : Around} {E : Value -> Shared -> Prop} {i : Nat} {x : Str} {v : V} {u : Value} {Q : Unit -> Shared -> Prop} (I : Inv X pins σ H s) (hN : X.N.Nodup) (hi : X.N[i]? = some x) (hx : Loc X.env.scope x) (r : RelV v u)
    (h : ∀ s', Inv X pins (σ.set i (some v)) H s' -> Q () s') (hf : X.fn x = true \/ X.env.scope.names.lookup x = some .local := by first | exact .inl rfl | exact .inr rfl | assumption) : wpAny M A (storeName X.env x u) Q E s :=
  store_ok2 I hN hi hx r (fun s' I' _ => h s' I') hf
theorem Inv.call' {s' : Shared} {ch : List Addr} (I : Inv X pins σ H s) (ho : s'.os = s.os) (u : Un (frs X.stack) ch H H' s.heap s'.heap) (hok : HOk X.prog X.w H' s'.heap) (hg : AllBare s'.gens)
    (hch : ∀ b ∈ ch, (b ∈ X.ex \/ X.s₀.heap.objs.size <= b) /\ b ≠ X.env.locals /\ (∀ x c, X.env.cells.lookup x = some c -> c ≠ b) /\ ∀ p ∈ X.pn ++ pins, p.1 ≠ b) : Inv X pins σ H' s' := by
  obtain ⟨h', g', d', t', o'⟩ := s'
  have e : o' = s.os := ho
  subst e
  exact I.call (g' := g') (t' := t') (d' := d') u hok hg hch
end
abbrev XK := Value -> Option Addr -> Hp -> Prop
abbrev St := List (Option V)
abbrev VK := V -> Hp -> Prop
abbrev TE := St -> Hp -> VK -> Prop
abbrev TT := St -> Hp -> (Bool -> Hp -> Prop) -> Prop
abbrev TA := St -> Hp -> (List V -> Hp -> Prop) -> Prop
structure Ends where
  nx : St -> Hp -> Prop
  rt : VK
  bk : St -> Hp -> Prop := fun _ _ => False
  ct : St -> Hp -> Prop := fun _ _ => False
abbrev TS := Ends -> St -> Hp -> Prop
def EP (X : Cx) (pins : List (Addr × Obj)) (σ : St) (Q : VK) (u : Value) (s' : Shared) : Prop := ∃ v H', Inv X pins σ H' s' /\ RelV v u /\ Q v H'
def TP (X : Cx) (pins : List (Addr × Obj)) (σ : St) (Q : Bool -> Hp -> Prop) (b : Bool) (s' : Shared) : Prop := ∃ H', Inv X pins σ H' s' /\ Q b H'
def AP (X : Cx) (pins : List (Addr × Obj)) (σ : St) (Q : List V -> Hp -> Prop) (us : List Value) (s' : Shared) : Prop := ∃ vs H', Inv X pins σ H' s' /\ Vals vs us /\ Q vs H'
def SP (X : Cx) (pins : List (Addr × Obj)) (D : Ends) (f : Flow) (s' : Shared) : Prop :=
  match f with
  | .next => ∃ σ' H', Inv X pins σ' H' s' /\ D.nx σ' H'
  | .brk => ∃ σ' H', Inv X pins σ' H' s' /\ D.bk σ' H'
  | .cont => ∃ σ' H', Inv X pins σ' H' s' /\ D.ct σ' H'
  | .ret u => ∃ v σ' H', Inv X pins σ' H' s' /\ RelV v u /\ D.rt v H'
def PE (X : Cx) (e : Expr) (t : TE) : Prop :=
  ∀ (pins : List (Addr × Obj)) (s : Shared) (σ : St) (H : Hp) (Q : VK), Inv X pins σ H s -> t σ H Q -> wpAny (model X.prog X.w) X.A (eval e X.env) (EP X pins σ Q) X.xe s
def PT (X : Cx) (e : Expr) (t : TT) : Prop :=
  ∀ (pins : List (Addr × Obj)) (s : Shared) (σ : St) (H : Hp) (Q : Bool -> Hp -> Prop), Inv X pins σ H s -> t σ H Q -> wpAny (model X.prog X.w) X.A (isTrue e X.env (eval e X.env)) (TP X pins σ Q) X.xe s
def PW (X : Cx) (e : Expr) (t : TT) : Prop :=
  ∀ (whole : Sem Value) (pins : List (Addr × Obj)) (s : Shared) (σ : St) (H : Hp) (Q : Bool -> Hp -> Prop), Inv X pins σ H s -> t σ H Q -> wpAny (model X.prog X.w) X.A (isTrue e X.env whole) (TP X pins σ Q) X.xe s
theorem PW.pt {X : Cx} {e : Expr} {t : TT} (h : PW X e t) : PT X e t := h _
def PA (X : Cx) (es : List Expr) (t : TA) : Prop :=
  ∀ (pos : Pos) (pins : List (Addr × Obj)) (s : Shared) (σ : St) (H : Hp) (Q : List V -> Hp -> Prop), Inv X pins σ H s -> t σ H Q -> wpAny (model X.prog X.w) X.A (spliced (backTo pos (starEach es X.env))) (AP X pins σ Q) X.xe s
def PS (X : Cx) (st : Stmt) (t : TS) : Prop :=
  ∀ (pins : List (Addr × Obj)) (s : Shared) (σ : St) (H : Hp) (D : Ends), Inv X pins σ H s -> t D σ H -> wpAny (model X.prog X.w) X.A (exec st X.env) (SP X pins D) X.xe s
def PSs (X : Cx) (st : List Stmt) (t : TS) : Prop :=
  ∀ (pins : List (Addr × Obj)) (s : Shared) (σ : St) (H : Hp) (D : Ends), Inv X pins σ H s -> t D σ H -> wpAny (model X.prog X.w) X.A (execs st X.env) (SP X pins D) X.xe s
theorem thn {α : Type} {t : Sem α} {Q Q' : α -> Shared -> Prop} {M : Model} {A : Around} {E : Value -> Shared -> Prop} {s : Shared} (h : wpAny M A t Q E s) (hQ : ∀ a s, Q a s -> Q' a s) : wpAny M A t Q' E s := wpAny_mono h hQ fun _ _ x => x
end L2
namespace L2
open PySem PySem.Spec PyProof.Rows
section
variable {X : Cx}
theorem bin {a b : Expr} {ta tb : TE} (ha : PE X a ta) (hb : PE X b tb) {pins : List (Addr × Obj)} {s : Shared} {σ : St} {H : Hp} {R : V -> V -> Hp -> Prop} (I : Inv X pins σ H s) (h : ta σ H fun x H1 => tb σ H1 fun y H2 => R x y H2)
    {α : Type} {Q : α -> Shared -> Prop} {f : Value -> Value -> Sem α}
    (hf : ∀ v u s2 x y H2, Inv X pins σ H2 s2 -> RelV x v -> RelV y u -> R x y H2 -> wpAny (model X.prog X.w) X.A (f v u) Q X.xe s2) :
    wpAny (model X.prog X.w) X.A (eval a X.env) (fun v s₁ => wpAny (model X.prog X.w) X.A (eval b X.env) (fun u s₂ => wpAny (model X.prog X.w) X.A (f v u) Q X.xe s₂) X.xe s₁) X.xe s := by
  refine thn (ha pins s σ H _ I h) fun v s1 ⟨x, H1, I1, r1, q1⟩ => ?_
  refine thn (hb pins s1 σ H1 _ I1 q1) fun u s2 ⟨y, H2, I2, r2, q2⟩ => ?_
  exact hf v u s2 x y H2 I2 r1 r2 q2
def tVar (i : Nat) : TE := fun σ H Q => ∃ v, σ[i]? = some (some v) /\ Q v H
def tC (v : V) : TE := fun _ H Q => Q v H
theorem pe_var {i : Nat} {x : Str} {pos : Pos} (hN : X.N[i]? = some x) (hv : Vis X.env.scope x) (hd : (x == ("__debug__" : Str)) = false := by decide) (hcd : (x == ("__classdict__" : Str)) = false := by decide) : PE X (.Name x pos) (tVar i) := by
  intro pins s σ H Q I h
  obtain ⟨v, e, h⟩ := h
  obtain ⟨m, hn, hl⟩ := I.loc
  obtain ⟨u, r, l⟩ := hl i x v hN e hv
  have fin : EP X pins σ Q u s := ⟨v, H, I, r, h⟩
  rcases l with ⟨hk, hm⟩ | ⟨hk, c, hc, hcell⟩
  · exact wpAny_Name (wpAny_loadName_local I.ok.kind hk hn hm fin) hd
  · rcases hk with hk | hk
    · exact wpAny_Name (wpAny_loadName_cell I.ok.kind hk hc hcell fin) hd
    · exact wpAny_Name (wpAny_loadName_free I.ok.kind hk hc hcell fin hcd) hd
theorem pe_int {i j pos} : PE X (.Constant (.int i) j pos) (tC (.int i)) := fun _ _ _ H _ I h => wpAny_Constant_int ⟨.int i, H, I.tok _, ⟨_, rfl⟩, h⟩
theorem pe_bl {b j pos} : PE X (.Constant (.bool b) j pos) (tC (.bl b)) := fun _ _ _ H _ I h => Constant_bool ⟨.bl b, H, I, rfl, h⟩
theorem pe_non {j pos} : PE X (.Constant .none j pos) (tC .non) := fun _ _ _ H _ I h => Constant_none ⟨.non, H, I, rfl, h⟩
theorem pe_str {x j pos} : PE X (.Constant (.str x) j pos) (tC (.str x)) := fun _ _ _ H _ I h => Calls.Constant_str ⟨.str x, H, I.tok _, ⟨_, rfl⟩, h⟩
def Gl (X : Cx) (x : Str) : Prop := X.env.kindOf x = some .globalImplicit
theorem ld_glob {E : Value -> Shared -> Prop} {pins : List (Addr × Obj)} {s : Shared} {σ : St} {H : Hp} {x : Str} {u : Value} {pos : Pos} {Q : Value -> Shared -> Prop} (I : Inv X pins σ H s) (hg : Gl X x) (hm : X.mg x = some u) (h : Q u s)
    (hd : (x == ("__debug__" : Str)) = false := by decide) : wpAny (model X.prog X.w) X.A (eval (.Name x pos) X.env) Q E s :=
  Calls.Name_function_global I.ok.kind hg (Calls.loadGlobal_global (by rw [I.ok.glob]; exact I.mod.glob.keeps I.bk) hm h) hd
theorem ld_blt {E : Value -> Shared -> Prop} {pins : List (Addr × Obj)} {s : Shared} {σ : St} {H : Hp} {x : Str} {u : Value} {pos : Pos} {Q : Value -> Shared -> Prop} (I : Inv X pins σ H s) (hg : Gl X x) (hm : X.mg x = none) (hv : bootBuiltins x = some u) (h : Q u s)
    (hn : x ≠ "__name__" := by decide) (hd : (x == ("__debug__" : Str)) = false := by decide) : wpAny (model X.prog X.w) X.A (eval (.Name x pos) X.env) Q E s := by
  obtain ⟨mb, h1, h2⟩ := I.mod.blt
  exact Calls.Name_function_global I.ok.kind hg (Calls.loadGlobal_builtin (by rw [I.ok.glob]; exact I.mod.glob.keeps I.bk) hm (by rw [I.ok.blt]; exact h1.keeps I.bk) ((h2 x hn).trans hv) h) hd
theorem pe_glob {x : Str} {v : V} {u : Value} {pos : Pos} (hg : Gl X x) (hm : X.mg x = some u) (r : RelV v u) (hd : (x == ("__debug__" : Str)) = false := by decide) : PE X (.Name x pos) (tC v) :=
  fun _ _ _ H _ I h => ld_glob I hg hm ⟨v, H, I, r, h⟩ hd
theorem pe_bltn {x : Str} {v : V} {u : Value} {pos : Pos} (hg : Gl X x) (hm : X.mg x = none) (hv : bootBuiltins x = some u) (r : RelV v u) (hn : x ≠ "__name__" := by decide) (hd : (x == ("__debug__" : Str)) = false := by decide) : PE X (.Name x pos) (tC v) :=
  fun _ _ _ H _ I h => ld_blt I hg hm hv ⟨v, H, I, r, h⟩ hn hd
variable {a b : Expr} {ta tb : TE} {pos : Pos}
def PC (X : Cx) (op : CmpOp) (a b : Expr) (t : TE) : Prop :=
  ∀ (pins : List (Addr × Obj)) (s : Shared) (σ : St) (H : Hp) (Q : VK), Inv X pins σ H s -> t σ H Q ->
    wpAny (model X.prog X.w) X.A (eval a X.env) (fun v s₁ => wpAny (model X.prog X.w) X.A (eval b X.env) (fun u s₂ => wpAny (model X.prog X.w) X.A (compareOp op v u) (EP X pins σ Q) X.xe s₂) X.xe s₁) X.xe s
theorem nobehind (b : Expr) {op : CmpOp} (h : op ≠ .In) (h2 : op ≠ .NotIn) : behindInMarks op b = false := by
  have e1 : (op == CmpOp.In) = false := by cases op <;> first | rfl | exact absurd rfl h
  have e2 : (op == CmpOp.NotIn) = false := by cases op <;> first | rfl | exact absurd rfl h2
  cases b <;> simp [behindInMarks, e1, e2]
def tIsN (ta : TE) : TE := fun σ H Q => ta σ H fun x H1 => Q (.bl (decide (x = .non))) H1
theorem RelV.none_iff {x : V} {v : Value} (r : RelV x v) : (v == Value.none) = decide (x = .non) := by
  cases x with
  | non => cases r; rfl
  | bl _ => cases r; rfl
  | int _ => obtain ⟨t, rfl⟩ := r; rfl
  | str _ => obtain ⟨t, rfl⟩ := r; rfl
  | byt _ => obtain ⟨t, rfl⟩ := r; rfl
  | flt _ => obtain ⟨t, rfl⟩ := r; rfl
  | ref _ => cases r; rfl
  | ty _ => cases r; rfl
theorem pc_isN {j pos'} (ha : PE X a ta) : PC X .Is a (.Constant .none j pos') (tIsN ta) := by
  intro pins s σ H Q I h
  refine thn (ha pins s σ H _ I h) fun v s1 ⟨x, H1, I1, r1, q1⟩ => ?_
  exact Constant_none (is_none_gen ⟨.bl _, H1, I1, by rw [r1.none_iff]; rfl, q1⟩)
def tB (t : TE) : TT := fun σ H Q => t σ H fun x H1 => ∃ c, x = .bl c /\ Q c H1
theorem pt_cmp {op : CmpOp} {t : TE} (h : PC X op a b t) (h1 : behindInMarks op b = false := by first | exact nobehind _ (by decide) (by decide) | rfl) : PT X (.Compare a [op] [b] pos) (tB t) := by
  intro pins s σ H Q I hw
  refine wpAny_isTrue_Compare1 (thn (h pins s σ H _ I hw) fun v s1 h1 => thn h1 fun u s2 h2 => thn h2 fun c s3 ⟨x, H1, I1, r1, q1⟩ => ?_) h1
  obtain ⟨d, rfl, q⟩ := q1
  cases r1
  exact wpAny_truthy_bool ⟨H1, I1, q⟩
theorem pt_val {e : Expr} {t : TE} (h : PE X e t) (he : ∀ whole, isTrue e X.env whole = (do let v <- whole; standAt e.pos; holding [v] (truthy v)) := by intro _; rfl) : PT X e (tB t) := by
  intro pins s σ H Q I hw
  refine isTrue_plain (thn (h pins s σ H _ I hw) fun v s1 ⟨x, H1, I1, r1, q1⟩ => ?_) (he _)
  obtain ⟨d, rfl, q⟩ := q1
  cases r1
  exact wpAny_truthy_bool ⟨H1, I1, q⟩
variable {tA tB' : TT} {rest : List Expr}
def tAnd (t u : TT) : TT := fun σ H Q => t σ H fun c H1 => if c = true then u σ H1 Q else Q false H1
def tOr (t u : TT) : TT := fun σ H Q => t σ H fun c H1 => if c = true then Q true H1 else u σ H1 Q
def tNot (t : TT) : TT := fun σ H Q => t σ H fun c H1 => Q (!c) H1
theorem pw_and1 (ha : PT X a tA) : PW X (.BoolOp .And [a] pos) tA := by
  intro wh pins s σ H Q I h
  refine isTrue_and (thn (ha pins s σ H Q I h) fun c s1 e => ?_)
  cases c with
  | true => exact isTrue_and_nil e
  | false => exact e
theorem pw_or1 (ha : PT X a tA) : PW X (.BoolOp .Or [a] pos) tA := by
  intro wh pins s σ H Q I h
  refine isTrue_or (thn (ha pins s σ H Q I h) fun c s1 e => ?_)
  cases c with
  | false => exact isTrue_or_nil e
  | true => exact e
theorem pw_and (ha : PT X a tA) (hb : PW X (.BoolOp .And (b :: rest) pos) tB') : PW X (.BoolOp .And (a :: b :: rest) pos) (tAnd tA tB') := by
  intro wh pins s σ H Q I h
  refine isTrue_and (thn (ha pins s σ H _ I h) fun c s1 ⟨H1, I1, q1⟩ => ?_)
  cases c with
  | true => exact hb wh pins s1 σ H1 Q I1 q1
  | false => exact ⟨H1, I1, q1⟩
theorem pw_or (ha : PT X a tA) (hb : PW X (.BoolOp .Or (b :: rest) pos) tB') : PW X (.BoolOp .Or (a :: b :: rest) pos) (tOr tA tB') := by
  intro wh pins s σ H Q I h
  refine isTrue_or (thn (ha pins s σ H _ I h) fun c s1 ⟨H1, I1, q1⟩ => ?_)
  cases c with
  | true => exact ⟨H1, I1, q1⟩
  | false => exact hb wh pins s1 σ H1 Q I1 q1
theorem pt_not (ha : PT X a tA) : PT X (.UnaryOp .Not a pos) (tNot tA) := by
  intro pins s σ H Q I h
  exact isTrue_not (ha pins s σ H (fun c H1 => Q (!c) H1) I h)
def tAndV (ta tb : TE) : TE := fun σ H Q => ta σ H fun x H1 => ∃ c, x = .bl c /\ if c = true then tb σ H1 Q else Q (.bl false) H1
def tOrV (ta tb : TE) : TE := fun σ H Q => ta σ H fun x H1 => ∃ c, x = .bl c /\ if c = true then Q (.bl true) H1 else tb σ H1 Q
def tNotV (ta : TE) : TE := fun σ H Q => ta σ H fun x H1 => ∃ c, x = .bl c /\ Q (.bl (!c)) H1
theorem pe_one {op} {t : TE} (h : PE X a t) : PE X (.BoolOp op [a] pos) t := fun pins s σ H Q I hw => BoolOp_one (h pins s σ H Q I hw)
theorem pe_and (ha : PE X a ta) (hb : PE X (.BoolOp .And (b :: rest) pos) tb) : PE X (.BoolOp .And (a :: b :: rest) pos) (tAndV ta tb) := by
  intro pins s σ H Q I h
  refine BoolOp_and (thn (ha pins s σ H _ I h) fun v s1 ⟨x, H1, I1, r1, q1⟩ => ?_)
  obtain ⟨c, rfl, q1⟩ := q1
  cases r1
  refine wpAny_truthy_bool ?_
  cases c with
  | true => exact hb pins s1 σ H1 Q I1 q1
  | false => exact ⟨.bl false, H1, I1, rfl, q1⟩
theorem pe_or (ha : PE X a ta) (hb : PE X (.BoolOp .Or (b :: rest) pos) tb) : PE X (.BoolOp .Or (a :: b :: rest) pos) (tOrV ta tb) := by
  intro pins s σ H Q I h
  refine BoolOp_or (thn (ha pins s σ H _ I h) fun v s1 ⟨x, H1, I1, r1, q1⟩ => ?_)
  obtain ⟨c, rfl, q1⟩ := q1
  cases r1
  refine wpAny_truthy_bool ?_
  cases c with
  | false => exact hb pins s1 σ H1 Q I1 q1
  | true => exact ⟨.bl true, H1, I1, rfl, q1⟩
theorem pe_not (ha : PE X a ta) : PE X (.UnaryOp .Not a pos) (tNotV ta) := by
  intro pins s σ H Q I h
  refine UnaryOp_ (thn (ha pins s σ H _ I h) fun v s1 ⟨x, H1, I1, r1, q1⟩ => ?_)
  obtain ⟨c, rfl, q1⟩ := q1
  cases r1
  exact not_of (wpAny_truthy_bool ⟨.bl (!c), H1, I1, rfl, q1⟩)
def tIf (t : TT) (ta tb : TE) : TE := fun σ H Q => t σ H fun c H1 => if c = true then ta σ H1 Q else tb σ H1 Q
theorem pe_ifExp {c : Expr} (hc : PT X c tA) (ha : PE X a ta) (hb : PE X b tb) : PE X (.IfExp c a b pos) (tIf tA ta tb) := by
  intro pins s σ H Q I h
  refine wpAny_IfExp (thn (hc pins s σ H _ I h) fun d s1 ⟨H1, I1, q1⟩ => ?_)
  cases d with
  | true => exact ha pins s1 σ H1 Q I1 q1
  | false => exact hb pins s1 σ H1 Q I1 q1
end
end L2
namespace L2
open PySem PySem.Spec PyProof.Rows
def SqL (K : PySem.W.Frag) (H : Hp) (a : Addr) (xs : List V) : Prop :=
  Rd H a (.lst xs) \/
    ∃ (o : Obj) (its : Array Value) (n : Nat), K.lookup a = some o /\ o.cls = .type "list" /\ o.dict = none /\ o.data = .seq its n /\ its.size <= sizeLine /\ Vals xs its.toList
def SqT (K : PySem.W.Frag) (H : Hp) (a : Addr) (xs : List V) : Prop :=
  Rd H a (.tup xs) \/
    ∃ (o : Obj) (its : Array Value) (n : Nat), K.lookup a = some o /\ o.cls = .type "tuple" /\ o.data = .seq its n /\ its.size <= sizeLine /\ Vals xs its.toList
def absV : Value -> Option V
  | .none => some .non
  | .bool b => some (.bl b)
  | .int i _ => some (.int i)
  | .str x _ => some (.str x)
  | .bytes b _ => some (.byt b)
  | .float b _ => some (.flt b)
  | .ref a => some (.ref a)
  | .type n => some (.ty n)
  | _ => none
theorem RelV.abs {x : V} {u : Value} (r : RelV x u) : absV u = some x := by
  cases x with
  | non => cases r; rfl
  | bl _ => cases r; rfl
  | int _ => obtain ⟨t, rfl⟩ := r; rfl
  | str _ => obtain ⟨t, rfl⟩ := r; rfl
  | byt _ => obtain ⟨t, rfl⟩ := r; rfl
  | flt _ => obtain ⟨t, rfl⟩ := r; rfl
  | ref _ => cases r; rfl
  | ty _ => cases r; rfl
theorem RelV.inj {x y : V} {u : Value} (r : RelV x u) (q : RelV y u) : x = y := Option.some.inj (r.abs.symm.trans q.abs)
theorem Vals.inj : ∀ {xs ys : List V} {us : List Value}, Vals xs us -> Vals ys us -> xs = ys
  | _, _, _, .nil, .nil => rfl
  | _, _, _, .cons r t, .cons r' t' => by rw [r.inj r', Vals.inj t t']
section
variable {X : Cx} {pins : List (Addr × Obj)} {σ : St} {H : Hp} {s : Shared} {a : Addr} {xs ys : List V}
theorem SqL.of {K : PySem.W.Frag} (h : H a = some (.lst xs)) : SqL K H a xs := .inl (.inl h)
theorem SqT.of {K : PySem.W.Frag} (h : H a = some (.tup xs)) : SqT K H a xs := .inl (.inl h)
theorem Inv.list (I : Inv X pins σ H s) (h : SqL X.K H a xs) : ∃ its : List Value, Vals xs its /\ PlainL s.heap a its.toArray /\ xs.length <= sizeLine := by
  rcases h with h | ⟨o, its, n, hk, hc, hd, hs, hz, r⟩
  · obtain ⟨z, its, n, r, e⟩ := h.ok I.hok
    exact ⟨its, r, ⟨_, n, e, rfl, rfl, rfl⟩, z⟩
  · refine ⟨its.toList, r, ⟨o, n, I.kIn a o hk, hc, hd, by simpa using hs⟩, ?_⟩
    have e := r.length
    simp only [Array.length_toList] at e
    omega
theorem Inv.tuple (I : Inv X pins σ H s) (h : SqT X.K H a xs) : ∃ its : List Value, Vals xs its /\ IsTup s.heap a its.toArray /\ xs.length <= sizeLine := by
  rcases h with h | ⟨o, its, n, hk, hc, hs, hz, r⟩
  · obtain ⟨z, its, r, p⟩ := h.ok I.hok
    exact ⟨its, r, p, z⟩
  · refine ⟨its.toList, r, ⟨o, I.kIn a o hk, hc, n, by simpa using hs⟩, ?_⟩
    have e := r.length
    simp only [Array.length_toList] at e
    omega
theorem Inv.list_inj (I : Inv X pins σ H s) (h : SqL X.K H a xs) (h' : SqL X.K H a ys) : xs = ys := by
  obtain ⟨its, r, ⟨o, n, e, _, _, d⟩, _⟩ := I.list h
  obtain ⟨its', r', ⟨o', n', e', _, _, d'⟩, _⟩ := I.list h'
  rw [e] at e'; cases e'
  rw [d] at d'
  injection d' with d1 _
  have : its = its' := by simpa using congrArg Array.toList d1
  subst this
  exact r.inj r'
theorem Inv.tuple_inj (I : Inv X pins σ H s) (h : SqT X.K H a xs) (h' : SqT X.K H a ys) : xs = ys := by
  obtain ⟨its, r, ⟨o, e, _, n, d⟩, _⟩ := I.tuple h
  obtain ⟨its', r', ⟨o', e', _, n', d'⟩, _⟩ := I.tuple h'
  rw [e] at e'; cases e'
  rw [d] at d'
  injection d' with d1 _
  have : its = its' := by simpa using congrArg Array.toList d1
  subst this
  exact r.inj r'
end
abbrev Cx.wish (X : Cx) (E : Value -> Shared -> Prop) : Cx := { X with xe := E }
abbrev Cx.nox (X : Cx) : Cx := X.wish fun _ _ => False
theorem Cx.Ok.wish {X : Cx} (ok : X.Ok) (E : Value -> Shared -> Prop) : (X.wish E).Ok :=
  ⟨ok.mod, ok.kind, ok.glob, ok.blt, ok.above, ok.inj, ok.has, ok.cab, ok.hd, ok.frames, ok.stk, ok.exf, ok.bs, ok.bsz, ok.noex, ok.exfs, ok.funs, ok.frf⟩
theorem Cx.Ok.unwish {X : Cx} {E : Value -> Shared -> Prop} (ok : (X.wish E).Ok) : X.Ok :=
  ⟨ok.mod, ok.kind, ok.glob, ok.blt, ok.above, ok.inj, ok.has, ok.cab, ok.hd, ok.frames, ok.stk, ok.exf, ok.bs, ok.bsz, ok.noex, ok.exfs, ok.funs, ok.frf⟩
section
variable {X : Cx} {pins : List (Addr × Obj)} {σ : St} {H : Hp} {s : Shared} {E : Value -> Shared -> Prop}
theorem Inv.wish (I : Inv X pins σ H s) (E : Value -> Shared -> Prop) : Inv (X.wish E) pins σ H s := ⟨I.ok.wish E, I.os, I.bare, I.base, I.loc, I.cell, I.free, I.freeC, I.pin, I.hok, I.len⟩
theorem Inv.unwish (I : Inv (X.wish E) pins σ H s) : Inv X pins σ H s := ⟨I.ok.unwish, I.os, I.bare, I.base, I.loc, I.cell, I.free, I.freeC, I.pin, I.hok, I.len⟩
theorem SP.unwish {D : Ends} {f : Flow} {s' : Shared} (h : SP (X.wish E) pins D f s') : SP X pins D f s' := by
  cases f with
  | next => obtain ⟨σ', H', I, q⟩ := h; exact ⟨σ', H', I.unwish, q⟩
  | brk => obtain ⟨σ', H', I, q⟩ := h; exact ⟨σ', H', I.unwish, q⟩
  | cont => obtain ⟨σ', H', I, q⟩ := h; exact ⟨σ', H', I.unwish, q⟩
  | ret u => obtain ⟨v, σ', H', I, r, q⟩ := h; exact ⟨v, σ', H', I.unwish, r, q⟩
theorem PSs.nox {st : List Stmt} {t : TS} (h : PSs X.nox st t) : PSs X st t := fun pins s σ H D I hw =>
  wpAny_mono (h pins s σ H D (I.wish _) hw) (fun _ _ q => q.unwish) fun _ _ z => False.elim z
end
section
variable {X : Cx} {st : Stmt} {rest : List Stmt} {t u : TS} {e : Expr} {te : TE} {pos : Pos}
def tNext : TS := fun D σ H => D.nx σ H
def tSeq (t u : TS) : TS := fun D σ H => t { D with nx := u D } σ H
theorem pss_nil : PSs X [] tNext := fun _ _ σ H _ I h => wpAny_execs_nil ⟨σ, H, I, h⟩
theorem pss_cons (h1 : PS X st t) (h2 : PSs X rest u) : PSs X (st :: rest) (tSeq t u) := by
  intro pins s σ H D I h
  refine wpAny_execs_cons (thn (h1 pins s σ H { D with nx := u D } I h) fun f s1 q => ?_)
  cases f with
  | next =>
    obtain ⟨σ', H', I', q⟩ := q
    exact h2 pins s1 σ' H' D I' q
  | ret v => exact q
  | brk => exact q
  | cont => exact q
theorem pss_one (h1 : PS X st t) : PSs X [st] t := by
  intro pins s σ H D I h
  refine wpAny_execs_cons (thn (h1 pins s σ H D I h) fun f s1 q => ?_)
  cases f with
  | next => exact wpAny_execs_nil q
  | ret v => exact q
  | brk => exact q
  | cont => exact q
theorem Inv.quiet {pins : List (Addr × Obj)} {σ : St} {H : Hp} {s : Shared} (I : Inv X pins σ H s) : interactive X.env = false := by simp [interactive, I.ok.kind]
def tDrop (te : TE) : TS := fun D σ H => te σ H fun _ H1 => D.nx σ H1
theorem ps_expr (he : PE X e te) (hs : swapsWith e none pos.line X.env = pure false := by rfl) : PS X (.Expr e pos) (tDrop te) := by
  intro pins s σ H D I h
  exact wpAny_Expr_any (thn (he pins s σ H _ I h) fun v s1 ⟨x, H1, I1, r1, q1⟩ => ⟨σ, H1, I1, q1⟩) I.quiet hs
def tRet (te : TE) : TS := fun D σ H => te σ H D.rt
theorem ps_ret (he : PE X e te) : PS X (.Return (some e) pos) (tRet te) := by
  intro pins s σ H D I h
  exact wpAny_Return_some (thn (he pins s σ H _ I h) fun v s1 ⟨x, H1, I1, r1, q1⟩ => ⟨x, σ, H1, I1, r1, q1⟩)
def tIfS (c : TT) (t u : TS) : TS := fun D σ H => c σ H fun b H1 => if b = true then t D σ H1 else u D σ H1
theorem ps_if {c : Expr} {a b : List Stmt} {tc : TT} (hc : PT X c tc) (ha : PSs X a t) (hb : PSs X b u) : PS X (.If c a b pos) (tIfS tc t u) := by
  intro pins s σ H D I h
  refine wpAny_If (thn (hc pins s σ H _ I h) fun d s1 ⟨H1, I1, q1⟩ => ?_)
  cases d with
  | true => exact ha pins s1 σ H1 D I1 q1
  | false => exact hb pins s1 σ H1 D I1 q1
def tNever : TS := fun _ _ _ => False
theorem ps_never : PS X st tNever := fun _ _ _ _ _ _ h => h.elim
end
abbrev TG := V -> St -> Hp -> (St -> Hp -> Prop) -> Prop
abbrev TGs := List V -> St -> Hp -> (St -> Hp -> Prop) -> Prop
def PG (X : Cx) (target : Expr) (t : TG) : Prop :=
  ∀ (pins : List (Addr × Obj)) (s : Shared) (σ : St) (H : Hp) (v : V) (u : Value) (Q : St -> Hp -> Prop), Inv X pins σ H s -> RelV v u -> t v σ H Q ->
    wpAny (model X.prog X.w) X.A (assign target X.env u) (fun _ s' => ∃ σ' H', Inv X pins σ' H' s' /\ Q σ' H') X.xe s
def PGs (X : Cx) (ts : List Expr) (t : TGs) : Prop :=
  ∀ (pins : List (Addr × Obj)) (s : Shared) (σ : St) (H : Hp) (vs : List V) (us : List Value) (Q : St -> Hp -> Prop), Inv X pins σ H s -> Vals vs us -> t vs σ H Q ->
    wpAny (model X.prog X.w) X.A (assignInOrder ((assignEach ts X.env).map (·.2)) us) (fun _ s' => ∃ σ' H', Inv X pins σ' H' s' /\ Q σ' H') X.xe s
abbrev TSet := V -> V -> V -> Hp -> (Hp -> Prop) -> Prop
def PSet (X : Cx) (t : TSet) : Prop :=
  ∀ (pins : List (Addr × Obj)) (s : Shared) (σ : St) (H : Hp) (o i v : V) (ov iv u : Value) (Q : Hp -> Prop), Inv X pins σ H s -> RelV o ov -> RelV i iv -> RelV v u -> t o i v H Q ->
    wpAny (model X.prog X.w) X.A (setItem ov iv u) (fun _ s' => ∃ H', Inv X pins σ H' s' /\ Q H') X.xe s
abbrev TIp := V -> V -> Hp -> VK -> Prop
def PIp (X : Cx) (op : Operator) (t : TIp) : Prop :=
  ∀ (pins : List (Addr × Obj)) (s : Shared) (σ : St) (H : Hp) (x y : V) (v u : Value) (Q : VK), Inv X pins σ H s -> RelV x v -> RelV y u -> t x y H Q ->
    wpAny (model X.prog X.w) X.A (inplaceOp op v u) (EP X pins σ Q) X.xe s
section
variable {X : Cx} {pos : Pos}
def gName (i : Nat) : TG := fun v σ H Q => Q (σ.set i (some v)) H
theorem pg_name {i : Nat} {x : Str} (hN : X.N.Nodup) (hi : X.N[i]? = some x) (hx : Loc X.env.scope x) (hf : X.fn x = true \/ X.env.scope.names.lookup x = some .local := by first | exact .inl rfl | exact .inr rfl | assumption) : PG X (.Name x pos) (gName i) := by
  intro pins s σ H v u Q I r h
  exact wpAny_assign_Name (store_ok I hN hi hx r (fun s' I' => ⟨_, H, I', h⟩) hf)
def gNil : TGs := fun vs σ H Q => vs = [] /\ Q σ H
def gCons (t : TG) (u : TGs) : TGs := fun vs σ H Q => ∃ v r, vs = v :: r /\ t v σ H fun σ' H' => u r σ' H' Q
theorem pgs_nil : PGs X [] gNil := by
  intro pins s σ H vs us Q I r h
  obtain ⟨e, h⟩ := h
  subst e
  cases r
  exact assignInOrder_nil ⟨σ, H, I, h⟩
theorem pgs_cons {e : Expr} {es : List Expr} {t : TG} {u : TGs} (h1 : PG X e t) (h2 : PGs X es u)
    (hs : (assignEach (e :: es) X.env).map (·.2) = assign e X.env :: (assignEach es X.env).map (·.2) := by rfl) : PGs X (e :: es) (gCons t u) := by
  intro pins s σ H vs us Q I r h
  obtain ⟨v, vr, e1, h⟩ := h
  subst e1
  cases r with
  | cons r rr =>
    rw [hs]
    refine assignInOrder_cons (thn (h1 pins s σ H _ _ _ I r h) fun _ s1 ⟨σ1, H1, I1, q1⟩ => ?_)
    exact h2 pins s1 σ1 H1 _ _ Q I1 rr q1
def gTup (K : PySem.W.Frag) (n : Nat) (t : TGs) : TG := fun v σ H Q => ∃ a xs, v = .ref a /\ SqT K H a xs /\ xs.length = n /\ t xs σ H Q
theorem pg_tup {es : List Expr} {k : Nat} {t : TGs} {n : Nat} (hc : X.calm = true) (h : PGs X es t)
    (hn : (assignEach es X.env).length = n := by rfl) (hst : (assignEach es X.env).findIdx? (·.1) = none := by rfl) : PG X (.Tuple es k pos) (gTup X.K n t) := by
  intro pins s σ H v u Q I r hw
  obtain ⟨a, xs, e1, hq, hl, hw⟩ := hw
  subst e1
  cases r
  obtain ⟨its, rv, ht, hz⟩ := I.tuple hq
  refine assign_Tuple_tuple (I.ok.hd hc) ht (by simp [hn, <- hl, rv.length]) hst fun h' hx => ?_
  have I1 : Inv X pins σ H { s with heap := h' } := I.kept (t' := s.toks) fun b o e => hx b o (Nat.ne_of_lt (Heap.lt_size e)) e
  exact h pins _ σ H xs _ Q I1 (by simpa using rv) hw
def tAsg (te : TE) (g : TG) : TS := fun D σ H => te σ H fun x H1 => g x σ H1 D.nx
theorem ps_set {i : Nat} {x : Str} {e : Expr} {te : TE} {pos' : Pos} (hN : X.N.Nodup) (hi : X.N[i]? = some x) (hx : Loc X.env.scope x) (he : PE X e te) (hs : swapsWith e (some (.Name x pos')) pos.line X.env = pure false := by rfl) (hf : X.fn x = true \/ X.env.scope.names.lookup x = some .local := by first | exact .inl rfl | exact .inr rfl | assumption) :
    PS X (.Assign [.Name x pos'] e pos) (tAsg te (gName i)) := by
  intro pins s σ H D I h
  refine wpAny_Assign_Name (thn (he pins s σ H _ I h) fun v s1 ⟨y, H1, I1, r1, q1⟩ => ?_) hs
  exact store_ok I1 hN hi hx r1 (fun s2 I2 => ⟨_, H1, I2, q1⟩) hf
def tAug (i : Nat) (te : TE) (ti : TIp) : TS := fun D σ H => ∃ x, σ[i]? = some (some x) /\ te σ H fun y H1 => ti x y H1 fun z H2 => D.nx (σ.set i (some z)) H2
theorem ps_aug {i : Nat} {x : Str} {e : Expr} {te : TE} {op : Operator} {ti : TIp} {pos' : Pos} (hN : X.N.Nodup) (hi : X.N[i]? = some x) (hx : Loc X.env.scope x) (he : PE X e te) (ho : PIp X op ti) (hf : X.fn x = true \/ X.env.scope.names.lookup x = some .local := by first | exact .inl rfl | exact .inr rfl | assumption) :
    PS X (.AugAssign (.Name x pos') op e pos) (tAug i te ti) := by
  intro pins s σ H D I h
  obtain ⟨v, e1, h⟩ := h
  obtain ⟨m, hn, hl⟩ := I.loc
  have vis : Vis X.env.scope x := by rcases hx with k | k; exact .inl k; exact .inr (.inl k)
  obtain ⟨u, r, l⟩ := hl i x v hi e1 vis
  refine wpAny_AugAssign_Name ?_
  have go : wpAny (model X.prog X.w) X.A (eval e X.env) (fun w s₂ => wpAny (model X.prog X.w) X.A (inplaceOp op u w) (fun r s₃ => wpAny (model X.prog X.w) X.A (storeName X.env x r) (fun _ => SP X pins D .next) X.xe s₃) X.xe s₂) X.xe s := by
    refine thn (he pins s σ H _ I h) fun w s1 ⟨y, H1, I1, r1, q1⟩ => ?_
    refine thn (ho pins s1 σ H1 v y u w _ I1 r r1 q1) fun z s2 ⟨zv, H2, I2, r2, q2⟩ => ?_
    exact store_ok I2 hN hi hx r2 (fun s3 I3 => ⟨_, H2, I3, q2⟩) hf
  rcases l with ⟨hk, hm⟩ | ⟨hk, c, hc, hcell⟩
  · exact wpAny_loadName_local I.ok.kind hk hn hm go
  · rcases hk with hk | hk
    · exact wpAny_loadName_cell I.ok.kind hk hc hcell go
    · rcases hx with k | k
      · have : X.env.scope.names.lookup x = some .free := hk
        rw [k] at this; cases this
      · have : X.env.scope.names.lookup x = some .free := hk
        rw [k] at this; cases this
def tAugS (to ti te : TE) (tget : V -> V -> Hp -> VK -> Prop) (tip : TIp) (tset : TSet) : TS := fun D σ H => to σ H fun o H1 => ti σ H1 fun i H2 => tget o i H2 fun x H3 => te σ H3 fun y H4 => tip x y H4 fun z H5 => tset o i z H5 fun H6 => D.nx σ H6
def PGet (X : Cx) (t : V -> V -> Hp -> VK -> Prop) : Prop :=
  ∀ (pins : List (Addr × Obj)) (s : Shared) (σ : St) (H : Hp) (o i : V) (ov iv : Value) (Q : VK), Inv X pins σ H s -> RelV o ov -> RelV i iv -> t o i H Q ->
    wpAny (model X.prog X.w) X.A (getItem ov iv) (EP X pins σ Q) X.xe s
theorem ps_augS {o i e : Expr} {to ti te : TE} {tget : V -> V -> Hp -> VK -> Prop} {tip : TIp} {tset : TSet} {op : Operator} {tpos : Pos} (ho : PE X o to) (hi : PE X i ti) (hg : PGet X tget) (he : PE X e te) (hp : PIp X op tip) (hs : PSet X tset)
    (ha : ∀ ov iv new, augStore i ov iv new = (do holding [new, ov, iv] (setItem ov iv new); release [new, ov, iv] []; pure .next) := by intros; rfl) : PS X (.AugAssign (.Subscript o i tpos) op e pos) (tAugS to ti te tget tip tset) := by
  intro pins s σ H D I h
  refine wpAny_AugAssign_SubscriptAny (thn (ho pins s σ H _ I h) fun ov s1 ⟨x1, H1, I1, r1, q1⟩ => ?_) ha
  refine thn (hi pins s1 σ H1 _ I1 q1) fun iv s2 ⟨x2, H2, I2, r2, q2⟩ => ?_
  refine thn (hg pins s2 σ H2 x1 x2 ov iv _ I2 r1 r2 q2) fun old s3 ⟨x3, H3, I3, r3, q3⟩ => ?_
  refine thn (he pins s3 σ H3 _ I3 q3) fun v s4 ⟨x4, H4, I4, r4, q4⟩ => ?_
  refine thn (hp pins s4 σ H4 x3 x4 old v _ I4 r3 r4 q4) fun new s5 ⟨x5, H5, I5, r5, q5⟩ => ?_
  exact thn (hs pins s5 σ H5 x1 x2 x5 ov iv new _ I5 r1 r2 r5 q5) fun _ s6 ⟨H6, I6, q6⟩ => ⟨σ, H6, I6, q6⟩
def ipI (f : Int -> Int -> Int) : TIp := fun x y H Q => ∃ i j, x = .int i /\ y = .int j /\ Q (.int (f i j)) H
theorem ip_add : PIp X .Add (ipI fun i j => i + j) := by
  intro pins s σ H x y v u Q I r1 r2 h
  obtain ⟨i, j, e1, e2, q⟩ := h
  subst e1; subst e2
  obtain ⟨t, rfl⟩ := r1
  obtain ⟨t', rfl⟩ := r2
  exact iadd_int ⟨.int _, H, I.tok _, ⟨_, rfl⟩, q⟩
theorem ip_sub : PIp X .Sub (ipI fun i j => i - j) := by
  intro pins s σ H x y v u Q I r1 r2 h
  obtain ⟨i, j, e1, e2, q⟩ := h
  subst e1; subst e2
  obtain ⟨t, rfl⟩ := r1
  obtain ⟨t', rfl⟩ := r2
  exact isub_int ⟨.int _, H, I.tok _, ⟨_, rfl⟩, q⟩
end
section
variable {X : Cx} {pos : Pos}
def tWhile (c : TT) (tb : TS) : TS := fun D σ H => ∃ W : Nat -> St -> Hp -> Prop, (∃ m, W m σ H) /\ ∀ m σ H, W m σ H ->
  c σ H fun b H1 => if b = true then ∃ N : St -> Hp -> Prop, (∀ σ' H', N σ' H' -> ∃ m', m' < m /\ W m' σ' H') /\ tb { D with nx := N, ct := N, bk := D.nx } σ H1 else D.nx σ H1
theorem ps_while {c : Expr} {body : List Stmt} {tc : TT} {tb : TS} (hp : PassesOwn (model X.prog X.w) X.A X.env X.xe) (hc : PT X c tc) (hb : PSs X body tb) : PS X (.While c body [] pos) (tWhile tc tb) := by
  intro pins s σ H D I h
  obtain ⟨W, ⟨m0, w0⟩, turn⟩ := h
  refine wpAny_While (codeAny_whileLoop (fun n s' => ∃ σ' H', Inv X pins σ' H' s' /\ W n σ' H') ?_ m0 ⟨σ, H, I, w0⟩)
  rintro n s1 ⟨σ1, H1, I1, w1⟩
  refine wpAny_passesOwn hp (thn (hc pins s1 σ1 H1 _ I1 (turn n σ1 H1 w1)) fun b s2 ⟨H2, I2, q2⟩ => ?_)
  cases b with
  | true =>
    obtain ⟨N, hN, q2⟩ := q2
    rw [if_pos rfl]
    refine wpAny_passesOwn hp (thn (hb pins s2 σ1 H2 _ I2 q2) fun f s3 q3 => ?_)
    cases f with
    | next =>
      obtain ⟨σ3, H3, I3, n3⟩ := q3
      obtain ⟨m', hm, w3⟩ := hN σ3 H3 n3
      exact ⟨m', hm, σ3, H3, I3, w3⟩
    | cont =>
      obtain ⟨σ3, H3, I3, n3⟩ := q3
      obtain ⟨m', hm, w3⟩ := hN σ3 H3 n3
      exact ⟨m', hm, σ3, H3, I3, w3⟩
    | brk => exact q3
    | ret v => exact q3
  | false =>
    rw [if_neg Bool.false_ne_true]
    exact wpAny_execs_nil ⟨σ1, H2, I2, q2⟩
end
structure It where
  go : Nat -> Hp -> Prop
  yld : Nat -> Hp -> V -> Hp -> Prop
  stop : Nat -> Hp -> Prop
def FpOk (X : Cx) (pins : List (Addr × Obj)) (H : Hp) (b : Addr) : Prop :=
  H b = none /\ b ≠ X.env.locals /\ b ∉ X.fs /\ (b ∈ X.ex \/ X.s₀.heap.objs.size <= b) /\ (∀ x c, X.env.cells.lookup x = some c -> c ≠ b) /\ ∀ p ∈ X.pn ++ pins, p.1 ≠ b
theorem Inv.fpOk {X : Cx} {pins : List (Addr × Obj)} {σ : St} {H H' : Hp} {s : Shared} {b : Addr} (I : Inv X pins σ H s) (hb : s.heap.objs.size <= b) (hn : H' b = none) : FpOk X pins H' b := by
  refine ⟨hn, Nat.ne_of_gt (Nat.lt_of_lt_of_le I.lt hb), I.nofs hb, .inr (Nat.le_trans I.sz hb), fun x c e z => ?_, fun p hp z => ?_⟩
  · obtain ⟨v, q⟩ := I.cell x c e
    exact absurd (Nat.lt_of_lt_of_le q.lt (by rw [z]; exact hb)) (Nat.lt_irrefl _)
  · exact absurd (Nat.lt_of_lt_of_le (Heap.lt_size (I.pin p hp).1) (by rw [z]; exact hb)) (Nat.lt_irrefl _)
structure Turn (P : Program) (w : World) (K : PySem.W.Frag) (tg : Expr) (J : It) (fp : List Addr) (it : Addr) (tn : Nat -> Heap -> Prop) : Prop where
  mem : it ∈ fp
  obj : ∀ i h, tn i h -> ∀ b ∈ fp, ∃ o, h.get? b = some o /\ ∀ v, o.data ≠ .cell v
  keep : ∀ i h h', tn i h -> (∀ b ∈ fp, ∀ o, h.get? b = some o -> h'.get? b = some o) -> tn i h'
  item : ∀ (X : Cx), X.prog = P -> X.w = w -> X.K = K -> X.calm = true -> ∀ (i : Nat) (pins : List (Addr × Obj)) (s : Shared) (σ : St) (H : Hp) (E : Value -> Shared -> Prop), Inv X pins σ H s -> (∀ b ∈ fp, FpOk X pins H b) -> tn i s.heap -> J.go i H ->
    wpAny (model P w) X.A (pyNext (.ref it)) (fun r s1 => ∃ u, r = some u /\
      wpAny (model P w) X.A (letOwnedTupleGo tg (.ref it) u) (fun _ s2 => ∃ x H', Inv X pins σ H' s2 /\ RelV x u /\ J.yld i H x H' /\ tn (i + 1) s2.heap /\ ∀ b ∈ fp, H' b = none) E s1) E s
  done : ∀ (X : Cx), X.prog = P -> X.w = w -> X.K = K -> X.calm = true -> ∀ (i : Nat) (pins : List (Addr × Obj)) (s : Shared) (σ : St) (H : Hp) (E : Value -> Shared -> Prop), Inv X pins σ H s -> (∀ b ∈ fp, FpOk X pins H b) -> tn i s.heap -> J.stop i H ->
    wpAny (model P w) X.A (pyNext (.ref it)) (fun r s1 => r = none /\ Inv X pins σ H s1) E s
  self : ∀ (A : Around) (i : Nat) (s : Shared) (Q : Value -> Shared -> Prop) (E : Value -> Shared -> Prop), tn i s.heap -> Q (.ref it) s -> wpAny (model P w) A (pyIter (.ref it)) Q E s
abbrev TI := St -> Hp -> (It -> Hp -> Prop) -> Prop
def PIE (X : Cx) (pins : List (Addr × Obj)) (σ : St) (tg : Expr) (R : It -> Hp -> Prop) (itv : Value) (s2 : Shared) : Prop :=
  ∃ (it : Addr) (fp : List Addr) (tn : Nat -> Heap -> Prop) (J : It) (H' : Hp), itv = .ref it /\ Inv X pins σ H' s2 /\ Turn X.prog X.w X.K tg J fp it tn /\ tn 0 s2.heap /\ (∀ b ∈ fp, FpOk X pins H' b) /\ R J H'
def PI (X : Cx) (tg iter : Expr) (wi : TI) : Prop :=
  ∀ (pins : List (Addr × Obj)) (s : Shared) (σ : St) (H : Hp) (R : It -> Hp -> Prop), Inv X pins σ H s -> wi σ H R ->
    wpAny (model X.prog X.w) X.A (eval iter X.env) (fun v s1 => wpAny (model X.prog X.w) X.A (pyIter v) (PIE X pins σ tg R) X.xe s1) X.xe s
theorem go_of {M : Model} {A : Around} {E : Value -> Shared -> Prop} {s : Shared} {tg : Expr} {it : Addr} {u : Value} {o : Obj} {n : String} {vs : Array Value} {Q : Unit -> Shared -> Prop} (ho : s.heap.get? it = some o) (hc : o.cls = .type n) (hd : o.data = .fields vs)
    (hn : ["enumerate", "zip", "dict_itemiterator", "dict_reverseitemiterator", "odict_iterator", "itertools.zip_longest", "itertools.pairwise"].contains n = false) (hQ : Q () s) : wpAny M A (letOwnedTupleGo tg (.ref it) u) Q E s := by
  unfold letOwnedTupleGo
  cases tg <;> first
    | exact wpAny_pure hQ
    | (cases u <;> first
        | exact wpAny_pure hQ
        | (refine wpAny_bind (wpAny_load ho ?_)
           rw [hc, hd]
           show wpAny M A (if (["enumerate", "zip", "dict_itemiterator", "dict_reverseitemiterator", "odict_iterator", "itertools.zip_longest", "itertools.pairwise"].contains n && vs[0]? == some (rawInt _)) = true then _ else _) Q E s
           rw [if_neg (by intro h; rw [hn, Bool.false_and] at h; cases h)]
           exact wpAny_pure hQ))
def Itl (K : PySem.W.Frag) (a : Addr) : It :=
  ⟨fun i H => ∃ xs x, SqL K H a xs /\ xs[i]? = some x, fun i H x H' => H' = H /\ ∀ xs, SqL K H a xs -> xs[i]? = some x, fun i H => ∃ xs, SqL K H a xs /\ xs.length <= i⟩
def Itt (K : PySem.W.Frag) (a : Addr) : It :=
  ⟨fun i H => ∃ xs x, SqT K H a xs /\ xs[i]? = some x, fun i H x H' => H' = H /\ ∀ xs, SqT K H a xs -> xs[i]? = some x, fun i H => ∃ xs, SqT K H a xs /\ xs.length <= i⟩
def Itr (lo : Int) (n : Nat) : It := ⟨fun i _ => i < n, fun i H x H' => H' = H /\ x = .int (lo + i), fun i _ => n <= i⟩
theorem turn_list {P : Program} {w : World} {K : PySem.W.Frag} {tg : Expr} (a it : Addr) : Turn P w K tg (Itl K a) [it] it (fun i h => h.IsListIter it a i) where
  mem := by simp
  obj := fun i h st b hb => by
    have e : b = it := by simpa using hb
    subst e
    obtain ⟨o, e, c, d⟩ := st
    exact ⟨o, e, fun v z => by rw [d] at z; cases z⟩
  keep := fun i h h' st k => st.at fun o e => k it (by simp) o e
  item := by
    intro X hP hw hK hc i pins s σ H E I hf st hg
    subst hP hw hK
    obtain ⟨xs, x, hq, hx⟩ := hg
    obtain ⟨its, rv, p, hz⟩ := I.list hq
    obtain ⟨u, hu, ru⟩ := rv.get hx
    obtain ⟨f0, f1, f2, f3, f4, f5⟩ := hf it (by simp)
    refine wpAny_pyNext_list_item st p.isList (x := u) (by simpa using hu) fun h' st' sb => ?_
    have I1 : Inv X pins σ H { s with heap := h' } := I.turned (t' := s.toks) (fun b o hb e => (sb.2 b hb).trans e) f0 f1 f3 f4 f5
    obtain ⟨o, e, c, d⟩ := id st'
    exact ⟨u, rfl, go_of (s := { s with heap := h' }) e c d (by decide) ⟨x, H, I1, ru, ⟨rfl, fun ys hy => by rw [I.list_inj hy hq]; exact hx⟩, st', fun b hb => (hf b hb).1⟩⟩
  done := by
    intro X hP hw hK hc i pins s σ H E I hf st hg
    subst hP hw hK
    obtain ⟨xs, hq, hx⟩ := hg
    obtain ⟨its, rv, p, hz⟩ := I.list hq
    obtain ⟨f0, f1, f2, f3, f4, f5⟩ := hf it (by simp)
    have hl := rv.length
    exact wpAny_pyNext_list_end (I.ok.hd hc) st p.isList (by simp; omega) fun h' eb => ⟨rfl, I.turned (t' := s.toks) (fun b o hb e => eb b o hb e) f0 f1 f3 f4 f5⟩
  self := fun _ _ _ _ _ st h => wpAny_pyIter_listiter st h
theorem turn_tuple {P : Program} {w : World} {K : PySem.W.Frag} {tg : Expr} (a it : Addr) : Turn P w K tg (Itt K a) [it] it (fun i h => h.IsTupleIter it a i) where
  mem := by simp
  obj := fun i h st b hb => by
    have e : b = it := by simpa using hb
    subst e
    obtain ⟨o, e, c, d⟩ := st
    exact ⟨o, e, fun v z => by rw [d] at z; cases z⟩
  keep := fun i h h' st k => st.at fun o e => k it (by simp) o e
  item := by
    intro X hP hw hK hc i pins s σ H E I hf st hg
    subst hP hw hK
    obtain ⟨xs, x, hq, hx⟩ := hg
    obtain ⟨its, rv, p, hz⟩ := I.tuple hq
    obtain ⟨u, hu, ru⟩ := rv.get hx
    obtain ⟨f0, f1, f2, f3, f4, f5⟩ := hf it (by simp)
    refine wpAny_pyNext_tuple_item st (show s.heap.IsTuple a its.toArray from p) (x := u) (by simpa using hu) fun h' st' sb => ?_
    have I1 : Inv X pins σ H { s with heap := h' } := I.turned (t' := s.toks) (fun b o hb e => (sb.2 b hb).trans e) f0 f1 f3 f4 f5
    obtain ⟨o, e, c, d⟩ := id st'
    exact ⟨u, rfl, go_of (s := { s with heap := h' }) e c d (by decide) ⟨x, H, I1, ru, ⟨rfl, fun ys hy => by rw [I.tuple_inj hy hq]; exact hx⟩, st', fun b hb => (hf b hb).1⟩⟩
  done := by
    intro X hP hw hK hc i pins s σ H E I hf st hg
    subst hP hw hK
    obtain ⟨xs, hq, hx⟩ := hg
    obtain ⟨its, rv, p, hz⟩ := I.tuple hq
    obtain ⟨f0, f1, f2, f3, f4, f5⟩ := hf it (by simp)
    have hl := rv.length
    exact wpAny_pyNext_tuple_end (I.ok.hd hc) st (show s.heap.IsTuple a its.toArray from p) (by simp; omega) fun h' eb => ⟨rfl, I.turned (t' := s.toks) (fun b o hb e => eb b o hb e) f0 f1 f3 f4 f5⟩
  self := fun _ _ _ _ _ st h => wpAny_pyIter_tupleiter st h
theorem turn_range {P : Program} {w : World} {K : PySem.W.Frag} {tg : Expr} (it : Addr) (lo : Int) (n : Nat) : Turn P w K tg (Itr lo n) [it] it (fun i h => IsRangeIter h it (lo + (i : Nat) * 1) ((n : Int) - (i : Nat)) 1) where
  mem := by simp
  obj := fun i h st b hb => by
    have e : b = it := by simpa using hb
    subst e
    exact ⟨_, st, fun v z => by
      have z' : Data.fields _ = Data.cell v := z
      cases z'⟩
  keep := fun i h h' st k => k it (by simp) _ st
  item := by
    intro X hP hw hK hc i pins s σ H E I hf st hg
    subst hP hw hK
    obtain ⟨f0, f1, f2, f3, f4, f5⟩ := hf it (by simp)
    have W := Walks.range (prog := X.prog) (w := X.w) (I.ok.hd hc) it lo 1 n
    refine W.item i s _ _ hg st fun v h' tk hv st' kk => ?_
    obtain ⟨t, rfl⟩ := hv
    have I1 : Inv X pins σ H { s with heap := h', toks := tk } := I.turned (fun b o hb e => kk b o (by simpa using hb) e) f0 f1 f3 f4 f5
    refine ⟨_, rfl, go_of (s := { s with heap := h', toks := tk }) (n := "range_iterator") st' rfl rfl (by decide) ⟨.int (lo + i), H, I1, ⟨t, ?_⟩, ⟨rfl, rfl⟩, st', fun b hb => (hf b hb).1⟩⟩
    rw [Int.mul_one]
  done := by
    intro X hP hw hK hc i pins s σ H E I hf st hg
    subst hP hw hK
    obtain ⟨f0, f1, f2, f3, f4, f5⟩ := hf it (by simp)
    exact wpAny_pyNext_range_end (I.ok.hd hc) st (by have : n <= i := hg; omega) fun h' eb => ⟨rfl, I.turned (t' := s.toks) (fun b o hb e => eb b o hb e) f0 f1 f3 f4 f5⟩
  self := fun _ _ _ _ _ st h => wpAny_pyIter_rangeiter st h
end L2
namespace L2
open PySem PySem.Spec PyProof.Rows
section
variable {X : Cx} {tg : Expr}
def iList (K : PySem.W.Frag) (tl : TE) : TI := fun σ H R => tl σ H fun x H1 => ∃ a, x = .ref a /\ (∃ xs, SqL K H1 a xs) /\ R (Itl K a) H1
def iTup (K : PySem.W.Frag) (tl : TE) : TI := fun σ H R => tl σ H fun x H1 => ∃ a, x = .ref a /\ (∃ xs, SqT K H1 a xs) /\ R (Itt K a) H1
theorem pi_list {l : Expr} {tl : TE} (hl : PE X l tl) : PI X tg l (iList X.K tl) := by
  intro pins s σ H R I h
  refine thn (hl pins s σ H _ I h) fun v s1 ⟨x, H1, I1, r1, q1⟩ => ?_
  obtain ⟨a, e, ⟨xs, hq⟩, q⟩ := q1
  subst e
  cases r1
  obtain ⟨its, rv, p, hz⟩ := I1.list hq
  refine wpAny_pyIter_list p.isList ?_
  refine ⟨s1.heap.objs.size, [s1.heap.objs.size], _, _, H1, rfl, I1.kept (t' := s1.toks) fun b o e => Heap.get?_push_of_some _ e, turn_list a _, ⟨_, Heap.get?_push_size _ rfl, rfl, rfl⟩, fun b hb => ?_, q⟩
  have e : b = s1.heap.objs.size := by simpa using hb
  subst e
  exact I1.fpOk (Nat.le_refl _) (I1.hok.fresh (Nat.le_refl _))
theorem pi_tup {l : Expr} {tl : TE} (hl : PE X l tl) : PI X tg l (iTup X.K tl) := by
  intro pins s σ H R I h
  refine thn (hl pins s σ H _ I h) fun v s1 ⟨x, H1, I1, r1, q1⟩ => ?_
  obtain ⟨a, e, ⟨xs, hq⟩, q⟩ := q1
  subst e
  cases r1
  obtain ⟨its, rv, p, hz⟩ := I1.tuple hq
  refine wpAny_pyIter_tuple (show s1.heap.IsTuple a its.toArray from p) ?_
  refine ⟨s1.heap.objs.size, [s1.heap.objs.size], _, _, H1, rfl, I1.kept (t' := s1.toks) fun b o e => Heap.get?_push_of_some _ e, turn_tuple a _, ⟨_, Heap.get?_push_size _ rfl, rfl, rfl⟩, fun b hb => ?_, q⟩
  have e : b = s1.heap.objs.size := by simpa using hb
  subst e
  exact I1.fpOk (Nat.le_refl _) (I1.hok.fresh (Nat.le_refl _))
theorem range_it {pins : List (Addr × Obj)} {σ : St} {H : Hp} {s : Shared} {R : It -> Hp -> Prop} {E : Value -> Shared -> Prop} {lo hi : Int} {t u v : Tok} {tk : Nat} (I : Inv X pins σ H s) (h1 : -(2 ^ 62) <= lo) (h2 : lo < 2 ^ 62) (h3 : -(2 ^ 62) <= hi) (h4 : hi < 2 ^ 62)
    (q : R (Itr lo (hi - lo).toNat) H) : wpAny (model X.prog X.w) X.A (pyIter (.ref s.heap.objs.size)) (PIE X pins σ tg R) E { s with heap := s.heap.push { cls := .type "range", data := .fields #[.int lo t, .int hi u, .int 1 v] }, toks := tk } := by
  refine wpAny_pyIter_range (IsRange.new ..) (small_one h1 h2 h3 h4) ?_
  have I1 : Inv X pins σ H { s with heap := s.heap.push { cls := .type "range", data := .fields #[.int lo t, .int hi u, .int 1 v] }, toks := tk } := I.kept fun b o e => Heap.get?_push_of_some _ e
  refine ⟨(s.heap.push { cls := .type "range", data := .fields #[.int lo t, .int hi u, .int 1 v] }).objs.size, [(s.heap.push { cls := .type "range", data := .fields #[.int lo t, .int hi u, .int 1 v] }).objs.size], _, _, H, rfl,
    I1.kept (t' := tk) fun b o e => Heap.get?_push_of_some _ e, turn_range _ lo (hi - lo).toNat, ?_, fun b hb => ?_, q⟩
  · have e1 : lo + ((0 : Nat) : Int) * 1 = lo := by simp
    have e2 : (((hi - lo).toNat : Nat) : Int) - ((0 : Nat) : Int) = Builtin.Range.rangeSize lo hi 1 := by rw [rangeSize_one]; split <;> omega
    show IsRangeIter _ _ (lo + ((0 : Nat) : Int) * 1) ((((hi - lo).toNat : Nat) : Int) - ((0 : Nat) : Int)) 1
    rw [e1, e2]
    exact Heap.get?_push_size _ rfl
  · have e : b = (s.heap.push { cls := .type "range", data := .fields #[.int lo t, .int hi u, .int 1 v] }).objs.size := by simpa using hb
    subst e
    exact I1.fpOk (Nat.le_refl _) (I1.hok.fresh (Nat.le_refl _))
def iRng1 (ta : TA) : TI := fun σ H R => ta σ H fun vs H1 => ∃ j : Int, vs = [.int j] /\ -(2 ^ 62) <= j /\ j < 2 ^ 62 /\ R (Itr 0 j.toNat) H1
theorem pi_range1 {a : Expr} {ta : TA} {p pos : Pos} (hg : Gl X "range") (hm : X.mg "range" = none) (ha : PA X [a] ta) (hs : starEach [a] X.env = [(false, eval a X.env)] := by rfl) : PI X tg (.Call (.Name "range" p) [a] [] pos) (iRng1 ta) := by
  intro pins s σ H R I h
  refine Call_ (ld_blt I hg hm boot_range (PyProof.Rows.callWith_type1 (thn (ha pos pins s σ H _ I h) fun us s1 ⟨vs, H1, I1, r1, q1⟩ => ?_) hs rfl))
  obtain ⟨j, e, q1, q2, q⟩ := q1
  subst e
  cases r1 with
  | cons r rr =>
    cases rr
    obtain ⟨t, rfl⟩ := r
    exact call_range_1 (range_it I1 (by omega) (by omega) q1 q2 (by simpa using q))
def tFor (wi : TI) (g : TG) (tb : TS) : TS := fun D σ H => wi σ H fun J H1 => ∃ W : Nat -> Nat -> St -> Hp -> Prop, (∃ m, W 0 m σ H1) /\ ∀ i m σ H, W i m σ H ->
  (J.stop i H /\ D.nx σ H) \/ (J.go i H /\ ∃ N : St -> Hp -> Prop, (∀ σ' H', N σ' H' -> ∃ m', m' < m /\ W (i + 1) m' σ' H') /\ ∀ x H', J.yld i H x H' -> g x σ H' fun σ2 H2 => tb { D with nx := N, ct := N, bk := D.nx } σ2 H2)
def pinsAt (fp : List Addr) (h : Heap) : List (Addr × Obj) := fp.filterMap fun b => (h.get? b).map fun o => (b, o)
theorem mem_pinsAt {fp : List Addr} {h : Heap} {b : Addr} {o : Obj} (hb : b ∈ fp) (e : h.get? b = some o) : (b, o) ∈ pinsAt fp h := List.mem_filterMap.mpr ⟨b, hb, by rw [e]; rfl⟩
theorem of_pinsAt {fp : List Addr} {h : Heap} {p : Addr × Obj} (hp : p ∈ pinsAt fp h) : p.1 ∈ fp /\ h.get? p.1 = some p.2 := by
  obtain ⟨b, hb, e⟩ := List.mem_filterMap.mp hp
  cases q : h.get? b with
  | none => rw [q] at e; cases e
  | some o =>
    rw [q] at e
    have e' : (b, o) = p := Option.some.inj e
    subst e'
    exact ⟨hb, q⟩
theorem Inv.pinned {pins : List (Addr × Obj)} {σ : St} {H : Hp} {s : Shared} {fp : List Addr} (I : Inv X pins σ H s) (hf : ∀ b ∈ fp, FpOk X pins H b) (ho : ∀ b ∈ fp, ∃ o, s.heap.get? b = some o /\ ∀ v, o.data ≠ .cell v) : Inv X (pins ++ pinsAt fp s.heap) σ H s :=
  I.pins_of fun p hp => (List.mem_append.mp hp).elim (fun z => I.pin p (List.mem_append_right _ z)) fun z => by
    obtain ⟨hb, e⟩ := of_pinsAt z
    obtain ⟨f0, f1, f2, _⟩ := hf p.1 hb
    obtain ⟨o, e', d⟩ := ho p.1 hb
    rw [e] at e'; cases e'
    exact ⟨e, f0, f1, f2, d⟩
theorem Inv.unpinned {pins pl : List (Addr × Obj)} {σ : St} {H : Hp} {s : Shared} (I : Inv X (pins ++ pl) σ H s) : Inv X pins σ H s := I.pins_of fun p hp => I.pin p (List.mem_append_right _ (List.mem_append_left _ hp))
theorem ps_for {iter : Expr} {body : List Stmt} {wi : TI} {g : TG} {tb : TS} {pos : Pos} (hp : PassesOwn (model X.prog X.w) X.A X.env X.xe) (hc : X.calm = true) (hi : PI X tg iter wi) (hg : PG X tg g) (hb : PSs X body tb)
    (hs : ∀ x, foldedSetIterable iter X.env x = pure x := by intro _; rfl) : PS X (.For tg iter body [] pos) (tFor wi g tb) := by
  intro pins s σ H D I h
  refine wpAny_For (thn (hi pins s σ H _ I h) fun v s1 h1 => thn h1 fun itv s2 h2 => ?_) hs
  obtain ⟨it, fp, tn, J, H2, e, I2, T, st2, f2, W, ⟨m0, w0⟩, turn⟩ := h2
  subst e
  -- what stays true of the iterator's objects through the loop
  have stat : ∀ {H' : Hp}, (∀ b ∈ fp, H' b = none) -> ∀ b ∈ fp, FpOk X pins H' b := fun hn b hb => ⟨hn b hb, (f2 b hb).2⟩
  refine codeAny_forLoop_any (fun n s' => ∃ i σ' H', Inv X pins σ' H' s' /\ tn i s'.heap /\ (∀ b ∈ fp, H' b = none) /\ W i n σ' H') ?_ m0 ⟨0, σ, H2, I2, st2, fun b hb => (f2 b hb).1, w0⟩
  rintro n s3 ⟨i, σ3, H3, I3, st3, fr3, w3⟩
  rcases turn i n σ3 H3 w3 with ⟨stop, qn⟩ | ⟨go, N, hN, step⟩
  · refine wpAny_passesOwn hp (thn (T.done X rfl rfl rfl hc i pins s3 σ3 H3 X.xe I3 (stat fr3) st3 stop) fun r s4 ⟨hr, I4⟩ => ?_)
    subst hr
    exact wpAny_execs_nil ⟨σ3, H3, I4, qn⟩
  · refine wpAny_passesOwn hp (thn (T.item X rfl rfl rfl hc i pins s3 σ3 H3 X.xe I3 (stat fr3) st3 go) fun r s4 ⟨u, hr, h4⟩ => ?_)
    subst hr
    refine wpAny_passesOwn hp (thn h4 fun _ s5 ⟨x, H5, I5, r5, y5, st5, fr5⟩ => ?_)
    have I5' := I5.pinned (stat fr5) (T.obj _ _ st5)
    refine wpAny_passesOwn hp (thn (hg _ s5 σ3 H5 x u _ I5' r5 (step x H5 y5)) fun _ s6 ⟨σ6, H6, I6, q6⟩ => ?_)
    refine wpAny_passesOwn hp (thn (hb _ s6 σ6 H6 _ I6 q6) fun f s7 q7 => ?_)
    have again : ∀ {σ7 : St} {H7 : Hp}, Inv X (pins ++ pinsAt fp s5.heap) σ7 H7 s7 -> N σ7 H7 -> ∃ m, m < n /\ ∃ i σ' H', Inv X pins σ' H' s7 /\ tn i s7.heap /\ (∀ b ∈ fp, H' b = none) /\ W i m σ' H' := fun {σ7 H7} I7 n7 => by
      obtain ⟨m', hm, w7⟩ := hN σ7 H7 n7
      refine ⟨m', hm, i + 1, σ7, H7, I7.unpinned, T.keep _ _ _ st5 fun b hb o e => (I7.pin (b, o) (List.mem_append_right _ (List.mem_append_right _ (mem_pinsAt hb e)))).1, fun b hb => ?_, w7⟩
      obtain ⟨o, e, d⟩ := T.obj _ _ st5 b hb
      exact (I7.pin (b, o) (List.mem_append_right _ (List.mem_append_right _ (mem_pinsAt hb e)))).2.1
    cases f with
    | next => obtain ⟨σ7, H7, I7, n7⟩ := q7; exact again I7 n7
    | cont => obtain ⟨σ7, H7, I7, n7⟩ := q7; exact again I7 n7
    | brk => obtain ⟨σ7, H7, I7, q7⟩ := q7; exact ⟨σ7, H7, I7.unpinned, q7⟩
    | ret v => obtain ⟨x7, σ7, H7, I7, r7, q7⟩ := q7; exact ⟨x7, σ7, H7, I7.unpinned, r7, q7⟩
end
end L2
namespace L2
open PySem PySem.Spec PyProof.Rows
abbrev R2 := V -> V -> Hp -> VK -> Prop
def OpR (X : Cx) (f : Value -> Value -> Sem Value) (r : R2) : Prop :=
  ∀ (pins : List (Addr × Obj)) (s : Shared) (σ : St) (H : Hp) (x y : V) (v u : Value) (Q : VK), Inv X pins σ H s -> RelV x v -> RelV y u -> r x y H Q ->
    wpAny (model X.prog X.w) X.A (f v u) (EP X pins σ Q) X.xe s
def CallR (X : Cx) (f : Value) (r : List V -> Hp -> VK -> Prop) : Prop :=
  ∀ (pins : List (Addr × Obj)) (s : Shared) (σ : St) (H : Hp) (xs : List V) (us : List Value) (Q : VK), Inv X pins σ H s -> Vals xs us -> r xs H Q ->
    wpAny (model X.prog X.w) X.A (call f us) (EP X pins σ Q) X.xe s
def tOp (r : R2) (ta tb : TE) : TE := fun σ H Q => ta σ H fun x H1 => tb σ H1 fun y H2 => r x y H2 Q
def rI (C : Int -> Int -> Prop) (g : Int -> Int -> V) : R2 := fun x y H Q => ∃ i j, x = .int i /\ y = .int j /\ C i j /\ Q (g i j) H
def rI0 (g : Int -> Int -> V) : R2 := fun x y H Q => ∃ i j, x = .int i /\ y = .int j /\ Q (g i j) H
section
variable {X : Cx} {a b c : Expr} {ta tb tc : TE} {pos : Pos}
theorem binT (ha : PE X a ta) (hb : PE X b tb) {pins : List (Addr × Obj)} {s : Shared} {σ : St} {H : Hp} {R : V -> V -> Hp -> Prop} (I : Inv X pins σ H s)
    (h : ta σ H fun x H1 => tb σ H1 fun y H2 => R x y H2) {Q : Value -> Shared -> Prop} {f : Value -> Value -> Sem Value}
    (hf : ∀ v u s2 x y H2, Inv X pins σ H2 s2 -> RelV x v -> RelV y u -> R x y H2 -> wpAny (model X.prog X.w) X.A (f v u) Q X.xe s2) :
    wpAny (model X.prog X.w) X.A (eval a X.env) (fun v s₁ => wpAny (model X.prog X.w) X.A (eval b X.env) (fun u s₂ => wpAny (model X.prog X.w) X.A (f v u) Q X.xe s₂) X.xe s₁) X.xe s := by
  refine thn (ha pins s σ H _ I h) fun v s1 ⟨x, H1, I1, r1, q1⟩ => ?_
  refine thn (hb pins s1 σ H1 _ I1 q1) fun u s2 ⟨y, H2, I2, r2, q2⟩ => ?_
  exact hf v u s2 x y H2 I2 r1 r2 q2
theorem pe_op {op : Operator} {r : R2} (ho : OpR X (binaryOp op) r) (ha : PE X a ta) (hb : PE X b tb) : PE X (.BinOp a op b pos) (tOp r ta tb) := by
  intro pins s σ H Q I h
  exact wpAny_BinOp (binT ha hb I h fun v u s2 x y H2 I2 rx ry q => ho pins s2 σ H2 x y v u Q I2 rx ry q)
theorem opI {f : Value -> Value -> Sem Value} {C : Int -> Int -> Prop} {g : Int -> Int -> Int}
    (rule : ∀ (i j : Int) (t u : Tok) (s : Shared) (Q : Value -> Shared -> Prop) (E : Value -> Shared -> Prop), C i j -> Q (.int (g i j) s.toks) { s with toks := s.toks + 1 } -> wpAny (model X.prog X.w) X.A (f (.int i t) (.int j u)) Q E s) :
    OpR X f (rI C fun i j => .int (g i j)) := by
  intro pins s σ H x y v u Q I rx ry h
  obtain ⟨i, j, rfl, rfl, hc, q⟩ := h
  obtain ⟨t, rfl⟩ := rx
  obtain ⟨t', rfl⟩ := ry
  exact rule i j t t' s _ _ hc ⟨.int (g i j), H, I.tok _, ⟨_, rfl⟩, q⟩
theorem opI0 {f : Value -> Value -> Sem Value} {g : Int -> Int -> Int}
    (rule : ∀ (i j : Int) (t u : Tok) (s : Shared) (Q : Value -> Shared -> Prop) (E : Value -> Shared -> Prop), Q (.int (g i j) s.toks) { s with toks := s.toks + 1 } -> wpAny (model X.prog X.w) X.A (f (.int i t) (.int j u)) Q E s) :
    OpR X f (rI0 fun i j => .int (g i j)) := by
  intro pins s σ H x y v u Q I rx ry h
  obtain ⟨i, j, rfl, rfl, q⟩ := h
  obtain ⟨t, rfl⟩ := rx
  obtain ⟨t', rfl⟩ := ry
  exact rule i j t t' s _ _ ⟨.int (g i j), H, I.tok _, ⟨_, rfl⟩, q⟩
theorem opB0 {f : Value -> Value -> Sem Value} {g : Int -> Int -> Bool}
    (rule : ∀ (i j : Int) (t u : Tok) (s : Shared) (Q : Value -> Shared -> Prop) (E : Value -> Shared -> Prop), Q (.bool (g i j)) s -> wpAny (model X.prog X.w) X.A (f (.int i t) (.int j u)) Q E s) :
    OpR X f (rI0 fun i j => .bl (g i j)) := by
  intro pins s σ H x y v u Q I rx ry h
  obtain ⟨i, j, rfl, rfl, q⟩ := h
  obtain ⟨t, rfl⟩ := rx
  obtain ⟨t', rfl⟩ := ry
  exact rule i j t t' s _ _ ⟨.bl (g i j), H, I, rfl, q⟩
def CDiv (i j : Int) : Prop := 0 < j /\ j < 1073741824
def CPow (i j : Int) : Prop := 0 <= j /\ j <= 1000000 /\ i.natAbs < 2 ^ 64
def CMul (i j : Int) : Prop := (-(2 ^ 64) < i /\ i < 2 ^ 64) \/ (-(2 ^ 64) < j /\ j < 2 ^ 64)
theorem CMul.ok {i j : Int} (h : CMul i j) : IntMulOk i j := by
  rcases h with ⟨h1, h2⟩ | ⟨h1, h2⟩
  · exact .of_left (intBits_le_64 h1 h2)
  · exact .of_right (intBits_le_64 h1 h2)
theorem two_pow_nn (k : Nat) : (0 : Int) <= 2 ^ k := by
  rw [two_pow_cast]
  exact Int.natCast_nonneg _
theorem op_add : OpR X (binaryOp .Add) (rI0 fun i j => .int (i + j)) := opI0 fun _ _ _ _ _ _ _ q => add_int q
theorem op_sub : OpR X (binaryOp .Sub) (rI0 fun i j => .int (i - j)) := opI0 fun _ _ _ _ _ _ _ q => sub_int q
theorem op_mul : OpR X (binaryOp .Mult) (rI CMul fun i j => .int (i * j)) := opI fun _ _ _ _ _ _ _ hc q => mul_int q hc.ok
theorem op_fdiv : OpR X (binaryOp .FloorDiv) (rI CDiv fun i j => .int (i / j)) := opI fun i j _ _ _ _ _ hc q => by
  have h1 : (0 : Int) < j := hc.1
  have h2 : j < 1073741824 := hc.2
  exact floordiv_int (by omega) (by rw [Int.fdiv_eq_ediv_of_nonneg i (by omega)]; exact q) (.inl (PyProof.noPylong_small (by omega)))
theorem op_mod : OpR X (binaryOp .Mod) (rI (fun _ j => 0 < j) fun i j => .int (i % j)) := opI fun i j _ _ _ _ _ hc q => by
  have h1 : (0 : Int) < j := hc
  exact mod_int' (by omega) (by rw [Int.fmod_eq_emod_of_nonneg i (by omega)]; exact q)
theorem op_shl : OpR X (binaryOp .LShift) (rI CPow fun i j => .int (i * 2 ^ j.toNat)) := opI fun _ _ _ _ _ _ _ hc q => lshift_int_small hc.1 hc.2.1 hc.2.2 q
theorem op_shr : OpR X (binaryOp .RShift) (rI (fun _ j => 0 <= j) fun i j => .int (i / 2 ^ j.toNat)) := opI fun i j _ _ _ _ _ hc q =>
  rshift_int hc (by rw [Int.fdiv_eq_ediv_of_nonneg i (two_pow_nn _)]; exact q)
theorem op_and : OpR X (binaryOp .BitAnd) (rI0 fun i j => .int (Builtin.bitAnd i j)) := opI0 fun _ _ _ _ _ _ _ q => and_int q
theorem op_or : OpR X (binaryOp .BitOr) (rI0 fun i j => .int (Builtin.bitOr i j)) := opI0 fun _ _ _ _ _ _ _ q => or_int q
theorem op_xor : OpR X (binaryOp .BitXor) (rI0 fun i j => .int (Builtin.bitXor i j)) := opI0 fun _ _ _ _ _ _ _ q => xor_int q
end
def scal : V -> V -> Bool
  | .non, .non => true | .non, .int _ => true | .int _, .non => true | .non, .bl _ => true | .bl _, .non => true | .non, .str _ => true | .str _, .non => true
  | .int _, .int _ => true | .bl _, .bl _ => true | .str _, .str _ => true | .byt _, .byt _ => true
  | .int _, .str _ => true | .str _, .int _ => true | .bl _, .str _ => true | .str _, .bl _ => true
  | _, _ => false
def rEq : R2 := fun x y H Q => scal x y = true /\ Q (.bl (decide (x = y))) H
def rNe : R2 := fun x y H Q => scal x y = true /\ Q (.bl (!decide (x = y))) H
theorem dec_int {i j : Int} : decide (V.int i = V.int j) = (i == j) := by
  rw [Bool.eq_iff_iff]
  simp
theorem dec_bl {i j : Bool} : decide (V.bl i = V.bl j) = (i == j) := by
  rw [Bool.eq_iff_iff]
  simp
theorem dec_str {i j : Str} : decide (V.str i = V.str j) = (i == j) := by
  rw [Bool.eq_iff_iff]
  simp
theorem dec_byt {i j : Array UInt8} : decide (V.byt i = V.byt j) = (i.toList == j.toList) := by
  rw [Bool.eq_iff_iff]
  cases i
  cases j
  simp
section
variable {X : Cx} {a b c : Expr} {ta tb tc : TE} {pos : Pos}
theorem fin_bl {pins : List (Addr × Obj)} {σ : St} {H : Hp} {s : Shared} {Q : VK} {k k' : Bool} (I : Inv X pins σ H s) (q : Q (.bl k) H) (e : k = k') : EP X pins σ Q (.bool k') s := by
  subst e
  exact ⟨.bl k, H, I, rfl, q⟩
theorem op_eq : OpR X (compareOp .Eq) rEq := by
  intro pins s σ H x y v u Q I rx ry h
  obtain ⟨hs, q⟩ := h
  cases x with
  | non =>
    cases rx
    cases y with
    | non => cases ry; exact PySem.EqNone.eq_none_none (fin_bl I q (by simp))
    | bl j => cases ry; exact PySem.EqNone.eq_none_bool (fin_bl I q (by simp))
    | int j => obtain ⟨t', rfl⟩ := ry; exact PySem.EqNone.eq_none_int (fin_bl I q (by simp))
    | str j => obtain ⟨t', rfl⟩ := ry; exact PySem.EqNone.eq_none_str (fin_bl I q (by simp))
    | _ => exact absurd (show false = true from hs) Bool.false_ne_true
  | bl i =>
    cases rx
    cases y with
    | non => cases ry; exact PySem.EqNone.eq_bool_none (fin_bl I q (by simp))
    | bl j => cases ry; exact eq_bool (fin_bl I q dec_bl)
    | str j => obtain ⟨t', rfl⟩ := ry; exact PySem.EqMixed.eq_bool_str (fin_bl I q (by simp))
    | _ => exact absurd (show false = true from hs) Bool.false_ne_true
  | int i =>
    obtain ⟨t, rfl⟩ := rx
    cases y with
    | non => cases ry; exact PySem.EqNone.eq_int_none (fin_bl I q (by simp))
    | int j => obtain ⟨t', rfl⟩ := ry; exact eq_int (fin_bl I q dec_int)
    | str j => obtain ⟨t', rfl⟩ := ry; exact PySem.EqMixed.eq_int_str (fin_bl I q (by simp))
    | _ => exact absurd (show false = true from hs) Bool.false_ne_true
  | str i =>
    obtain ⟨t, rfl⟩ := rx
    cases y with
    | non => cases ry; exact PySem.EqNone.eq_str_none (fin_bl I q (by simp))
    | bl j => cases ry; exact PySem.EqMixed.eq_str_bool (fin_bl I q (by simp))
    | int j => obtain ⟨t', rfl⟩ := ry; exact PySem.EqMixed.eq_str_int (fin_bl I q (by simp))
    | str j => obtain ⟨t', rfl⟩ := ry; exact eq_str (fin_bl I q dec_str)
    | _ => exact absurd (show false = true from hs) Bool.false_ne_true
  | byt i =>
    obtain ⟨t, rfl⟩ := rx
    cases y with
    | byt j => obtain ⟨t', rfl⟩ := ry; exact PySem.W.eq_bytes (fin_bl I q dec_byt)
    | _ => exact absurd (show false = true from hs) Bool.false_ne_true
  | _ => cases y <;> exact absurd (show false = true from hs) Bool.false_ne_true
theorem op_ne : OpR X (compareOp .NotEq) rNe := by
  intro pins s σ H x y v u Q I rx ry h
  obtain ⟨hs, q⟩ := h
  cases x with
  | non =>
    cases rx
    cases y with
    | non => cases ry; exact PySem.EqNone.ne_none_none (fin_bl I q (by simp))
    | bl j => cases ry; exact PySem.EqNone.ne_none_bool (fin_bl I q (by simp))
    | int j => obtain ⟨t', rfl⟩ := ry; exact PySem.EqNone.ne_none_int (fin_bl I q (by simp))
    | str j => obtain ⟨t', rfl⟩ := ry; exact PySem.EqNone.ne_none_str (fin_bl I q (by simp))
    | _ => exact absurd (show false = true from hs) Bool.false_ne_true
  | bl i =>
    cases rx
    cases y with
    | non => cases ry; exact PySem.EqNone.ne_bool_none (fin_bl I q (by simp))
    | bl j => cases ry; exact ne_bool (fin_bl I q (congrArg not dec_bl))
    | str j => obtain ⟨t', rfl⟩ := ry; exact PySem.EqMixed.ne_bool_str (fin_bl I q (by simp))
    | _ => exact absurd (show false = true from hs) Bool.false_ne_true
  | int i =>
    obtain ⟨t, rfl⟩ := rx
    cases y with
    | non => cases ry; exact PySem.EqNone.ne_int_none (fin_bl I q (by simp))
    | int j => obtain ⟨t', rfl⟩ := ry; exact ne_int (fin_bl I q (congrArg not dec_int))
    | str j => obtain ⟨t', rfl⟩ := ry; exact PySem.EqMixed.ne_int_str (fin_bl I q (by simp))
    | _ => exact absurd (show false = true from hs) Bool.false_ne_true
  | str i =>
    obtain ⟨t, rfl⟩ := rx
    cases y with
    | non => cases ry; exact PySem.EqNone.ne_str_none (fin_bl I q (by simp))
    | bl j => cases ry; exact PySem.EqMixed.ne_str_bool (fin_bl I q (by simp))
    | int j => obtain ⟨t', rfl⟩ := ry; exact PySem.EqMixed.ne_str_int (fin_bl I q (by simp))
    | str j => obtain ⟨t', rfl⟩ := ry; exact ne_str (fin_bl I q (congrArg not dec_str))
    | _ => exact absurd (show false = true from hs) Bool.false_ne_true
  | byt i =>
    obtain ⟨t, rfl⟩ := rx
    cases y with
    | byt j => obtain ⟨t', rfl⟩ := ry; exact PySem.W.ne_bytes (fin_bl I q (congrArg not dec_byt))
    | _ => exact absurd (show false = true from hs) Bool.false_ne_true
  | _ => cases y <;> exact absurd (show false = true from hs) Bool.false_ne_true
theorem op_lt : OpR X (compareOp .Lt) (rI0 fun i j => .bl (decide (i < j))) := opB0 fun _ _ _ _ _ _ _ q => lt_int q
theorem op_le : OpR X (compareOp .LtE) (rI0 fun i j => .bl (decide (i <= j))) := opB0 fun _ _ _ _ _ _ _ q => le_int q
theorem op_gt : OpR X (compareOp .Gt) (rI0 fun i j => .bl (decide (j < i))) := opB0 fun _ _ _ _ _ _ _ q => gt_int q
theorem op_ge : OpR X (compareOp .GtE) (rI0 fun i j => .bl (decide (j <= i))) := opB0 fun _ _ _ _ _ _ _ q => ge_int q
theorem nomark (b : Expr) {op : CmpOp} (h : op ≠ .In := by decide) (h2 : op ≠ .NotIn := by decide) : behindInMarks op b = false := by
  have e1 : (op == CmpOp.In) = false := by cases op <;> first | rfl | exact absurd rfl h
  have e2 : (op == CmpOp.NotIn) = false := by cases op <;> first | rfl | exact absurd rfl h2
  cases b <;> simp [behindInMarks, e1, e2]
theorem pe_cmpR {op : CmpOp} {r : R2} (ho : OpR X (compareOp op) r) (ha : PE X a ta) (hb : PE X b tb) (hm : behindInMarks op b = false) : PE X (.Compare a [op] [b] pos) (tOp r ta tb) := by
  intro pins s σ H Q I h
  exact wpAny_Compare1 (binT ha hb I h fun v u s2 x y H2 I2 rx ry q => ho pins s2 σ H2 x y v u Q I2 rx ry q) hm
def tTest (t : TE) : TT := fun σ H Q => t σ H fun x H' => ∃ k, x = .bl k /\ Q k H'
theorem pt_cmpR {op : CmpOp} {r : R2} (ho : OpR X (compareOp op) r) (ha : PE X a ta) (hb : PE X b tb) (hm : behindInMarks op b = false) : PT X (.Compare a [op] [b] pos) (tTest (tOp r ta tb)) := by
  intro pins s σ H Q I h
  refine wpAny_isTrue_Compare1 (thn (ha pins s σ H _ I h) fun v s1 ⟨x, H1, I1, r1, q1⟩ => thn (hb pins s1 σ H1 _ I1 q1) fun u s2 ⟨y, H2, I2, r2, q2⟩ =>
    thn (ho pins s2 σ H2 x y v u _ I2 r1 r2 q2) fun c s3 ⟨z, H3, I3, r3, k, e, q3⟩ => ?_) hm
  subst e
  cases r3
  exact wpAny_truthy_bool ⟨H3, I3, q3⟩
def tChain (r r' : R2) (ta tb tc : TE) : TE := fun σ H Q => ta σ H fun x H1 => tb σ H1 fun y H2 => r x y H2 fun z H3 => ∃ k, z = .bl k /\
  (if k = true then tc σ H3 fun w' H4 => r' y w' H4 Q else Q (.bl false) H3)
theorem pe_chain {op op' : CmpOp} {r r' : R2} (ho : OpR X (compareOp op) r) (ho' : OpR X (compareOp op') r') (ha : PE X a ta) (hb : PE X b tb) (hc : PE X c tc)
    (hm : lastMarks [op, op'] [b, c] = false := by with_unfolding_all rfl) : PE X (.Compare a [op, op'] [b, c] pos) (tChain r r' ta tb tc) := by
  intro pins s σ H Q I h
  refine Compare_chain (thn (ha pins s σ H _ I h) fun v s1 ⟨x, H1, I1, r1, q1⟩ => chain_link (thn (hb pins s1 σ H1 _ I1 q1) fun u s2 ⟨y, H2, I2, r2, q2⟩ =>
    thn (ho pins s2 σ H2 x y v u _ I2 r1 r2 q2) fun d s3 ⟨z, H3, I3, r3, k, e, q3⟩ => ?_)) hm
  subst e
  cases r3
  refine wpAny_truthy_bool ?_
  cases k with
  | false => exact ite_ff ⟨.bl false, H3, I3, rfl, q3⟩
  | true => exact ite_tt (chain_last (thn (hc pins s3 σ H3 _ I3 q3) fun w' s4 ⟨z', H4, I4, r4, q4⟩ => ho' pins s4 σ H4 y z' u w' Q I4 r2 r4 q4))
theorem line63 : (sizeLine : Nat) < 2 ^ 63 := by rw [sizeLine_eq]; decide
theorem vals1 {x : V} {us : List Value} (r : Vals [x] us) : ∃ u, us = [u] /\ RelV x u := by
  cases r with
  | cons r1 r2 => cases r2; exact ⟨_, rfl, r1⟩
theorem vals2 {x y : V} {us : List Value} (r : Vals [x, y] us) : ∃ u w', us = [u, w'] /\ RelV x u /\ RelV y w' := by
  cases r with
  | cons r1 r2 =>
    cases r2 with
    | cons r3 r4 => cases r4; exact ⟨_, _, rfl, r1, r3⟩
theorem call_int1 : CallR X (.type "int") (fun xs H Q => (∃ i, xs = [.int i] /\ Q (.int i) H) \/ ∃ k, xs = [.bl k] /\ Q (.int (if k then 1 else 0)) H) := by
  intro pins s σ H xs us Q I r h
  rcases h with ⟨i, rfl, q⟩ | ⟨k, rfl, q⟩
  · obtain ⟨u, rfl, t, rfl⟩ := vals1 r
    exact call_int_int ⟨.int i, H, I, ⟨_, rfl⟩, q⟩
  · obtain ⟨u, rfl, r1⟩ := vals1 r
    cases r1
    exact call_int_bool ⟨.int (if k then 1 else 0), H, I.tok _, ⟨_, rfl⟩, q⟩
end
end L2
namespace L2
open PySem PySem.Spec PyProof.Rows
structure ObjM (h : Heap) (x dx C : Addr) (mA : Str -> Option Value) : Prop where
  obj : h.get? x = some (PySem.W.instObj C dx)
  ns : h.Ns1 dx mA
  ne : dx ≠ x
theorem lookIn_ns {h : Heap} {dx : Addr} {mA : Str -> Option Value} (n : h.Ns1 dx mA) : ∃ od, h.get? dx = some od /\ ∀ name, PySem.W.lookIn name od = some (mA name) := by
  obtain ⟨o, es, ep, ho, hd, hk, _, hm⟩ := n
  refine ⟨o, ho, fun name => ?_⟩
  have e := hm name
  unfold nsFind findBy at e
  rw [<- Array.find?_toList] at e
  unfold PySem.W.lookIn
  rw [hd]
  dsimp only
  split
  · rename_i y q
    rw [q] at e
    exact congrArg some e
  · rename_i q
    rw [q] at e
    have a : es.toList.any (·.refKey) = false := by
      rw [List.any_eq_false]
      intro y hy
      obtain ⟨z, t, hkey⟩ := hk y (Array.mem_toList_iff.mp hy)
      simp [DictEntry.refKey, hkey]
    have a' : ¬ es.toList.any (·.refKey) = true := by rw [a]; exact Bool.false_ne_true
    rw [if_neg a']
    exact congrArg some e
theorem ObjM.look {h : Heap} {x dx C : Addr} {mA : Str -> Option Value} (I : ObjM h x dx C mA) : ∃ od, PySem.W.InstAt h x (PySem.W.instObj C dx) C (some od) /\ ∀ name, PySem.W.lookIn name od = some (mA name) :=
  let ⟨od, ho, hl⟩ := lookIn_ns I.ns
  ⟨od, ⟨I.obj, rfl, rfl, ho⟩, hl⟩
section
variable {prog : Program} {w : World} {A : Around} {E : Value -> Shared -> Prop} {s : Shared} {K : PySem.W.Frag} {x dx C f : Addr} {mA : Str -> Option Value} {name : Str} {v : Value}
theorem get_map {expr : Bool} {Q : Value -> Shared -> Prop} (X : K.In s.heap) (I : ObjM s.heap x dx C mA) (hg : PySem.W.plainGet K C name = true) (hh : PySem.W.hasDictIn K C = true)
    (ha : PySem.W.findIn K (.ref C) name = some none) (hv : mA name = some v) (hv' : PySem.W.handedIn v = true) (h : Q v { s with toks := s.toks + 1 }) :
    wpAny (model prog w) A (getAttr (.ref x) name expr) Q E s := by
  obtain ⟨od, J, hl⟩ := I.look
  exact PySem.W.get_value X J (PySem.W.plainGet_of hg).1 (PySem.W.findObj_own hh ha rfl (by rw [hl, hv])) hv' h
theorem get_meth {pl : Sem Bool} {Q : Value × List Value -> Shared -> Prop} (X : K.In s.heap) (I : ObjM s.heap x dx C mA) (hg : PySem.W.plainGet K C name = true)
    (hf : PySem.W.findIn K (.ref C) name = some (some (.ref f))) (ht : PySem.W.isFn K (.ref f) = true) (hv : mA name = none) (h : Q (.ref f, [.ref x]) s) :
    wpAny (model prog w) A (getMethod (.ref x) name pl) Q E s := by
  obtain ⟨od, J, hl⟩ := I.look
  exact PySem.W.method_fn X J (PySem.W.plainGet_of hg).1 (PySem.W.plainGet_of hg).2 hf (beq_iff_eq.mp ht) (by show (PySem.W.lookIn name od).map (·.isSome) = some false; rw [hl, hv]; rfl) h
theorem set_map {ns : List Str} {Q : Unit -> Shared -> Prop} (X : K.In s.heap) (I : ObjM s.heap x dx C mA)
    (hs : PySem.W.findIn K (.ref C) "__setattr__" = some (some (.builtin "object.__setattr__"))) (hp : PySem.W.plainOver K C = true) (ht : PySem.W.takerIn K C name = some none) (hh : PySem.W.hasDictIn K C = true)
    (hw : PySem.Within mA ns) (hsz : ns.length <= sizeLine)
    (h : ∀ h', ObjM h' x dx C (fun y => if y = name then some v else mA y) -> Heap.SameBut dx s.heap h' -> Q () { s with heap := h', toks := s.toks + 2 }) :
    wpAny (model prog w) A (setAttr (.ref x) name v) Q E s := by
  obtain ⟨od, J, hl⟩ := I.look
  refine PySem.W.set_plain X J hs (PySem.W.osa_open (s := { s with toks := s.toks + 1 }) (r := none) X J hp ht fun b => ?_)
  obtain ⟨cd, hc, hd'⟩ := PySem.W.any_some hh
  have hx : s.heap.get? x = some ⟨.ref C, some dx, .plain, #[]⟩ := I.obj
  refine wpAny_bind (wpAny_pure (wpAny_bind (wpAny_bind (wpAny_loadPart hx (wpAny_bind (PySem.W.Looks.here (s := { s with toks := s.toks + 1 }) (PySem.W.looks_clsIn X hc) ?_))))))
  rw [hd']
  refine wpAny_pure (a := some dx) (wpAny_bind (wpAny_pure (wpAny_bind ?_)))
  refine wpAny_nsSet1 (s := { s with toks := s.toks + 1 }) I.ns fun h' hn2 hs2 => ?_
  obtain ⟨oD, esD, epD, hoD, hdD, hcD⟩ := hn2.count (PySem.Within.cons name v hw)
  refine wpAny_bind (wpAny_lookBehind hoD (by rw [hdD]; exact pastItsLine_dict (Nat.le_trans hcD (by rw [List.length_cons]; omega))) ?_)
  exact wpAny_pure (h _ ⟨(hs2.2 _ (Ne.symm I.ne)).trans I.obj, hn2, I.ne⟩ hs2)
theorem make_map {R : Result -> Shared -> Prop} {vs : List Value} {kw : List (Str × Value)} (X : K.In s.heap) (hm : PySem.W.makesIn K C = true)
    (hi : PySem.W.findIn K (.ref C) "__init__" = some (some (.ref f))) (hf : PySem.W.typeIn K (.ref f) = some (.type "function"))
    (h : codeAny (model prog w) (A.under (.builtin "type.__call__" ⟨.ref C :: vs, kw⟩)) (.call (.ref f) ⟨.ref (s.heap.objs.size + 1) :: vs, kw⟩) (PySem.W.InitBack (s.heap.objs.size + 1) R)
      { s with heap := (s.heap.push PySem.W.emptyDict).push (PySem.W.instObj C s.heap.objs.size) }) :
    codeAny (model prog w) A (.call (.ref C) ⟨vs, kw⟩) R s := by
  obtain ⟨hh, g, d, t, os⟩ := s
  exact PySem.W.make_core (PySem.W.makes_of X hm) (PySem.W.looks_findIn X hi) (fun self => PySem.W.bind_fn X self hf) (.inl rfl) h
end
def putF (f : Str) (v : V) : List (Str × V) -> List (Str × V)
  | [] => [(f, v)]
  | (g, x) :: r => if g = f then (g, v) :: r else (g, x) :: putF f v r
theorem lookup_putF (f g : Str) (v : V) : ∀ fs : List (Str × V), (putF f v fs).lookup g = if g = f then some v else fs.lookup g
  | [] => by
    show List.lookup g [(f, v)] = _
    by_cases h : g = f
    · have hb : (g == f) = true := beq_iff_eq.mpr h
      simp only [List.lookup, hb, if_pos h]
    · have hb : (g == f) = false := beq_eq_false_iff_ne.mpr h
      simp only [List.lookup, hb, if_neg h]
  | (k, x) :: r => by
    have ih := lookup_putF f g v r
    rw [show putF f v ((k, x) :: r) = (if k = f then (k, v) :: r else (k, x) :: putF f v r) from rfl]
    by_cases hk : k = f
    · rw [if_pos hk]
      by_cases h : g = k
      · have hb : (g == k) = true := beq_iff_eq.mpr h
        simp only [List.lookup, hb, if_pos (h.trans hk)]
      · have hb : (g == k) = false := beq_eq_false_iff_ne.mpr h
        simp only [List.lookup, hb, if_neg (fun e : g = f => h (e.trans hk.symm))]
    · rw [if_neg hk]
      by_cases h : g = k
      · have hb : (g == k) = true := beq_iff_eq.mpr h
        simp only [List.lookup, hb, if_neg (fun e : g = f => hk (h.symm.trans e))]
      · have hb : (g == k) = false := beq_eq_false_iff_ne.mpr h
        simp only [List.lookup, hb]
        exact ih
theorem keys_putF (f : Str) (v : V) : ∀ fs : List (Str × V), f ∈ (putF f v fs).map (·.1) /\ ∀ g, g ∈ fs.map (·.1) -> g ∈ (putF f v fs).map (·.1)
  | [] => ⟨by simp [putF], fun g h => by simp at h⟩
  | (k, x) :: r => by
    obtain ⟨i1, i2⟩ := keys_putF f v r
    rw [show putF f v ((k, x) :: r) = (if k = f then (k, v) :: r else (k, x) :: putF f v r) from rfl]
    by_cases hk : k = f
    · rw [if_pos hk]
      subst hk
      exact ⟨by simp, fun g h => by simpa using h⟩
    · rw [if_neg hk]
      refine ⟨?_, fun g h => ?_⟩
      · rw [List.map_cons]
        exact List.mem_cons_of_mem _ i1
      · rw [List.map_cons] at h ⊢
        rcases List.mem_cons.mp h with e | e
        · exact List.mem_cons.mpr (.inl e)
        · exact List.mem_cons_of_mem _ (i2 g e)
theorem length_putF (f : Str) (v : V) : ∀ fs : List (Str × V), (putF f v fs).length <= fs.length + 1
  | [] => by simp [putF]
  | (k, x) :: r => by
    have ih := length_putF f v r
    rw [show putF f v ((k, x) :: r) = (if k = f then (k, v) :: r else (k, x) :: putF f v r) from rfl]
    by_cases hk : k = f
    · rw [if_pos hk, List.length_cons, List.length_cons]; omega
    · rw [if_neg hk, List.length_cons, List.length_cons]; omega
theorem RelO.some_of {v : V} {o : Option Value} (r : RelO (some v) o) : ∃ u, o = some u /\ RelV v u := by
  cases o with
  | none => exact (show False from r).elim
  | some u => exact ⟨u, rfl, r⟩
theorem RelO.none_of {o : Option Value} (r : RelO none o) : o = none := by
  cases o with
  | none => rfl
  | some u => exact (show False from r).elim
theorem handed_of {v : V} {u : Value} (r : RelV v u) : PySem.W.handedIn u = true := by
  cases v with
  | non => cases (show u = Value.none from r); rfl
  | bl b => cases (show u = Value.bool b from r); rfl
  | int i => obtain ⟨t, e⟩ := (show ∃ t, u = Value.int i t from r); cases e; rfl
  | str x => obtain ⟨t, e⟩ := (show ∃ t, u = Value.str x t from r); cases e; rfl
  | byt b => obtain ⟨t, e⟩ := (show ∃ t, u = Value.bytes b t from r); cases e; rfl
  | flt b => obtain ⟨t, e⟩ := (show ∃ t, u = Value.float b t from r); cases e; rfl
  | ref a => cases (show u = Value.ref a from r); rfl
  | ty n => cases (show u = Value.type n from r); rfl
section
variable {P : Program} {w : World} {H H' : Hp} {h h' : Heap} {a C dx : Addr} {fs fs' : List (Str × V)}
theorem ins_get (hok : HOk P w H h) (e : H a = some (.ins C dx fs)) : ∃ mA, ObjM h a dx C mA /\ (∀ f, RelO (fs.lookup f) (mA f)) /\ PySem.Within mA (fs.map (·.1)) /\ fs.length <= 1000 /\ H dx = some (.own a) := by
  obtain ⟨d, z, ne, ob, mA, n, r, q⟩ := (show ObjOk P w H h a (.ins C dx fs) from hok a _ e)
  exact ⟨mA, ⟨ob, n, ne⟩, r, q, z, d⟩
end
structure Cls (K : PySem.W.Frag) (C : Addr) : Prop where
  pg : PySem.W.plainGet K C Str.empty = true
  hd : PySem.W.hasDictIn K C = true
  po : PySem.W.plainOver K C = true
  sa : PySem.W.findIn K (.ref C) "__setattr__" = some (some (.builtin "object.__setattr__"))
theorem Cls.get {K : PySem.W.Frag} {C : Addr} (c : Cls K C) (f : Str) : PySem.W.plainGet K C f = true := c.pg
def NoAttr (K : PySem.W.Frag) (C : Addr) (f : Str) : Prop := PySem.W.findIn K (.ref C) f = some none
theorem NoAttr.taker {K : PySem.W.Frag} {C : Addr} {f : Str} (n : NoAttr K C f) : PySem.W.takerIn K C f = some none := by
  unfold PySem.W.takerIn
  rw [show PySem.W.findIn K (.ref C) f = some none from n]
  rfl
structure Meth (K : PySem.W.Frag) (C : Addr) (m : Str) (f : Addr) : Prop where
  at_ : PySem.W.findIn K (.ref C) m = some (some (.ref f))
  fn : PySem.W.isFn K (.ref f) = true
  kp : PySem.W.keepIn K (.ref f) = true
section
variable {X : Cx} {pins : List (Addr × Obj)} {σ : St} {H : Hp} {s : Shared} {a C dx : Addr} {fs : List (Str × V)} {f : Str} {v : V} {A : Around} {E : Value -> Shared -> Prop}
theorem getattr_ok {b : Bool} {Q : Value -> Shared -> Prop} (I : Inv X pins σ H s) (e : H a = some (.ins C dx fs)) (c : Cls X.K C) (n : NoAttr X.K C f) (l : fs.lookup f = some v)
    (h : ∀ u s', Inv X pins σ H s' -> RelV v u -> Q u s') : wpAny (model X.prog X.w) A (getAttr (.ref a) f b) Q E s := by
  obtain ⟨mA, O, r, _, _, _⟩ := ins_get I.hok e
  obtain ⟨u, hu, ru⟩ := RelO.some_of (v := v) (o := mA f) (by rw [<- l]; exact r f)
  exact get_map I.kIn O (c.get f) c.hd n hu (handed_of ru) (h u _ (I.tok _) ru)
theorem getmeth_ok {m : Str} {g : Addr} {pl : Sem Bool} {Q : Value × List Value -> Shared -> Prop} (I : Inv X pins σ H s) (e : H a = some (.ins C dx fs)) (c : Cls X.K C) (k : Meth X.K C m g) (l : fs.lookup m = none)
    (h : Q (.ref g, [.ref a]) s) : wpAny (model X.prog X.w) A (getMethod (.ref a) m pl) Q E s := by
  obtain ⟨mA, O, r, _, _, _⟩ := ins_get I.hok e
  have hn : mA m = none := RelO.none_of (by rw [<- l]; exact r m)
  exact get_meth I.kIn O (c.get m) k.at_ k.fn hn h
theorem setattr_ok {y : V} {u : Value} {Q : Unit -> Shared -> Prop} (I : Inv X pins σ H s) (e : H a = some (.ins C dx fs)) (c : Cls X.K C) (n : NoAttr X.K C f) (hl : fs.length < 1000) (ry : RelV y u)
    (h : ∀ s', Inv X pins σ (upd H a (.ins C dx (putF f y fs))) s' -> Q () s') : wpAny (model X.prog X.w) A (setAttr (.ref a) f u) Q E s := by
  obtain ⟨mA, O, r, wi, _, ho⟩ := ins_get I.hok e
  have hz : (fs.map (·.1)).length <= sizeLine := by rw [List.length_map, sizeLine_eq]; omega
  refine set_map I.kIn O c.sa c.po n.taker c.hd wi hz fun h' O' sb => h _ ?_
  have hd : ∃ o, h'.get? dx = some o := let ⟨o, _, _, e', _⟩ := O'.ns; ⟨o, e'⟩
  refine I.write (x := a) (e := dx) (by rw [e]; exact True.intro) (.inr ho) (fun b q hb z => (sb.2 b hb).trans z) hd ?_
  refine ⟨by rw [upd_ne O.ne]; exact ho, ?_, O.ne, O'.obj, _, O'.ns, fun g => ?_, fun g hg => ?_⟩
  · have := length_putF f y fs; omega
  · show RelO ((putF f y fs).lookup g) (if g = f then some u else mA g)
    rw [lookup_putF]
    by_cases q : g = f
    · rw [if_pos q, if_pos q]; exact ry
    · rw [if_neg q, if_neg q]; exact r g
  · by_cases q : g = f
    · rw [q]; exact (keys_putF f y fs).1
    · refine (keys_putF f y fs).2 g (wi g fun z => hg ?_)
      show (if g = f then some u else mA g) = none
      rw [if_neg q]; exact z
theorem Inv.made (I : Inv X pins σ H s) : Inv X pins σ (upd (upd H s.heap.objs.size (.own (s.heap.objs.size + 1))) (s.heap.objs.size + 1) (.ins C s.heap.objs.size []))
    { s with heap := (s.heap.push PySem.W.emptyDict).push (PySem.W.instObj C s.heap.objs.size) } := by
  have e1 : (s.heap.push PySem.W.emptyDict).get? s.heap.objs.size = some PySem.W.emptyDict := Heap.get?_push_size s.heap rfl
  have e2 : ((s.heap.push PySem.W.emptyDict).push (PySem.W.instObj C s.heap.objs.size)).get? (s.heap.objs.size + 1) = some (PySem.W.instObj C s.heap.objs.size) := by
    have := Heap.get?_push_size (s.heap.push PySem.W.emptyDict) (o := PySem.W.instObj C s.heap.objs.size) rfl
    rwa [Heap.size_push] at this
  have e3 : (s.heap.push PySem.W.emptyDict).Ns s.heap.objs.size (fun _ => none) := ⟨PySem.W.emptyDict, #[], _, e1, rfl, (fun e he => absurd he (by simp)), fun _ => rfl⟩
  have I1 := I.laid (a := s.heap.objs.size) (o := .own (s.heap.objs.size + 1)) (h' := s.heap.push PySem.W.emptyDict) (t' := s.toks) (fun b u q => Heap.get?_push_of_some _ q) (Nat.le_refl _) ⟨_, e1⟩
  refine I1.laid (a := s.heap.objs.size + 1) (o := .ins C s.heap.objs.size []) (t' := s.toks) (fun b u q => Heap.get?_push_of_some _ q) (Nat.le_of_eq (Heap.size_push _ _)) ?_
  have ne : s.heap.objs.size ≠ s.heap.objs.size + 1 := Nat.ne_of_lt (Nat.lt_succ_self _)
  refine ⟨by rw [upd_ne ne, upd_same], Nat.zero_le _, ne, e2, fun _ => none, (Heap.Ns1.of_empty e3).at fun o q => Heap.get?_push_of_some _ q, fun _ => True.intro, fun y hy => absurd rfl hy⟩
theorem attr_of {prog : Program} {w : World} {env : Env} {e : Expr} {f : Str} {pos : Pos} {s : Shared} {Q : Value -> Shared -> Prop} (hb : attributeBase e f env (eval e env) = eval e env)
    (h : wpAny (model prog w) A (eval e env) (fun o s₁ => wpAny (model prog w) A (getAttr o f true) Q E s₁) E s) : wpAny (model prog w) A (eval (.Attribute e f pos) env) Q E s :=
  Attribute_any_ h (by rw [arm_eval_Attribute, hb])
end
def tFld (K : PySem.W.Frag) (ta : TE) (f : Str) : TE := fun σ H Q => ta σ H fun x H1 => ∃ a C dx fs v, x = .ref a /\ H1 a = some (.ins C dx fs) /\ Cls K C /\ NoAttr K C f /\ fs.lookup f = some v /\ Q v H1
def sFld (K : PySem.W.Frag) (ta tv : TE) (f : Str) : TS := fun D σ H => tv σ H fun y H1 => ta σ H1 fun x H2 => ∃ a C dx fs, x = .ref a /\ H2 a = some (.ins C dx fs) /\ Cls K C /\ NoAttr K C f /\ fs.length < 1000 /\
  D.nx σ (upd H2 a (.ins C dx (putF f y fs)))
section
variable {X : Cx} {o e value : Expr} {f : Str} {pos pos' tpos : Pos} {ta tv : TE}
theorem pe_fld (he : PE X e ta) (hb : attributeBase e f X.env (eval e X.env) = eval e X.env) : PE X (.Attribute e f pos) (tFld X.K ta f) := by
  intro pins s σ H Q I h
  refine attr_of hb (thn (he pins s σ H _ I h) fun u s1 ⟨x, H1, I1, rx, a, C, dx, fs, v, ex, ea, c, n, l, q⟩ => ?_)
  subst ex
  obtain rfl : u = Value.ref a := rx
  exact getattr_ok I1 ea c n l fun u' s2 I2 ru => ⟨v, H1, I2, ru, q⟩
theorem ps_fld (ha : PE X o ta) (hv : PE X value tv) (hs : swapsWith value (some (.Attribute o f pos')) pos.line X.env = pure false) : PS X (.Assign [.Attribute o f pos'] value pos) (sFld X.K ta tv f) := by
  intro pins s σ H D I h
  refine plainObj_wpAny_Assign_Attribute (thn (hv pins s σ H _ I h) fun u s1 ⟨y, H1, I1, ry, q⟩ => thn (ha pins s1 σ H1 _ I1 q) fun ov s2 ⟨x, H2, I2, rx, a, C, dx, fs, ex, ea, c, n, l, q2⟩ => ?_) hs
  subst ex
  obtain rfl : ov = Value.ref a := rx
  exact setattr_ok I2 ea c n l ry fun s3 I3 => ⟨σ, _, I3, q2⟩
end
section
variable {X : Cx} {pins : List (Addr × Obj)} {σ : St} {H : Hp} {s : Shared} {A : Around} {E : Value -> Shared -> Prop} {Q : Value -> Shared -> Prop} {c : Value} {b : Bool}
inductive TyOf (K : PySem.W.Frag) (H : Hp) : V -> Value -> Prop where
  | non : TyOf K H .non (.type "NoneType")
  | bl (x : Bool) : TyOf K H (.bl x) (.type "bool")
  | int (i : Int) : TyOf K H (.int i) (.type "int")
  | str (x : Str) : TyOf K H (.str x) (.type "str")
  | flt (x : UInt64) : TyOf K H (.flt x) (.type "float")
  | lst {a : Addr} {xs : List V} (e : H a = some (.lst xs)) : TyOf K H (.ref a) (.type "list")
  | frz {a : Addr} {o : Obj} {xs : List V} (e : H a = some (.frz o (.lst xs))) : TyOf K H (.ref a) (.type "list")
  | tup {a : Addr} {xs : List V} (e : H a = some (.tup xs)) : TyOf K H (.ref a) (.type "tuple")
  | dK {a : Addr} {kvs : List (Key × V)} (e : H a = some (.dK kvs)) : TyOf K H (.ref a) (.type "dict")
  | dT {a : Addr} {kvs : List (List Key × V)} (e : H a = some (.dT kvs)) : TyOf K H (.ref a) (.type "dict")
  | ins {a C dx : Addr} {fs : List (Str × V)} (e : H a = some (.ins C dx fs)) (cl : Cls K C) (ha : PySem.W.findIn K (.ref C) "__class__" = some (some (.builtin "object.__class__")))
      (hn : PySem.W.specialIn K (.builtin "object.__class__") "__get__" = some (some (.builtin "getset_descriptor.__get__"))) (htk : PySem.W.takesIn K (.builtin "object.__class__") = some true)
      (hm : PySem.W.mroIn K C (.type "object") = some true) : TyOf K H (.ref a) (.ref C)
theorem isinst_ok {x : V} {u t : Value} (I : Inv X pins σ H s) (rx : RelV x u) (ty : TyOf X.K H x t) (e : PySem.W.kitOne X.K t c = some b) (h : ∀ tk, Q (.bool b) { s with toks := tk }) :
    wpAny (model X.prog X.w) A (call (.builtin "isinstance") [u, c]) Q E s := by
  cases ty with
  | non => cases (show u = Value.none from rx); exact PySem.W.kia_one PySem.W.kitx_none I.kIn True.intro e (fun z => nomatch z) h
  | bl y => cases (show u = Value.bool y from rx); exact PySem.W.kia_one PySem.W.kitx_bool I.kIn True.intro e (fun z => nomatch z) h
  | int i => obtain ⟨t, q⟩ := (show ∃ t, u = Value.int i t from rx); cases q; exact PySem.W.kia_one PySem.W.kitx_int I.kIn True.intro e (fun z => nomatch z) h
  | str y => obtain ⟨t, q⟩ := (show ∃ t, u = Value.str y t from rx); cases q; exact PySem.W.kia_one PySem.W.kitx_str I.kIn True.intro e (fun z => nomatch z) h
  | flt y => obtain ⟨t, q⟩ := (show ∃ t, u = Value.float y t from rx); cases q; exact PySem.W.kia_one PySem.W.kitx_float I.kIn True.intro e (fun z => nomatch z) h
  | @lst a xs ea =>
    cases (show u = Value.ref a from rx)
    obtain ⟨_, _, n, _, h1⟩ := (show ObjOk X.prog X.w H s.heap a (.lst xs) from I.hok a _ ea)
    exact PySem.W.kia_one PySem.W.kitx_list I.kIn ⟨_, h1, rfl⟩ e (fun z => nomatch z) h
  | @frz a ob xs ea =>
    cases (show u = Value.ref a from rx)
    obtain ⟨_, _, _, n, _, h1⟩ := (show ObjOk X.prog X.w H s.heap a (.frz ob (.lst xs)) from I.hok a _ ea)
    exact PySem.W.kia_one PySem.W.kitx_list I.kIn ⟨_, h1, rfl⟩ e (fun z => nomatch z) h
  | @tup a xs ea =>
    cases (show u = Value.ref a from rx)
    obtain ⟨_, _, _, p⟩ := (show ObjOk X.prog X.w H s.heap a (.tup xs) from I.hok a _ ea)
    obtain ⟨o, h1, h2, _⟩ := p
    exact PySem.W.kia_one PySem.W.kitx_tuple I.kIn ⟨o, h1, h2⟩ e (fun z => nomatch z) h
  | @dK a kvs ea =>
    cases (show u = Value.ref a from rx)
    obtain ⟨_, _, vs, _, p⟩ := (show ObjOk X.prog X.w H s.heap a (.dK kvs) from I.hok a _ ea)
    obtain ⟨o, es, ep, h1, h2, _⟩ := p
    exact PySem.W.kia_one PySem.W.kitx_dict I.kIn ⟨o, h1, h2.1⟩ e (fun z => nomatch z) h
  | @dT a kvs ea =>
    cases (show u = Value.ref a from rx)
    obtain ⟨_, _, xs, _, o, es, ep, h1, h2, _⟩ := (show ObjOk X.prog X.w H s.heap a (.dT kvs) from I.hok a _ ea)
    exact PySem.W.kia_one PySem.W.kitx_dict I.kIn ⟨o, h1, h2.1⟩ e (fun z => nomatch z) h
  | @ins a C dx fs ea cl ha hn htk hm =>
    cases (show u = Value.ref a from rx)
    obtain ⟨mA, O, _⟩ := ins_get I.hok ea
    obtain ⟨od, J, _⟩ := O.look
    exact PySem.W.kia_one (PySem.W.kitx_own (cl.get _) cl.hd ha hn htk hm) I.kIn J e (fun z => nomatch z) h
end
end L2
namespace L2
open PySem PySem.Spec PyProof.Rows
structure Room (k : Nat) (A : Around) : Prop where
  hd : A.handled = none
  dp : A.depth + 3 * k + 5 < recursionLimit
  un : A.units + 16 * k + 200 < cLine
  gd : A.guards = some []
theorem Room.mono {j k : Nat} {A : Around} (r : Room k A) (h : j <= k) : Room j A := ⟨r.hd, by have := r.dp; omega, by have := r.un; omega, r.gd⟩
theorem Room.deeper {k : Nat} {A : Around} (r : Room (k + 1) A) (env : Env) : Room k (A.deeper env) :=
  ⟨r.hd, by have := r.dp; show A.depth + 1 + 3 * k + 5 < _; omega, by have := r.un; show A.units + 3 + 16 * k + 200 < _; omega, r.gd⟩
theorem make_depth {A : Around} {C : Addr} {us : List Value} {kw : List (Str × Value)} : (A.under (.builtin "type.__call__" ⟨.ref C :: us, kw⟩)).depth = A.depth + 1 := by
  first | rfl | simp [Around.under, Code.weight, Code.isCreation, Code.isGuard, Code.isCaller, Code.frames, Code.isFrame, guardIds]
theorem make_units {A : Around} {C : Addr} {us : List Value} {kw : List (Str × Value)} : (A.under (.builtin "type.__call__" ⟨.ref C :: us, kw⟩)).units = A.units + 1 := by
  first | rfl | simp [Around.under, Code.cUnits, Code.frames, Code.isFrame]
theorem Room.make {k : Nat} {A : Around} (r : Room (k + 1) A) (C : Addr) (us : List Value) (kw : List (Str × Value)) : Room k (A.under (.builtin "type.__call__" ⟨.ref C :: us, kw⟩)) :=
  ⟨r.hd, by have := r.dp; rw [make_depth]; omega, by have := r.un; rw [make_units]; omega, by simp [Around.under, Code.guards, Code.isGuard, guardIds, pushGuards, r.gd]⟩
theorem Room.depth {k : Nat} {A : Around} (r : Room k A) : A.depth < recursionLimit := by have := r.dp; omega
def tNil : TA := fun _ H Q => Q [] H
def tCons (ta : TE) (tr : TA) : TA := fun σ H Q => ta σ H fun x H1 => tr σ H1 fun xs H2 => Q (x :: xs) H2
section
variable {X : Cx} {e : Expr} {es : List Expr} {te : TE} {t : TA} {pos : Pos}
theorem pa_nil : PA X [] tNil := fun _ _ _ _ H Q I h => Calls.spliced_nil ⟨[], H, I, .nil, h⟩
theorem pa_cons (ha : PE X e te) (hr : PA X es t) (hs : starEach (e :: es) X.env = (false, eval e X.env) :: starEach es X.env := by rfl) : PA X (e :: es) (tCons te t) := by
  intro pos pins s σ H Q I h
  rw [hs]
  show wpAny _ _ (spliced ((false, eval e X.env) :: backTo pos (starEach es X.env))) _ _ s
  refine Calls.spliced_cons (thn (ha pins s σ H _ I h) fun u s1 ⟨x, H1, I1, r1, q1⟩ => ?_)
  exact thn (hr pos pins s1 σ H1 _ I1 q1) fun us s2 ⟨xs, H2, I2, r2, q2⟩ => ⟨x :: xs, H2, I2, .cons r1 r2, q2⟩
def tTup (t : TA) : TE := fun σ H Q => t σ H fun xs H1 => xs.length <= sizeLine /\ ∀ p, H1 p = none -> Q (.ref p) (upd H1 p (.tup xs))
def tLst (t : TA) : TE := fun σ H Q => t σ H fun xs H1 => xs.length <= sizeLine /\ ∀ p, H1 p = none -> Q (.ref p) (upd H1 p (.lst xs))
theorem pe_tup {x1} (h : PA X es t) : PE X (.Tuple es x1 pos) (tTup t) := by
  intro pins s σ H Q I hq
  refine wpAny_Tuple_spliced (thn (h pos pins s σ H _ I hq) fun us s1 ⟨xs, H1, I1, r, z, q⟩ => ⟨by rw [<- r.length]; exact z, ?_⟩)
  have hf : H1 s1.heap.objs.size = none := I1.hok.fresh (Nat.le_refl _)
  refine ⟨.ref s1.heap.objs.size, upd H1 s1.heap.objs.size (.tup xs), I1.laid (t' := s1.toks) (fun b u e => Heap.get?_push_of_some _ e) (Nat.le_refl _) ?_, rfl, q _ hf⟩
  exact ⟨z, us, r, ⟨_, Heap.get?_push_size _ rfl, rfl, _, rfl⟩⟩
theorem pe_lst (h : PA X es t) : PE X (.List es pos) (tLst t) := by
  intro pins s σ H Q I hq
  refine wpAny_List_spliced (thn (h pos pins s σ H _ I hq) fun us s1 ⟨xs, H1, I1, r, z, q⟩ => ⟨by rw [<- r.length]; exact z, ?_⟩)
  have hf : H1 s1.heap.objs.size = none := I1.hok.fresh (Nat.le_refl _)
  refine ⟨.ref s1.heap.objs.size, upd H1 s1.heap.objs.size (.lst xs), I1.laid (t' := s1.toks) (fun b u e => Heap.get?_push_of_some _ e) (Nat.le_refl _) ?_, rfl, q _ hf⟩
  exact ⟨z, us, 0, r, Heap.get?_push_size _ rfl⟩
end
abbrev Sp := List V -> Hp -> VK -> XK -> Prop
abbrev CXT := List Env -> Hp -> Shared -> XK -> Value -> Shared -> Prop
structure Env0 (P : Program) (w : World) (K : PySem.W.Frag) (mg : Str -> Option Value) (base : Heap) (A : Around) (outer : List Env) (s : Shared) (H : Hp) : Prop where
  frames : A.frames = some outer
  mod : Mod K mg base
  bs : ∀ b o, base.get? b = some o -> s.heap.get? b = some o /\ H b = none
  bsz : base.objs.size <= s.heap.objs.size
  funs : s.heap.FunFrames base outer
  frf : ∀ b ∈ frs outer, H b = none
  hok : HOk P w H s.heap
  bare : AllBare s.gens
def CE (outer : List Env) (P : Program) (w : World) (H : Hp) (s : Shared) (Q : VK) (u : Value) (s' : Shared) : Prop :=
  ∃ v H', s'.os = s.os /\ AllBare s'.gens /\ Un (frs outer) [] H H' s.heap s'.heap /\ HOk P w H' s'.heap /\ RelV v u /\ Q v H'
def CR (CX : CXT) (outer : List Env) (P : Program) (w : World) (H : Hp) (s : Shared) (Q : VK) (E : XK) (r : Result) (s' : Shared) : Prop :=
  match r with
  | .ok (.ret u) => CE outer P w H s Q u s'
  | .ok _ => False
  | .error e => CX outer H s E e s'
structure FnOk (P : Program) (w : World) (K : PySem.W.Frag) (mg : Str -> Option Value) (base : Heap) (CX : CXT) (k : Nat) (f : Addr) (fd : FuncData) (ps : List Str) (sp : Sp) : Prop where
  len : ∀ vs H Q E, sp vs H Q E -> vs.length = ps.length
  run : ∀ (A : Around) (outer : List Env) (s : Shared) (H : Hp) (args : Args) (us : List Value) (vs : List V) (Q : VK) (E : XK), Room k A -> Env0 P w K mg base A outer s H -> BindsTo s fd args (ps.zip us) -> Vals vs us -> sp vs H Q E ->
    codeAny (model P w) A (.call (.ref f) args) (CR CX outer P w H s Q E) s
theorem Env0.make {P : Program} {w : World} {K : PySem.W.Frag} {mg : Str -> Option Value} {base : Heap} {A : Around} {outer : List Env} {s : Shared} {H : Hp} (e : Env0 P w K mg base A outer s H) (C : Addr) (us : List Value) (kw : List (Str × Value)) :
    Env0 P w K mg base (A.under (.builtin "type.__call__" ⟨.ref C :: us, kw⟩)) outer s H := ⟨by first | exact e.frames | (simpa [Around.under, Code.envs, Code.isFrame, pushEnvs] using e.frames), e.mod, e.bs, e.bsz, e.funs, e.frf, e.hok, e.bare⟩
section
variable {X : Cx} {pins : List (Addr × Obj)} {σ : St} {H : Hp} {s s' : Shared}
theorem Inv.env0 (I : Inv X pins σ H s) : Env0 X.prog X.w X.K X.mg X.base X.A X.stack s H :=
  ⟨I.ok.frames, I.ok.mod, I.bs, Nat.le_trans I.ok.bsz I.sz, I.stack, I.stkFree, I.hok, I.bare⟩
theorem Inv.after {Q : VK} {u : Value} (I : Inv X pins σ H s) (h : CE X.stack X.prog X.w H s Q u s') : EP X pins σ Q u s' := by
  obtain ⟨v, H', os, bare, un, hok, r, q⟩ := h
  obtain ⟨hh, g, d, t, os'⟩ := s'
  obtain rfl : os' = s.os := os
  exact ⟨v, H', I.call (h' := hh) (g' := g) (d' := d) (t' := t) (ch := []) un hok bare (fun b z => absurd z (by simp)), r, q⟩
end
def tCall (sp : Sp) (dvs : List V) (E : XK) (t : TA) : TE := fun σ H Q => t σ H fun vs H1 => sp (vs ++ dvs) H1 Q E
def tMake (C : Addr) (sp : Sp) (dvs : List V) (E : XK) (t : TA) : TE := fun σ H Q => t σ H fun vs H1 => ∀ x dx, H1 x = none -> H1 dx = none -> dx ≠ x ->
  sp (.ref x :: (vs ++ dvs)) (upd (upd H1 dx (.own x)) x (.ins C dx [])) (fun v H2 => v = .non /\ Q (.ref x) H2) E
def Binds (K : PySem.W.Frag) (fd : FuncData) (ps : List Str) (ds : List Value) : Prop :=
  ∀ (s : Shared) (us : List Value), K.In s.heap -> (us ++ ds).length = ps.length -> BindsTo s fd ⟨us, []⟩ (ps.zip (us ++ ds))
theorem Binds.all {K : PySem.W.Frag} {fd : FuncData} {ps : List Str} (h : ∀ us : List Value, us.length = ps.length -> bindArgs fd ⟨us, []⟩ = pure (ps.zip us)) : Binds K fd ps [] := fun s us _ hl => by
  rw [List.append_nil] at hl ⊢
  exact .of_eq (h us hl)
def Passes (CX : CXT) (X : Cx) (E : XK) : Prop := ∀ (pins : List (Addr × Obj)) (σ : St) (H : Hp) (s : Shared) (e : Value) (s' : Shared), Inv X pins σ H s -> CX X.stack H s E e s' -> X.xe e s'
section
variable {X : Cx} {CX : CXT} {k : Nat} {f C : Addr} {fd : FuncData} {ps : List Str} {sp : Sp} {dvs : List V} {ds : List Value} {E : XK} {x m : Str} {p pos apos : Pos} {e o : Expr} {es : List Expr} {ta : TE} {t : TA}
theorem run_fn {pins : List (Addr × Obj)} {σ : St} {H : Hp} {s : Shared} {Q : VK} {us : List Value} {vs : List V} (F : FnOk X.prog X.w X.K X.mg X.base CX k f fd ps sp) (hr : Room k X.A) (hb : Binds X.K fd ps ds) (hd : Vals dvs ds) (hx : Passes CX X E)
    (I : Inv X pins σ H s) (r : Vals vs us) (h : sp (vs ++ dvs) H Q E) : wpAny (model X.prog X.w) X.A (call (.ref f) us) (EP X pins σ Q) X.xe s := by
  have r2 : Vals (vs ++ dvs) (us ++ ds) := r.append hd
  have hl : (us ++ ds).length = ps.length := by rw [<- r2.length]; exact F.len _ _ _ _ h
  refine wpAny_call (codeAny_mono (F.run X.A X.stack s H ⟨us, []⟩ (us ++ ds) (vs ++ dvs) Q E hr I.env0 (hb s us I.kIn hl) r2 h) fun r s' hq => ?_)
  cases r with
  | error e => exact hx pins σ H s e s' I hq
  | ok fl =>
    cases fl with
    | ret u => exact I.after hq
    | next => exact False.elim hq
    | brk => exact False.elim hq
    | cont => exact False.elim hq
theorem pe_call (F : FnOk X.prog X.w X.K X.mg X.base CX k f fd ps sp) (hr : Room k X.A) (hg : Gl X x) (hm : X.mg x = some (.ref f)) (hk : PySem.W.keepIn X.K (.ref f) = true) (hb : Binds X.K fd ps ds) (hd : Vals dvs ds) (hx : Passes CX X E)
    (ha : PA X (e :: es) t) (hdb : (x == ("__debug__" : Str)) = false := by decide) (he : starEach (e :: es) X.env = (false, eval e X.env) :: starEach es X.env := by rfl) (hpl : (backTo pos (starEach es X.env)).any (·.1) = false := by rfl) :
    PE X (.Call (.Name x p) (e :: es) [] pos) (tCall sp dvs E t) := by
  intro pins s σ H Q I h
  refine wpAny_Call_Name_kw (ld_glob I hg hm ?_ hdb)
  refine PySem.W.callWith_K (h₀ := X.base) I.ok.mod.kin hk (thn (ha pos pins s σ H _ I h) fun us s1 ⟨vs, H1, I1, r, q⟩ => ⟨I1.kIn, ?_⟩) he hpl
  exact run_fn F hr hb hd hx I1 r q
structure Mk (K : PySem.W.Frag) (C f : Addr) : Prop where
  makes : PySem.W.makesIn K C = true
  init : PySem.W.findIn K (.ref C) "__init__" = some (some (.ref f))
  fn : PySem.W.isFn K (.ref f) = true
  kp : PySem.W.keepIn K (.ref C) = true
theorem run_make {pins : List (Addr × Obj)} {σ : St} {H : Hp} {s : Shared} {Q : VK} {us : List Value} {vs : List V} (M : Mk X.K C f) (F : FnOk X.prog X.w X.K X.mg X.base CX k f fd ps sp) (hr : Room (k + 1) X.A) (hb : Binds X.K fd ps ds) (hd : Vals dvs ds)
    (hx : Passes CX X E) (I : Inv X pins σ H s) (r : Vals vs us)
    (h : ∀ x dx, H x = none -> H dx = none -> dx ≠ x -> sp (.ref x :: (vs ++ dvs)) (upd (upd H dx (.own x)) x (.ins C dx [])) (fun v H2 => v = .non /\ Q (.ref x) H2) E) :
    wpAny (model X.prog X.w) X.A (call (.ref C) us) (EP X pins σ Q) X.xe s := by
  have hq := h (s.heap.objs.size + 1) s.heap.objs.size (I.hok.fresh (Nat.le_succ _)) (I.hok.fresh (Nat.le_refl _)) (Nat.ne_of_lt (Nat.lt_succ_self _))
  have I2 := Inv.made (C := C) I
  have r2 : Vals (V.ref (s.heap.objs.size + 1) :: (vs ++ dvs)) (Value.ref (s.heap.objs.size + 1) :: (us ++ ds)) := .cons rfl (r.append hd)
  have hl : (Value.ref (s.heap.objs.size + 1) :: us ++ ds).length = ps.length := by
    have e := r2.length
    rw [F.len _ _ _ _ hq] at e
    exact e.symm
  refine wpAny_call (make_map (f := f) I.kIn M.makes M.init (beq_iff_eq.mp M.fn) (codeAny_mono (F.run _ X.stack _ _ ⟨Value.ref (s.heap.objs.size + 1) :: us, []⟩ (Value.ref (s.heap.objs.size + 1) :: (us ++ ds)) _ _ E (hr.make C us [])
    (I2.env0.make C us []) (hb _ (Value.ref (s.heap.objs.size + 1) :: us) I2.kIn hl) r2 hq) fun r s' hq' => ?_))
  cases r with
  | error e => exact hx pins σ _ _ e s' I2 hq'
  | ok fl =>
    cases fl with
    | ret u =>
      obtain ⟨v, H', I3, rv, ev, q3⟩ := I2.after hq'
      subst ev
      exact ⟨rv, ⟨V.ref (s.heap.objs.size + 1), H', I3, rfl, q3⟩⟩
    | next => exact False.elim hq'
    | brk => exact False.elim hq'
    | cont => exact False.elim hq'
theorem pe_make (M : Mk X.K C f) (F : FnOk X.prog X.w X.K X.mg X.base CX k f fd ps sp) (hr : Room (k + 1) X.A) (hg : Gl X x) (hm : X.mg x = some (.ref C)) (hb : Binds X.K fd ps ds) (hd : Vals dvs ds) (hx : Passes CX X E)
    (ha : PA X (e :: es) t) (hdb : (x == ("__debug__" : Str)) = false := by decide) (he : starEach (e :: es) X.env = (false, eval e X.env) :: starEach es X.env := by rfl) (hpl : (backTo pos (starEach es X.env)).any (·.1) = false := by rfl) :
    PE X (.Call (.Name x p) (e :: es) [] pos) (tMake C sp dvs E t) := by
  intro pins s σ H Q I h
  refine wpAny_Call_Name_kw (ld_glob I hg hm ?_ hdb)
  refine PySem.W.callWith_K (h₀ := X.base) I.ok.mod.kin M.kp (thn (ha pos pins s σ H _ I h) fun us s1 ⟨vs, H1, I1, r, q⟩ => ⟨I1.kIn, ?_⟩) he hpl
  exact run_make M F hr hb hd hx I1 r q
theorem pe_make0 (M : Mk X.K C f) (F : FnOk X.prog X.w X.K X.mg X.base CX k f fd ps sp) (hr : Room (k + 1) X.A) (hg : Gl X x) (hm : X.mg x = some (.ref C)) (hb : Binds X.K fd ps ds) (hd : Vals dvs ds) (hx : Passes CX X E)
    (hdb : (x == ("__debug__" : Str)) = false := by decide) : PE X (.Call (.Name x p) [] [] pos) (tMake C sp dvs E tNil) := by
  intro pins s σ H Q I h
  refine wpAny_Call_Name_kw (ld_glob I hg hm ?_ hdb)
  exact PySem.W.callWith_K0 I.kIn M.kp (run_make (us := []) M F hr hb hd hx I .nil h)
end
structure FnScope (N P : List Str) (sc : Scope) : Prop where
  kind : sc.kind = .function
  co : sc.isCoroutine = false
  gen : sc.isGenerator = false
  nd : N.Nodup
  pre : N.take P.length = P
  par : ∀ x ∈ P, sc.names.lookup x = some .local \/ sc.names.lookup x = some .cell
  nofree : ∀ y ∈ sc.names, y.2 ≠ .free
theorem bindL_out {kindOf : Str -> Option NameKind} {x : Str} : ∀ {binds : List (Str × Value)} {m : Str -> Option Value}, (∀ v, (x, v) ∉ binds) -> bindL kindOf binds m x = m x
  | [], _, _ => rfl
  | (n, v) :: r, m, h => by
    unfold bindL
    rw [bindL_out fun w hw => h w (List.mem_cons_of_mem _ hw)]
    split
    · have : x ≠ n := by rintro rfl; exact h v List.mem_cons_self
      simp [this]
    · rfl
theorem bindC_out {kindOf : Str -> Option NameKind} {x : Str} : ∀ {binds : List (Str × Value)} {m : Str -> Option Value}, (∀ v, (x, v) ∉ binds) -> bindC kindOf binds m x = m x
  | [], _, _ => rfl
  | (n, v) :: r, m, h => by
    unfold bindC
    rw [bindC_out fun w hw => h w (List.mem_cons_of_mem _ hw)]
    split
    · rfl
    · have : x ≠ n := by rintro rfl; exact h v List.mem_cons_self
      simp [this]
theorem bindL_get {kindOf : Str -> Option NameKind} {x : Str} {v : Value} : ∀ {P : List Str} {vs : List Value} {i : Nat} {m : Str -> Option Value}, P.Nodup -> P[i]? = some x -> vs[i]? = some v -> kindOf x = some .local ->
    bindL kindOf (P.zip vs) m x = some v
  | [], _, _, _, _, h, _, _ => by simp at h
  | _ :: _, [], _, _, _, _, h, _ => by simp at h
  | p :: P, w :: vs, 0, m, nd, h1, h2, hk => by
    simp at h1 h2; subst h1; subst h2
    show bindL kindOf ((p, w) :: P.zip vs) m p = _
    unfold bindL
    rw [bindL_out fun v hv => (List.nodup_cons.mp nd).1 (List.of_mem_zip hv).1, if_pos hk]
    simp
  | p :: P, w :: vs, i + 1, m, nd, h1, h2, hk => by
    show bindL kindOf ((p, w) :: P.zip vs) m x = _
    unfold bindL
    exact bindL_get (i := i) (List.nodup_cons.mp nd).2 (by simpa using h1) (by simpa using h2) hk
theorem bindC_get {kindOf : Str -> Option NameKind} {x : Str} {v : Value} : ∀ {P : List Str} {vs : List Value} {i : Nat} {m : Str -> Option Value}, P.Nodup -> P[i]? = some x -> vs[i]? = some v -> kindOf x ≠ some .local ->
    bindC kindOf (P.zip vs) m x = some v
  | [], _, _, _, _, h, _, _ => by simp at h
  | _ :: _, [], _, _, _, _, h, _ => by simp at h
  | p :: P, w :: vs, 0, m, nd, h1, h2, hk => by
    simp at h1 h2; subst h1; subst h2
    show bindC kindOf ((p, w) :: P.zip vs) m p = _
    unfold bindC
    rw [bindC_out fun v hv => (List.nodup_cons.mp nd).1 (List.of_mem_zip hv).1, if_neg hk]
    simp
  | p :: P, w :: vs, i + 1, m, nd, h1, h2, hk => by
    show bindC kindOf ((p, w) :: P.zip vs) m x = _
    unfold bindC
    exact bindC_get (i := i) (List.nodup_cons.mp nd).2 (by simpa using h1) (by simpa using h2) hk
def start (N : List Str) (vs : List V) : St := vs.map some ++ List.replicate (N.length - vs.length) none
def cxOf (CX : CXT) (P : Program) (w : World) (K : PySem.W.Frag) (mg : Str -> Option Value) (base : Heap) (N : List Str) (qual : Str) (scope : Scope) (f : Addr) (cd : Value) (A : Around) (outer : List Env) (s : Shared) (H : Hp) (E : XK) : Cx where
  prog := P
  w := w
  K := K
  mg := mg
  base := base
  A := A.deeper (envOfC qual scope s.heap.objs.size f cd)
  N := N
  s₀ := s
  H₀ := H
  env := envOfC qual scope s.heap.objs.size f cd
  outer := outer
  stack := envOfC qual scope s.heap.objs.size f cd :: outer
  ex := []
  calm := true
  fn := fun _ => true
  pn := []
  xe := fun e s' => wpAny (model P w) (A.deeper (envOfC qual scope s.heap.objs.size f cd)) (leaving (envOfC qual scope s.heap.objs.size f cd) e) (fun _ s'' => CX outer H s E e s'') (fun e' s'' => CX outer H s E e' s'') s'
theorem cell_has {sc : Scope} {n : Nat} {x : Str} (h : sc.names.lookup x = some .cell) : ∃ c, (cellsFrom n sc.names []).lookup x = some c := by
  have q := PySem.W.cellsFrom_some sc.names n [] (.inl h)
  exact Option.isSome_iff_exists.mp q
theorem inv_start {CX : CXT} {P : Program} {w : World} {K : PySem.W.Frag} {mg : Str -> Option Value} {base : Heap} {N ps : List Str} {qual : Str} {scope : Scope} {f : Addr} {cd : Value} {A : Around} {outer : List Env} {s s1 : Shared} {H : Hp} {E : XK} {us : List Value} {vs : List V}
    (S : FnScope N ps scope) (hd : A.handled = none) (e0 : Env0 P w K mg base A outer s H) (hl : vs.length = ps.length) (r : Vals vs us)
    (x : InCallC s s.heap.objs.size (bindL (envOfC qual scope s.heap.objs.size f cd).kindOf (ps.zip us) fun _ => none) (cellsFrom (s.heap.objs.size + 1) scope.names []) (bindC (envOfC qual scope s.heap.objs.size f cd).kindOf (ps.zip us) fun _ => none) s1) :
    Inv (cxOf CX P w K mg base N qual scope f cd A outer s H E) [] (start N vs) H s1 := by
  have hpl : ps.length <= N.length := by have := congrArg List.length S.pre; rw [List.length_take] at this; omega
  obtain ⟨h1, tk, rfl, hk⟩ := x.done
  have noA : ∀ b : Addr, b ∉ (cxOf CX P w K mg base N qual scope f cd A outer s H E).ex := fun b z => absurd (show b ∈ ([] : List Addr) from z) (by simp)
  refine ⟨⟨e0.mod, S.kind, rfl, rfl, Nat.le_refl _, fun y z c h1 h2 => ?_, fun y hy => ?_, fun y c _ h => ?_, fun _ => hd, Around.frames_deeper e0.frames, .inr ⟨rfl, rfl⟩, fun b z => absurd z (noA b), e0.bs, e0.bsz, fun b _ _ => noA b, fun b z => absurd z (noA b), e0.funs, e0.frf⟩,
    rfl, e0.bare, Un.kept hk, ⟨_, x.toInCall.ns, fun i y v h1 h2 h3 => ?_⟩, fun y c h => ⟨_, x.cell y c h⟩, e0.hok.fresh (Nat.le_refl _), fun y c h => ?_, fun p hp => absurd (show p ∈ ([] : List (Addr × Obj)) from hp) (by simp), e0.hok.kept hk, ?_⟩
  · exact name_of_addr x.apart (PySem.mem_of_lookup h1) (PySem.mem_of_lookup h2)
  · have hy : scope.names.lookup y = some .cell \/ scope.names.lookup y = some .free := hy
    rcases hy with hy | hy
    · exact cell_has hy
    · exact absurd rfl (S.nofree _ (PySem.mem_of_lookup hy))
  · exact Nat.le_of_lt (x.above y c (PySem.mem_of_lookup h))
  · have hi : i < vs.length := by
      unfold start at h2
      by_cases hi : i < vs.length
      · exact hi
      · rw [List.getElem?_append_right (by simpa using hi)] at h2
        rw [List.getElem?_replicate] at h2
        split at h2 <;> cases h2
    have ha : vs[i]? = some v := by
      unfold start at h2
      rw [List.getElem?_append_left (by simpa using hi), List.getElem?_map] at h2
      cases e : vs[i]? with
      | none => rw [e] at h2; cases h2
      | some a => rw [e] at h2; cases h2; rfl
    obtain ⟨u, hu, rv⟩ := r.get ha
    have hp : ps[i]? = some y := by
      rw [<- S.pre, List.getElem?_take_of_lt (by omega)]; exact h1
    have ndP : ps.Nodup := by rw [<- S.pre]; exact S.nd.sublist (List.take_sublist _ _)
    refine ⟨u, rv, ?_⟩
    rcases S.par y (List.mem_of_getElem? hp) with k | k
    · exact .inl ⟨k, bindL_get ndP hp hu k⟩
    · obtain ⟨c, e⟩ := cell_has (n := s.heap.objs.size + 1) k
      refine .inr ⟨.inl k, c, e, ?_⟩
      have q := x.cell y c e
      rw [bindC_get ndP hp hu (by show scope.names.lookup y ≠ _; rw [k]; decide)] at q
      exact q
  · exact e0.hok.fresh (Nat.le_of_lt (x.above y c (PySem.mem_of_lookup h)))
  · unfold start
    show _ = N.length
    rw [List.length_append, List.length_map, List.length_replicate]
    omega
theorem fn_of {CX : CXT} {P : Program} {w : World} {K : PySem.W.Frag} {mg : Str -> Option Value} {base : Heap} {k : Nat} {f : Addr} {name qual : Str} {params : Arguments} {body : List Stmt} {scope : Scope} {dV kV doc pm cdv ct oc : Value} {an od : Option Addr}
    {osl : Array (Option Value)} {N ps : List Str} {sp : Sp} (lk : K.lookup f = some ⟨oc, od, .func (PySem.W.fnOf name qual params body scope dV kV doc pm an cdv ct), osl⟩) (hcd : PySem.W.codeIn K cdv qual = true) (S : FnScope N ps scope)
    (len : ∀ vs H Q E, sp vs H Q E -> vs.length = ps.length)
    (hbody : ∀ (A : Around) (outer : List Env) (s : Shared) (H : Hp) (vs : List V) (Q : VK) (E : XK), Room k (A.deeper (envOfC qual scope s.heap.objs.size f cdv)) -> sp vs H Q E ->
      ∃ t, PSs (cxOf CX P w K mg base N qual scope f cdv A outer s H E) body t /\ t { nx := fun _ H' => Q .non H', rt := Q } (start N vs) H) :
    FnOk P w K mg base CX (k + 1) f (PySem.W.fnOf name qual params body scope dV kV doc pm an cdv ct) ps sp := by
  refine ⟨len, fun A outer s H args us vs Q E hr e0 hb r hsp => ?_⟩
  have hl := len _ _ _ _ hsp
  have KX : K.In s.heap := e0.mod.kin.keeps fun b o e => (e0.bs b o e).1
  have lim : s.heap.NoLimit := e0.mod.nolimit.keeps fun b o e => (e0.bs b o e).1
  have hkind : ∀ y ∈ ps.zip us, scope.names.lookup y.1 = some .local \/ (scope.names.lookup y.1 = some .cell /\ ((cellsFrom (s.heap.objs.size + 1) scope.names []).lookup y.1).isSome = true) := fun ⟨n, v⟩ hy => by
    rcases S.par n (List.of_mem_zip hy).1 with q | q
    · exact .inl q
    · exact .inr ⟨q, PySem.W.cellsFrom_some _ _ _ (.inl q)⟩
  refine codeAny_call_function hr.depth (KX _ _ lk) rfl S.co S.gen rfl (PySem.W.codeRec_of KX hcd) (hb _ _ _ _ ?_)
  refine wpAny_newFunctionEnv_cells S.kind hkind fun env he s1 x => ?_
  subst he
  refine ⟨lim.keeps x.toInCall.keep, codeAny_func ?_⟩
  obtain ⟨t, ht, hq⟩ := hbody A outer s H vs Q E (hr.deeper _) hsp
  have I : Inv (cxOf CX P w K mg base N qual scope f cdv A outer s H E) [] (start N vs) H s1 := inv_start S hr.hd e0 hl r x
  refine wpAny_mono (ht [] s1 (start N vs) H _ I hq) (fun fl s' hs => ?_) fun e s' hs => hs
  have fin : ∀ {σ' : St} {H' : Hp} {v : V} {u : Value}, Inv (cxOf CX P w K mg base N qual scope f cdv A outer s H E) [] σ' H' s' -> RelV v u -> Q v H' -> CE outer P w H s Q u s' :=
    fun {σ' H' v u} J rv q => ⟨v, H', J.os, J.bare, J.base, J.hok, rv, q⟩
  cases fl with
  | ret u =>
    obtain ⟨v, σ', H', J, rv, q⟩ := hs
    exact fin J rv q
  | next =>
    obtain ⟨σ', H', J, q⟩ := hs
    exact fin (v := V.non) (u := Value.none) J rfl q
  | brk =>
    obtain ⟨_, _, _, q⟩ := hs
    exact False.elim q
  | cont =>
    obtain ⟨_, _, _, q⟩ := hs
    exact False.elim q
end L2
namespace L2
open PySem PySem.Spec PyProof.Rows
section
variable {X : Cx} {x : Str} {p pos : Pos} {e : Expr} {es : List Expr} {t : TA} {id T : String} {r : List V -> Hp -> VK -> Prop}
def tCB (r : List V -> Hp -> VK -> Prop) (t : TA) : TE := fun σ H Q => t σ H fun vs H1 => r vs H1 Q
theorem pe_callB (hc : CallR X (.builtin id) r) (hg : Gl X x) (hm : X.mg x = none) (hv : bootBuiltins x = some (.builtin id)) (ha : PA X (e :: es) t) (hn : x ≠ "__name__" := by decide) (hdb : (x == ("__debug__" : Str)) = false := by decide)
    (he : starEach (e :: es) X.env = (false, eval e X.env) :: starEach es X.env := by rfl) (hpl : (backTo pos (starEach es X.env)).any (·.1) = false := by rfl) : PE X (.Call (.Name x p) (e :: es) [] pos) (tCB r t) := by
  intro pins s σ H Q I h
  refine wpAny_Call_Name_kw (ld_blt I hg hm hv ?_ hn hdb)
  exact PyProof.Rows.callWith_builtin1 (thn (ha pos pins s σ H _ I h) fun us s1 ⟨vs, H1, I1, r1, q1⟩ => hc pins s1 σ H1 vs us Q I1 r1 q1) he hpl
theorem pe_callTy (hc : CallR X (.type T) r) (hg : Gl X x) (hm : X.mg x = none) (hv : bootBuiltins x = some (.type T)) (ha : PA X (e :: es) t) (hn : x ≠ "__name__" := by decide) (hdb : (x == ("__debug__" : Str)) = false := by decide)
    (he : starEach (e :: es) X.env = (false, eval e X.env) :: starEach es X.env := by rfl) (hpl : (backTo pos (starEach es X.env)).any (·.1) = false := by rfl) : PE X (.Call (.Name x p) (e :: es) [] pos) (tCB r t) := by
  intro pins s σ H Q I h
  refine wpAny_Call_Name_kw (ld_blt I hg hm hv ?_ hn hdb)
  exact PyProof.Rows.callWith_type1 (thn (ha pos pins s σ H _ I h) fun us s1 ⟨vs, H1, I1, r1, q1⟩ => hc pins s1 σ H1 vs us Q I1 r1 q1) he hpl
end
end L2
namespace HT
open PySem PyProof.Rows
section
variable {prog : Program} {w : World} {A : Around} {E : Value -> Shared -> Prop} {s : Shared}
theorem cat_tup {t b : Addr} {vs ws : List Value} {Q : Value -> Shared -> Prop} (ht : IsTup s.heap t vs.toArray) (hb : IsTup s.heap b ws.toArray) (hv : vs ≠ [])
    (h1 : ws = [] -> Q (.ref t) s) (h2 : ws ≠ [] -> Q (.ref s.heap.objs.size) { s with heap := s.heap.push { cls := .type "tuple", data := .seq (vs ++ ws).toArray } })
    (hsz : vs.length + ws.length <= sizeLine) : wpAny (model prog w) A (binaryOp .Add (.ref t) (.ref b)) Q E s := by
  obtain ⟨⟨cls, dd, data, sl⟩, ho, hc, n, hd⟩ := id ht
  obtain ⟨⟨cls2, dd2, data2, sl2⟩, ho2, hc2, n2, hd2⟩ := id hb
  simp only at hc hd hc2 hd2
  subst hc hd hc2 hd2
  have e : vs.toArray ++ ws.toArray = (vs ++ ws).toArray := by simp
  by_cases hw : ws = []
  · exact concat_meets ⟨_, ho, rfl⟩ ⟨_, ho2, rfl⟩ noFill_tuple_add seq_tuple_add PySem.F.slot_tuple_add PySem.F.entry_tuple_add (PySem.F.args_tuple_add_2 _ _)
      (tuple_addW1 t b vs.toArray ws.toArray n n2 dd dd2 sl sl2 (by simpa using hv) (by simp [hw])) ⟨ho, ho2, h1 hw⟩
  · refine concat_meets ⟨_, ho, rfl⟩ ⟨_, ho2, rfl⟩ noFill_tuple_add seq_tuple_add PySem.F.slot_tuple_add PySem.F.entry_tuple_add (PySem.F.args_tuple_add_2 _ _)
      (tuple_addW2 t b vs.toArray ws.toArray n n2 dd dd2 sl sl2 (by simpa using hv) (by simpa using hw) (by rw [List.size_toArray, List.size_toArray]; exact hsz)) ⟨ho, ho2, ?_⟩
    rw [e]
    exact h2 hw
def sIx (n d : Nat) : Option Int -> Nat
  | none => d
  | some v => if v < 0 then (v + (n : Int)).toNat else min v.toNat n
theorem sIx_none (n d : Nat) : sIx n d none = d := rfl
theorem sIx_nat (n d k : Nat) : sIx n d (some (k : Int)) = min k n := by
  show (if (k : Int) < 0 then ((k : Int) + (n : Int)).toNat else min (k : Int).toNat n) = min k n
  rw [if_neg (by omega), Int.toNat_natCast]
theorem sIx_le (n d : Nat) (hd : d <= n) (o : Option Int) : sIx n d o <= n := by
  cases o with
  | none => exact hd
  | some v =>
    show (if v < 0 then (v + (n : Int)).toNat else min v.toNat n) <= n
    by_cases hv : v < 0
    · rw [if_pos hv]; omega
    · rw [if_neg hv]; exact Nat.min_le_right _ _
theorem clip_eq (v : Int) (n d : Nat) : (if v < 0 then max (v + (n : Int)) 0 else min v (n : Int)) = ((sIx n d (some v) : Nat) : Int) := by
  show (if v < 0 then max (v + (n : Int)) 0 else min v (n : Int)) = (((if v < 0 then (v + (n : Int)).toNat else min v.toNat n) : Nat) : Int)
  by_cases hv : v < 0
  · simp only [if_pos hv]; omega
  · simp only [if_neg hv]; omega
theorem adjust_gen (lo hi : Option Int) (n : Nat) : Builtin.Slice.sliceAdjust lo hi 1 (n : Int) = (((sIx n 0 lo : Nat) : Int), ((sIx n n hi : Nat) : Int)) := by
  have h1 : ¬ ((1 : Int) < 0) := by omega
  unfold Builtin.Slice.sliceAdjust
  simp only [h1, if_false]
  refine Prod.ext ?_ ?_
  · cases lo with
    | none => rfl
    | some v => exact clip_eq v n 0
  · cases hi with
    | none => rfl
    | some v => exact clip_eq v n n
theorem places_gen (i j : Nat) : Builtin.Slice.slicePlaces (i : Int) (j : Int) 1 = j - i := by
  unfold Builtin.Slice.slicePlaces
  have h1 : (1 : Int) > 0 := by omega
  simp only [h1, if_true, Int.ediv_one]
  split <;> omega
theorem slicePart_ {v : Value} {o : Option Int} {Q : Option Int -> Shared -> Prop} (p : IsPart v o) (h : Q o s) : wpAny (model prog w) A (Builtin.Slice.slicePartIndex v) Q E s := by
  cases p with
  | none => exact slicePart_none h
  | int i t => exact slicePart_int h
theorem sliceApplied_gen {sl : Addr} {vl vu : Value} {lo hi : Option Int} {n : Nat} {Q : Int × Int × Nat -> Shared -> Prop} (hs : s.heap.IsSliceOf sl vl vu .none) (pl : IsPart vl lo) (pu : IsPart vu hi)
    (h : Q (((sIx n 0 lo : Nat) : Int), 1, sIx n n hi - sIx n 0 lo) s) : wpAny (model prog w) A (Builtin.Slice.sliceApplied (.ref sl) (pure (n : Int))) Q E s := by
  obtain ⟨os, hos, hcs, hds⟩ := id hs
  unfold Builtin.Slice.sliceApplied Builtin.Slice.sliceFields
  refine wpAny_bind (wpAny_bind (wpAny_field hos hds (x := vl) rfl (wpAny_bind (wpAny_field hos hds (x := vu) rfl (wpAny_bind (wpAny_field hos hds (x := .none) rfl (wpAny_pure ?_)))))))
  refine wpAny_bind (slicePart_none ?_)
  show wpAny _ _ (if ((1 : Int) == 0) = true then _ else _) _ _ s
  rw [if_neg (by decide)]
  refine wpAny_bind (slicePart_ pl (wpAny_bind (slicePart_ pu (wpAny_bind (wpAny_pure ?_)))))
  show wpAny _ _ (match Builtin.Slice.sliceAdjust lo hi 1 (n : Int) with | (lo, hi) => pure (lo, (1 : Int), Builtin.Slice.slicePlaces lo hi 1)) _ _ s
  rw [adjust_gen lo hi n]
  show wpAny _ _ (pure (((sIx n 0 lo : Nat) : Int), (1 : Int), Builtin.Slice.slicePlaces ((sIx n 0 lo : Nat) : Int) ((sIx n n hi : Nat) : Int) 1)) _ _ s
  rw [places_gen]
  exact wpAny_pure h
theorem pick_gen (xs : Array Value) (i k : Nat) : ((List.range k).filterMap fun (m : Nat) => xs[((i : Int) + (m : Int) * 1).toNat]?).toArray = ((xs.toList.drop i).take k).toArray := by
  have e : (fun (m : Nat) => xs[((i : Int) + (m : Int) * 1).toNat]?) = fun m => xs[i + m]? := by
    funext m
    have : ((i : Int) + (m : Int) * 1).toNat = i + m := by omega
    rw [this]
  rw [e]
  have := pick_run xs i k
  rw [List.filterMap_map] at this
  have e2 : ((fun x => xs[x]?) ∘ fun x => i + x) = fun m => xs[i + m]? := rfl
  rw [e2] at this
  rw [this]
theorem getItem_tuple_cut {t sl : Addr} {items : Array Value} {vl vu : Value} {lo hi : Option Int} {Q : Value -> Shared -> Prop} (ht : IsTup s.heap t items) (hs : s.heap.IsSliceOf sl vl vu .none) (pl : IsPart vl lo) (pu : IsPart vu hi)
    (hw : ¬ (sIx items.size 0 lo = 0 /\ sIx items.size items.size hi = items.size))
    (h : Q (.ref s.heap.objs.size) { s with heap := s.heap.push { cls := .type "tuple", data := .seq ((items.toList.drop (sIx items.size 0 lo)).take (sIx items.size items.size hi - sIx items.size 0 lo)).toArray } })
    (hsz : items.size <= sizeLine) : wpAny (model prog w) A (getItem (.ref t) (.ref sl)) Q E s := by
  have htake : sizeOk (.seq ((items.toList.drop (sIx items.size 0 lo)).take (sIx items.size items.size hi - sIx items.size 0 lo)).toArray) := by
    show ((items.toList.drop (sIx items.size 0 lo)).take (sIx items.size items.size hi - sIx items.size 0 lo)).toArray.size <= sizeLine
    rw [List.size_toArray, List.length_take, List.length_drop, Array.length_toList]
    omega
  have hj : sIx items.size items.size hi <= items.size := sIx_le _ _ (Nat.le_refl _) hi
  obtain ⟨os, hos, hcs, hds⟩ := id hs
  have hTs : s.TypeIs (.ref sl) "slice" := ⟨os, hos, hcs⟩
  unfold getItem
  try with_reducible refine wpAny_holding ?_
  first | refine wpAny_bind (wpAny_pure ?_) | skip
  refine wpAny_bind (wpAny_sequenceKey ht.typeIs (by decide) ?_)
  refine wpAny_bind (wpAny_callSpecial?_slot (name := Str.ofString "__getitem__") ht.typeIs PyProof.Rows.slot_tuple_getitem
    (wpAny_call_entry PyProof.Rows.slot_tuple_getitem ht.typeIs entry_tuple_getitem ?_ (args_tuple_getitem _ _)))
  show wpAny _ _ (Builtin.Tuple.tupleItemsOf (.ref t) >>= _) _ _ s
  refine wpAny_bind (tupleItemsOf_ ht ?_)
  refine wpAny_bind (wpAny_typeOf hTs ?_)
  rw [if_pos (by decide)]
  refine wpAny_bind (sliceApplied_gen hs pl pu ?_)
  have hno : ¬ ((((sIx items.size 0 lo : Nat) : Int) == 0 && (1 : Int) == 1 && (sIx items.size items.size hi - sIx items.size 0 lo) == items.size) = true) := by
    intro q
    rw [Bool.and_eq_true, Bool.and_eq_true] at q
    have q1 : ((sIx items.size 0 lo : Nat) : Int) = 0 := eq_of_beq q.1.1
    have q2 : sIx items.size items.size hi - sIx items.size 0 lo = items.size := eq_of_beq q.2
    exact hw ⟨by omega, by omega⟩
  show wpAny _ _ (if (((sIx items.size 0 lo : Nat) : Int) == 0 && (1 : Int) == 1 && (sIx items.size items.size hi - sIx items.size 0 lo) == items.size) = true then _ else _) _ _ s
  rw [if_neg hno, pick_gen]
  first
    | exact wpAny_bind (m := Builtin.Tuple.tupleExact _) (wpAny_newObj_type (wpAny_pure ⟨_, rfl, wpAny_pure h⟩) htake)
    | exact wpAny_bind (m := Builtin.Tuple.tupleExact _) (wpAny_newObj_type (wpAny_bind (wpAny_pure (wpAny_pure ⟨_, rfl, wpAny_pure h⟩))) htake)
    | exact wpAny_bind (wpAny_bind (m := Builtin.Tuple.tupleExact _) (wpAny_newObj_type (wpAny_pure (wpAny_pure ⟨_, rfl, wpAny_pure h⟩)) htake))
    | exact wpAny_bind (wpAny_bind (m := Builtin.Tuple.tupleExact _) (wpAny_newObj_type (wpAny_pure ⟨_, rfl, wpAny_pure h⟩) htake))
end
end HT
namespace L2
open PySem PySem.Spec PyProof.Rows
abbrev TO := St -> Hp -> (Option Int -> Hp -> Prop) -> Prop
def PO (X : Cx) (e : Option Expr) (t : TO) : Prop :=
  ∀ (pins : List (Addr × Obj)) (s : Shared) (σ : St) (H : Hp) (Q : Option Int -> Hp -> Prop), Inv X pins σ H s -> t σ H Q ->
    wpAny (model X.prog X.w) X.A (evalPart e X.env) (fun u s' => ∃ o H', Inv X pins σ H' s' /\ IsPart u o /\ Q o H') X.xe s
def tNoPart : TO := fun _ H Q => Q none H
def tPart (t : TE) : TO := fun σ H Q => t σ H fun x H1 => ∃ i, x = .int i /\ Q (some i) H1
theorem intsAre_of {ns : List Int} : ∀ {us : List Value}, Vals (ns.map V.int) us -> IntsAre us ns := by
  induction ns with
  | nil => intro us r; rw [List.map_nil] at r; cases r; exact .nil
  | cons n ns ih =>
    intro us r
    rw [List.map_cons] at r
    cases r with
    | cons r1 r2 =>
      obtain ⟨t, e⟩ := r1
      subst e
      exact .cons n t (ih r2)
section
variable {X : Cx} {e : Expr} {te : TE} {lo hi : Option Expr} {tl th : TO} {pos p2 : Pos}
theorem po_none : PO X none tNoPart := by
  intro pins s σ H Q I h
  rw [evalPart_none]
  exact wpAny_pure ⟨none, H, I, .none, h⟩
theorem po_some (h : PE X e te) : PO X (some e) (tPart te) := by
  intro pins s σ H Q I hw
  rw [evalPart_some]
  refine thn (h pins s σ H _ I hw) fun u s1 ⟨x, H1, I1, r1, q1⟩ => ?_
  obtain ⟨i, rfl, q⟩ := q1
  obtain ⟨t, rfl⟩ := r1
  exact ⟨some i, H1, I1, .int i t, q⟩
def SlR (X : Cx) (r : V -> Option Int -> Option Int -> Hp -> VK -> Prop) : Prop :=
  ∀ (pins : List (Addr × Obj)) (s : Shared) (σ : St) (H : Hp) (x : V) (v vl vu : Value) (lo hi : Option Int) (sl : Addr) (Q : VK), Inv X pins σ H s -> RelV x v -> s.heap.IsSliceOf sl vl vu .none -> IsPart vl lo -> IsPart vu hi -> r x lo hi H Q ->
    ∃ T id, typeLookup (.type T) "__getitem__" = pure (some (.builtin id)) /\ s.TypeIs v T /\ wpAny (model X.prog X.w) X.A (getItem v (.ref sl)) (EP X pins σ Q) X.xe s
def tSl (r : V -> Option Int -> Option Int -> Hp -> VK -> Prop) (te : TE) (tl th : TO) : TE := fun σ H Q => te σ H fun x H1 => tl σ H1 fun l H2 => th σ H2 fun u H3 => r x l u H3 Q
theorem pe_slice {r : V -> Option Int -> Option Int -> Hp -> VK -> Prop} (hr : SlR X r) (he : PE X e te) (hl : PO X lo tl) (hu : PO X hi th) : PE X (.Subscript e (.Slice lo hi none p2) pos) (tSl r te tl th) := by
  intro pins s σ H Q I h
  refine Subscript_ (thn (he pins s σ H _ I h) fun v s1 ⟨x, H1, I1, r1, q1⟩ => ?_)
  refine wpAny_Slice (thn (hl pins s1 σ H1 _ I1 q1) fun vl s2 ⟨l, H2, I2, pl, q2⟩ => thn (hu pins s2 σ H2 _ I2 q2) fun vu s3 ⟨u, H3, I3, pu, q3⟩ => ?_)
  rw [evalPart_none]
  refine wpAny_pure ?_
  have I4 : Inv X pins σ H3 { s3 with heap := s3.heap.push { cls := .type "slice", data := .fields #[vl, vu, .none] } } := I3.kept (t' := s3.toks) fun b ob q => Heap.get?_push_of_some _ q
  obtain ⟨T, id, hT, ht, hg⟩ := hr pins { s3 with heap := s3.heap.push { cls := .type "slice", data := .fields #[vl, vu, .none] } } σ H3 x v vl vu l u s3.heap.objs.size Q I4 r1 (Heap.IsSliceOf.new ..) pl pu q3
  show wpAny (model X.prog X.w) X.A (subscriptTail e (.Slice lo hi none p2) v (.ref s3.heap.objs.size)) (EP X pins σ Q) X.xe { s3 with heap := s3.heap.push { cls := .type "slice", data := .fields #[vl, vu, .none] } }
  exact tail_any (ops := [.ref s3.heap.objs.size, v]) ht hT hg (by with_unfolding_all rfl)
def cutV (xs : List V) (lo hi : Option Int) : List V := (xs.drop (HT.sIx xs.length 0 lo)).take (HT.sIx xs.length xs.length hi - HT.sIx xs.length 0 lo)
theorem cutV_length (xs : List V) (lo hi : Option Int) : (cutV xs lo hi).length <= xs.length := by
  unfold cutV
  rw [List.length_take, List.length_drop]
  omega
def rSlT (K : PySem.W.Frag) : V -> Option Int -> Option Int -> Hp -> VK -> Prop := fun x lo hi H Q => ∃ a xs, x = .ref a /\ SqT K H a xs /\
  ¬ (HT.sIx xs.length 0 lo = 0 /\ HT.sIx xs.length xs.length hi = xs.length) /\ ∀ p, H p = none -> Q (.ref p) (upd H p (.tup (cutV xs lo hi)))
theorem sl_tup : SlR X (rSlT X.K) := by
  intro pins s σ H x v vl vu lo hi sl Q I rx hs pl pu h
  obtain ⟨a, xs, rfl, hx, hw, q⟩ := h
  cases rx
  obtain ⟨its, r, ht, hz⟩ := I.tuple hx
  have hlen : its.toArray.size = xs.length := by rw [List.size_toArray]; exact r.length.symm
  refine ⟨"tuple", _, PyProof.Rows.slot_tuple_getitem.lookup, ht.typeIs, ?_⟩
  refine HT.getItem_tuple_cut ht hs pl pu (by rw [hlen]; exact hw) ?_ (by rw [hlen]; exact hz)
  rw [hlen]
  refine ⟨.ref s.heap.objs.size, _, I.laid (t' := s.toks) (o := .tup (cutV xs lo hi)) (fun b ob q => Heap.get?_push_of_some _ q) (Nat.le_refl _) ?_, rfl, q _ (I.hok.fresh (Nat.le_refl _))⟩
  exact ⟨Nat.le_trans (cutV_length xs lo hi) hz, _, (r.drop (HT.sIx xs.length 0 lo)).take (HT.sIx xs.length xs.length hi - HT.sIx xs.length 0 lo), IsTup.new _ _⟩
def rCatT (K : PySem.W.Frag) : R2 := fun x y H Q => ∃ a b xs ys, x = .ref a /\ y = .ref b /\ SqT K H a xs /\ SqT K H b ys /\ xs ≠ [] /\ xs.length + ys.length <= sizeLine /\
  (ys = [] -> Q (.ref a) H) /\ (ys ≠ [] -> ∀ p, H p = none -> Q (.ref p) (upd H p (.tup (xs ++ ys))))
theorem Vals.nil_iff {xs : List V} {us : List Value} (r : Vals xs us) : us = [] ↔ xs = [] := by
  cases r with
  | nil => simp
  | cons _ _ => simp
theorem op_catT : OpR X (binaryOp .Add) (rCatT X.K) := by
  intro pins s σ H x y v u Q I rx ry h
  obtain ⟨a, b, xs, ys, rfl, rfl, ha, hb, hx, hz, q1, q2⟩ := h
  cases rx
  cases ry
  obtain ⟨its, r1, p1, _⟩ := I.tuple ha
  obtain ⟨its2, r2, p2, _⟩ := I.tuple hb
  refine HT.cat_tup p1 p2 (fun z => hx (r1.nil_iff.mp z)) (fun z => ⟨.ref a, H, I, rfl, q1 (r2.nil_iff.mp z)⟩) (fun z => ?_) (by rw [<- r1.length, <- r2.length]; exact hz)
  refine ⟨.ref s.heap.objs.size, _, I.laid (t' := s.toks) (o := .tup (xs ++ ys)) (fun b ob q => Heap.get?_push_of_some _ q) (Nat.le_refl _) ?_, rfl, q2 (fun w => z (r2.nil_iff.mpr w)) _ (I.hok.fresh (Nat.le_refl _))⟩
  exact ⟨by rw [List.length_append]; exact hz, _, r1.append r2, IsTup.new _ _⟩
end
end L2
namespace L2
open PySem PySem.Spec PyProof.Rows
def ixN (n : Nat) (i : Int) : Option Nat := if 0 <= i then (if i < n then some i.toNat else none) else if -(n : Int) <= i then some (i + n).toNat else none
def atI {α : Type} (xs : List α) (i : Int) : Option α := (ixN xs.length i).bind fun j => xs[j]?
theorem ixN_seq {n : Nat} {i : Int} {j : Nat} (h : ixN n i = some j) : seqIndex? i n = some j /\ j < n /\ -(n : Int) <= i /\ i < n := by
  unfold ixN at h
  by_cases h0 : 0 <= i
  · rw [if_pos h0] at h
    by_cases h1 : i < n
    · rw [if_pos h1] at h
      have e : i.toNat = j := Option.some.inj h
      exact ⟨by rw [seqIndex_of h0 h1, e], by omega, by omega, h1⟩
    · rw [if_neg h1] at h; cases h
  · rw [if_neg h0] at h
    by_cases h1 : -(n : Int) <= i
    · rw [if_pos h1] at h
      have e : (i + n).toNat = j := Option.some.inj h
      exact ⟨by rw [seqIndex_neg (by omega) h1, e], by omega, h1, by omega⟩
    · rw [if_neg h1] at h; cases h
theorem atI_get {α : Type} {xs : List α} {i : Int} {v : α} (h : atI xs i = some v) : ∃ j, seqIndex? i xs.length = some j /\ xs[j]? = some v /\ j < xs.length /\ -(xs.length : Int) <= i /\ i < xs.length := by
  unfold atI at h
  cases e : ixN xs.length i with
  | none => rw [e] at h; cases h
  | some j =>
    rw [e] at h
    obtain ⟨h1, h2, h3, h4⟩ := ixN_seq e
    exact ⟨j, h1, h, h2, h3, h4⟩
theorem atI_nat {α : Type} {xs : List α} {j : Nat} {v : α} (h : xs[j]? = some v) : atI xs (j : Int) = some v := by
  have hj : j < xs.length := (List.getElem?_eq_some_iff.mp h).1
  have e : ixN xs.length (j : Int) = some j := by
    unfold ixN
    rw [if_pos (by omega), if_pos (by omega)]; simp
  unfold atI; rw [e]; exact h
def PlainIx (b : Expr) : Prop := ∀ o i, subscripted b false o i = operate [o, i] (getItem o i)
def IxR (X : Cx) (r : R2) : Prop :=
  ∀ (value slice : Expr) (pins : List (Addr × Obj)) (s : Shared) (σ : St) (H : Hp) (x y : V) (v u : Value) (Q : VK), Inv X pins σ H s -> RelV x v -> RelV y u -> r x y H Q ->
    subscripted slice false v u = operate [v, u] (getItem v u) -> wpAny (model X.prog X.w) X.A (subscriptTail value slice v u) (EP X pins σ Q) X.xe s
def MtR (X : Cx) (id : String) (r : V -> List V -> Hp -> VK -> Prop) : Prop :=
  ∀ (pins : List (Addr × Obj)) (s : Shared) (σ : St) (H : Hp) (x : V) (xs : List V) (v : Value) (us : List Value) (Q : VK), Inv X pins σ H s -> RelV x v -> Vals xs us -> r x xs H Q ->
    wpAny (model X.prog X.w) X.A (call (.builtin id) (v :: us)) (EP X pins σ Q) X.xe s
section
variable {X : Cx} {a b : Expr} {ta tb : TE} {pos : Pos}
theorem pe_ix {r : R2} (hr : IxR X r) (ha : PE X a ta) (hb : PE X b tb) (hs : PlainIx b) : PE X (.Subscript a b pos) (tOp r ta tb) := by
  intro pins s σ H Q I h
  exact Subscript_ (binT ha hb I h fun v u s2 x y H2 I2 rx ry q => hr a b pins s2 σ H2 x y v u Q I2 rx ry q (hs _ _))
def rIxL (K : PySem.W.Frag) : R2 := fun x y H Q => ∃ p xs i v, x = .ref p /\ y = .int i /\ SqL K H p xs /\ atI xs i = some v /\ Q v H
def rIxT (K : PySem.W.Frag) : R2 := fun x y H Q => ∃ p xs i v, x = .ref p /\ y = .int i /\ SqT K H p xs /\ atI xs i = some v /\ Q v H
theorem ix_list : IxR X (rIxL X.K) := by
  intro value slice pins s σ H x y v u Q I rx ry h hs
  obtain ⟨p, xs, i, z, rfl, rfl, hq, he, q⟩ := h
  cases rx
  obtain ⟨t, rfl⟩ := ry
  obtain ⟨its, r, pl, hz⟩ := I.list hq
  obtain ⟨j, h1, h2, h3, h4, h5⟩ := atI_get he
  obtain ⟨w, ew, rw'⟩ := r.get h2
  have hl := r.length
  have hn := line63
  have fin : EP X pins σ Q w s := ⟨z, H, I, rw', q⟩
  by_cases h0 : 0 <= i
  · have hj : i.toNat = j := by
      rw [seqIndex_of h0 h5] at h1
      exact Option.some.inj h1
    exact item_listR pl.isList h0 (by omega) (by rw [hj]; simpa using ew) fin hs
  · have hj : (i + (its.toArray.size : Int)).toNat = j := by
      rw [seqIndex_neg (by omega) h4] at h1
      rw [List.size_toArray, <- hl]
      exact Option.some.inj h1
    exact subscriptTail_builtinR (x := w) pl.isList.typeIs slot_list_getitem.lookup
      (wpAny_getItem_list_neg (Q := fun r s' => r = w /\ EP X pins σ Q r s') pl.isList (by omega) (by rw [List.size_toArray] <;> omega) (by omega) (by rw [hj]; simpa using ew) ⟨rfl, fin⟩) hs
theorem ix_tup : IxR X (rIxT X.K) := by
  intro value slice pins s σ H x y v u Q I rx ry h hs
  obtain ⟨p, xs, i, z, rfl, rfl, hq, he, q⟩ := h
  cases rx
  obtain ⟨t, rfl⟩ := ry
  obtain ⟨its, r, pl, hz⟩ := I.tuple hq
  obtain ⟨j, h1, h2, h3, h4, h5⟩ := atI_get he
  obtain ⟨w, ew, rw'⟩ := r.get h2
  have hl := r.length
  have hn := line63
  have fin : EP X pins σ Q w s := ⟨z, H, I, rw', q⟩
  exact subscriptTail_builtinR (x := w) pl.typeIs slot_tuple_getitem.lookup
    (getItem_tuple (j := j) (Q := fun r s' => r = w /\ EP X pins σ Q r s') pl (by omega) (by omega) (by rw [List.size_toArray, <- hl]; exact h1) (by simpa using ew) ⟨rfl, fin⟩) hs
theorem mapSeq_set (its : List Value) (n j : Nat) (u : Value) : Obj.mapSeq (·.setIfInBounds j u) { cls := .type "list", data := .seq its.toArray n } = { cls := .type "list", data := .seq (its.set j u).toArray n } := by
  simp [Obj.mapSeq]
theorem Inv.lst {pins : List (Addr × Obj)} {σ : St} {H : Hp} {s : Shared} {p : Addr} {xs : List V} (I : Inv X pins σ H s) (h : H p = some (.lst xs)) :
    ∃ (its : List Value) (n : Nat), Vals xs its /\ s.heap.get? p = some { cls := .type "list", data := .seq its.toArray n } /\ xs.length <= sizeLine := by
  obtain ⟨z, its, n, r, e⟩ := I.hok p _ h
  exact ⟨its, n, r, e, z⟩
theorem Inv.lstUpd {pins : List (Addr × Obj)} {σ : St} {H : Hp} {s : Shared} {p : Addr} {xs ys : List V} {its its' : List Value} {n n' : Nat} {f : Obj -> Obj} (I : Inv X pins σ H s) (h : H p = some (.lst xs))
    (ho : s.heap.get? p = some { cls := .type "list", data := .seq its.toArray n }) (hf : f { cls := .type "list", data := .seq its.toArray n } = { cls := .type "list", data := .seq its'.toArray n' }) (r : Vals ys its') (hz : ys.length <= sizeLine) (t : Nat) :
    Inv X pins σ (upd H p (.lst ys)) { s with heap := s.heap.update p f, toks := t } := by
  have e : (s.heap.update p f).get? p = some { cls := .type "list", data := .seq its'.toArray n' } := by
    rw [Heap.get?_update_self f ho (by rw [hf] <;> rfl), hf]
  refine I.write (x := p) (e := p) (by rw [h]; trivial) (.inl rfl) (fun b u hb q => (Heap.get?_update_other _ _ (Ne.symm hb)).trans q) ⟨_, e⟩ ?_
  exact ⟨hz, its', n', r, e⟩
def rSetL : V -> V -> V -> Hp -> (Hp -> Prop) -> Prop := fun o i v H Q => ∃ p xs k j, o = .ref p /\ i = .int k /\ H p = some (.lst xs) /\ ixN xs.length k = some j /\ Q (upd H p (.lst (xs.set j v)))
theorem set_list : PSet X rSetL := by
  intro pins s σ H o i v ov iv u Q I ro ri rv h
  obtain ⟨p, xs, k, j, rfl, rfl, hp, hj, q⟩ := h
  cases ro
  obtain ⟨t, rfl⟩ := ri
  obtain ⟨its, n, r, ho, hz⟩ := I.lst hp
  obtain ⟨h1, h2, h3, h4⟩ := ixN_seq hj
  have hl := r.length
  have hn := line63
  have I' : Inv X pins σ (upd H p (.lst (xs.set j v))) { s with heap := s.heap.update p (Obj.mapSeq (·.setIfInBounds j u)) } :=
    I.lstUpd hp ho (mapSeq_set its n j u) (r.set rv j) (by rw [List.length_set]; exact hz) s.toks
  by_cases h0 : 0 <= k
  · have hk : k.toNat = j := by
      rw [seqIndex_of h0 h4] at h1
      exact Option.some.inj h1
    exact PySem.W.ki_setAt ho h0 (by omega) (by rw [List.size_toArray, <- hl]; exact h4) (by rw [hk]; exact ⟨_, I', q⟩)
  · have hk : (k + (its.toArray.size : Int)).toNat = j := by
      rw [seqIndex_neg (by omega) h3] at h1
      rw [List.size_toArray, <- hl]
      exact Option.some.inj h1
    exact PySem.W.ki_setBack ho (by omega) (by rw [List.size_toArray, <- hl]; exact h3) (by omega) (by rw [hk]; exact ⟨_, I', q⟩)
def flatV : V -> Bool
  | .non => true
  | .bl _ => true
  | .int _ => true
  | .str _ => true
  | _ => false
def eqV : V -> V -> Bool
  | .non, .non => true
  | .bl a, .bl b => a == b
  | .bl a, .int b => (if a then 1 else 0) == b
  | .int a, .bl b => a == (if b then 1 else 0)
  | .int a, .int b => a == b
  | .str a, .str b => a == b
  | _, _ => false
theorem eqAt_V {A : Around} {s : Shared} {y x : V} {u v : Value} (ry : RelV y u) (rx : RelV x v) (fy : flatV y = true) (fx : flatV x = true) : SeqAt.EqAt A s u v (eqV y x) := by
  cases y with
  | non =>
    cases ry
    cases x with
    | non => cases rx; exact SeqAt.EqAt.same _
    | bl b => cases rx; exact SeqAt.EqAt.none_bool b
    | int b => obtain ⟨t, rfl⟩ := rx; exact SeqAt.EqAt.none_int b t
    | str b => obtain ⟨t, rfl⟩ := rx; exact SeqAt.EqAt.none_str b t
    | _ => exact absurd (show false = true from fx) Bool.false_ne_true
  | bl a =>
    cases ry
    cases x with
    | non => cases rx; exact SeqAt.EqAt.bool_none a
    | bl b => cases rx; exact SeqAt.EqAt.bool_bool a b
    | int b => obtain ⟨t, rfl⟩ := rx; exact SeqAt.EqAt.bool_int a b t
    | str b => obtain ⟨t, rfl⟩ := rx; exact SeqAt.EqAt.bool_str a b t
    | _ => exact absurd (show false = true from fx) Bool.false_ne_true
  | int a =>
    obtain ⟨t', rfl⟩ := ry
    cases x with
    | non => cases rx; exact SeqAt.EqAt.int_none a t'
    | bl b => cases rx; exact SeqAt.EqAt.int_bool a t' b
    | int b => obtain ⟨t, rfl⟩ := rx; exact SeqAt.EqAt.int_int a t' b t
    | str b => obtain ⟨t, rfl⟩ := rx; exact SeqAt.EqAt.int_str a t' b t
    | _ => exact absurd (show false = true from fx) Bool.false_ne_true
  | str a =>
    obtain ⟨t', rfl⟩ := ry
    cases x with
    | non => cases rx; exact SeqAt.EqAt.str_none a t'
    | bl b => cases rx; exact SeqAt.EqAt.str_bool a t' b
    | int b => obtain ⟨t, rfl⟩ := rx; exact SeqAt.EqAt.str_int a t' b t
    | str b => obtain ⟨t, rfl⟩ := rx; exact SeqAt.EqAt.str_str a t' b t
    | _ => exact absurd (show false = true from fx) Bool.false_ne_true
  | _ => exact absurd (show false = true from fy) Bool.false_ne_true
theorem call_len_seq : CallR X (.builtin "len") (fun xs H Q => ∃ p ys, xs = [.ref p] /\ (SqL X.K H p ys \/ SqT X.K H p ys) /\ Q (.int ys.length) H) := by
  intro pins s σ H xs us Q I r h
  obtain ⟨p, ys, rfl, hq, q⟩ := h
  obtain ⟨u, rfl, rx⟩ := vals1 r
  cases rx
  have hn := line63
  rcases hq with hq | hq
  · obtain ⟨its, r', pl, hz⟩ := I.list hq
    have hlen := r'.length
    exact Calls.call_len_list pl.isList (by simp only [List.size_toArray] <;> omega) ⟨.int ys.length, H, I.tok _, ⟨s.toks + 1, by rw [List.size_toArray, hlen]⟩, q⟩
  · obtain ⟨its, r', pl, hz⟩ := I.tuple hq
    have hlen := r'.length
    exact len_tuple pl (by simp only [List.size_toArray] <;> omega) ⟨.int ys.length, H, I.tok _, ⟨s.toks + 1, by rw [List.size_toArray, hlen]⟩, q⟩
theorem call_list_of : CallR X (.type "list") (fun xs H Q => ∃ p ys, xs = [.ref p] /\ (SqL X.K H p ys \/ SqT X.K H p ys) /\ ∀ l, H l = none -> Q (.ref l) (upd H l (.lst ys))) := by
  intro pins s σ H xs us Q I r h
  obtain ⟨p, ys, rfl, hq, q⟩ := h
  obtain ⟨u, rfl, rx⟩ := vals1 r
  cases rx
  have fin : ∀ (its : List Value), Vals ys its -> ys.length <= sizeLine -> ∀ (h' : Heap) (c' : Nat), (∀ b o', s.heap.get? b = some o' -> h'.get? b = some o') ->
      h'.get? s.heap.objs.size = some { cls := .type "list", dict := none, data := .seq its.toArray c', slots := #[] } -> EP X pins σ Q (.ref s.heap.objs.size) { s with heap := h' } := fun its r' hz h' c' kp e =>
    ⟨.ref s.heap.objs.size, _, I.laid (t' := s.toks) kp (Nat.le_refl _) (show ObjOk X.prog X.w _ h' _ (.lst ys) from ⟨hz, its, c', r', e⟩), rfl, q _ (I.hok.fresh (Nat.le_refl _))⟩
  rcases hq with hq | hq
  · obtain ⟨its, r', pl, hz⟩ := I.list hq
    have hlen := r'.length
    obtain ⟨o, ho, hc, n, hd⟩ := pl.isList
    exact call_list_seq p (.inl rfl) ho hc hd (fun h' c' kp e => fin its r' hz h' c' kp e) (by simp only [List.size_toArray] <;> omega)
  · obtain ⟨its, r', pl, hz⟩ := I.tuple hq
    have hlen := r'.length
    obtain ⟨o, ho, hc, n, hd⟩ := pl
    exact call_list_seq p (.inr rfl) ho hc hd (fun h' c' kp e => fin its r' hz h' c' kp e) (by simp only [List.size_toArray] <;> omega)
theorem call_tuple_of : CallR X (.type "tuple") (fun xs H Q => ∃ p ys, xs = [.ref p] /\ ((SqL X.K H p ys /\ ∀ l, H l = none -> Q (.ref l) (upd H l (.tup ys))) \/ (SqT X.K H p ys /\ Q (.ref p) H))) := by
  intro pins s σ H xs us Q I r h
  obtain ⟨p, ys, rfl, h⟩ := h
  obtain ⟨u, rfl, rx⟩ := vals1 r
  cases rx
  rcases h with ⟨hq, q⟩ | ⟨hq, q⟩
  · obtain ⟨its, r', pl, hz⟩ := I.list hq
    have hlen := r'.length
    refine call_tuple_list pl.isList (fun h' kp => ?_) (by simp only [List.size_toArray] <;> omega)
    have I1 : Inv X pins σ H { s with heap := h' } := I.kept (t' := s.toks) kp
    have I2 : Inv X pins σ (upd H h'.objs.size (.tup ys)) { s with heap := h'.push { cls := .type "tuple", data := .seq its.toArray } } :=
      I1.laid (t' := s.toks) (fun b o e => Heap.get?_push_of_some _ e) (Nat.le_refl _) (show ObjOk X.prog X.w _ _ _ (.tup ys) from ⟨hz, its, r', IsTup.new _ _⟩)
    exact ⟨.ref h'.objs.size, _, I2, rfl, q _ (I1.hok.fresh (Nat.le_refl _))⟩
  · obtain ⟨its, r', pl, hz⟩ := I.tuple hq
    exact call_tuple_same pl ⟨.ref p, H, I, rfl, q⟩
def tyV (K : PySem.W.Frag) (T : String) (x : V) (H : Hp) : Prop := match x with
  | .str _ => T = "str"
  | .int _ => T = "int"
  | .ref p => (T = "list" /\ ∃ xs, SqL K H p xs) \/ (T = "tuple" /\ ∃ o, K.lookup p = some o /\ o.cls = .type "tuple" /\ o.dict = none) \/
      (T = "dict" /\ ((∃ kvs, H p = some (.dK kvs)) \/ ∃ kvs, H p = some (.dT kvs))) \/ (T = "set" /\ ∃ S n, H p = some (.set S n))
  | _ => False
theorem tyV_is {pins : List (Addr × Obj)} {σ : St} {H : Hp} {s : Shared} {T : String} {x : V} {v : Value} (I : Inv X pins σ H s) (r : RelV x v) (ty : tyV X.K T x H) :
    s.TypeIs v T /\ ∀ a, v = .ref a -> ∃ ob, s.heap.get? a = some ob /\ ob.dict = none := by
  cases x with
  | str z =>
    obtain ⟨t, rfl⟩ := r
    cases (show T = "str" from ty)
    exact ⟨typeIs_str s z t, fun _ e => nomatch e⟩
  | int i =>
    obtain ⟨t, rfl⟩ := r
    cases (show T = "int" from ty)
    exact ⟨typeIs_int s i t, fun _ e => nomatch e⟩
  | ref p =>
    cases r
    rcases ty with ⟨rfl, xs, hq⟩ | ⟨rfl, o, hk, hc, hd⟩ | ⟨rfl, hk⟩ | ⟨rfl, S, n, hk⟩
    · obtain ⟨its, _, pl, _⟩ := I.list hq
      refine ⟨pl.isList.typeIs, fun a e => ?_⟩
      cases e
      obtain ⟨o, n, e, c, hd, _⟩ := pl
      exact ⟨o, e, hd⟩
    · refine ⟨⟨o, I.kIn p o hk, hc⟩, fun a e => ?_⟩
      cases e
      exact ⟨o, I.kIn _ o hk, hd⟩
    · have z : ∃ o, s.heap.get? p = some o /\ o.ExactDict := by
        rcases hk with ⟨kvs, hk⟩ | ⟨kvs, hk⟩
        · obtain ⟨_, _, _, _, o, _, _, e, ex, _⟩ := I.hok p _ hk
          exact ⟨o, e, ex⟩
        · obtain ⟨_, _, _, _, o, _, _, e, ex, _⟩ := I.hok p _ hk
          exact ⟨o, e, ex⟩
      obtain ⟨o, e, ex⟩ := z
      refine ⟨⟨o, e, ex.1⟩, fun a e2 => ?_⟩
      cases e2
      exact ⟨o, e, ex.2.1⟩
    · obtain ⟨o, _, _, _, e, ex, _⟩ := I.hok p _ hk
      refine ⟨⟨o, e, ex.1⟩, fun a e2 => ?_⟩
      cases e2
      exact ⟨o, e, ex.2.1⟩
  | _ => exact False.elim ty
def tBM (K : PySem.W.Frag) (T : String) (r : V -> List V -> Hp -> VK -> Prop) (to : TE) (t : TA) : TE := fun σ H Q => to σ H fun x H1 => tyV K T x H1 /\ t σ H1 fun xs H2 => r x xs H2 Q
variable {o e : Expr} {es : List Expr} {to : TE} {t : TA} {name : Str} {apos cpos : Pos} {T id : String} {r : V -> List V -> Hp -> VK -> Prop}
theorem pe_bm (pa : PlainAttrs T) (slot : Slot T name id) (hty : typeOf (.builtin id) = pure (.type "method_descriptor")) (hm : MtR X id r) (ho : PE X o to) (ha : PA X (e :: es) t)
    (hbase : attributeBase o name X.env (eval o X.env) = eval o X.env := by rfl)
    (hfew : ((backTo cpos (starEach (e :: es) X.env)).all (fun x => !x.1) && (backToKw cpos (keywordEach [] X.env)).all (fun x => x.1.isSome)
      && decide ((e :: es).length + ([] : List Keyword).length + (if ([] : List Keyword).isEmpty then 0 else 1) < 30)) = true := by rfl)
    (hline : (apos.endLine == cpos.line) = true := by rfl) (hs : starEach (e :: es) X.env = (false, eval e X.env) :: starEach es X.env := by rfl) (hplain : (backTo cpos (starEach es X.env)).any (·.1) = false := by rfl) :
    PE X (.Call (.Attribute o name apos) (e :: es) [] cpos) (tBM X.K T r to t) := by
  intro pins s σ H Q I h
  refine wpAny_Call_method_late hbase hfew hline rfl (thn (ho pins s σ H _ I h) fun v s1 ⟨x, H1, I1, r1, ty, q1⟩ => ?_)
  obtain ⟨h1, h2⟩ := tyV_is I1 r1 ty
  refine ⟨T, id, pa, slot, hty, h1, h2, ?_⟩
  have hA := ha cpos pins s1 σ H1 _ I1 q1
  rw [hs] at hA ⊢
  refine Calls.callWith_builtin (by show (false || (backTo cpos (starEach es X.env)).any (·.1)) = false; rw [hplain] <;> rfl) (Calls.evalArgs_plain ?_)
  exact thn hA fun us s2 ⟨vs, H2, I2, r2, q2⟩ => hm pins s2 σ H2 x vs v us Q I2 r1 r2 q2
end
end L2
namespace L2
open PySem PySem.Spec PyProof.Rows
def MtM (X : Cx) (id : String) (r : V -> List V -> Hp -> VK -> Prop) : Prop :=
  ∀ (pins : List (Addr × Obj)) (s : Shared) (σ : St) (H : Hp) (x : V) (xs : List V) (v : Value) (us : List Value) (Q : VK), Inv X pins σ H s -> RelV x v -> Vals xs us -> r x xs H Q ->
    wpAny (model X.prog X.w) X.A (call (.builtin id) (v :: us)) (EP X pins σ Q) X.xe s
theorem Vals.one : ∀ {x : V} {us : List Value}, Vals [x] us -> ∃ u, us = [u] /\ RelV x u
  | _, _, .cons r .nil => ⟨_, rfl, r⟩
theorem Vals.rep {xs : List V} {us : List Value} (h : Vals xs us) : ∀ k : Nat, Vals (List.replicate k xs).flatten (List.replicate k us).flatten
  | 0 => .nil
  | k + 1 => by
    rw [List.replicate_succ, List.replicate_succ, List.flatten_cons, List.flatten_cons]
    exact Vals.append h (Vals.rep h k)
theorem foldl_rep (its : List Value) : ∀ (k : Nat) (acc : List Value),
    List.foldl (fun x1 x2 => x1 ++ x2) acc.toArray (List.replicate k its.toArray) = (acc ++ (List.replicate k its).flatten).toArray
  | 0, acc => by simp
  | k + 1, acc => by
    have e : acc.toArray ++ its.toArray = (acc ++ its).toArray := by simp
    have e2 : (acc ++ its) ++ (List.replicate k its).flatten = acc ++ (List.replicate (k + 1) its).flatten := by
      rw [List.replicate_succ, List.flatten_cons, List.append_assoc]
    rw [<- e2, <- foldl_rep its k (acc ++ its), <- e, List.replicate_succ, List.foldl_cons]
section
variable {X : Cx} {pins : List (Addr × Obj)} {σ : St} {H : Hp} {s : Shared} {l b : Addr} {xs ys zs : List V}
theorem Inv.lset {its its' : List Value} {n : Nat} {f : Array Value -> Array Value} {t' : Nat} (I : Inv X pins σ H s) (hH : H l = some (.lst xs))
    (e : s.heap.get? l = some { cls := .type "list", data := .seq its.toArray n }) (hf : f its.toArray = its'.toArray) (hv : Vals ys its') (hz : ys.length <= sizeLine) :
    Inv X pins σ (upd H l (.lst ys)) { s with heap := s.heap.update l (Obj.mapSeq f), toks := t' } := by
  have q := PySem.IsL.update e f
  rw [hf] at q
  refine I.write (x := l) (e := l) (by rw [hH]; exact trivial) (.inl rfl) (fun b' u hb hu => (Heap.get?_update_other s.heap (Obj.mapSeq f) (Ne.symm hb)).trans hu) ⟨_, q⟩ ?_
  exact ⟨hz, its', _, hv, q⟩
theorem Inv.lnew {its : List Value} {t' : Nat} (I : Inv X pins σ H s) (hv : Vals ys its) (hz : ys.length <= sizeLine) :
    Inv X pins σ (upd H s.heap.objs.size (.lst ys)) { s with heap := s.heap.push { cls := .type "list", data := .seq its.toArray }, toks := t' } :=
  I.laid (fun _ _ q => Heap.get?_push_of_some _ q) (Nat.le_refl _) ⟨hz, its, 0, hv, Heap.get?_push_size _ rfl⟩
theorem Inv.fresh (I : Inv X pins σ H s) : H s.heap.objs.size = none := I.hok.fresh (Nat.le_refl _)
theorem Inv.lstM (I : Inv X pins σ H s) (hH : H l = some (.lst xs)) : xs.length <= sizeLine /\ ∃ (its : List Value) (n : Nat), Vals xs its /\ xs.length = its.length /\ s.heap.get? l = some { cls := .type "list", data := .seq its.toArray n } := by
  obtain ⟨z, its, n, r, e⟩ := I.hok l _ hH
  exact ⟨z, its, n, r, r.length, e⟩
theorem notLongL {n : Nat} (h : n <= sizeLine) : Builtin.List.listTooLong n = false := by
  unfold Builtin.List.listTooLong
  exact decide_eq_false (by omega)
end
section
variable {X : Cx}
def rAppend : V -> List V -> Hp -> VK -> Prop := fun x vs H Q => ∃ l xs y, x = .ref l /\ vs = [y] /\ H l = some (.lst xs) /\ xs.length < sizeLine /\ Q .non (upd H l (.lst (xs ++ [y])))
theorem mt_append : MtM X "list.append" rAppend := by
  intro pins s σ H x vs v us Q I rx rv h
  obtain ⟨l, xs, y, rfl, rfl, hH, hz, q⟩ := h
  cases rx
  obtain ⟨u, rfl, ru⟩ := rv.one
  obtain ⟨z, its, n, r, hl, e⟩ := I.lstM hH
  refine call_meets F.slot_list_append ⟨_, e, rfl⟩ F.entry_list_append (F.args_list_append_2 _ _) (PySem.list_append l its.toArray n u (by rw [List.size_toArray]; omega)) ⟨e, ?_⟩
  refine ⟨.non, _, I.lset (its' := its ++ [u]) hH e (by simp) (r.append (.cons ru .nil)) ?_, rfl, q⟩
  rw [List.length_append, List.length_singleton]
  omega
def rCat : R2 := fun x y H Q => ∃ l b xs zs, x = .ref l /\ y = .ref b /\ H l = some (.lst xs) /\ H b = some (.lst zs) /\ xs.length + zs.length <= sizeLine /\ ∀ p, H p = none -> Q (.ref p) (upd H p (.lst (xs ++ zs)))
theorem op_cat : OpR X (binaryOp .Add) rCat := by
  intro pins s σ H x y v u Q I rx ry h
  obtain ⟨l, b, xs, zs, rfl, rfl, hH, hB, hz, q⟩ := h
  cases rx
  cases ry
  obtain ⟨z, its, n, r, hl, e⟩ := I.lstM hH
  obtain ⟨z2, its2, n2, r2, hl2, e2⟩ := I.lstM hB
  refine PySem.P.add_list e e2 ?_ (by rw [List.size_toArray, List.size_toArray]; omega)
  have ea : its.toArray ++ its2.toArray = (its ++ its2).toArray := by simp
  rw [ea]
  exact ⟨.ref _, _, I.lnew (t' := s.toks) (r.append r2) (by rw [List.length_append]; omega), rfl, q _ I.fresh⟩
def rRep : R2 := fun x y H Q => ∃ l k xs, x = .ref l /\ y = .int k /\ H l = some (.lst xs) /\ -(2 ^ 63) <= k /\ k < 2 ^ 63 /\ xs.length * k.toNat <= sizeLine /\
  ∀ p, H p = none -> Q (.ref p) (upd H p (.lst (List.replicate k.toNat xs).flatten))
theorem len_rep {α : Type} (xs : List α) (k : Nat) : (List.replicate k xs).flatten.length = k * xs.length := by
  induction k with
  | zero => simp
  | succ k ih => rw [List.replicate_succ, List.flatten_cons, List.length_append, ih, Nat.succ_mul, Nat.add_comm]
theorem op_rep : OpR X (binaryOp .Mult) rRep := by
  intro pins s σ H x y v u Q I rx ry h
  obtain ⟨l, k, xs, rfl, rfl, hH, h1, h2, hz, q⟩ := h
  cases rx
  obtain ⟨t, rfl⟩ := ry
  obtain ⟨z, its, n, r, hl, e⟩ := I.lstM hH
  have hlen : its.toArray.size * k.toNat <= sizeLine := by rw [List.size_toArray, <- hl]; exact hz
  have hcap : ¬ its.toArray.size * k.toNat > (2 ^ 63 - 1) / 8 := by
    have : (sizeLine : Nat) <= (2 ^ 63 - 1) / 8 := by decide
    omega
  have hfit : ¬ (!Builtin.List.listFitsIndex k) = true := by
    rw [fitsIndex_both h1 h2]
    exact Bool.false_ne_true
  have hlong : ¬ Builtin.List.listTooLong (its.toArray.size * k.toNat) = true := by
    rw [notLongL hlen]
    exact Bool.false_ne_true
  have hnew : List.foldl (fun x1 x2 => x1 ++ x2) #[] (List.replicate (if its.toArray.isEmpty = true then 0 else k.toNat) its.toArray) = (List.replicate k.toNat its).flatten.toArray := by
    have f0 : ∀ m : Nat, List.foldl (fun x1 x2 => x1 ++ x2) #[] (List.replicate m its.toArray) = (List.replicate m its).flatten.toArray := fun m => by
      have := foldl_rep its m []
      rw [List.nil_append] at this
      exact this
    rw [f0]
    cases its with
    | nil => simp
    | cons a r' => rw [if_neg (by simp)]
  refine wpAny_binaryOp_repeat_ref (T := "list") (U := "int") (by decide) ⟨_, e, rfl⟩ (fun s' => typeIs_int s' k t) noFill_list_mul F.fills_int_mul F.slot_int_rmul repeat_list F.slot_int_index.lookup
    (call_meets F.slot_int_rmul (typeIs_int s k t) F.entry_int_rmul (F.args_int_rmul_2 _ _) (int___rmul___int_list k t l its.toArray n)
      ⟨e, rfl, ⟨_, e, rfl⟩, call_meets F.slot_list_mul ⟨_, e, rfl⟩ F.entry_list_mul (F.args_list_mul_2 _ _) (AutoListH.list___mul___list_int_3 l its.toArray n k t hfit hcap hlong) ⟨e, ?_⟩⟩)
  rw [hnew]
  exact ⟨.ref _, _, I.lnew (t' := s.toks) (r.rep k.toNat) (by rw [len_rep, Nat.mul_comm]; exact hz), rfl, q _ I.fresh⟩
end
end L2
namespace Att
open PySem PySem.W PySem.Calls PyProof.Rows
theorem ints_of_wellAll {P : Params} {h : Heap} : ∀ (ns : List Int) (vs : List Value), WellAll P h vs (ns.map WData.int) -> IntsAre vs ns := by
  intro ns
  induction ns with
  | nil =>
    intro vs w
    rw [List.map_nil] at w
    cases w
    exact .nil
  | cons n ns ih =>
    intro vs w
    rw [List.map_cons] at w
    cases w with
    | cons a b =>
      cases a
      exact .cons _ _ (ih _ b)
theorem script_of {l : OpenLaw} {n : Nat} (hn : l.most = some n) {P : Params} {h : Heap} {args : List WData} {vals : List Value}
    (hpre : l.row.toRowW.claim.pre args = true) (hwl : WellAll P h vals args) :
    ∃ a vs ns, vals = [Value.ref a] /\ args = [WData.list (ns.map WData.int)] /\ h.get? a = some { cls := .type "list", data := .seq vs.toArray } /\ IntsAre vs ns /\ ns.length <= n := by
  have hsh : WShape.hasAll [] args [.list .int] = true := (pre_splitW hpre).1
  have hc : l.pre.holds [] { args := args } = true := (pre_splitW hpre).2
  obtain ⟨d, r, rfl, h1, h2⟩ := hasAllW_cons hsh
  obtain rfl := hasAllW_nil h2
  obtain ⟨xs, rfl, h3⟩ := hasW_list h1
  obtain ⟨ns, rfl⟩ := items_int h3
  have hlen : ns.length <= n := by
    unfold OpenLaw.pre at hc
    have h4 : (WTm.not (.lt (.lit (.int (n : Int))) (.len (.arg 0)))).holds [] { args := [.list (ns.map .int)] } = true := by
      have h4 := (holds_andW hc).1
      rw [hn] at h4
      exact h4
    have h5 := condW_of h4 (w_not (w_lt w_lit (w_len_list (w_arg rfl))))
    rw [List.length_map] at h5
    refine Nat.le_of_not_lt fun q => ?_
    have q' : (n : Int) < ((ns.length : Nat) : Int) := by omega
    first
      | (rw [decide_eq_true q'] at h5; exact absurd h5 (by decide))
      | (simp at h5; omega)
  cases hwl with
  | cons w1 w2 =>
    cases w2
    cases w1 with
    | list ho hall => exact ⟨_, _, ns, rfl, rfl, ho, ints_of_wellAll ns _ hall, hlen⟩
theorem post_true (l : OpenLaw) (args : List WData) : l.row.toRowW.claim.post args (.bool true) args = true :=
  postW_of (r := l.row.toRowW) (X := (true == true))
    (show WShape.has [] (.bool true) .bool = true by first | rfl | decide | simp [WShape.has, WShape.arms, WShape.armsAll])
    (show (WTm.eq .res (.lit (.bool true))).value [] { args := args, res := some (.bool true), after := args } = some (.bool (true == true)) from w_eq_bool (w_res rfl) w_lit) rfl
theorem attach_call {l : OpenLaw} {n : Nat} {q : Program} {loose : List Str} {XP : (Str -> Option Value) -> Heap -> Prop} {YP : World -> Heap -> Prop} {d : DefRec}
    (hn : l.most = some n) (hdf : d.params.defaults = [])
    (call : ∀ (w : World) (s₀ s₁ : Shared) (mg mb : Str -> Option Value) (fa : Addr) (o : Obj) (pm cd doc : Value) (a : Addr) (vs : List Value) (ns : List Int),
      Ground q loose [] XP w s₀ mg mb s₁.heap -> YP w s₁.heap ->
      s₁.heap.get? fa = some o -> o.data = .func (docDef d.name d.params d.body d.scope pm cd doc) -> s₁.heap.CodeRec cd d.name -> mg d.name = some (.ref fa) ->
      s₁.heap.get? a = some { cls := .type "list", data := .seq vs.toArray } -> IntsAre vs ns -> ns.length <= n -> s₁.gens = #[] ->
      codeAny (model l.prog w) callerA (.call (.ref fa) ⟨[.ref a], []⟩) (fun r s' => r = .ok (.ret (.bool true)) /\ OldK s₁.heap s'.heap /\ s'.os = s₁.os /\ AllBare s'.gens) s₁) :
    WalkO q loose XP YP l.row.toRowW d [] (fun f vs => PySem.call f vs) := by
  intro w s₀ s₁ mg mb G Y fa o pm cd doc dV kV ho hd hcd hD hmg hg args vals as hpre hlay hrd hwl hlo
  obtain rfl : dV = .none := Dflts.none hD hdf
  obtain rfl : kV = .none := Dflts.noKw hD
  obtain ⟨a, vs, ns, rfl, rfl, hobj, hints, hlen⟩ := script_of hn hpre hwl
  refine enter_call (codeAny_mono (call w s₀ s₁ mg mb fa o pm cd doc a vs ns G Y ho (fd_plain hd) hcd hmg hobj hints hlen hg) fun r s' hq => ?_)
  obtain ⟨rfl, h2, h3, h4⟩ := hq
  exact ⟨.inl ⟨.bool true, .bool true, [], rfl, fun _ => rfl, .bool true, post_true l _, fun _ => ⟨List.Pairwise.nil, fun _ hm => (nomatch hm)⟩⟩, h2, h3, h4⟩
end Att
namespace L2
open PySem PySem.Spec PyProof.Rows
theorem vals_ints : ∀ {vs : List Value} {ns : List Int}, IntsAre vs ns -> Vals (ns.map V.int) vs
  | _, _, .nil => .nil
  | _, _, .cons n t h => .cons ⟨t, rfl⟩ (vals_ints h)
def Only (H : Hp) : Prop := ∀ b, H b = none \/ ∃ o xs, H b = some (.frz o (.lst xs))
theorem law_call {P : Program} {w : World} {K : PySem.W.Frag} {mg mb : Str -> Option Value} {CX : CXT} {k : Nat} {fa a : Addr} {fd : FuncData} {x : Str} {sp : Sp} {s₁ : Shared} {vs : List Value} {ns : List Int}
    (KX : K.In s₁.heap) (hns : s₁.heap.Ns mainGlobals mg) (hb : s₁.heap.Ns builtinsNs mb) (hbb : ∀ x : Str, x ≠ "__name__" -> mb x = bootBuiltins x) (hlim : s₁.heap.NoLimit) (hg : s₁.gens = #[])
    (ha : s₁.heap.get? a = some { cls := .type "list", data := .seq vs.toArray }) (hi : IntsAre vs ns) (hl : ns.length <= sizeLine) (hr : Room k callerA)
    (F : ∀ base : Heap, K.In base -> base.Ns mainGlobals mg -> FnOk P w K mg base CX k fa fd [x] sp) (hbind : ∀ (s : Shared) (u : Value), BindsTo s fd ⟨[u], []⟩ [(x, u)])
    (hsp : ∀ H : Hp, Only H -> SqL K H a (ns.map V.int) -> sp [.ref a] H (fun v _ => v = .bl true) fun _ _ _ => False)
    (hCX : ∀ H e s', CX [] H s₁ (fun _ _ _ => False) e s' -> False) :
    codeAny (model P w) callerA (.call (.ref fa) ⟨[.ref a], []⟩) (fun r s' => r = .ok (.ret (.bool true)) /\ OldK s₁.heap s'.heap /\ s'.os = s₁.os /\ AllBare s'.gens) s₁ := by
  have rv := vals_ints hi
  have lenV := hi.length
  -- from an abstract heap in which nothing but the script may be tracked
  have core : ∀ H : Hp, Only H -> SqL K H a (ns.map V.int) -> HOk P w H s₁.heap -> (∀ b, H b ≠ none -> b = a) -> (H a ≠ none -> K.lookup a = none) ->
      codeAny (model P w) callerA (.call (.ref fa) ⟨[.ref a], []⟩) (fun r s' => r = .ok (.ret (.bool true)) /\ OldK s₁.heap s'.heap /\ s'.os = s₁.os /\ AllBare s'.gens) s₁ := by
    intro H hO hS hok hA hK
    have base_of : ∀ {b : Addr} {o : Obj}, s₁.heap.get? b = some o -> H b = none -> (hidT s₁.heap H).get? b = some o := fun e n => hidT_get e n
    have noA : ∀ {b : Addr} {o : Obj} {es : Array DictEntry} {ep : Nat}, s₁.heap.get? b = some o -> o.data = .dict es ep -> H b = none := fun {b o es ep} e d => by
      cases q : H b with
      | none => rfl
      | some u =>
        have e' : b = a := hA b (by rw [q]; simp)
        subst e'
        rw [ha] at e; cases e
        have d' : Data.seq vs.toArray _ = Data.dict es ep := d
        cases d'
    have nsK : ∀ {b : Addr} {m : Str -> Option Value}, s₁.heap.Ns b m -> (hidT s₁.heap H).Ns b m := fun {b m} ⟨o, es, ep, e, d, r⟩ => ⟨o, es, ep, base_of e (noA e d), d, r⟩
    have hKb : K.In (hidT s₁.heap H) := fun b o e => base_of (KX b o e) (by
      cases q : H b with
      | none => rfl
      | some u =>
        have e' : b = a := hA b (by rw [q]; simp)
        subst e'
        rw [hK (by rw [q]; simp)] at e; cases e)
    have hM : Mod K mg (hidT s₁.heap H) := ⟨hKb, nsK hns, ⟨mb, nsK hb, hbb⟩, let ⟨mc, h1, h2⟩ := hlim; ⟨mc, nsK h1, h2⟩⟩
    have e0 : Env0 P w K mg (hidT s₁.heap H) callerA [] s₁ H := ⟨rfl, hM, fun b o e => of_hidT e, Nat.le_of_eq (hidT_size _ _), trivial, fun b hb => absurd (show b ∈ ([] : List Addr) from hb) (by simp), hok, .of_eq hg⟩
    refine codeAny_mono ((F _ hKb (nsK hns)).run callerA [] s₁ H ⟨[.ref a], []⟩ [.ref a] [.ref a] _ _ hr e0 (hbind s₁ (.ref a)) (.cons rfl .nil) (hsp H hO hS)) fun r s' h => ?_
    cases r with
    | error e => exact (hCX H e s' h).elim
    | ok fl =>
      cases fl with
      | next => exact False.elim h
      | brk => exact False.elim h
      | cont => exact False.elim h
      | ret u =>
        obtain ⟨v, H', os, bare, un, hok', r', q⟩ := h
        have q' : v = .bl true := q
        subst q'
        obtain rfl : u = Value.bool true := r'
        refine ⟨rfl, OldK.of_keep fun b o e => ?_, os, bare⟩
        cases q : H b with
        | none => exact un.keep b o e q (by intro z; exact absurd (show b ∈ ([] : List Addr) from z) (by simp)) (by simp)
        | some u =>
          rcases hO b with z | ⟨ob, xs, z⟩
          · rw [q] at z; cases z
          · have z2 := un.frzs b ob _ z
            obtain ⟨e1, _⟩ := hok b _ z
            obtain ⟨e2, _⟩ := hok' b _ z2
            rw [e] at e1; cases e1
            exact e2
  cases hk : K.lookup a with
  | some o =>
    -- the script is one of the module's own objects
    have e := KX a o hk
    rw [ha] at e
    cases e
    refine core (fun _ => none) (fun _ => .inl rfl) (.inr ⟨_, vs.toArray, _, hk, rfl, rfl, rfl, by rw [List.size_toArray, lenV]; exact hl, by simpa using rv⟩) (fun b u z => by have z' : (none : Option HO) = some u := z; cases z') (fun b z => absurd rfl z) fun z => absurd rfl z
  | none =>
    refine core (fun b => if b = a then some (.frz { cls := .type "list", data := .seq vs.toArray } (.lst (ns.map V.int))) else none) (fun b => ?_) (.inl (.inr ⟨{ cls := .type "list", data := .seq vs.toArray }, if_pos rfl⟩)) (fun b u z => ?_) (fun b z => ?_) fun _ => hk
    · by_cases hb : b = a
      · exact .inr ⟨_, _, if_pos hb⟩
      · exact .inl (if_neg hb)
    · by_cases hb : b = a
      · have z' := (if_pos hb).symm.trans z
        cases z'
        subst hb
        exact ⟨ha, by rw [List.length_map]; exact hl, vs, _, rv, ha⟩
      · have z' := (if_neg hb).symm.trans z
        cases z'
    · by_cases hb : b = a
      · exact hb
      · exact absurd (if_neg hb) z
end L2
namespace L2
open PySem PySem.Spec PyProof.Rows
theorem walk_of {l : PySem.W.OpenLaw} {n k : Nat} {q : Program} {loose : List Str} {XP : (Str -> Option Value) -> Heap -> Prop} {YP : World -> Heap -> Prop} {d : DefRec} {K : Params -> PySem.W.Frag} {CX : World -> CXT} {sp : World -> Sp} {x : Str}
    (hn : l.most = some n) (hn2 : n <= sizeLine) (hdf : d.params.defaults = []) (hr : Room k callerA)
    (hY : ∀ (w : World) (h : Heap), YP w h -> (K w.params).In h)
    (F : ∀ (w : World) (mg : Str -> Option Value) (fa : Addr) (h : Heap), (K w.params).In h -> h.Ns mainGlobals mg -> mg d.name = some (.ref fa) ->
      ∃ fd : FuncData, (∀ (s : Shared) (u : Value), BindsTo s fd ⟨[u], []⟩ [(x, u)]) /\
        ∀ base : Heap, (K w.params).In base -> base.Ns mainGlobals mg -> FnOk l.prog w (K w.params) mg base (CX w) k fa fd [x] (sp w))
    (hsp : ∀ (w : World) (H : Hp) (a : Addr) (ns : List Int), ns.length <= n -> Only H -> SqL (K w.params) H a (ns.map V.int) -> sp w [.ref a] H (fun v _ => v = .bl true) fun _ _ _ => False)
    (hCX : ∀ (w : World) (H : Hp) (s : Shared) (e : Value) (s' : Shared), CX w [] H s (fun _ _ _ => False) e s' -> False) :
    PySem.W.WalkO q loose XP YP l.row.toRowW d [] (fun f vs => PySem.call f vs) := by
  refine Att.attach_call hn hdf fun w s₀ s₁ mg mb fa o pm cd doc a vs ns G Y ho hd hcd hmg hobj hints hlen hg => ?_
  have KX := hY w _ Y
  obtain ⟨fd, hb, hF⟩ := F w mg fa _ KX G.T.g hmg
  exact law_call KX G.T.g G.T.b G.T.builtins G.T.nolimit hg hobj hints (Nat.le_trans hlen hn2) hr hF hb (fun H hO hS => hsp w H a ns hlen hO hS) fun H e s' => hCX w H s₁ e s'
end L2
namespace L2
open PySem PySem.Spec PyProof.Rows
def inClass (s : Stmt) (j : Nat) : Stmt := match s with
  | .ClassDef _ _ _ body _ _ _ _ _ _ _ => body.getD j (.Pass ⟨0, 0, 0, 0⟩)
  | _ => .Pass ⟨0, 0, 0, 0⟩
def defArgs (s : Stmt) : Arguments := match s with
  | .FunctionDef _ a _ _ _ _ _ _ _ _ => a
  | _ => { posonlyargs := [], args := [], vararg := none, kwonlyargs := [], kw_defaults := [], kwarg := none, defaults := [] }
def defBody (s : Stmt) : List Stmt := match s with
  | .FunctionDef _ _ b _ _ _ _ _ _ _ => b
  | _ => []
def defScope (s : Stmt) : Scope := match s with
  | .FunctionDef _ _ _ _ _ _ sc _ _ _ => sc
  | _ => { kind := .function, names := [], isGenerator := false, isCoroutine := false }
abbrev CX0 : CXT := fun _ _ _ _ _ _ => False
abbrev E0 : XK := fun _ _ _ => False
theorem pass0 {X : Cx} : Passes CX0 X E0 := fun _ _ _ _ _ _ _ h => h.elim
structure Fun (K : PySem.W.Frag) (x qual : Str) (st : Stmt) (f : Addr) (fd : FuncData) : Prop where
  ex : ∃ (oc : Value) (od : Option Addr) (kV doc pm : Value) (an : Option Addr) (cdv ct : Value) (osl : Array (Option Value)),
    fd = PySem.W.fnOf x qual (defArgs st) (defBody st) (defScope st) .none kV doc pm an cdv ct /\ K.lookup f = some ⟨oc, od, .func fd, osl⟩ /\ PySem.W.codeIn K cdv qual = true
  kp : PySem.W.keepIn K (.ref f) = true
section
variable {P : Program} {w : World} {K : PySem.W.Frag} {mg : Str -> Option Value} {base : Heap}
theorem Fun.ok {x qual : Str} {st : Stmt} {f : Addr} {fd : FuncData} {N ps : List Str} {k : Nat} {sp : Sp} (F : Fun K x qual st f fd) (S : FnScope N ps (defScope st)) (len : ∀ vs H Q E, sp vs H Q E -> vs.length = ps.length)
    (hbody : ∀ (cdv : Value) (A : Around) (outer : List Env) (s : Shared) (H : Hp) (vs : List V) (Q : VK) (E : XK), Room k (A.deeper (envOfC qual (defScope st) s.heap.objs.size f cdv)) -> sp vs H Q E ->
      ∃ t, PSs (cxOf CX0 P w K mg base N qual (defScope st) f cdv A outer s H E).nox (defBody st) t /\ t { nx := fun _ H' => Q .non H', rt := Q } (start N vs) H) : FnOk P w K mg base CX0 (k + 1) f fd ps sp := by
  obtain ⟨oc, od, kV, doc, pm, an, cdv, ct, osl, rfl, lk, hcd⟩ := F.ex
  refine fn_of lk hcd S len fun A outer s H vs Q E hr hsp => ?_
  obtain ⟨t, h, q⟩ := hbody cdv A outer s H vs Q E hr hsp
  exact ⟨t, h.nox, q⟩
theorem Fun.binds {x qual : Str} {st : Stmt} {f : Addr} {fd : FuncData} {ps : List Str} (F : Fun K x qual st f fd)
    (h : ∀ (kV doc pm : Value) (an : Option Addr) (cdv ct : Value) (us : List Value), us.length = ps.length -> bindArgs (PySem.W.fnOf x qual (defArgs st) (defBody st) (defScope st) .none kV doc pm an cdv ct) ⟨us, []⟩ = pure (ps.zip us)) : Binds K fd ps [] := by
  obtain ⟨oc, od, kV, doc, pm, an, cdv, ct, osl, rfl, lk, hcd⟩ := F.ex
  exact .all (h kV doc pm an cdv ct)
theorem fun_mk {x qual : Str} {st : Stmt} {f : Addr} {oc : Value} {od an : Option Addr} {osl : Array (Option Value)} {kV doc pm cdv ct : Value} (l : K.lookup f = some ⟨oc, od, .func (PySem.W.fnOf x qual (defArgs st) (defBody st) (defScope st) .none kV doc pm an cdv ct), osl⟩)
    (c : PySem.W.codeIn K cdv qual = true) (k : PySem.W.keepIn K (.ref f) = true) : Fun K x qual st f (PySem.W.fnOf x qual (defArgs st) (defBody st) (defScope st) .none kV doc pm an cdv ct) := ⟨⟨oc, od, kV, doc, pm, an, cdv, ct, osl, rfl, l, c⟩, k⟩
end
section
variable {X : Cx}
theorem pv (i : Nat) {x : Str} {pos : Pos} (hN : X.N[i]? = some x := by rfl) (hv : Vis X.env.scope x := by first | exact Or.inl rfl | exact Or.inr (Or.inl rfl) | exact Or.inr (Or.inr rfl)) (hd : (x == ("__debug__" : Str)) = false := by decide)
    (hcd : (x == ("__classdict__" : Str)) = false := by decide) : PE X (.Name x pos) (tVar i) := pe_var hN hv hd hcd
end
theorem iteF {A B : Prop} (h : B) : if false = true then A else B := by
  rw [if_neg Bool.false_ne_true]
  exact h
theorem iteT {A B : Prop} (h : A) : if true = true then A else B := by
  rw [if_pos rfl]
  exact h
theorem ite2 {c A B : Prop} [Decidable c] (h1 : c -> A) (h2 : ¬ c -> B) : if c then A else B := by
  by_cases h : c
  · rw [if_pos h]
    exact h1 h
  · rw [if_neg h]
    exact h2 h
def Same (H H' : Hp) : Prop := ∀ b o, H b = some o -> H' b = some o
theorem Same.refl (H : Hp) : Same H H := fun _ _ h => h
theorem Same.trans {H H1 H2 : Hp} (a : Same H H1) (b : Same H1 H2) : Same H H2 := fun c o h => b c o (a c o h)
theorem Same.free {H H' : Hp} (e : Same H H') {l : Addr} (h : H' l = Option.none) : H l = Option.none := by
  cases q : H l with
  | none => rfl
  | some o =>
    rw [e l o q] at h
    cases h
theorem Same.seq {K : PySem.W.Frag} {H H' : Hp} {a : Addr} {xs : List V} (e : Same H H') (h : SqL K H a xs) : SqL K H' a xs := by
  rcases h with (h | ⟨o, h⟩) | h
  · exact .inl (.inl (e _ _ h))
  · exact .inl (.inr ⟨o, e _ _ h⟩)
  · exact .inr h
end L2
set_option maxHeartbeats 4000000
namespace L2
open PySem PySem.Spec PyProof.Rows
theorem fls {α : Type} {M : Model} {A : Around} {t : Sem α} {Q : α -> Shared -> Prop} {E : Value -> Shared -> Prop} {s : Shared} (h : wpAny M A t Q (fun _ _ => False) s) : wpAny M A t Q E s :=
  wpAny_mono h (fun _ _ q => q) fun _ _ z => z.elim
section
variable {prog : Program} {w : World} {A : Around} {R : Result -> Shared -> Prop} {s : Shared}
theorem compLoop_own {elt target iter : Expr} {ifs : List Expr} {scope : Scope} {pos : Pos} {it acc : Value} {env : Env} (J : Nat -> Shared -> Prop)
    (turn : ∀ n s, J n s -> wpAny (model prog w) A (pyNext it) (fun r s₁ => match r with
      | none => R (.ok .next) s₁
      | some v => wpAny (model prog w) A (letOwnedTupleGo target it v) (fun _ s₂ => wpAny (model prog w) A (assign target env v) (fun _ s₃ =>
          wpAny (model prog w) A (forIn ifs true fun c r => if r = true then do let ok <- isTrue c env (eval c env); pure (ForInStep.yield ok) else pure (ForInStep.yield r)) (fun ok s₄ =>
            if ok = true then wpAny (model prog w) A (eval elt env) (fun x s₅ =>
              wpAny (model prog w) A (call (.builtin "list.append") [acc, x]) (fun _ s₆ => ∃ m, m < n /\ J m s₆) (fun _ _ => False) s₅) (fun _ _ => False) s₄
            else ∃ m, m < n /\ J m s₄) (fun _ _ => False) s₃) (fun _ _ => False) s₂) (fun _ _ => False) s₁) (fun _ _ => False) s)
    (n : Nat) (h : J n s) :
    codeAny (model prog w) A (.compLoop (.ListComp elt [⟨target, iter, ifs, 0⟩] scope pos) 0 it acc env) R s := by
  refine codeAny_loop rfl J (fun n s hI => ?_) n h
  show wpAny _ A ((compTurn (.ListComp elt [⟨target, iter, ifs, 0⟩] scope pos) 0 it acc env).onRaise (fun x => do noteFrame x env; theTreesLotGoes x)) _ _ s
  refine wpAny_noted (fls ?_)
  rw [compTurn_list]
  refine wpAny_bind (wpAny_standAt (wpAny_bind (wpAny_mono (turn n s hI) (fun r s₁ h₁ => ?_) fun _ _ h' => h')))
  cases r with
  | none => exact wpAny_pure h₁
  | some v =>
    refine wpAny_bind (wpAny_mono h₁ (fun _ s₂ h₂ => wpAny_bind (wpAny_mono h₂ (fun _ s₃ h₃ => wpAny_bind (wpAny_mono h₃ (fun ok s₄ h₄ => ?_) fun _ _ h' => h')) fun _ _ h' => h')) fun _ _ h' => h')
    cases ok with
    | false => exact wpAny_pure ⟨rfl, h₄⟩
    | true => exact wpAny_bind (wpAny_bind (wpAny_mono h₄ (fun x s₅ h₅ => wpAny_bind (wpAny_mono h₅ (fun _ s₆ h₆ => wpAny_pure (wpAny_pure ⟨rfl, h₆⟩)) fun _ _ h' => h')) fun _ _ h' => h'))
end
def clOf (scope : Scope) (env : Env) : List (Str × Addr) := (scope.names.filter fun y => y.2 == .free).reverse.map fun y => (y.1, (env.cells.lookup y.1).getD 0)
theorem closureFor_clOf {scope : Scope} {env : Env} (h : ∀ y ∈ scope.names, y.2 = .free -> ∃ c, env.cells.lookup y.1 = some c) : closureFor scope env = pure (clOf scope env) := by
  unfold closureFor clOf
  have key : ∀ (l : List (Str × NameKind)) (cs : List (Str × Addr)), (∀ y ∈ l, y.2 = .free -> ∃ c, env.cells.lookup y.1 = some c) ->
      (forIn l cs (fun x r => match x with
        | (name, kind) => if (kind == NameKind.free) = true then do let a <- cellOf env name; pure (ForInStep.yield ((name, a) :: r)) else pure (ForInStep.yield r)) : Sem (List (Str × Addr))) =
        pure ((l.filter fun y => y.2 == .free).reverse.map (fun y => (y.1, (env.cells.lookup y.1).getD 0)) ++ cs) := by
    intro l
    induction l with
    | nil => intro cs _; rfl
    | cons y l ih =>
      intro cs hl
      obtain ⟨n, k⟩ := y
      have ih' := fun cs => ih cs fun y hy => hl y (List.mem_cons_of_mem _ hy)
      rw [List.forIn_cons]
      by_cases hk : k = .free
      · subst hk
        obtain ⟨c, hc⟩ := hl (n, .free) List.mem_cons_self rfl
        have e : cellOf env n = pure c := by unfold cellOf; rw [hc]
        simp only [beq_self_eq_true, if_true, e, pure_bind]
        rw [ih']
        rw [List.filter_cons_of_pos (by rfl), List.reverse_cons, List.map_append, List.append_assoc]
        simp [hc]
      · have hb : (k == NameKind.free) = false := by simpa using hk
        simp only [hb, Bool.false_eq_true, if_false, pure_bind]
        rw [ih', List.filter_cons_of_neg (by simp [hb])]
  have := key scope.names [] h
  rw [List.append_nil] at this
  first
    | exact this
    | (rw [this]; rfl)
    | (simp only [bind_pure]; exact this)
theorem lookup_map_snd {f : Str -> Addr} {x : Str} {c : Addr} : ∀ {l : List (Str × NameKind)}, (l.map fun y => (y.1, f y.1)).lookup x = some c -> c = f x /\ ∃ k, (x, k) ∈ l
  | [], h => by simp at h
  | (n, k) :: l, h => by
    rw [List.map_cons, List.lookup_cons] at h
    cases e : x == n with
    | true =>
      rw [e] at h
      have e' : x = n := by simpa using e
      subst e'
      exact ⟨(Option.some.inj h).symm, k, List.mem_cons_self⟩
    | false =>
      rw [e] at h
      obtain ⟨h1, k', h2⟩ := lookup_map_snd h
      exact ⟨h1, k', List.mem_cons_of_mem _ h2⟩
theorem lookup_map_has {f : Str -> Addr} {x : Str} {k : NameKind} : ∀ {l : List (Str × NameKind)}, (x, k) ∈ l -> (l.map fun y => (y.1, f y.1)).lookup x = some (f x)
  | [], h => nomatch h
  | (n, k') :: l, h => by
    rw [List.map_cons, List.lookup_cons]
    cases e : x == n with
    | true =>
      have e' : x = n := by simpa using e
      subst e'
      rfl
    | false =>
      rcases List.mem_cons.mp h with q | q
      · cases q
        simp at e
      · exact lookup_map_has q
theorem clOf_sub {scope : Scope} {env : Env} (h : ∀ y ∈ scope.names, y.2 = .free -> ∃ c, env.cells.lookup y.1 = some c) {x : Str} {c : Addr} (e : (clOf scope env).lookup x = some c) : env.cells.lookup x = some c := by
  obtain ⟨h1, k, h2⟩ := lookup_map_snd (f := fun x => (env.cells.lookup x).getD 0) e
  have h3 := List.mem_filter.mp (List.mem_reverse.mp h2)
  obtain ⟨c', hc⟩ := h (x, k) h3.1 (by simpa using h3.2)
  have hc' : env.cells.lookup x = some c' := hc
  rw [hc'] at h1 ⊢
  rw [h1]
  rfl
theorem clOf_has {scope : Scope} {env : Env} {x : Str} (h : (x, NameKind.free) ∈ scope.names) : (clOf scope env).lookup x = some ((env.cells.lookup x).getD 0) :=
  lookup_map_has (f := fun x => (env.cells.lookup x).getD 0) (k := .free) (List.mem_reverse.mpr (List.mem_filter.mpr ⟨h, rfl⟩))
theorem relabel_lookup {scope : Scope} {env : Env} {x : Str} : (relabel scope env).names.lookup x = (scope.names.lookup x).map fun k => if (k == .free && env.scope.kind == .function && env.kindOf x == some .cell) = true then .cell else k := by
  unfold relabel
  show List.lookup x (scope.names.map _) = _
  induction scope.names with
  | nil => rfl
  | cons y l ih =>
    obtain ⟨n, k⟩ := y
    rw [List.map_cons]
    show List.lookup x ((if (k == NameKind.free && env.scope.kind == ScopeKind.function && env.kindOf n == some NameKind.cell) = true then (n, NameKind.cell) else (n, k)) :: _) = _
    cases e : x == n with
    | true =>
      have e' : x = n := by simpa using e
      subst e'
      by_cases hc : (k == NameKind.free && env.scope.kind == ScopeKind.function && env.kindOf x == some NameKind.cell) = true
      · rw [if_pos hc, List.lookup_cons, List.lookup_cons, e]
        show some _ = some (if _ then _ else _)
        rw [if_pos hc]
      · rw [if_neg hc, List.lookup_cons, List.lookup_cons, e]
        show some _ = some (if _ then _ else _)
        rw [if_neg hc]
    | false =>
      by_cases hc : (k == NameKind.free && env.scope.kind == ScopeKind.function && env.kindOf n == some NameKind.cell) = true
      · rw [if_pos hc, List.lookup_cons, List.lookup_cons, e]
        exact ih
      · rw [if_neg hc, List.lookup_cons, List.lookup_cons, e]
        exact ih
def compCx (X : Cx) (N : List Str) (scope : Scope) (C : Addr) (s : Shared) (H : Hp) (fp : List Addr) : Cx where
  prog := X.prog
  w := X.w
  K := X.K
  mg := X.mg
  base := X.base
  A := X.A
  N := N
  s₀ := s
  H₀ := H
  env := compEnvC scope (clOf scope X.env) C X.env
  outer := X.stack
  stack := X.stack
  ex := fp
  fn := fun _ => false
  calm := X.calm
  pn := []
  xe := fun _ _ => False
def compSt (own : Nat) (caps : List Nat) (σ : St) : St := List.replicate own none ++ caps.map fun j => (σ[j]?).getD none
structure CompOk (X : Cx) (N : List Str) (scope : Scope) (own : Nat) (caps : List Nat) : Prop where
  kind : scope.kind = .function
  names : ∀ y ∈ scope.names, y.2 = .local -> scope.names.lookup y.1 = some .local
  nocell : ∀ y ∈ scope.names, y.2 ≠ .cell
  free : ∀ y ∈ scope.names, y.2 = .free -> X.env.kindOf y.1 = some .cell \/ X.env.kindOf y.1 = some .free
  len : N.length = own + caps.length
  cap : ∀ (i j : Nat) (x : Str), caps[i]? = some j -> N[own + i]? = some x -> X.N[j]? = some x /\ scope.names.lookup x = some .free
theorem CompOk.cells {X : Cx} {N : List Str} {scope : Scope} {own : Nat} {caps : List Nat} (O : CompOk X N scope own caps) (ok : X.Ok) : ∀ y ∈ scope.names, y.2 = .free -> ∃ c, X.env.cells.lookup y.1 = some c :=
  fun y hy hf => ok.has y.1 (O.free y hy hf)
section
variable {X : Cx} {pins : List (Addr × Obj)} {σ : St} {H : Hp} {s : Shared} {N : List Str} {scope : Scope} {own : Nat} {caps : List Nat}
theorem Inv.block {h₁ : Heap} {tk : Nat} {fp : List Addr} (O : CompOk X N scope own caps) (I : Inv X pins σ H s) (hf : ∀ b ∈ fp, FpOk X pins H b) (hlt : ∀ b ∈ fp, b < s.heap.objs.size) {m : Str -> Option Value} (hns : h₁.Ns s.heap.objs.size m)
    (hk : ∀ b o, s.heap.get? b = some o -> h₁.get? b = some o) : Inv (compCx X N scope s.heap.objs.size s H fp) [] (compSt own caps σ) H { s with heap := h₁, toks := tk } := by
  have hcl := O.cells I.ok
  have sub : ∀ x c, (clOf scope X.env).lookup x = some c -> X.env.cells.lookup x = some c := fun x c e => clOf_sub hcl e
  have stk : ∀ b ∈ fp, b ∉ frs X.stack := fun b hb z => by
    obtain ⟨_, f1, f2, _⟩ := hf b hb
    rcases List.mem_cons.mp (I.stkSub b z) with q | q
    · exact f1 q
    · exact f2 q
  have nocl : ∀ x, (relabel scope X.env).names.lookup x = some .cell \/ (relabel scope X.env).names.lookup x = some .free -> (x, NameKind.free) ∈ scope.names := fun x hx => by
    rw [relabel_lookup] at hx
    cases e : scope.names.lookup x with
    | none => rw [e] at hx; rcases hx with hx | hx <;> cases hx
    | some k =>
      have hm := PySem.mem_of_lookup e
      have hc := O.nocell _ hm
      cases k with
      | free => exact hm
      | cell => exact absurd rfl hc
      | _ => rw [e] at hx; rcases hx with hx | hx <;> simp at hx
  have ok : (compCx X N scope s.heap.objs.size s H fp).Ok :=
    { mod := I.ok.mod
      kind := O.kind
      glob := I.ok.glob
      blt := I.ok.blt
      above := Nat.le_refl _
      inj := fun x y c h1 h2 => I.ok.inj x y c (sub x c h1) (sub y c h2)
      has := fun x hx => ⟨_, clOf_has (nocl x hx)⟩
      cab := fun x c h _ => by cases h
      hd := I.ok.hd
      frames := I.ok.frames
      stk := .inl rfl
      exf := fun b hb => ⟨Nat.ne_of_lt (hlt b hb), fun x c e => (hf b hb).2.2.2.2.1 x c (sub x c e)⟩
      bs := I.bs
      bsz := Nat.le_trans I.ok.bsz I.sz
      noex := fun b o e hb => by
        rcases (hf b hb).2.2.2.1 with z | z
        · exact I.ok.noex b o e z
        · exact absurd (Nat.lt_of_lt_of_le (Heap.lt_size e) (Nat.le_trans I.ok.bsz z)) (Nat.lt_irrefl _)
      exfs := stk
      funs := I.stack
      frf := I.stkFree }
  have hC : H s.heap.objs.size = none := I.hok.fresh (Nat.le_refl _)
  refine ⟨ok, rfl, I.bare, Un.kept hk, ⟨m, hns, fun i x v h1 h2 h3 => ?_⟩, fun x c e => ?_, hC, fun x c e => I.freeC x c (sub x c e), fun p hp => absurd (show p ∈ ([] : List (Addr × Obj)) from hp) (by simp), I.hok.kept hk, ?_⟩
  · -- a name of the def
    have hi : own <= i := by
      by_cases q : own <= i
      · exact q
      · unfold compSt at h2
        rw [List.getElem?_append_left (by simp; omega), List.getElem?_replicate] at h2
        split at h2 <;> cases h2
    obtain ⟨k, rfl⟩ : ∃ k, i = own + k := ⟨i - own, by omega⟩
    unfold compSt at h2
    rw [List.getElem?_append_right (by simp), List.length_replicate, Nat.add_sub_cancel_left, List.getElem?_map] at h2
    cases e : caps[k]? with
    | none => rw [e] at h2; cases h2
    | some j =>
      rw [e] at h2
      have h2' : (σ[j]?).getD none = some v := Option.some.inj h2
      obtain ⟨e1, e2⟩ := O.cap k j x e h1
      have e3 := PySem.mem_of_lookup e2
      have hkd := O.free _ e3 rfl
      have h4 : σ[j]? = some (some v) := by
        cases q : σ[j]? with
        | none => rw [q] at h2'; cases h2'
        | some o => rw [q] at h2'; rw [show o = some v from h2']
      have hvis : Vis X.env.scope x := .inr hkd
      obtain ⟨mo, _, hl⟩ := I.loc
      obtain ⟨u, r, l⟩ := hl j x v e1 h4 hvis
      refine ⟨u, r, .inr ⟨?_, ?_⟩⟩
      · show (relabel scope X.env).names.lookup x = some .cell \/ (relabel scope X.env).names.lookup x = some .free
        rw [relabel_lookup, e2]
        show some (if _ then NameKind.cell else NameKind.free) = _ \/ some (if _ then NameKind.cell else NameKind.free) = _
        split
        · exact .inl rfl
        · exact .inr rfl
      · rcases l with ⟨q, _⟩ | ⟨_, c, hc, z⟩
        · have hkd' : X.env.kindOf x = some .cell \/ X.env.kindOf x = some .free := hkd
          rw [q] at hkd'
          rcases hkd' with hkd' | hkd' <;> cases hkd'
        · refine ⟨c, ?_, z.keeps hk⟩
          show (clOf scope X.env).lookup x = some c
          rw [clOf_has e3, hc]
          rfl
  · obtain ⟨v, z⟩ := I.cell x c (sub x c e)
    exact ⟨v, z.keeps hk⟩
  · show (compSt own caps σ).length = N.length
    unfold compSt
    rw [List.length_append, List.length_replicate, List.length_map, O.len]
theorem Inv.blockEnd {fp : List Addr} {σ' : St} {H' : Hp} {s' : Shared} (I : Inv X pins σ H s) (hf : ∀ b ∈ fp, FpOk X pins H b) (J : Inv (compCx X N scope s.heap.objs.size s H fp) [] σ' H' s') : Inv X pins σ H' s' :=
  I.call' (ch := fp) J.os J.base J.hok J.bare fun b hb => ⟨(hf b hb).2.2.2.1, (hf b hb).2.1, (hf b hb).2.2.2.2.1, (hf b hb).2.2.2.2.2⟩
theorem Inv.off {h' : Heap} {C : Addr} (I : Inv X pins σ H s) (hC : H C = none) (hL : C ≠ X.env.locals) (h1 : X.s₀.heap.objs.size <= C) (h2 : ∀ x c, X.env.cells.lookup x = some c -> c ≠ C) (h3 : ∀ p ∈ X.pn ++ pins, p.1 ≠ C) (sb : Heap.SameBut C s.heap h') :
    Inv X pins σ H { s with heap := h' } :=
  I.turned (t' := s.toks) (it := C) (fun b o hb e => (sb.2 b hb).trans e) hC hL (.inr h1) h2 h3
end
def PIfs (X : Cx) (ifs : List Expr) (t : TT) : Prop :=
  ∀ (pins : List (Addr × Obj)) (s : Shared) (σ : St) (H : Hp) (Q : Bool -> Hp -> Prop), Inv X pins σ H s -> t σ H Q ->
    wpAny (model X.prog X.w) X.A (forIn ifs true fun c r => if r = true then do let ok <- isTrue c X.env (eval c X.env); pure (ForInStep.yield ok) else pure (ForInStep.yield r)) (TP X pins σ Q) X.xe s
def tYes : TT := fun _ H Q => Q true H
theorem pf_nil {X : Cx} : PIfs X [] tYes := fun _ _ _ H _ I h => wpAny_tests_nil ⟨H, I, h⟩
theorem pf_one {X : Cx} {c : Expr} {t : TT} (h : PT X c t) : PIfs X [c] t := fun pins s σ H Q I hw => wpAny_tests_one (h pins s σ H Q I hw)
def tComp (wi : TI) (g : TG) (tc : TT) (te : TE) (own : Nat) (caps : List Nat) : TE := fun σ H Q => wi σ H fun J H1 => ∀ D, H1 D = none -> ∃ W : Nat -> Nat -> St -> Hp -> Prop, (∃ m, W 0 m (compSt own caps σ) (upd H1 D (.lst []))) /\ ∀ i m σ' H', W i m σ' H' ->
  (J.stop i H' /\ Q (.ref D) H') \/ (J.go i H' /\ ∃ N : St -> Hp -> Prop, (∀ σ'' H'', N σ'' H'' -> ∃ m', m' < m /\ W (i + 1) m' σ'' H'') /\ ∀ x H2, J.yld i H' x H2 -> g x σ' H2 fun σ3 H3 => tc σ3 H3 fun b H4 =>
    if b = true then te σ3 H4 fun y H5 => ∃ ys, H5 D = some (.lst ys) /\ ys.length < sizeLine /\ N σ3 (upd H5 D (.lst (ys ++ [y]))) else N σ3 H4)
section
variable {X : Cx} {N : List Str} {scope : Scope} {own : Nat} {caps : List Nat} {tg iter elt : Expr} {ifs : List Expr} {wi : TI} {g : TG} {tc : TT} {te : TE} {pos : Pos}
theorem comp_run {use : Option (Value -> Sem Unit)} {QQ : Value -> Shared -> Prop} (O : CompOk X N scope own caps) (hc : X.calm = true) (hi : PI X tg iter wi) (hg : ∀ C s H fp, PG (compCx X N scope C s H fp) tg g) (ht : ∀ C s H fp, PIfs (compCx X N scope C s H fp) ifs tc)
    (he : ∀ C s H fp, PE (compCx X N scope C s H fp) elt te) (hs : ∀ x, foldedSetIterable iter X.env x = pure x)
    {pins : List (Addr × Obj)} {s : Shared} {σ : St} {H : Hp} {Q : VK} (I : Inv X pins σ H s) (h : tComp wi g tc te own caps σ H Q)
    (fin : ∀ D C H' s' m, Inv X pins σ H' s' -> Q (.ref D) H' -> s'.heap.Ns C m -> H' C = none -> C ≠ X.env.locals -> X.s₀.heap.objs.size <= C -> (∀ x c, X.env.cells.lookup x = some c -> c ≠ C) -> (∀ p ∈ X.pn ++ pins, p.1 ≠ C) ->
      compPost (model X.prog X.w) X.A X.xe use QQ (.ref D) C (.ok .next) s') :
    wpAny (model X.prog X.w) X.A (comprehension (.ListComp elt [⟨tg, iter, ifs, 0⟩] scope pos) scope X.env (firstIterPos [⟨tg, iter, ifs, 0⟩] pos) (newList []) false (eval iter X.env) use) QQ X.xe s := by
  refine wpAny_comprehension_free (use := use) rfl hs (closureFor_clOf (O.cells I.ok)) O.kind O.names (thn (hi pins s σ H _ I h) fun v s1 h1 => thn h1 fun itv s2 h2 => ?_)
  obtain ⟨it, fp, tn, J, H2, e, I2, T, st2, f2, q⟩ := h2
  subst e
  refine wpAny_newObj_type (wpAny_newFunctionEnv O.nocell (by intro y hy; simp at hy) (fun h₁ hns hsb => ?_) O.kind)
  dsimp only at hns hsb ⊢
  have hD : H2 s2.heap.objs.size = none := I2.hok.fresh (Nat.le_refl _)
  obtain ⟨W, ⟨m0, w0⟩, turn⟩ := q s2.heap.objs.size hD
  have I3 : Inv X pins σ (upd H2 s2.heap.objs.size (.lst [])) { s2 with heap := s2.heap.push { cls := .type "list", dict := none, data := .seq ([] : List Value).toArray } } :=
    I2.lnew (its := []) (t' := s2.toks) .nil (Nat.zero_le _)
  generalize hs3 : ({ s2 with heap := s2.heap.push { cls := .type "list", dict := none, data := .seq ([] : List Value).toArray } } : Shared) = s3 at I3
  have hsz3 : s3.heap.objs.size = s2.heap.objs.size + 1 := by rw [<- hs3]; exact Heap.size_push ..
  have hns' : h₁.Ns s3.heap.objs.size (fun x => ([] : List (Str × Value)).reverse.lookup x) := by rw [<- hs3]; exact hns
  have hk : ∀ b o, s3.heap.get? b = some o -> h₁.get? b = some o := fun b o e => by
    rw [<- hs3] at e
    exact hsb.extBut b o (Nat.ne_of_lt (Heap.lt_size e)) (Heap.get?_push_of_some _ e)
  have f3 : ∀ b ∈ fp, FpOk X pins (upd H2 s2.heap.objs.size (.lst [])) b := fun b hb => by
    obtain ⟨o, ho, _⟩ := T.obj _ _ st2 b hb
    exact ⟨by rw [upd_ne (Nat.ne_of_lt (Heap.lt_size ho))]; exact (f2 b hb).1, (f2 b hb).2⟩
  have hlt : ∀ b ∈ fp, b < s3.heap.objs.size := fun b hb => by
    obtain ⟨o, ho, _⟩ := T.obj _ _ st2 b hb
    rw [hsz3]
    exact Nat.lt_succ_of_lt (Heap.lt_size ho)
  have st3 : tn 0 h₁ := T.keep _ _ _ st2 fun b hb o e => hk b o (by rw [<- hs3]; exact Heap.get?_push_of_some _ e)
  have C3 : ∀ tk, Inv (compCx X N scope s3.heap.objs.size s3 (upd H2 s2.heap.objs.size (.lst [])) fp) [] (compSt own caps σ) (upd H2 s2.heap.objs.size (.lst [])) { s3 with heap := h₁, toks := tk } := fun tk => I3.block O f3 hlt hns' hk
  have nf3 : ∀ b ∈ fp, (upd H2 s2.heap.objs.size (.lst [])) b = none := fun b hb => (f3 b hb).1
  have hCL : s3.heap.objs.size ≠ X.env.locals := Nat.ne_of_gt I3.lt
  have hC1 : X.s₀.heap.objs.size <= s3.heap.objs.size := I3.sz
  have hC2 : ∀ x c, X.env.cells.lookup x = some c -> c ≠ s3.heap.objs.size := fun x c e => by
    obtain ⟨v, z⟩ := I3.cell x c e
    exact Nat.ne_of_lt z.lt
  have hC3 : ∀ p ∈ X.pn ++ pins, p.1 ≠ s3.heap.objs.size := fun p hp => Nat.ne_of_lt (Heap.lt_size (I3.pin p hp).1)
  have hst : ∀ {H' : Hp}, (∀ b ∈ fp, H' b = none) -> ∀ b ∈ fp, FpOk (compCx X N scope s3.heap.objs.size s3 (upd H2 s2.heap.objs.size (.lst [])) fp) [] H' b := fun hn b hb => by
    refine ⟨hn b hb, Nat.ne_of_lt (hlt b hb), fun z => ?_, .inl hb, fun x c e => (f3 b hb).2.2.2.2.1 x c (clOf_sub (O.cells I.ok) e), fun p hp => absurd (show p ∈ ([] : List (Addr × Obj)) from hp) (by simp)⟩
    exact (C3 0).ok.exfs b hb z
  have loop : ∀ s4 : Shared, (∃ tk, s4 = { s3 with heap := h₁, toks := tk }) ->
      codeAny (model X.prog X.w) X.A (.compLoop (.ListComp elt [⟨tg, iter, ifs, 0⟩] scope pos) 0 (.ref it) (.ref s2.heap.objs.size) (compEnvC scope (clOf scope X.env) s3.heap.objs.size X.env))
        (compPost (model X.prog X.w) X.A X.xe use QQ (.ref s2.heap.objs.size) s3.heap.objs.size) s4 := by
    rintro s4 ⟨tk, rfl⟩
    refine compLoop_own (fun n s' => ∃ i σ' H', Inv (compCx X N scope s3.heap.objs.size s3 (upd H2 s2.heap.objs.size (.lst [])) fp) [] σ' H' s' /\ tn i s'.heap /\ (∀ b ∈ fp, H' b = none) /\ W i n σ' H') ?_ m0 ⟨0, _, _, C3 tk, st3, nf3, w0⟩
    rintro n s5 ⟨i, σ5, H5, I5, st5, fr5, w5⟩
    rcases turn i n σ5 H5 w5 with ⟨stop, qn⟩ | ⟨go, NN, hN, step⟩
    · refine thn (T.done (compCx X N scope s3.heap.objs.size s3 (upd H2 s2.heap.objs.size (.lst [])) fp) rfl rfl rfl hc i [] s5 σ5 H5 _ I5 (hst fr5) st5 stop) fun r s6 ⟨hr, I6⟩ => ?_
      subst hr
      obtain ⟨m6, hn6, _⟩ := id I6.loc
      exact fin _ _ H5 s6 m6 (I3.blockEnd f3 I6) qn hn6 I6.free hCL hC1 hC2 hC3
    · refine thn (T.item (compCx X N scope s3.heap.objs.size s3 (upd H2 s2.heap.objs.size (.lst [])) fp) rfl rfl rfl hc i [] s5 σ5 H5 _ I5 (hst fr5) st5 go) fun r s6 ⟨u, hr, h6⟩ => ?_
      subst hr
      refine thn h6 fun _ s7 ⟨x, H7, I7, r7, y7, st7, fr7⟩ => ?_
      have I7' := I7.pinned (hst fr7) (T.obj _ _ st7)
      refine thn (hg _ _ _ _ _ s7 σ5 H7 x u _ I7' r7 (step x H7 y7)) fun _ s8 ⟨σ8, H8, I8, q8⟩ => ?_
      refine thn (ht _ _ _ _ _ s8 σ8 H8 _ I8 q8) fun ok s9 ⟨H9, I9, q9⟩ => ?_
      have again : ∀ {s10 : Shared} {σ10 : St} {H10 : Hp}, Inv (compCx X N scope s3.heap.objs.size s3 (upd H2 s2.heap.objs.size (.lst [])) fp) ([] ++ pinsAt fp s7.heap) σ10 H10 s10 -> NN σ10 H10 ->
          ∃ m, m < n /\ ∃ i σ' H', Inv (compCx X N scope s3.heap.objs.size s3 (upd H2 s2.heap.objs.size (.lst [])) fp) [] σ' H' s10 /\ tn i s10.heap /\ (∀ b ∈ fp, H' b = none) /\ W i m σ' H' := fun {s10 σ10 H10} I10 n10 => by
        obtain ⟨m', hm, w10⟩ := hN σ10 H10 n10
        refine ⟨m', hm, i + 1, σ10, H10, I10.unpinned, T.keep _ _ _ st7 fun b hb o e => (I10.pin (b, o) (List.mem_append_right _ (List.mem_append_right _ (mem_pinsAt hb e)))).1, fun b hb => ?_, w10⟩
        obtain ⟨o, e, d⟩ := T.obj _ _ st7 b hb
        exact (I10.pin (b, o) (List.mem_append_right _ (List.mem_append_right _ (mem_pinsAt hb e)))).2.1
      cases ok with
      | false =>
        rw [if_neg Bool.false_ne_true] at q9 ⊢
        exact again I9 q9
      | true =>
        rw [if_pos rfl] at q9 ⊢
        refine thn (he _ _ _ _ _ s9 σ8 H9 _ I9 q9) fun y s10 ⟨vy, H10, I10, r10, ys, hys, hyl, q10⟩ => ?_
        refine thn (mt_append (X := compCx X N scope s3.heap.objs.size s3 (upd H2 s2.heap.objs.size (.lst [])) fp) _ s10 σ8 H10 (.ref s2.heap.objs.size) [vy] (.ref s2.heap.objs.size) [y] (fun _ H11 => NN σ8 H11) I10 rfl (.cons r10 .nil) ⟨_, ys, vy, rfl, rfl, hys, hyl, q10⟩) fun _ s11 ⟨_, H11, I11, _, q11⟩ => ?_
        exact again I11 q11
  subst hs3
  exact codeAny_compStart_list (loop _ ⟨_, rfl⟩) (T.self _ _ _ _ _ st3 (loop _ ⟨_, rfl⟩))
theorem pe_comp (O : CompOk X N scope own caps) (hc : X.calm = true) (hi : PI X tg iter wi) (hg : ∀ C s H fp, PG (compCx X N scope C s H fp) tg g) (ht : ∀ C s H fp, PIfs (compCx X N scope C s H fp) ifs tc)
    (he : ∀ C s H fp, PE (compCx X N scope C s H fp) elt te) (hs : ∀ x, foldedSetIterable iter X.env x = pure x := by intro _; rfl) : PE X (.ListComp elt [⟨tg, iter, ifs, 0⟩] scope pos) (tComp wi g tc te own caps) := by
  intro pins s σ H Q I h
  rw [eval_ListComp]
  refine comp_run (use := none) O hc hi hg ht he hs I h fun D C H' s' m I' q hn h0 h1 h2 h3 h4 => ?_
  exact ⟨m, hn, fun h' sb => ⟨.ref D, H', I'.off h0 h1 h2 h3 h4 sb, rfl, q⟩⟩
theorem ps_comp {i : Nat} {y : Str} {py spos : Pos} (hN : X.N.Nodup) (hi' : X.N[i]? = some y) (hy : X.env.scope.names.lookup y = some .local) (O : CompOk X N scope own caps) (hc : X.calm = true) (hi : PI X tg iter wi) (hg : ∀ C s H fp, PG (compCx X N scope C s H fp) tg g)
    (ht : ∀ C s H fp, PIfs (compCx X N scope C s H fp) ifs tc) (he : ∀ C s H fp, PE (compCx X N scope C s H fp) elt te)
    (hsw : swapsWith (.ListComp elt [⟨tg, iter, ifs, 0⟩] scope pos) (some (.Name y py)) spos.line X.env = pure true := by rfl) (hs : ∀ x, foldedSetIterable iter X.env x = pure x := by intro _; rfl) :
    PS X (.Assign [.Name y py] (.ListComp elt [⟨tg, iter, ifs, 0⟩] scope pos) spos) (tAsg (tComp wi g tc te own caps) (gName i)) := by
  intro pins s σ H D I h
  rw [exec_Assign_Name_used _ _ _ _ hsw]
  refine wpAny_bind (wpAny_standAt (wpAny_bind ?_))
  show wpAny _ _ (do let _ <- comprehension (.ListComp elt [⟨tg, iter, ifs, 0⟩] scope pos) scope X.env _ (newList []) false (eval iter X.env) (some (assign (.Name y py) X.env))) _ _ s
  refine wpAny_bind (wpAny_mono (comp_run (use := some (assign (.Name y py) X.env)) (QQ := fun _ s' => SP X pins D .next s') O hc hi hg ht he hs I h fun L C H' s' m I' q hn h0 h1 h2 h3 h4 => ?_) (fun _ s' hq => wpAny_pure (wpAny_pure hq)) fun _ _ e => e)
  refine wpAny_assign_Name (store_ok2 I' hN hi' (.inl hy) (v := .ref L) rfl (fun s2 I2 ⟨a, sb, ha⟩ => ?_) (.inr hy))
  have hac : C ≠ a := by
    rcases ha with ha | ha
    · rw [ha]; exact h1
    · exact (h3 _ _ ha).symm
  exact ⟨m, hn.sameBut sb hac, fun h' sb' => ⟨_, H', I2.off h0 h1 h2 h3 h4 sb', q⟩⟩
end
end L2
namespace PySem
open Sem (wp)
section
variable {prog : Program} {w : World} {A : Around} {E : Value -> Shared -> Prop} {s : Shared}
theorem nextOf_tup {I T : Addr} {k : Nat} {vals : Array Value} {y : Value} {Q : Value -> Shared -> Prop} (st : s.heap.IsTupleIter I T k) (tp : s.heap.IsTuple T vals) (hy : vals[k]? = some y)
    (hQ : ∀ h', h'.IsTupleIter I T (k + 1) -> Heap.SameBut I s.heap h' -> Q y { s with heap := h' }) : wpAny (model prog w) A (Builtin.SmallTypes.nextOf (.ref I)) Q E s := by
  obtain ⟨oI, eI, cI, dI⟩ := id st
  obtain ⟨oT, eT, _, nT, dT⟩ := tp
  unfold Builtin.SmallTypes.nextOf
  refine wpAny_bind (wpAny_callSpecial?_slot (name := Str.ofString "__next__") st.typeIs F.slot_tuple_iterator_next (wpAny_call_entry F.slot_tuple_iterator_next st.typeIs F.entry_tuple_iterator_next ?_ (F.args_tuple_iterator_next_1 _)))
  show wpAny _ _ (field (.ref I) 0 >>= _) _ _ s
  refine wpAny_bind (wpAny_field eI dI (x := .ref T) rfl ?_)
  show wpAny _ _ (if (Value.ref T == Value.none) = true then _ else _) _ _ s
  rw [if_neg (show ¬ ((Value.ref T == Value.none) = true) from Bool.false_ne_true)]
  show wpAny _ _ (field (.ref I) 1 >>= _) _ _ s
  refine wpAny_bind (wpAny_field eI dI (x := .int k 0) rfl ?_)
  show wpAny _ _ (seqItems? (.ref T) >>= _) _ _ s
  refine wpAny_bind (wpAny_seqItems eT dT ?_)
  simp only [Int.toNat_natCast, hy]
  refine wpAny_bind (wpAny_setField eI dI (by simp) (wpAny_pure ⟨y, rfl, wpAny_pure (hQ _ ?_ (Heap.SameBut.update ..))⟩))
  exact ⟨_, Heap.get?_update_self _ eI (Obj.isFreed_of_fields (Obj.data_mapFields dI _)), (Obj.cls_mapFields ..).trans cI, by rw [Obj.data_mapFields dI]; simp [rawInt]⟩
theorem nextOf_tup_end {I T : Addr} {k : Nat} {vals : Array Value} {Q : Value -> Shared -> Prop} (hh : A.handled = none) (st : s.heap.IsTupleIter I T k) (tp : s.heap.IsTuple T vals) (hy : vals[k]? = none)
    (hE : ∀ h' e, Heap.ExtBut I s.heap h' -> (∃ o, h'.get? e = some o /\ o.cls = .type "StopIteration") -> E (.ref e) { s with heap := h' }) : wpAny (model prog w) A (Builtin.SmallTypes.nextOf (.ref I)) Q E s := by
  obtain ⟨oI, eI, cI, dI⟩ := id st
  obtain ⟨oT, eT, _, nT, dT⟩ := tp
  unfold Builtin.SmallTypes.nextOf
  refine wpAny_bind (wpAny_callSpecial?_slot (name := Str.ofString "__next__") st.typeIs F.slot_tuple_iterator_next (wpAny_call_entry F.slot_tuple_iterator_next st.typeIs F.entry_tuple_iterator_next ?_ (F.args_tuple_iterator_next_1 _)))
  show wpAny _ _ (field (.ref I) 0 >>= _) _ _ s
  refine wpAny_bind (wpAny_field eI dI (x := .ref T) rfl ?_)
  show wpAny _ _ (if (Value.ref T == Value.none) = true then _ else _) _ _ s
  rw [if_neg (show ¬ ((Value.ref T == Value.none) = true) from Bool.false_ne_true)]
  show wpAny _ _ (field (.ref I) 1 >>= _) _ _ s
  refine wpAny_bind (wpAny_field eI dI (x := .int k 0) rfl ?_)
  show wpAny _ _ (seqItems? (.ref T) >>= _) _ _ s
  refine wpAny_bind (wpAny_seqItems eT dT ?_)
  simp only [Int.toNat_natCast, hy]
  refine wpAny_bind (wpAny_rule (wpAny_bind (wpAny_setField eI dI (by simp) ?_)))
  show wpAny _ _ (newExc (.type "StopIteration") [] >>= _) _ _ _
  refine wpAny_bind ?_
  simp only [newExc, newTuple]
  refine wpAny_bind (wpAny_newObj_type ?_ (by size_fits))
  refine wpAny_bind (m := firstArgMember _ _) (wpAny_of_eq (a := Value.none) (by first | rfl | (simp only [firstArgMember]; rfl)) ?_)
  refine wpAny_newObj_type ?_ (by size_fits)
  simp only [raiseNew]
  refine wpAny_bind (wpAny_handled ?_)
  first | rw [show A.in1.handled = none from hh] | rw [hh]
  refine wpAny_bind (wpAny_pure (wpAny_throw ?_))
  exact hE _ _ (((Heap.SameBut.update ..).extBut.push _).push _) ⟨_, Heap.get?_push_size _ rfl, rfl⟩
end
theorem Heap.IsTuple.at2 {h h' : Heap} {a : Addr} {vals : Array Value} (x : h.IsTuple a vals) (e : ∀ o, h.get? a = some o -> h'.get? a = some o) : h'.IsTuple a vals := let ⟨o, q, r⟩ := x; ⟨o, e o q, r⟩
theorem Heap.IsTupleIter.at2 {h h' : Heap} {a t : Addr} {i : Nat} (x : h.IsTupleIter a t i) (e : ∀ o, h.get? a = some o -> h'.get? a = some o) : h'.IsTupleIter a t i := let ⟨o, q, r⟩ := x; ⟨o, e o q, r⟩
theorem Draws.tup {prog : Program} {w : World} {A : Around} (hh : A.handled = none) (I T : Addr) (hne : T ≠ I) (vals : Array Value) :
    Draws prog w A I [I, T] vals.size (fun i v => vals[i]? = some v) (fun i h => h.IsTupleIter I T i /\ h.IsTuple T vals) where
  live := fun _ _ st => let ⟨o, ho, _⟩ := st.1; ⟨o, ho⟩
  frame := fun _ _ _ st hk => ⟨st.1.at2 fun o e => hk I (by simp) o e, st.2.at2 fun o e => hk T (by simp) o e⟩
  item := fun i s Q E hi st hQ => nextOf_tup st.1 st.2 (y := vals[i]) (by simp [hi]) fun h' st' sb => hQ _ h' s.toks (by simp [hi]) ⟨st', st.2.extBut sb.extBut hne⟩ sb
  done := fun s Q E st hE => nextOf_tup_end hh st.1 st.2 (by simp) hE
section
open AutoSeq1 (wpAny_loadPart')
theorem meets_enum_newT (l : Addr) (items : Array Value) (n : Nat) (dct : Option Addr) (sl : Array (Option Value)) :
    Meets (Builtin.«enumerate.__new__» ⟨[.type "enumerate", .ref l], []⟩) (fun _ R s => s.heap.get? l = some { cls := .type "tuple", dict := dct, data := .seq items n, slots := sl } /\
      R (.ok (.ret (.ref (s.heap.push { cls := .type "tuple_iterator", data := .fields #[.ref l, .int 0 0] }).objs.size)))
        { s with heap := (s.heap.push { cls := .type "tuple_iterator", data := .fields #[.ref l, .int 0 0] }).push { cls := .type "enumerate", data := .fields #[.none, .bool false, .ref s.heap.objs.size, rawInt 0, .none, .none] } }) :=
  .of_wp fun prog w A R s h => by
    obtain ⟨hp, g, d, tk, os⟩ := s; obtain ⟨hl, h⟩ := h
    have hsub := sub_enumerate
    have hL : Heap.IsTuple (Shared.heap ⟨hp, g, d, tk, os⟩) l items := ⟨_, hl, rfl, n, rfl⟩
    wp_walk using wpAny_loadPart' hl
    refine wpAny_stack_any fun st => wpAny_pure ?_
    split
    · rename_i c _ _ _ _ _
      cases (c == Value.type "enumerate")
      · wp_walk using wpAny_loadPart' hl, wpAny_pyIter_tuple hL
        exact ⟨_, rfl, h⟩
      · wp_walk using wpAny_loadPart' hl, wpAny_pyIter_tuple hL
        exact ⟨_, rfl, h⟩
    · wp_walk using wpAny_loadPart' hl, wpAny_pyIter_tuple hL
      exact ⟨_, rfl, h⟩
variable {prog : Program} {w : World} {A : Around} {E : Value -> Shared -> Prop} {s : Shared}
theorem call_enum_tuple {l : Addr} {items : Array Value} {Q : Value -> Shared -> Prop} (hL : s.heap.IsTuple l items)
    (h : ∀ h', IsEnum h' (s.heap.objs.size + 1) s.heap.objs.size 0 .none -> h'.IsTupleIter s.heap.objs.size l 0 -> h'.objs.size = s.heap.objs.size + 2 ->
      (∀ b o, s.heap.get? b = some o -> h'.get? b = some o) -> Q (.ref (s.heap.objs.size + 1)) { s with heap := h' }) :
    wpAny (model prog w) A (call (.type "enumerate") [.ref l]) Q E s := by
  obtain ⟨⟨c, dct, dt, sl⟩, hl, hc, n, hd⟩ := hL
  replace hc : c = .type "tuple" := hc
  replace hd : dt = .seq items n := hd
  subst hc hd
  refine callType_new F.called_enumerate (by decide) (F.typeCall_enumerate_1 _) (F.newCall_enumerate_1 _) (fun obj => F.args_object_init_2 obj _) F.entry_enumerate_new (meets_enum_newT l items n dct sl) ⟨hl, ?_⟩
  have hz : (s.heap.push { cls := .type "tuple_iterator", data := .fields #[.ref l, .int 0 0] }).objs.size = s.heap.objs.size + 1 := Heap.size_push ..
  show _ /\ _
  rw [hz]
  have he : IsEnum ((s.heap.push { cls := .type "tuple_iterator", data := .fields #[.ref l, .int 0 0] }).push
      { cls := .type "enumerate", data := .fields #[.none, .bool false, .ref s.heap.objs.size, rawInt 0, .none, .none] }) (s.heap.objs.size + 1) s.heap.objs.size 0 .none := by
    have q := Heap.get?_push_size (s.heap.push { cls := .type "tuple_iterator", data := .fields #[.ref l, .int 0 0] })
      (o := { cls := .type "enumerate", data := .fields #[.none, .bool false, .ref s.heap.objs.size, rawInt 0, .none, .none] }) rfl
    rw [hz] at q; exact q
  refine ⟨⟨_, he, rfl⟩, h _ he ⟨_, Heap.get?_push_of_some _ (Heap.get?_push_size _ rfl), rfl, rfl⟩ (by rw [Heap.size_push, hz]) fun b o x => Heap.get?_push_of_some _ (Heap.get?_push_of_some _ x)⟩
end
end PySem
namespace L2
open PySem PySem.Spec PyProof.Rows
section
variable {X : Cx} {pins : List (Addr × Obj)} {σ : St} {H : Hp} {s : Shared}
theorem Inv.turnedL {h' : Heap} {t' : Nat} {ch : List Addr} (I : Inv X pins σ H s) (hf : ∀ b ∈ ch, FpOk X pins H b) (k : ∀ b o, b ∉ ch -> s.heap.get? b = some o -> h'.get? b = some o) : Inv X pins σ H { s with heap := h', toks := t' } := by
  have nit : ∀ b u, H b = some u -> b ∉ ch := fun b u e z => by rw [(hf b z).1] at e; cases e
  refine I.step (g' := s.gens) (d' := s.drawn) (ch := ch) (fun b hb => ⟨(hf b hb).2.2.2.1, (hf b hb).2.1, (hf b hb).2.2.2.2.1, (hf b hb).2.2.2.2.2⟩) (fun b o _ _ hc e _ => k b o hc e) (fun b o _ _ hc e _ => ⟨o.slots, k b o hc e⟩) (fun _ _ _ _ n => n)
    (fun b o hc e => ⟨o, k b o hc e⟩) (fun _ _ e => e) (fun _ _ _ e => e) (fun b ps e => ⟨#[], by rw [e]; simp⟩) (fun m hm => ?_) (fun b u e => ?_) I.bare
  · obtain ⟨o, es, ep, ho, r⟩ := hm
    exact ⟨o, es, ep, k _ o (fun z => (hf _ z).2.1 rfl) ho, r⟩
  · refine (I.hok b u e).stay (fun c v hc q => k c v ?_ q) (fun _ q => q) fun _ _ q => q
    rcases hc with z | z
    · rw [z]; exact nit b u e
    · exact nit c _ z
theorem Inv.track {a : Addr} {o : HO} (I : Inv X pins σ H s) (ha : X.s₀.heap.objs.size <= a) (hn : H a = none) (hL : a ≠ X.env.locals) (hc : ∀ x c, X.env.cells.lookup x = some c -> c ≠ a) (hp : ∀ p ∈ X.pn ++ pins, p.1 ≠ a)
    (new : ObjOk X.prog X.w (upd H a o) s.heap a o) : Inv X pins σ (upd H a o) s := by
  have ne : ∀ b ob, X.s₀.heap.get? b = some ob -> b ≠ a := fun b ob e => Nat.ne_of_lt (Nat.lt_of_lt_of_le (Heap.lt_size e) ha)
  refine ⟨I.ok, I.os, I.bare, ⟨I.base.keep, I.base.slot, fun b ob e n hx => by rw [upd_ne (ne b ob e)]; exact I.base.free b ob e n hx, I.base.there, fun b xs e => ?_, fun b ob u e => ?_, fun b ps e => ?_⟩, I.loc, I.cell, by rw [upd_ne hL.symm]; exact I.free,
    fun x c e => by rw [upd_ne (hc x c e)]; exact I.freeC x c e, fun p hpp => ?_, fun b u e => ?_, I.len⟩
  · have q := I.base.tups b xs e
    rw [upd_ne (ne_of_none q hn)]; exact q
  · have q := I.base.frzs b ob u e
    rw [upd_ne (ne_of_none q hn)]; exact q
  · obtain ⟨more, q⟩ := I.base.tbls b ps e
    exact ⟨more, by rw [upd_ne (ne_of_none q hn)]; exact q⟩
  · obtain ⟨e1, n1, r⟩ := I.pin p hpp
    exact ⟨e1, by rw [upd_ne (hp p hpp)]; exact n1, r⟩
  · by_cases hb : b = a
    · subst hb; rw [upd_same] at e; cases e; exact new
    · rw [upd_ne hb] at e
      exact (I.hok b u e).stay (fun c v _ q => q) (fun c q => by rw [upd_ne (ne_of_none q hn)]; exact q) fun c xs q => by rw [upd_ne (ne_of_none q hn)]; exact q
theorem Inv.yields {h' : Heap} {t' : Nat} {ch : List Addr} {T : Addr} {xs : List V} {vals : List Value} (I : Inv X pins σ H s) (hf : ∀ b ∈ ch, FpOk X pins H b) (k : ∀ b o, b ∉ ch -> s.heap.get? b = some o -> h'.get? b = some o)
    (hT : s.heap.objs.size <= T) (tp : h'.IsTuple T vals.toArray) (r : Vals xs vals) (hz : xs.length <= sizeLine) : Inv X pins σ (upd H T (.tup xs)) { s with heap := h', toks := t' } := by
  have f : FpOk X pins H T := I.fpOk hT (I.hok.fresh hT)
  have I1 : Inv X pins σ H { s with heap := h', toks := t' } := I.turnedL hf k
  exact I1.track (Nat.le_trans I.sz hT) f.1 f.2.1 f.2.2.2.2.1 f.2.2.2.2.2 ⟨hz, vals, r, tp⟩
theorem fp_upd {ch : List Addr} {T : Addr} {o : HO} (hf : ∀ b ∈ ch, FpOk X pins H b) (hT : ∀ b ∈ ch, b ≠ T) : ∀ b ∈ ch, FpOk X pins (upd H T o) b := fun b hb => ⟨by rw [upd_ne (hT b hb)]; exact (hf b hb).1, (hf b hb).2⟩
end
def Ite (Sq : Hp -> List V -> Prop) : It :=
  ⟨fun i H => ∃ xs x, Sq H xs /\ xs[i]? = some x, fun i H y H' => ∃ T, H T = none /\ y = .ref T /\ ∀ xs x, Sq H xs -> xs[i]? = some x -> H' = upd H T (.tup [.int i, x]), fun i H => ∃ xs, Sq H xs /\ xs.length <= i⟩
theorem turn_enumL {P : Program} {w : World} {K : PySem.W.Frag} {elts : List Expr} {k : Nat} {tp : Pos} (a e it : Addr) (hei : e ≠ it) : Turn P w K (.Tuple elts k tp) (Ite fun H xs => SqL K H a xs) [e, it] e (fun i h => (∃ old, IsEnum h e it i old) /\ h.IsListIter it a i) where
  mem := by simp
  obj := fun i h st b hb => by
    obtain ⟨⟨old, q⟩, o, q2, c, d⟩ := st
    rcases List.mem_cons.mp hb with rfl | hb
    · exact ⟨_, q, fun v z => by cases z⟩
    · rw [List.mem_singleton.mp hb]
      exact ⟨o, q2, fun v z => by rw [d] at z; cases z⟩
  keep := fun i h h' st kk => ⟨⟨st.1.choose, kk e (by simp) _ st.1.choose_spec⟩, st.2.at fun o q => kk it (by simp) o q⟩
  item := by
    intro X hP hw hK hc i pins s σ H E I hf st hg
    subst hP hw hK
    obtain ⟨xs, x, hq, hx⟩ := hg
    obtain ⟨⟨old, he⟩, hit⟩ := st
    obtain ⟨its, rv, p, hz⟩ := I.list hq
    obtain ⟨u, hu, ru⟩ := rv.get hx
    have hlen := rv.length
    have hi : i < its.toArray.size := by rw [List.size_toArray]; exact (List.getElem?_eq_some_iff.mp hu).1
    have hai : a ≠ it := fun z => by
      obtain ⟨o, q, c, d⟩ := hit
      obtain ⟨o', q', c', _⟩ := p.isList
      rw [z] at q'; rw [q] at q'; cases q'; rw [c] at c'; simp at c'
    have hae : e ≠ a := fun z => by
      obtain ⟨o', q', c', _⟩ := p.isList
      rw [<- z, he] at q'; cases q'; simp at c'
    refine wpAny_pyNext_enum_itemD (Draws.list (A := X.A.in1) (I.ok.hd hc) it a hai its.toArray) he ⟨hit, p.isList⟩ hi hei (by simp [hei, hae]) fun y h' tk hy ho st' hT hsz hk => ?_
    have hyu : y = u := by
      have : its[i]? = some y := by simpa using hy
      rw [hu] at this; exact (Option.some.inj this).symm
    subst hyu
    have ne : ∀ b ∈ [e, it], b ≠ s.heap.objs.size := fun b hb => by
      rcases List.mem_cons.mp hb with rfl | hb
      · exact Nat.ne_of_lt (Heap.lt_size he)
      · rw [List.mem_singleton.mp hb]; obtain ⟨o, q, _⟩ := hit; exact Nat.ne_of_lt (Heap.lt_size q)
    have kk : ∀ b o, b ∉ [e, it] -> s.heap.get? b = some o -> h'.get? b = some o := fun b o hb q => hk b o (fun z => hb (by simp [z])) (fun z => hb (by simp [z])) q
    have I1 : Inv X pins σ (upd H s.heap.objs.size (.tup [.int i, x])) { s with heap := h', toks := tk + 1 } := I.yields (vals := [.int i tk, y]) hf kk (Nat.le_refl _) ⟨_, hT, rfl, _, rfl⟩ (.cons ⟨tk, rfl⟩ (.cons ru .nil)) (by show 2 <= sizeLine; decide)
    have hf1 := fp_upd (o := .tup [.int i, x]) hf ne
    refine ⟨_, rfl, wpAny_letOwnedTupleGo_enum ho fun h'' he'' sb => ?_⟩
    have I2 : Inv X pins σ (upd H s.heap.objs.size (.tup [.int i, x])) { s with heap := h'', toks := tk + 1 } := I1.turnedL (t' := tk + 1) hf1 fun b o hb q => (sb.2 b fun z => hb (by simp [z])).trans q
    refine ⟨.ref s.heap.objs.size, _, I2, rfl, ⟨_, I.hok.fresh (Nat.le_refl _), rfl, fun ys y' hy' hx' => ?_⟩, ⟨⟨_, by simpa using he''⟩, st'.1.at fun o q => (sb.2 it hei.symm).trans q⟩, fun b hb => (hf1 b hb).1⟩
    have := I.list_inj hy' hq
    subst this
    rw [hx] at hx'
    rw [Option.some.inj hx']
  done := by
    intro X hP hw hK hc i pins s σ H E I hf st hg
    subst hP hw hK
    obtain ⟨xs, hq, hx⟩ := hg
    obtain ⟨⟨old, he⟩, hit⟩ := st
    obtain ⟨its, rv, p, hz⟩ := I.list hq
    have hlen := rv.length
    have hai : a ≠ it := fun z => by
      obtain ⟨o, q, c, d⟩ := hit
      obtain ⟨o', q', c', _⟩ := p.isList
      rw [z] at q'; rw [q] at q'; cases q'; rw [c] at c'; simp at c'
    have D : Draws X.prog X.w X.A.in1 it [it, a] i (fun _ _ => False) (fun k h => k = i /\ h.IsListIter it a i /\ h.IsList a its.toArray) :=
      { live := fun _ _ st => let ⟨o, ho, _⟩ := st.2.1; ⟨o, ho⟩
        frame := fun _ _ _ st hk => ⟨st.1, st.2.1.at fun o q => hk it (by simp) o q, st.2.2.at fun o q => hk a (by simp) o q⟩
        item := fun k s Q E hk st _ => absurd st.1 (Nat.ne_of_lt hk)
        done := fun s Q E st hE => wpAny_nextOf_list_end (I.ok.hd hc) st.2.1 st.2.2 (by simp; omega) hE }
    refine wpAny_pyNext_enum_endD D he ⟨rfl, hit, p.isList⟩ fun h' eb => ⟨rfl, I.turnedL (t' := s.toks) (ch := [e, it]) hf fun b o hb q => eb b o (fun z => hb (by simp [z])) q⟩
  self := fun _ _ _ _ _ st h => wpAny_pyIter_enum st.1.choose_spec h
theorem turn_enumT {P : Program} {w : World} {K : PySem.W.Frag} {elts : List Expr} {k : Nat} {tp : Pos} (a e it : Addr) (hei : e ≠ it) : Turn P w K (.Tuple elts k tp) (Ite fun H xs => SqT K H a xs) [e, it] e (fun i h => (∃ old, IsEnum h e it i old) /\ h.IsTupleIter it a i) where
  mem := by simp
  obj := fun i h st b hb => by
    obtain ⟨⟨old, q⟩, o, q2, c, d⟩ := st
    rcases List.mem_cons.mp hb with rfl | hb
    · exact ⟨_, q, fun v z => by cases z⟩
    · rw [List.mem_singleton.mp hb]
      exact ⟨o, q2, fun v z => by rw [d] at z; cases z⟩
  keep := fun i h h' st kk => ⟨⟨st.1.choose, kk e (by simp) _ st.1.choose_spec⟩, st.2.at2 fun o q => kk it (by simp) o q⟩
  item := by
    intro X hP hw hK hc i pins s σ H E I hf st hg
    subst hP hw hK
    obtain ⟨xs, x, hq, hx⟩ := hg
    obtain ⟨⟨old, he⟩, hit⟩ := st
    obtain ⟨its, rv, p, hz⟩ := I.tuple hq
    have p : s.heap.IsTuple a its.toArray := p
    obtain ⟨u, hu, ru⟩ := rv.get hx
    have hlen := rv.length
    have hi : i < its.toArray.size := by rw [List.size_toArray]; exact (List.getElem?_eq_some_iff.mp hu).1
    have hai : a ≠ it := fun z => by
      obtain ⟨o, q, c, d⟩ := hit
      obtain ⟨o', q', c', _⟩ := p
      rw [z] at q'; rw [q] at q'; cases q'; rw [c] at c'; simp at c'
    have hae : e ≠ a := fun z => by
      obtain ⟨o', q', c', _⟩ := p
      rw [<- z, he] at q'; cases q'; simp at c'
    refine wpAny_pyNext_enum_itemD (Draws.tup (A := X.A.in1) (I.ok.hd hc) it a hai its.toArray) he ⟨hit, p⟩ hi hei (by simp [hei, hae]) fun y h' tk hy ho st' hT hsz hk => ?_
    have hyu : y = u := by
      have : its[i]? = some y := by simpa using hy
      rw [hu] at this; exact (Option.some.inj this).symm
    subst hyu
    have ne : ∀ b ∈ [e, it], b ≠ s.heap.objs.size := fun b hb => by
      rcases List.mem_cons.mp hb with rfl | hb
      · exact Nat.ne_of_lt (Heap.lt_size he)
      · rw [List.mem_singleton.mp hb]; obtain ⟨o, q, _⟩ := hit; exact Nat.ne_of_lt (Heap.lt_size q)
    have kk : ∀ b o, b ∉ [e, it] -> s.heap.get? b = some o -> h'.get? b = some o := fun b o hb q => hk b o (fun z => hb (by simp [z])) (fun z => hb (by simp [z])) q
    have I1 : Inv X pins σ (upd H s.heap.objs.size (.tup [.int i, x])) { s with heap := h', toks := tk + 1 } := I.yields (vals := [.int i tk, y]) hf kk (Nat.le_refl _) ⟨_, hT, rfl, _, rfl⟩ (.cons ⟨tk, rfl⟩ (.cons ru .nil)) (by show 2 <= sizeLine; decide)
    have hf1 := fp_upd (o := .tup [.int i, x]) hf ne
    refine ⟨_, rfl, wpAny_letOwnedTupleGo_enum ho fun h'' he'' sb => ?_⟩
    have I2 : Inv X pins σ (upd H s.heap.objs.size (.tup [.int i, x])) { s with heap := h'', toks := tk + 1 } := I1.turnedL (t' := tk + 1) hf1 fun b o hb q => (sb.2 b fun z => hb (by simp [z])).trans q
    refine ⟨.ref s.heap.objs.size, _, I2, rfl, ⟨_, I.hok.fresh (Nat.le_refl _), rfl, fun ys y' hy' hx' => ?_⟩, ⟨⟨_, by simpa using he''⟩, st'.1.at2 fun o q => (sb.2 it hei.symm).trans q⟩, fun b hb => (hf1 b hb).1⟩
    have := I.tuple_inj hy' hq
    subst this
    rw [hx] at hx'
    rw [Option.some.inj hx']
  done := by
    intro X hP hw hK hc i pins s σ H E I hf st hg
    subst hP hw hK
    obtain ⟨xs, hq, hx⟩ := hg
    obtain ⟨⟨old, he⟩, hit⟩ := st
    obtain ⟨its, rv, p, hz⟩ := I.tuple hq
    have p : s.heap.IsTuple a its.toArray := p
    have hlen := rv.length
    have D : Draws X.prog X.w X.A.in1 it [it, a] i (fun _ _ => False) (fun k h => k = i /\ h.IsTupleIter it a i /\ h.IsTuple a its.toArray) :=
      { live := fun _ _ st => let ⟨o, ho, _⟩ := st.2.1; ⟨o, ho⟩
        frame := fun _ _ _ st hk => ⟨st.1, st.2.1.at2 fun o q => hk it (by simp) o q, st.2.2.at2 fun o q => hk a (by simp) o q⟩
        item := fun k s Q E hk st _ => absurd st.1 (Nat.ne_of_lt hk)
        done := fun s Q E st hE => nextOf_tup_end (I.ok.hd hc) st.2.1 st.2.2 (by simp; omega) hE }
    refine wpAny_pyNext_enum_endD D he ⟨rfl, hit, p⟩ fun h' eb => ⟨rfl, I.turnedL (t' := s.toks) (ch := [e, it]) hf fun b o hb q => eb b o (fun z => hb (by simp [z])) q⟩
  self := fun _ _ _ _ _ st h => wpAny_pyIter_enum st.1.choose_spec h
theorem boot_enumerate : bootBuiltins "enumerate" = some (.type "enumerate") := by decide +kernel
section
variable {X : Cx} {elts : List Expr} {k : Nat} {tp : Pos}
def iEnumL (K : PySem.W.Frag) (ta : TA) : TI := fun σ H R => ta σ H fun vs H1 => ∃ a, vs = [.ref a] /\ (∃ xs, SqL K H1 a xs) /\ R (Ite fun H xs => SqL K H a xs) H1
def iEnumT (K : PySem.W.Frag) (ta : TA) : TI := fun σ H R => ta σ H fun vs H1 => ∃ a, vs = [.ref a] /\ (∃ xs, SqT K H1 a xs) /\ R (Ite fun H xs => SqT K H a xs) H1
theorem pi_enumL {a : Expr} {ta : TA} {p pos : Pos} (hg : Gl X "enumerate") (hm : X.mg "enumerate" = none) (ha : PA X [a] ta) (hs : starEach [a] X.env = [(false, eval a X.env)] := by rfl) : PI X (.Tuple elts k tp) (.Call (.Name "enumerate" p) [a] [] pos) (iEnumL X.K ta) := by
  intro pins s σ H R I h
  refine Call_ (ld_blt I hg hm boot_enumerate (PyProof.Rows.callWith_type1 (thn (ha pos pins s σ H _ I h) fun us s1 ⟨vs, H1, I1, r1, q1⟩ => ?_) hs rfl))
  obtain ⟨l, e, ⟨xs, hq⟩, q⟩ := q1
  subst e
  obtain ⟨u, rfl, rx⟩ := vals1 r1
  cases rx
  obtain ⟨its, rv, pl, hz⟩ := I1.list hq
  refine call_enumerate_list pl.isList fun h' he hit hsz hk => wpAny_pyIter_enum he ?_
  refine ⟨_, [s1.heap.objs.size + 1, s1.heap.objs.size], _, _, H1, rfl, I1.kept (t' := s1.toks) hk, turn_enumL l _ _ (Nat.succ_ne_self _), ⟨⟨_, he⟩, hit⟩, fun b hb => ?_, q⟩
  rcases List.mem_cons.mp hb with rfl | hb
  · exact I1.fpOk (Nat.le_succ _) (I1.hok.fresh (Nat.le_succ _))
  · rw [List.mem_singleton.mp hb]; exact I1.fpOk (Nat.le_refl _) (I1.hok.fresh (Nat.le_refl _))
theorem pi_enumT {a : Expr} {ta : TA} {p pos : Pos} (hg : Gl X "enumerate") (hm : X.mg "enumerate" = none) (ha : PA X [a] ta) (hs : starEach [a] X.env = [(false, eval a X.env)] := by rfl) : PI X (.Tuple elts k tp) (.Call (.Name "enumerate" p) [a] [] pos) (iEnumT X.K ta) := by
  intro pins s σ H R I h
  refine Call_ (ld_blt I hg hm boot_enumerate (PyProof.Rows.callWith_type1 (thn (ha pos pins s σ H _ I h) fun us s1 ⟨vs, H1, I1, r1, q1⟩ => ?_) hs rfl))
  obtain ⟨l, e, ⟨xs, hq⟩, q⟩ := q1
  subst e
  obtain ⟨u, rfl, rx⟩ := vals1 r1
  cases rx
  obtain ⟨its, rv, pl, hz⟩ := I1.tuple hq
  refine call_enum_tuple (show s1.heap.IsTuple l its.toArray from pl) fun h' he hit hsz hk => wpAny_pyIter_enum he ?_
  refine ⟨_, [s1.heap.objs.size + 1, s1.heap.objs.size], _, _, H1, rfl, I1.kept (t' := s1.toks) hk, turn_enumT l _ _ (Nat.succ_ne_self _), ⟨⟨_, he⟩, hit⟩, fun b hb => ?_, q⟩
  rcases List.mem_cons.mp hb with rfl | hb
  · exact I1.fpOk (Nat.le_succ _) (I1.hok.fresh (Nat.le_succ _))
  · rw [List.mem_singleton.mp hb]; exact I1.fpOk (Nat.le_refl _) (I1.hok.fresh (Nat.le_refl _))
end
end L2
namespace PySem
open Sem (wp)
section
variable {prog : Program} {w : World} {A : Around} {E : Value -> Shared -> Prop} {s : Shared}
theorem zipT_item {z TI TO i1 i2 t1 t2 : Addr} {k : Nat} {xs ys : Array Value} {x y a b : Value} {Q : Value -> Shared -> Prop} (D : ZipApart z TI TO i1 i2 t1 t2) (Z0 : IsZip s.heap z TI TO .none) (PI0 : IsPair s.heap TI (.ref i1) (.ref i2)) (PO0 : IsPair s.heap TO a b)
    (w1 : s.heap.IsTupleIter i1 t1 k) (w2 : s.heap.IsTupleIter i2 t2 k) (p1 : s.heap.IsTuple t1 xs) (p2 : s.heap.IsTuple t2 ys) (ex : xs[k]? = some x) (ey : ys[k]? = some y)
    (fin : ∀ h', IsZip h' z TI TO (rawInt s.heap.objs.size) -> IsPair h' TO x y -> h'.IsTupleIter i1 t1 (k + 1) -> h'.IsTupleIter i2 t2 (k + 1) -> IsPair h' s.heap.objs.size x y ->
      (∀ c o, c ≠ z -> c ≠ TO -> c ≠ i1 -> c ≠ i2 -> s.heap.get? c = some o -> h'.get? c = some o) -> Q (.ref s.heap.objs.size) { s with heap := h' }) :
    wpAny (model prog w) A (Builtin.«zip.__next__» ⟨[.ref z], []⟩) (fun fn s' => ∃ v, fn = .done (.ret v) /\ Q v s') E s := by
  show wpAny _ _ (field (.ref z) 2 >>= _) _ _ _
  refine wpAny_bind (wpAny_field Z0 rfl (x := .bool false) rfl ?_)
  show wpAny _ _ (field (.ref z) 3 >>= _) _ _ _
  refine wpAny_bind (wpAny_field Z0 rfl (x := .ref TI) rfl (wpAny_bind (wpAny_seqItems PI0 rfl ?_)))
  show wpAny _ _ (Builtin.SmallTypes.ownedTupleIsFree (.ref z) >>= _) _ _ _
  refine wpAny_bind ?_
  unfold Builtin.SmallTypes.ownedTupleIsFree
  refine wpAny_bind (wpAny_field Z0 rfl (x := .none) rfl (wpAny_pure ?_))
  simp only [if_true]
  refine wpAny_bind (wpAny_rule (wpAny_bind (wpAny_field Z0 rfl (x := .ref TO) rfl ?_)))
  refine wpAny_bind (wpAny_setField_rec Z0 (by simp) fun g1 Z1 b1 => ?_)
  replace Z1 : IsZip g1 z TI TO .ellipsis := Z1
  refine wpAny_bind ?_
  simp only [List.zipIdx_cons, List.zipIdx_nil, List.forIn_cons, List.forIn_nil]
  refine wpAny_bind (wpAny_bind (wpAny_onRaise ?_))
  show wpAny _ _ (Builtin.SmallTypes.nextOf (.ref i1) >>= _) _ _ _
  refine wpAny_bind (nextOf_tup (w1.extBut b1.extBut D.i1z) (p1.extBut b1.extBut D.l1z) ex fun g2 v1 b2 => wpAny_pure ?_)
  have PO2 : IsPair g2 TO a b := b2.extBut _ _ D.TOi1 (b1.extBut _ _ D.TOz PO0)
  refine wpAny_bind (wpAny_seqItems PO2 rfl (wpAny_bind (wpAny_updateSeq_pair PO2 fun g3 PO3 b3 => ?_)))
  replace PO3 : IsPair g3 TO x b := PO3
  refine wpAny_bind (wpAny_letGo (wpAny_pure (wpAny_bind (wpAny_bind (wpAny_onRaise ?_)))))
  show wpAny _ _ (Builtin.SmallTypes.nextOf (.ref i2) >>= _) _ _ _
  have w2' : g3.IsTupleIter i2 t2 k := ((w2.extBut b1.extBut D.i2z).extBut b2.extBut D.i12.symm).extBut b3.extBut D.TOi2.symm
  have p2' : g3.IsTuple t2 ys := ((p2.extBut b1.extBut D.l2z).extBut b2.extBut D.l2i1).extBut b3.extBut D.l2TO
  refine wpAny_bind (nextOf_tup w2' p2' ey fun g4 v2 b4 => wpAny_pure ?_)
  have PO4 : IsPair g4 TO x b := b4.extBut _ _ D.TOi2 PO3
  refine wpAny_bind (wpAny_seqItems PO4 rfl (wpAny_bind (wpAny_updateSeq_pair PO4 fun g5 PO5 b5 => ?_)))
  replace PO5 : IsPair g5 TO x y := PO5
  refine wpAny_bind (wpAny_letGo (wpAny_pure (wpAny_pure ?_)))
  refine wpAny_bind (wpAny_seqItems PO5 rfl (wpAny_bind (wpAny_newTuple ?_)))
  have e5 : g5.objs.size = s.heap.objs.size := by rw [b5.1, b4.1, b3.1, b2.1, b1.1]
  have Z5 : IsZip g5 z TI TO .ellipsis := b5.extBut _ _ D.TOz.symm (b4.extBut _ _ D.i2z.symm (b3.extBut _ _ D.TOz.symm (b2.extBut _ _ D.i1z.symm Z1)))
  have k5 : ∀ c o, c ≠ z -> c ≠ TO -> c ≠ i1 -> c ≠ i2 -> s.heap.get? c = some o -> g5.get? c = some o := fun c o c1 c2 c3 c4 q => b5.extBut _ _ c2 (b4.extBut _ _ c4 (b3.extBut _ _ c2 (b2.extBut _ _ c3 (b1.extBut _ _ c1 q))))
  have u1 : g5.IsTupleIter i1 t1 (k + 1) := ((v1.extBut b3.extBut D.TOi1.symm).extBut b4.extBut D.i12).extBut b5.extBut D.TOi1.symm
  have u2 : g5.IsTupleIter i2 t2 (k + 1) := v2.extBut b5.extBut D.TOi2.symm
  have lz : z < g5.objs.size := Heap.lt_size Z5
  show wpAny _ _ (Builtin.SmallTypes.ownedTupleHandOut (.ref z) (.ref g5.objs.size) >>= _) _ _ _
  refine wpAny_bind ?_
  unfold Builtin.SmallTypes.ownedTupleHandOut
  have Z6 : IsZip (g5.push { cls := .type "tuple", data := .seq #[x, y] }) z TI TO .ellipsis := Heap.get?_push_of_some _ Z5
  refine wpAny_bind (wpAny_setField_rec Z6 (by simp) fun g7 Z7 b7 => ?_)
  replace Z7 : IsZip g7 z TI TO (rawInt g5.objs.size) := Z7
  refine wpAny_setField_rec Z7 (by simp) fun g8 Z8 b8 => ?_
  replace Z8 : IsZip g8 z TI TO (rawInt g5.objs.size) := Z8
  have up : ∀ c o, c ≠ z -> g5.get? c = some o -> g8.get? c = some o := fun c o c1 q => b8.extBut _ _ c1 (b7.extBut _ _ c1 (Heap.get?_push_of_some _ q))
  have T8 : IsPair g8 g5.objs.size x y := b8.extBut _ _ (Nat.ne_of_gt lz) (b7.extBut _ _ (Nat.ne_of_gt lz) (Heap.get?_push_size _ rfl))
  rw [e5] at Z8 T8
  refine wpAny_pure ⟨_, rfl, ?_⟩
  show Q (.ref g5.objs.size) _
  rw [e5]
  exact fin g8 Z8 (up _ _ D.TOz PO5) (u1.at2 fun o q => up _ o D.i1z q) (u2.at2 fun o q => up _ o D.i2z q) T8 fun c o c1 c2 c3 c4 q => up c o c1 (k5 c o c1 c2 c3 c4 q)
theorem zipT_end {z TI TO i1 i2 t1 t2 : Addr} {k : Nat} {xs ys : Array Value} {a b : Value} {Q : Fin -> Shared -> Prop} (hh : A.handled = none) (D : ZipApart z TI TO i1 i2 t1 t2) (Z0 : IsZip s.heap z TI TO .none) (PI0 : IsPair s.heap TI (.ref i1) (.ref i2)) (PO0 : IsPair s.heap TO a b)
    (w1 : s.heap.IsTupleIter i1 t1 k) (w2 : s.heap.IsTupleIter i2 t2 k) (p1 : s.heap.IsTuple t1 xs) (p2 : s.heap.IsTuple t2 ys) (over : xs[k]? = none \/ ys[k]? = none)
    (fin : ∀ h' e, (∀ c o, c ≠ z -> c ≠ TO -> c ≠ i1 -> c ≠ i2 -> s.heap.get? c = some o -> h'.get? c = some o) -> (∃ o, h'.get? e = some o /\ o.cls = .type "StopIteration") -> E (.ref e) { s with heap := h' }) :
    wpAny (model prog w) A (Builtin.«zip.__next__» ⟨[.ref z], []⟩) Q E s := by
  show wpAny _ _ (field (.ref z) 2 >>= _) _ _ _
  refine wpAny_bind (wpAny_field Z0 rfl (x := .bool false) rfl ?_)
  show wpAny _ _ (field (.ref z) 3 >>= _) _ _ _
  refine wpAny_bind (wpAny_field Z0 rfl (x := .ref TI) rfl (wpAny_bind (wpAny_seqItems PI0 rfl ?_)))
  show wpAny _ _ (Builtin.SmallTypes.ownedTupleIsFree (.ref z) >>= _) _ _ _
  refine wpAny_bind ?_
  unfold Builtin.SmallTypes.ownedTupleIsFree
  refine wpAny_bind (wpAny_field Z0 rfl (x := .none) rfl (wpAny_pure ?_))
  simp only [if_true]
  refine wpAny_bind (wpAny_rule (wpAny_bind (wpAny_field Z0 rfl (x := .ref TO) rfl ?_)))
  refine wpAny_bind (wpAny_setField_rec Z0 (by simp) fun g1 Z1 b1 => ?_)
  replace Z1 : IsZip g1 z TI TO .ellipsis := Z1
  refine wpAny_bind ?_
  simp only [List.zipIdx_cons, List.zipIdx_nil, List.forIn_cons, List.forIn_nil]
  refine wpAny_bind (wpAny_bind (wpAny_onRaise ?_))
  show wpAny _ _ (Builtin.SmallTypes.nextOf (.ref i1) >>= _) _ _ _
  cases ex : xs[k]? with
  | none =>
    refine wpAny_bind (nextOf_tup_end hh (w1.extBut b1.extBut D.i1z) (p1.extBut b1.extBut D.l1z) ex fun g2 e b2 ee => ?_)
    obtain ⟨oe, he, ce⟩ := ee
    have Z2 : IsZip g2 z TI TO .ellipsis := b2 _ _ D.i1z.symm Z1
    have nz : e ≠ z := fun q => by subst q; rw [Z2] at he; cases he; simp at ce
    exact wpAny_setField_rec Z2 (by simp) fun g3 _ b3 => fin g3 e (fun c o c1 _ c3 _ q => b3.extBut _ _ c1 (b2 _ _ c3 (b1.extBut _ _ c1 q))) ⟨oe, b3.extBut _ _ nz he, ce⟩
  | some x =>
    have ey : ys[k]? = none := by rcases over with q | q; rw [ex] at q; cases q; exact q
    refine wpAny_bind (nextOf_tup (w1.extBut b1.extBut D.i1z) (p1.extBut b1.extBut D.l1z) ex fun g2 v1 b2 => wpAny_pure ?_)
    have PO2 : IsPair g2 TO a b := b2.extBut _ _ D.TOi1 (b1.extBut _ _ D.TOz PO0)
    refine wpAny_bind (wpAny_seqItems PO2 rfl (wpAny_bind (wpAny_updateSeq_pair PO2 fun g3 PO3 b3 => ?_)))
    refine wpAny_bind (wpAny_letGo (wpAny_pure (wpAny_bind (wpAny_bind (wpAny_onRaise ?_)))))
    show wpAny _ _ (Builtin.SmallTypes.nextOf (.ref i2) >>= _) _ _ _
    have w2' : g3.IsTupleIter i2 t2 k := ((w2.extBut b1.extBut D.i2z).extBut b2.extBut D.i12.symm).extBut b3.extBut D.TOi2.symm
    have p2' : g3.IsTuple t2 ys := ((p2.extBut b1.extBut D.l2z).extBut b2.extBut D.l2i1).extBut b3.extBut D.l2TO
    refine wpAny_bind (nextOf_tup_end hh w2' p2' ey fun g4 e b4 ee => ?_)
    obtain ⟨oe, he, ce⟩ := ee
    have Z4 : IsZip g4 z TI TO .ellipsis := b4 _ _ D.i2z.symm (b3.extBut _ _ D.TOz.symm (b2.extBut _ _ D.i1z.symm Z1))
    have nz : e ≠ z := fun q => by subst q; rw [Z4] at he; cases he; simp at ce
    exact wpAny_setField_rec Z4 (by simp) fun g5 _ b5 => fin g5 e (fun c o c1 c2 c3 c4 q => b5.extBut _ _ c1 (b4 _ _ c4 (b3.extBut _ _ c2 (b2.extBut _ _ c3 (b1.extBut _ _ c1 q))))) ⟨oe, b5.extBut _ _ nz he, ce⟩
theorem next_zipT {z TI TO i1 i2 t1 t2 : Addr} {k : Nat} {xs ys : Array Value} {x y a b : Value} {Q : Option Value -> Shared -> Prop} (D : ZipApart z TI TO i1 i2 t1 t2) (Z0 : IsZip s.heap z TI TO .none) (PI0 : IsPair s.heap TI (.ref i1) (.ref i2)) (PO0 : IsPair s.heap TO a b)
    (w1 : s.heap.IsTupleIter i1 t1 k) (w2 : s.heap.IsTupleIter i2 t2 k) (p1 : s.heap.IsTuple t1 xs) (p2 : s.heap.IsTuple t2 ys) (ex : xs[k]? = some x) (ey : ys[k]? = some y)
    (fin : ∀ h', IsZip h' z TI TO (rawInt s.heap.objs.size) -> IsPair h' TO x y -> h'.IsTupleIter i1 t1 (k + 1) -> h'.IsTupleIter i2 t2 (k + 1) -> IsPair h' s.heap.objs.size x y ->
      (∀ c o, c ≠ z -> c ≠ TO -> c ≠ i1 -> c ≠ i2 -> s.heap.get? c = some o -> h'.get? c = some o) -> Q (some (.ref s.heap.objs.size)) { s with heap := h' }) :
    wpAny (model prog w) A (pyNext (.ref z)) Q E s := by
  have ty : s.TypeIs (.ref z) "zip" := ⟨_, Z0, rfl⟩
  unfold pyNext
  exact wpAny_bind (wpAny_attempt (wpAny_callSpecial?_slot (name := Str.ofString "__next__") ty F.slot_zip_next (wpAny_call_entry F.slot_zip_next ty F.entry_zip_next
    (zipT_item D Z0 PI0 PO0 w1 w2 p1 p2 ex ey fun h' a1 a2 a3 a4 a5 a6 => wpAny_pure (fin h' a1 a2 a3 a4 a5 a6)) (F.args_zip_next_1 _))))
theorem next_zipT_end {z TI TO i1 i2 t1 t2 : Addr} {k : Nat} {xs ys : Array Value} {a b : Value} {Q : Option Value -> Shared -> Prop} (hh : A.handled = none) (D : ZipApart z TI TO i1 i2 t1 t2) (Z0 : IsZip s.heap z TI TO .none) (PI0 : IsPair s.heap TI (.ref i1) (.ref i2)) (PO0 : IsPair s.heap TO a b)
    (w1 : s.heap.IsTupleIter i1 t1 k) (w2 : s.heap.IsTupleIter i2 t2 k) (p1 : s.heap.IsTuple t1 xs) (p2 : s.heap.IsTuple t2 ys) (over : xs[k]? = none \/ ys[k]? = none)
    (fin : ∀ h', (∀ c o, c ≠ z -> c ≠ TO -> c ≠ i1 -> c ≠ i2 -> s.heap.get? c = some o -> h'.get? c = some o) -> Q none { s with heap := h' }) : wpAny (model prog w) A (pyNext (.ref z)) Q E s := by
  have ty : s.TypeIs (.ref z) "zip" := ⟨_, Z0, rfl⟩
  unfold pyNext
  refine wpAny_bind (wpAny_attempt (wpAny_callSpecial?_slot (name := Str.ofString "__next__") ty F.slot_zip_next (wpAny_call_entry F.slot_zip_next ty F.entry_zip_next (zipT_end hh D Z0 PI0 PO0 w1 w2 p1 p2 over fun h' e hk he => ?_) (F.args_zip_next_1 _))))
  obtain ⟨o, ho, hc⟩ := he
  exact wpAny_bind (wpAny_isInstance (T := "StopIteration") (b := true) ⟨o, ho, hc⟩ isSubtype_stop (wpAny_pure (fin _ hk)))
end
abbrev zT1 (h : Heap) (t1 : Addr) : Heap := h.push { cls := .type "tuple_iterator", data := .fields #[.ref t1, .int 0 0] }
abbrev zT2 (h : Heap) (t1 t2 : Addr) : Heap := (zT1 h t1).push { cls := .type "tuple_iterator", data := .fields #[.ref t2, .int 0 0] }
abbrev zT3 (h : Heap) (t1 t2 : Addr) : Heap := (zT2 h t1 t2).push { cls := .type "tuple", data := .seq #[.ref h.objs.size, .ref (zT1 h t1).objs.size] }
abbrev zT4 (h : Heap) (t1 t2 : Addr) : Heap := (zT3 h t1 t2).push { cls := .type "tuple", data := .seq #[.none, .none] }
abbrev zT5 (h : Heap) (t1 t2 : Addr) : Heap := (zT4 h t1 t2).push { cls := .type "zip", data := .fields #[.none, .bool false, .bool false, .ref (zT2 h t1 t2).objs.size, .ref (zT3 h t1 t2).objs.size] }
theorem meets_zip_newT (t1 t2 : Addr) (xs ys : Array Value) :
    Meets (Builtin.«zip.__new__» ⟨[.type "zip", .ref t1, .ref t2], []⟩) (fun _ R s => s.heap.IsTuple t1 xs /\ s.heap.IsTuple t2 ys /\ R (.ok (.ret (.ref (zT4 s.heap t1 t2).objs.size))) { s with heap := zT5 s.heap t1 t2 }) :=
  .of_wp fun prog w A R s h => by
    obtain ⟨hp, g, d, tk, os⟩ := s; obtain ⟨q1, q2, h⟩ := h
    have hsub := sub_zip
    have T1 : Heap.IsTuple (Shared.heap ⟨hp, g, d, tk, os⟩) t1 xs := q1
    have T2 : Heap.IsTuple (Shared.heap ⟨hp.push { cls := .type "tuple_iterator", data := .fields #[.ref t1, .int 0 0] }, g, d, tk, os⟩) t2 ys := Heap.IsTuple.push q2 _
    wp_walk using wpAny_pyIter_tuple T1, wpAny_pyIter_tuple T2
    exact ⟨_, rfl, h⟩
section
variable {prog : Program} {w : World} {A : Around} {E : Value -> Shared -> Prop} {s : Shared}
theorem call_zipT {t1 t2 : Addr} {xs ys : Array Value} {Q : Value -> Shared -> Prop} (q1 : s.heap.IsTuple t1 xs) (q2 : s.heap.IsTuple t2 ys)
    (h : ∀ h', IsZip h' (s.heap.objs.size + 4) (s.heap.objs.size + 2) (s.heap.objs.size + 3) .none -> IsPair h' (s.heap.objs.size + 2) (.ref s.heap.objs.size) (.ref (s.heap.objs.size + 1)) ->
      IsPair h' (s.heap.objs.size + 3) .none .none -> h'.IsTupleIter s.heap.objs.size t1 0 -> h'.IsTupleIter (s.heap.objs.size + 1) t2 0 ->
      (∀ c o, s.heap.get? c = some o -> h'.get? c = some o) -> Q (.ref (s.heap.objs.size + 4)) { s with heap := h' }) :
    wpAny (model prog w) A (call (.type "zip") [.ref t1, .ref t2]) Q E s := by
  refine callType_new F.called_zip (by decide) (F.typeCall_zip_2 _ _) (F.newCall_zip_2 _ _) (fun obj => F.args_object_init_3 obj _ _) F.entry_zip_new (meets_zip_newT t1 t2 xs ys) ⟨q1, q2, ?_⟩
  have z1 : (zT1 s.heap t1).objs.size = s.heap.objs.size + 1 := Heap.size_push ..
  have z2 : (zT2 s.heap t1 t2).objs.size = s.heap.objs.size + 2 := by rw [Heap.size_push, z1]
  have z3 : (zT3 s.heap t1 t2).objs.size = s.heap.objs.size + 3 := by rw [Heap.size_push, z2]
  have z4 : (zT4 s.heap t1 t2).objs.size = s.heap.objs.size + 4 := by rw [Heap.size_push, z3]
  have g5 : (zT5 s.heap t1 t2).get? (zT4 s.heap t1 t2).objs.size = some _ := Heap.get?_push_size _ rfl
  have g4 : (zT5 s.heap t1 t2).get? (zT3 s.heap t1 t2).objs.size = some _ := Heap.get?_push_of_some _ (Heap.get?_push_size _ rfl)
  have g3 : (zT5 s.heap t1 t2).get? (zT2 s.heap t1 t2).objs.size = some _ := Heap.get?_push_of_some _ (Heap.get?_push_of_some _ (Heap.get?_push_size _ rfl))
  have g2 : (zT5 s.heap t1 t2).get? (zT1 s.heap t1).objs.size = some _ := Heap.get?_push_of_some _ (Heap.get?_push_of_some _ (Heap.get?_push_of_some _ (Heap.get?_push_size _ rfl)))
  have g1 : (zT5 s.heap t1 t2).get? s.heap.objs.size = some _ := Heap.get?_push_of_some _ (Heap.get?_push_of_some _ (Heap.get?_push_of_some _ (Heap.get?_push_of_some _ (Heap.get?_push_size _ rfl))))
  show _ /\ _
  rw [z2, z3, z4] at g5
  rw [z1, z2] at g3
  rw [z3] at g4
  rw [z1] at g2
  rw [z4]
  exact ⟨⟨_, g5, rfl⟩, h _ g5 g3 g4 ⟨_, g1, rfl, rfl⟩ ⟨_, g2, rfl, rfl⟩ fun c o q => Heap.get?_push_of_some _ (Heap.get?_push_of_some _ (Heap.get?_push_of_some _ (Heap.get?_push_of_some _ (Heap.get?_push_of_some _ q))))⟩
end
end PySem
namespace L2
open PySem PySem.Spec PyProof.Rows
def Itz (K : PySem.W.Frag) (a b : Addr) : It :=
  ⟨fun i H => ∃ xs ys x y, SqT K H a xs /\ SqT K H b ys /\ xs[i]? = some x /\ ys[i]? = some y, fun i H v H' => ∃ T, H T = none /\ v = .ref T /\ ∀ xs ys x y, SqT K H a xs -> SqT K H b ys -> xs[i]? = some x -> ys[i]? = some y -> H' = upd H T (.tup [x, y]),
    fun i H => ∃ xs ys, SqT K H a xs /\ SqT K H b ys /\ (xs.length <= i \/ ys.length <= i)⟩
theorem turn_zipT {P : Program} {w : World} {K : PySem.W.Frag} {elts : List Expr} {k : Nat} {tp : Pos} (a b z TI TO i1 i2 : Addr) (D : ZipApart z TI TO i1 i2 a b) :
    Turn P w K (.Tuple elts k tp) (Itz K a b) [z, TI, TO, i1, i2] z (fun i h => IsZip h z TI TO .none /\ IsPair h TI (.ref i1) (.ref i2) /\ (∃ u v, IsPair h TO u v) /\ h.IsTupleIter i1 a i /\ h.IsTupleIter i2 b i) where
  mem := by simp
  obj := fun i h st c hc => by
    obtain ⟨q1, q2, ⟨u, v, q3⟩, ⟨o4, q4, _, d4⟩, ⟨o5, q5, _, d5⟩⟩ := st
    simp only [List.mem_cons, List.not_mem_nil, or_false] at hc
    rcases hc with rfl | rfl | rfl | rfl | rfl
    · exact ⟨_, q1, fun v z => by cases z⟩
    · exact ⟨_, q2, fun v z => by cases z⟩
    · exact ⟨_, q3, fun v z => by cases z⟩
    · exact ⟨_, q4, fun v z => by rw [d4] at z; cases z⟩
    · exact ⟨_, q5, fun v z => by rw [d5] at z; cases z⟩
  keep := fun i h h' st kk => by
    obtain ⟨q1, q2, ⟨u, v, q3⟩, q4, q5⟩ := st
    exact ⟨kk z (by simp) _ q1, kk TI (by simp) _ q2, ⟨u, v, kk TO (by simp) _ q3⟩, q4.at2 fun o q => kk i1 (by simp) o q, q5.at2 fun o q => kk i2 (by simp) o q⟩
  item := by
    intro X hP hw hK hc i pins s σ H E I hf st hg
    subst hP hw hK
    obtain ⟨xs, ys, x, y, hqa, hqb, hx, hy⟩ := hg
    obtain ⟨q1, q2, ⟨u0, v0, q3⟩, q4, q5⟩ := st
    obtain ⟨ia, ra, pa, hza⟩ := I.tuple hqa
    obtain ⟨ib, rb, pb, hzb⟩ := I.tuple hqb
    have pa : s.heap.IsTuple a ia.toArray := pa
    have pb : s.heap.IsTuple b ib.toArray := pb
    obtain ⟨u, hu, ru⟩ := ra.get hx
    obtain ⟨v, hv, rv⟩ := rb.get hy
    refine next_zipT D q1 q2 q3 q4 q5 pa pb (x := u) (y := v) (by simpa using hu) (by simpa using hv) fun h' a1 a2 a3 a4 a5 kk => ?_
    have kf : ∀ c o, c ∉ [z, TI, TO, i1, i2] -> s.heap.get? c = some o -> h'.get? c = some o := fun c o hcc q => kk c o (fun e => hcc (by simp [e])) (fun e => hcc (by simp [e])) (fun e => hcc (by simp [e])) (fun e => hcc (by simp [e])) q
    have ne : ∀ c ∈ [z, TI, TO, i1, i2], c ≠ s.heap.objs.size := fun c hcc => by
      obtain ⟨o4, e4, _⟩ := q4
      obtain ⟨o5, e5, _⟩ := q5
      simp only [List.mem_cons, List.not_mem_nil, or_false] at hcc
      rcases hcc with rfl | rfl | rfl | rfl | rfl
      · exact Nat.ne_of_lt (Heap.lt_size q1)
      · exact Nat.ne_of_lt (Heap.lt_size q2)
      · exact Nat.ne_of_lt (Heap.lt_size q3)
      · exact Nat.ne_of_lt (Heap.lt_size e4)
      · exact Nat.ne_of_lt (Heap.lt_size e5)
    have I1 : Inv X pins σ (upd H s.heap.objs.size (.tup [x, y])) { s with heap := h', toks := s.toks } := I.yields (vals := [u, v]) hf kf (Nat.le_refl _) ⟨_, a5, rfl, _, rfl⟩ (.cons ru (.cons rv .nil)) (by show 2 <= sizeLine; decide)
    have hf1 := fp_upd (o := .tup [x, y]) hf ne
    refine ⟨_, rfl, wpAny_letOwnedTupleGo_zip a1 fun h'' Z2 sb => ?_⟩
    have I2 : Inv X pins σ (upd H s.heap.objs.size (.tup [x, y])) { s with heap := h'', toks := s.toks } := I1.turnedL (t' := s.toks) hf1 fun c o hcc q => (sb.2 c fun e => hcc (by simp [e])).trans q
    refine ⟨.ref s.heap.objs.size, _, I2, rfl, ⟨_, I.hok.fresh (Nat.le_refl _), rfl, fun xs' ys' x' y' hxs hys hx' hy' => ?_⟩, ⟨Z2, sb.extBut _ _ D.TIz (kk _ _ D.TIz D.TITO D.TIi1 D.TIi2 q2), ⟨u, v, sb.extBut _ _ D.TOz a2⟩, a3.extBut sb.extBut D.i1z, a4.extBut sb.extBut D.i2z⟩, fun c hcc => (hf1 c hcc).1⟩
    have e1 := I.tuple_inj hxs hqa
    have e2 := I.tuple_inj hys hqb
    subst e1 e2
    rw [hx] at hx'; rw [hy] at hy'
    rw [Option.some.inj hx', Option.some.inj hy']
  done := by
    intro X hP hw hK hc i pins s σ H E I hf st hg
    subst hP hw hK
    obtain ⟨xs, ys, hqa, hqb, over⟩ := hg
    obtain ⟨q1, q2, ⟨u0, v0, q3⟩, q4, q5⟩ := st
    obtain ⟨ia, ra, pa, hza⟩ := I.tuple hqa
    obtain ⟨ib, rb, pb, hzb⟩ := I.tuple hqb
    have la := ra.length
    have lb := rb.length
    refine next_zipT_end (I.ok.hd hc) D q1 q2 q3 q4 q5 (show s.heap.IsTuple a ia.toArray from pa) (show s.heap.IsTuple b ib.toArray from pb) ?_ fun h' kk => ⟨rfl, I.turnedL (t' := s.toks) hf fun c o hcc q => kk c o (fun e => hcc (by simp [e])) (fun e => hcc (by simp [e])) (fun e => hcc (by simp [e])) (fun e => hcc (by simp [e])) q⟩
    rcases over with q | q
    · exact .inl (by simp; omega)
    · exact .inr (by simp; omega)
  self := fun _ _ _ _ _ st h => wpAny_pyIter_zip st.1 h
section
variable {X : Cx} {elts : List Expr} {k : Nat} {tp : Pos}
def iZipT (K : PySem.W.Frag) (ta : TA) : TI := fun σ H R => ta σ H fun vs H1 => ∃ a b, vs = [.ref a, .ref b] /\ (∃ xs, SqT K H1 a xs) /\ (∃ ys, SqT K H1 b ys) /\ R (Itz K a b) H1
theorem pi_zipT {a b : Expr} {ta : TA} {p pos : Pos} (hg : Gl X "zip") (hm : X.mg "zip" = none) (ha : PA X [a, b] ta) (hs : starEach [a, b] X.env = [(false, eval a X.env), (false, eval b X.env)] := by rfl) (hs2 : starEach [b] X.env = [(false, eval b X.env)] := by rfl) :
    PI X (.Tuple elts k tp) (.Call (.Name "zip" p) [a, b] [] pos) (iZipT X.K ta) := by
  intro pins s σ H R I h
  refine Call_ (ld_blt I hg hm boot_zip (PyProof.Rows.callWith_type1 (thn (ha pos pins s σ H _ I h) fun us s1 ⟨vs, H1, I1, r1, q1⟩ => ?_) (by rw [hs, hs2]) (by rw [hs2]; rfl)))
  obtain ⟨t1, t2, e, ⟨xs, hqa⟩, ⟨ys, hqb⟩, q⟩ := q1
  subst e
  obtain ⟨u, v, rfl, rx, ry⟩ := vals2 r1
  cases rx
  cases ry
  obtain ⟨ia, ra, pa, hza⟩ := I1.tuple hqa
  obtain ⟨ib, rb, pb, hzb⟩ := I1.tuple hqb
  have pa : s1.heap.IsTuple t1 ia.toArray := pa
  have pb : s1.heap.IsTuple t2 ib.toArray := pb
  have l1 : t1 < s1.heap.objs.size := by obtain ⟨o, q, _⟩ := pa; exact Heap.lt_size q
  have l2 : t2 < s1.heap.objs.size := by obtain ⟨o, q, _⟩ := pb; exact Heap.lt_size q
  refine call_zipT pa pb fun h' a1 a2 a3 a4 a5 kk => wpAny_pyIter_zip a1 ?_
  refine ⟨_, [s1.heap.objs.size + 4, s1.heap.objs.size + 2, s1.heap.objs.size + 3, s1.heap.objs.size, s1.heap.objs.size + 1], _, _, H1, rfl, I1.kept (t' := s1.toks) kk, turn_zipT t1 t2 _ _ _ _ _ (zipApart_new l1 l2), ⟨a1, a2, ⟨_, _, a3⟩, a4, a5⟩, fun c hc => ?_, q⟩
  have up : ∀ n, FpOk X pins H1 (s1.heap.objs.size + n) := fun n => I1.fpOk (Nat.le_add_right _ _) (I1.hok.fresh (Nat.le_add_right _ _))
  simp only [List.mem_cons, List.not_mem_nil, or_false] at hc
  rcases hc with rfl | rfl | rfl | rfl | rfl
  · exact up 4
  · exact up 2
  · exact up 3
  · exact up 0
  · exact up 1
end
end L2
namespace L2
open PySem PySem.Spec PyProof.Rows
section
variable {X : Cx}
def rIsiT (K : PySem.W.Frag) : List V -> Hp -> VK -> Prop := fun xs H Q => ∃ x n t b, xs = [x, .ty n] /\ TyOf K H x t /\ PySem.W.kitOne K t (.type n) = some b /\ Q (.bl b) H
theorem call_isiT : CallR X (.builtin "isinstance") (rIsiT X.K) := by
  intro pins s σ H xs us Q I r h
  obtain ⟨x, n, t, b, rfl, ty, e, q⟩ := h
  obtain ⟨u, v, rfl, rx, ry⟩ := vals2 r
  cases ry
  exact isinst_ok I rx ty e fun tk => ⟨.bl b, H, I.tok _, rfl, q⟩
theorem vals_bls {bs : List Bool} : ∀ {us : List Value}, Vals (bs.map V.bl) us -> us = bs.map Value.bool := by
  induction bs with
  | nil => intro us r; cases r; rfl
  | cons b bs ih =>
    intro us r
    rw [List.map_cons] at r
    cases r with
    | cons r1 r2 =>
      cases (show _ = Value.bool b from r1)
      rw [ih r2]
      rfl
theorem all_range_get (bs : List Bool) : ((List.range bs.length).all fun i => bs.getD i true) = bs.all id := by
  rw [Bool.eq_iff_iff]
  simp only [List.all_eq_true, List.mem_range, id]
  constructor
  · intro h x hx
    obtain ⟨i, hi, rfl⟩ := List.mem_iff_getElem.mp hx
    have := h i hi
    simpa [List.getD, hi] using this
  · intro h i hi
    have := h bs[i] (List.getElem_mem hi)
    simpa [List.getD, hi] using this
def rAll (K : PySem.W.Frag) : List V -> Hp -> VK -> Prop := fun xs H Q => ∃ (p : Addr) (bs : List Bool), xs = [.ref p] /\ SqL K H p (bs.map V.bl) /\ Q (.bl (bs.all id)) H
theorem call_all (hc : X.calm = true) : CallR X (.builtin "all") (rAll X.K) := by
  intro pins s σ H xs us Q I r h
  obtain ⟨p, bs, rfl, hq, q⟩ := h
  obtain ⟨u, rfl, rx⟩ := vals1 r
  cases rx
  obtain ⟨its, rv, pl, hz⟩ := I.list hq
  have hits := vals_bls rv
  have hl := pl.isList
  have hlt : p < s.heap.objs.size := by obtain ⟨o, e, _⟩ := hl; exact Heap.lt_size e
  have hh : X.A.in1.handled = none := I.ok.hd hc
  refine call_all_walk (wpAny_pyIter_list hl ?_)
  refine ⟨s.heap.objs.size, _, _, _, _, _, fun i => bs.getD i true, rfl, Walks.list hh s.heap.objs.size p (Nat.ne_of_lt hlt) its.toArray, ⟨⟨_, Heap.get?_push_size _ rfl, rfl, rfl⟩, hl.push _⟩, ?_, fun h' tk hk => ?_⟩
  · intro i v s' Q' E' hv hQ
    have e : v = .bool (bs.getD i true) := by
      have hv' : its[i]? = some v := by simpa using hv
      rw [hits, List.getElem?_map] at hv'
      cases e : bs[i]? with
      | none => rw [e] at hv'; cases hv'
      | some b => rw [e] at hv'; simp [List.getD, e]; exact (Option.some.inj hv').symm
    subst e
    first
      | exact wpAny_pure hQ
      | exact hQ
  · have e : its.toArray.size = bs.length := by rw [hits]; simp
    have I1 : Inv X pins σ H { s with heap := s.heap.push { cls := .type "list_iterator", data := .fields #[.ref p, .int 0 0] } } := I.kept (t' := s.toks) fun b o e => Heap.get?_push_of_some _ e
    have f : ∀ b ∈ [s.heap.objs.size], FpOk X pins H b := fun b hb => by rw [List.mem_singleton.mp hb]; exact I.fpOk (Nat.le_refl _) (I.hok.fresh (Nat.le_refl _))
    refine ⟨.bl (bs.all id), H, I1.turnedL (t' := tk) (ch := [s.heap.objs.size]) f fun b o hb e => hk b o hb e, ?_, q⟩
    show Value.bool _ = Value.bool _
    rw [e, all_range_get]
end
end L2
namespace HT
open PySem PyProof.Rows
section
variable {prog : Program} {w : World} {A : Around} {E : Value -> Shared -> Prop} {s : Shared}
theorem getItem_tuple_all {t sl : Addr} {items : Array Value} {vl vu : Value} {lo hi : Option Int} {Q : Value -> Shared -> Prop} (ht : IsTup s.heap t items) (hs : s.heap.IsSliceOf sl vl vu .none) (pl : IsPart vl lo) (pu : IsPart vu hi)
    (hw : sIx items.size 0 lo = 0 /\ sIx items.size items.size hi = items.size) (h : Q (.ref t) s) : wpAny (model prog w) A (getItem (.ref t) (.ref sl)) Q E s := by
  obtain ⟨os, hos, hcs, hds⟩ := id hs
  have hTs : s.TypeIs (.ref sl) "slice" := ⟨os, hos, hcs⟩
  unfold getItem
  try with_reducible refine wpAny_holding ?_
  first | refine wpAny_bind (wpAny_pure ?_) | skip
  refine wpAny_bind (wpAny_sequenceKey ht.typeIs (by decide) ?_)
  refine wpAny_bind (wpAny_callSpecial?_slot (name := Str.ofString "__getitem__") ht.typeIs PyProof.Rows.slot_tuple_getitem (wpAny_call_entry PyProof.Rows.slot_tuple_getitem ht.typeIs entry_tuple_getitem ?_ (args_tuple_getitem _ _)))
  show wpAny _ _ (Builtin.Tuple.tupleItemsOf (.ref t) >>= _) _ _ s
  refine wpAny_bind (tupleItemsOf_ ht (wpAny_bind (wpAny_typeOf hTs ?_)))
  rw [if_pos (by decide)]
  refine wpAny_bind (sliceApplied_gen hs pl pu ?_)
  have yes : (((sIx items.size 0 lo : Nat) : Int) == 0 && (1 : Int) == 1 && (sIx items.size items.size hi - sIx items.size 0 lo) == items.size) = true := by
    rw [hw.1, hw.2]; simp
  show wpAny _ _ (if (((sIx items.size 0 lo : Nat) : Int) == 0 && (1 : Int) == 1 && (sIx items.size items.size hi - sIx items.size 0 lo) == items.size) = true then _ else _) _ _ s
  rw [if_pos yes]
  refine wpAny_bind (m := Builtin.Tuple.tupleIsExact _) ?_
  unfold Builtin.Tuple.tupleIsExact
  refine wpAny_bind (wpAny_typeOf ht.typeIs (wpAny_pure ?_))
  simp only [beq_self_eq_true, if_true]
  first
    | exact wpAny_bind (wpAny_rule (wpAny_pure ⟨_, rfl, wpAny_pure h⟩))
    | exact wpAny_bind (wpAny_rule (wpAny_bind (wpAny_pure (wpAny_pure ⟨_, rfl, wpAny_pure h⟩))))
    | exact wpAny_bind (wpAny_rule (wpAny_bind (wpAny_pure ⟨_, rfl, wpAny_pure h⟩)))
    | (trace_state; fail)
end
end HT
namespace L2
open PySem PySem.Spec PyProof.Rows
section
variable {X : Cx}
def rSlTA (K : PySem.W.Frag) : V -> Option Int -> Option Int -> Hp -> VK -> Prop := fun x lo hi H Q => ∃ a xs, x = .ref a /\ SqT K H a xs /\ (cutV xs lo hi = xs -> Q (.ref a) H) /\ ∀ p, H p = none -> Q (.ref p) (upd H p (.tup (cutV xs lo hi)))
theorem sl_tupA : SlR X (rSlTA X.K) := by
  intro pins s σ H x v vl vu lo hi sl Q I rx hs pl pu h
  obtain ⟨a, xs, rfl, hx, h1, h2⟩ := h
  by_cases hw : HT.sIx xs.length 0 lo = 0 /\ HT.sIx xs.length xs.length hi = xs.length
  · have e : cutV xs lo hi = xs := by unfold cutV; rw [hw.1, hw.2]; simp
    cases rx
    obtain ⟨its, r, ht, hz⟩ := I.tuple hx
    have hlen : its.toArray.size = xs.length := by rw [List.size_toArray]; exact r.length.symm
    exact ⟨"tuple", _, PyProof.Rows.slot_tuple_getitem.lookup, ht.typeIs, HT.getItem_tuple_all ht hs pl pu (by rw [hlen]; exact hw) ⟨.ref a, H, I, rfl, h1 e⟩⟩
  · exact sl_tup pins s σ H (.ref a) v vl vu lo hi sl Q I rx hs pl pu ⟨a, xs, rfl, hx, hw, h2⟩
end
theorem comp_by {J : It} {g : TG} {tc : TT} {te : TE} {R : Hp -> Prop} {σ : St} {H : Hp} {D : Addr} (n : Nat) (Pv : Nat -> St -> Hp -> Prop) (h0 : Pv 0 σ H)
    (go : ∀ i σ H, i < n -> Pv i σ H -> J.go i H /\ ∀ x H', J.yld i H x H' -> g x σ H' fun σ3 H3 => tc σ3 H3 fun b H4 =>
      if b = true then te σ3 H4 fun y H5 => ∃ ys, H5 D = some (.lst ys) /\ ys.length < sizeLine /\ Pv (i + 1) σ3 (upd H5 D (.lst (ys ++ [y]))) else Pv (i + 1) σ3 H4) (stop : ∀ σ H, Pv n σ H -> J.stop n H /\ R H) :
    ∃ W : Nat -> Nat -> St -> Hp -> Prop, (∃ m, W 0 m σ H) /\ ∀ i m σ H, W i m σ H ->
      (J.stop i H /\ R H) \/ (J.go i H /\ ∃ N : St -> Hp -> Prop, (∀ σ' H', N σ' H' -> ∃ m', m' < m /\ W (i + 1) m' σ' H') /\ ∀ x H', J.yld i H x H' -> g x σ H' fun σ3 H3 => tc σ3 H3 fun b H4 =>
        if b = true then te σ3 H4 fun y H5 => ∃ ys, H5 D = some (.lst ys) /\ ys.length < sizeLine /\ N σ3 (upd H5 D (.lst (ys ++ [y]))) else N σ3 H4) := by
  refine ⟨fun i m σ H => m = n - i /\ i <= n /\ Pv i σ H, ⟨n, by simp, Nat.zero_le _, h0⟩, ?_⟩
  rintro i m σ H ⟨rfl, hi, p⟩
  by_cases hlt : i < n
  · obtain ⟨q1, q2⟩ := go i σ H hlt p
    exact .inr ⟨q1, Pv (i + 1), fun σ' H' p' => ⟨n - (i + 1), by omega, rfl, hlt, p'⟩, q2⟩
  · have e : i = n := by omega
    subst e
    exact .inl (stop σ H p)
theorem Same.upd {H : Hp} {a : Addr} {o : HO} (h : H a = none) : Same H (upd H a o) := fun b u e => by rw [upd_ne (ne_of_none e h)]; exact e
theorem Same.put {H H' : Hp} {a : Addr} {o : HO} (e : Same H H') (h : H a = none) : Same H (L2.upd H' a o) := fun b u q => by rw [upd_ne (ne_of_none q h)]; exact e b u q
def isFun : ScopeKind -> Bool
  | .function => true
  | _ => false
theorem isFun_eq {k : ScopeKind} (h : isFun k = true) : k = .function := by
  cases k <;> first | rfl | cases h
def compChk (Nx : List Str) (scx : Scope) (N : List Str) (scope : Scope) (own : Nat) (caps : List Nat) : Bool :=
  isFun scope.kind && scope.names.all (fun y => (y.2 != .local || scope.names.lookup y.1 == some .local) && y.2 != .cell && (y.2 != .free || scx.names.lookup y.1 == some .cell || scx.names.lookup y.1 == some .free)) &&
    N.length == own + caps.length && (caps.zip (N.drop own)).all fun p => decide (Nx[p.1]? = some p.2) && scope.names.lookup p.2 == some .free
theorem compOk {X : Cx} {N : List Str} {scope : Scope} {own : Nat} {caps : List Nat} (Nx : List Str) (scx : Scope) (h : compChk Nx scx N scope own caps = true) (hN : X.N = Nx := by rfl) (hs : X.env.scope = scx := by rfl) : CompOk X N scope own caps := by
  unfold compChk at h
  simp only [Bool.and_eq_true, List.all_eq_true] at h
  obtain ⟨⟨⟨h1, h2⟩, h3⟩, h4⟩ := h
  refine ⟨isFun_eq h1, fun y hy hl => ?_, fun y hy hc => ?_, fun y hy hf => ?_, by simpa using h3, fun i j x e1 e2 => ?_⟩
  · have := (h2 y hy).1.1
    simpa [hl] using this
  · have := (h2 y hy).1.2
    simp [hc] at this
  · have := (h2 y hy).2
    show X.env.scope.names.lookup y.1 = some .cell \/ X.env.scope.names.lookup y.1 = some .free
    rw [hs]
    simpa [hf] using this
  · have hm : (j, x) ∈ caps.zip (N.drop own) := by
      have e3 : (N.drop own)[i]? = some x := by rw [List.getElem?_drop]; exact e2
      exact List.mem_iff_getElem?.mpr ⟨i, by rw [List.getElem?_zip_eq_some]; exact ⟨e1, e3⟩⟩
    have := h4 _ hm
    rw [hN]
    exact ⟨of_decide_eq_true this.1, by simpa using this.2⟩
structure Cal (P : Program) (w : World) (K : PySem.W.Frag) (mg : Str -> Option Value) (base : Heap) (k : Nat) (x : Str) (ps : List Str) (sp : Sp) : Prop where
  ex : ∃ f fd, FnOk P w K mg base CX0 k f fd ps sp /\ mg x = some (.ref f) /\ PySem.W.keepIn K (.ref f) = true /\ Binds K fd ps []
structure Laid (K : PySem.W.Frag) (mg : Str -> Option Value) (x : Str) (st : Stmt) (ps : List Str) : Prop where
  ex : ∃ f fd, Fun K x x st f fd /\ mg x = some (.ref f) /\ Binds K fd ps []
section
variable {P : Program} {w : World} {K : PySem.W.Frag} {mg : Str -> Option Value} {base : Heap}
theorem Laid.cal {x : Str} {st : Stmt} {N ps : List Str} {k : Nat} {sp : Sp} (L : Laid K mg x st ps) (S : FnScope N ps (defScope st)) (len : ∀ vs H Q E, sp vs H Q E -> vs.length = ps.length)
    (hbody : ∀ (f : Addr) (cdv : Value) (A : Around) (outer : List Env) (s : Shared) (H : Hp) (vs : List V) (Q : VK) (E : XK), Room k (A.deeper (envOfC x (defScope st) s.heap.objs.size f cdv)) -> sp vs H Q E ->
      ∃ t, PSs (cxOf CX0 P w K mg base N x (defScope st) f cdv A outer s H E).nox (defBody st) t /\ t { nx := fun _ H' => Q .non H', rt := Q } (start N vs) H) : Cal P w K mg base (k + 1) x ps sp := by
  obtain ⟨f, fd, F, m, b⟩ := L.ex
  exact ⟨f, fd, F.ok S len (fun cdv A outer s H vs Q E hr h => hbody f cdv A outer s H vs Q E hr h), m, F.kp, b⟩
theorem laid_mk {h : Heap} {x : Str} {st : Stmt} {ps : List Str} {f : Addr} {oc : Value} {od an : Option Addr} {osl : Array (Option Value)} {kV doc pm cdv ct : Value} (X : K.In h) (G : h.Ns mainGlobals mg) (a : PySem.W.nsIn K mainGlobals x = some (some (.ref f)))
    (l : K.lookup f = some ⟨oc, od, .func (PySem.W.fnOf x x (defArgs st) (defBody st) (defScope st) .none kV doc pm an cdv ct), osl⟩) (c : PySem.W.codeIn K cdv x = true) (k : PySem.W.keepIn K (.ref f) = true)
    (hb : ∀ (kV doc pm : Value) (an : Option Addr) (cdv ct : Value) (us : List Value), us.length = ps.length -> bindArgs (PySem.W.fnOf x x (defArgs st) (defBody st) (defScope st) .none kV doc pm an cdv ct) ⟨us, []⟩ = pure (ps.zip us)) : Laid K mg x st ps :=
  ⟨f, _, fun_mk l c k, PySem.W.mg_of X G a, (fun_mk l c k).binds hb⟩
end
section
variable {X : Cx} {k k' : Nat} {x : Str} {ps : List Str} {sp : Sp} {p pos : Pos} {e : Expr} {es : List Expr} {t : TA}
theorem pe_cal (c : Cal X.prog X.w X.K X.mg X.base k x ps sp) (hr : Room k' X.A) (hk : k <= k') (hg : Gl X x) (ha : PA X (e :: es) t) (hdb : (x == ("__debug__" : Str)) = false := by decide) (he : starEach (e :: es) X.env = (false, eval e X.env) :: starEach es X.env := by rfl)
    (hpl : (backTo pos (starEach es X.env)).any (·.1) = false := by rfl) : PE X (.Call (.Name x p) (e :: es) [] pos) (tCall sp [] E0 t) := by
  obtain ⟨f, fd, F, m, kp, b⟩ := c.ex
  exact pe_call F (hr.mono hk) hg m kp b .nil pass0 ha hdb he hpl
end
def tyS (H : Hp) : V -> Option String
  | .non => some "NoneType"
  | .bl _ => some "bool"
  | .int _ => some "int"
  | .str _ => some "str"
  | .ref p => match H p with
    | some (.lst _) => some "list"
    | some (.tup _) => some "tuple"
    | some (.frz _ (.lst _)) => some "list"
    | _ => none
  | _ => none
def subS (a n : String) : Bool := a == n || (a == "bool" && n == "int")
def knownS (n : String) : Bool := n == "bool" || n == "int" || n == "str" || n == "list" || n == "tuple"
theorem kit_all (K : PySem.W.Frag) : ∀ a ∈ ["NoneType", "bool", "int", "str", "list", "tuple"], ∀ n ∈ ["bool", "int", "str", "list", "tuple"], PySem.W.kitOne K (.type a) (.type n) = some (subS a n) := by
  intro a ha n hn
  simp only [List.mem_cons, List.not_mem_nil, or_false] at ha hn
  rcases ha with rfl | rfl | rfl | rfl | rfl | rfl <;> rcases hn with rfl | rfl | rfl | rfl | rfl <;> kernel_rfl
theorem tyS_ty {K : PySem.W.Frag} {H : Hp} {x : V} {a : String} (h : tyS H x = some a) : TyOf K H x (.type a) /\ a ∈ ["NoneType", "bool", "int", "str", "list", "tuple"] := by
  unfold tyS at h
  split at h
  · cases h; exact ⟨.non, by simp⟩
  · cases h; exact ⟨.bl _, by simp⟩
  · cases h; exact ⟨.int _, by simp⟩
  · cases h; exact ⟨.str _, by simp⟩
  · split at h
    · rename_i e; cases h; exact ⟨.lst e, by simp⟩
    · rename_i e; cases h; exact ⟨.tup e, by simp⟩
    · rename_i e; cases h; exact ⟨.frz e, by simp⟩
    · cases h
  · cases h
section
variable {X : Cx}
def rIsiS : List V -> Hp -> VK -> Prop := fun xs H Q => ∃ x n a, xs = [x, .ty n] /\ tyS H x = some a /\ knownS n = true /\ Q (.bl (subS a n)) H
theorem call_isiS : CallR X (.builtin "isinstance") rIsiS := by
  intro pins s σ H xs us Q I r h
  obtain ⟨x, n, a, rfl, ty, kn, q⟩ := h
  obtain ⟨t1, t2⟩ := tyS_ty (K := X.K) ty
  refine call_isiT pins s σ H _ us Q I r ⟨x, n, _, _, rfl, t1, kit_all X.K a t2 n ?_, q⟩
  unfold knownS at kn
  simp only [Bool.or_eq_true, beq_iff_eq] at kn
  simp only [List.mem_cons, List.not_mem_nil, or_false]
  rcases kn with (((kn | kn) | kn) | kn) | kn <;> simp [kn]
theorem tyS_tup {H : Hp} {p : Addr} {xs : List V} (h : H p = some (.tup xs)) : tyS H (.ref p) = some "tuple" := by simp only [tyS, h]
theorem tyS_lst {H : Hp} {p : Addr} {xs : List V} (h : H p = some (.lst xs)) : tyS H (.ref p) = some "list" := by simp only [tyS, h]
end
theorem bt_isinstance : bootBuiltins "isinstance" = some (.builtin "isinstance") := by decide +kernel
theorem bt_len : bootBuiltins "len" = some (.builtin "len") := by decide +kernel
theorem bt_all : bootBuiltins "all" = some (.builtin "all") := by decide +kernel
theorem bt_sorted : bootBuiltins "sorted" = some (.builtin "sorted") := by decide +kernel
theorem bt_int : bootBuiltins "int" = some (.type "int") := by decide +kernel
theorem bt_bool : bootBuiltins "bool" = some (.type "bool") := by decide +kernel
theorem bt_list : bootBuiltins "list" = some (.type "list") := by decide +kernel
theorem bt_tuple : bootBuiltins "tuple" = some (.type "tuple") := by decide +kernel
end L2
namespace L2
open PySem PySem.Spec PyProof.Rows
structure VMeth (P : Program) (w : World) (K : PySem.W.Frag) (mg : Str -> Option Value) (base : Heap) (k : Nat) (C : Addr) (m : Str) (ps : List Str) (sp : Sp) : Prop where
  cl : Cls K C
  ex : ∃ f fd, Meth K C m f /\ FnOk P w K mg base CX0 k f fd ps sp /\ Binds K fd ps []
def tVM (P : Program) (w : World) (K : PySem.W.Frag) (mg : Str -> Option Value) (base : Heap) (k : Nat) (m : Str) (ta : TE) (t : TA) : TE := fun σ H Q => ta σ H fun x H1 => ∃ a C dx fs ps sp, x = .ref a /\ H1 a = some (.ins C dx fs) /\ VMeth P w K mg base k C m ps sp /\ fs.lookup m = none /\
  t σ H1 fun vs H2 => sp (x :: vs) H2 Q E0
structure CMeth (K : PySem.W.Frag) (C : Addr) (m : Str) (f : Addr) : Prop where
  rd : PySem.W.readsIn K C (.type "type") = true
  fc : PySem.W.findCls K (.ref C) (.type "type") m = some (.val (.ref f))
  sg : PySem.W.specialIn K (.ref C) "__getattribute__" = some (some (.builtin "type.__getattribute__"))
  kp : PySem.W.keepIn K (.ref f) = true
structure CCal (P : Program) (w : World) (K : PySem.W.Frag) (mg : Str -> Option Value) (base : Heap) (k : Nat) (x m : Str) (ps : List Str) (sp : Sp) : Prop where
  ex : ∃ C f fd, mg x = some (.ref C) /\ CMeth K C m f /\ FnOk P w K mg base CX0 k f fd ps sp /\ Binds K fd ps []
structure Makes (P : Program) (w : World) (K : PySem.W.Frag) (mg : Str -> Option Value) (base : Heap) (k : Nat) (x : Str) (C : Addr) (ps : List Str) (sp : Sp) : Prop where
  ex : ∃ f fd, Mk K C f /\ FnOk P w K mg base CX0 k f fd ps sp /\ Binds K fd ps []
  at_ : mg x = some (.ref C)
section
variable {X : Cx} {k k' : Nat} {C : Addr} {ps : List Str} {sp : Sp} {x m : Str} {p pos apos : Pos} {e o : Expr} {es : List Expr} {ta : TE} {t : TA}
theorem pe_vm {pl : Sem Bool} (hr : Room k X.A) (he : PE X o ta) (ha : PA X (e :: es) t) (hst : starEach (e :: es) X.env = (false, eval e X.env) :: starEach es X.env := by rfl) (hpl : (backTo pos (starEach es X.env)).any (·.1) = false := by rfl)
    (ht : eval (.Call (.Attribute o m apos) (e :: es) [] pos) X.env = (do
      let ov <- eval o X.env
      standAt apos.atName
      let (f, first) <- holding [ov] (getMethod ov m pl)
      callWith pos f first (backTo pos (starEach (e :: es) X.env)) (backToKw pos (keywordEach [] X.env))) := by rfl) :
    PE X (.Call (.Attribute o m apos) (e :: es) [] pos) (tVM X.prog X.w X.K X.mg X.base k m ta t) := by
  intro pins s σ H Q I h
  refine PySem.W.methodCall_KW (pl := pl) (thn (he pins s σ H _ I h) fun u s1 ⟨x, H1, I1, rx, a, C, dx, fs, ps, sp, ex, ea, vm, l, q⟩ => ?_) ht
  subst ex
  obtain rfl : u = Value.ref a := rx
  obtain ⟨f, fd, hm, F, hb⟩ := vm.ex
  refine getmeth_ok I1 ea vm.cl hm l ?_
  refine PySem.W.callWith_K (first := [.ref a]) (h₀ := X.base) I.ok.mod.kin hm.kp (thn (ha pos pins s1 σ H1 _ I1 q) fun us s2 ⟨vs, H2, I2, r, q2⟩ => ⟨I2.kIn, ?_⟩) hst hpl
  exact run_fn (us := .ref a :: us) (vs := .ref a :: vs) (ds := []) (dvs := []) F hr hb .nil pass0 I2 (.cons rfl r) (by rw [List.append_nil]; exact q2)
theorem pe_vm0 {pl : Sem Bool} (hr : Room k X.A) (he : PE X o ta)
    (ht : eval (.Call (.Attribute o m apos) [] [] pos) X.env = (do
      let ov <- eval o X.env
      standAt apos.atName
      let (f, first) <- holding [ov] (getMethod ov m pl)
      callWith pos f first (backTo pos (starEach [] X.env)) (backToKw pos (keywordEach [] X.env))) := by rfl) :
    PE X (.Call (.Attribute o m apos) [] [] pos) (tVM X.prog X.w X.K X.mg X.base k m ta tNil) := by
  intro pins s σ H Q I h
  refine PySem.W.methodCall_KW (pl := pl) (thn (he pins s σ H _ I h) fun u s1 ⟨x, H1, I1, rx, a, C, dx, fs, ps, sp, ex, ea, vm, l, q⟩ => ?_) ht
  subst ex
  obtain rfl : u = Value.ref a := rx
  obtain ⟨f, fd, hm, F, hb⟩ := vm.ex
  refine getmeth_ok I1 ea vm.cl hm l ?_
  exact PySem.W.callWith_K0 (first := [.ref a]) I1.kIn hm.kp (run_fn (us := [.ref a]) (vs := [.ref a]) (ds := []) (dvs := []) F hr hb .nil pass0 I1 (.cons rfl .nil) q)
theorem pe_cc {pl : Sem Bool} {op : Pos} (c : CCal X.prog X.w X.K X.mg X.base k x m ps sp) (hr : Room k' X.A) (hk : k <= k') (hg : Gl X x) (ha : PA X (e :: es) t) (hdb : (x == ("__debug__" : Str)) = false := by decide)
    (hst : starEach (e :: es) X.env = (false, eval e X.env) :: starEach es X.env := by rfl) (hpl : (backTo pos (starEach es X.env)).any (·.1) = false := by rfl)
    (ht : eval (.Call (.Attribute (.Name x op) m apos) (e :: es) [] pos) X.env = (do
      let ov <- eval (.Name x op) X.env
      standAt apos.atName
      let (f, first) <- holding [ov] (getMethod ov m pl)
      callWith pos f first (backTo pos (starEach (e :: es) X.env)) (backToKw pos (keywordEach [] X.env))) := by rfl) :
    PE X (.Call (.Attribute (.Name x op) m apos) (e :: es) [] pos) (tCall sp [] E0 t) := by
  intro pins s σ H Q I h
  obtain ⟨C, f, fd, hm, cm, F, hb⟩ := c.ex
  refine PySem.W.methodCall_KW (pl := pl) (ld_glob I hg hm ?_ hdb) ht
  refine PySem.W.method_cls I.kIn cm.sg (PySem.W.cls_value I.kIn cm.rd cm.fc rfl ?_)
  have I1 := I.tok (s.toks + 1)
  refine PySem.W.callWith_K (first := []) (h₀ := X.base) I.ok.mod.kin cm.kp (thn (ha pos pins _ σ H _ I1 h) fun us s2 ⟨vs, H2, I2, r, q2⟩ => ⟨I2.kIn, ?_⟩) hst hpl
  exact run_fn F (hr.mono hk) hb .nil pass0 I2 r q2
theorem pe_mak (c : Makes X.prog X.w X.K X.mg X.base k x C ps sp) (hr : Room k' X.A) (hk : k + 1 <= k') (hg : Gl X x) (ha : PA X (e :: es) t) (hdb : (x == ("__debug__" : Str)) = false := by decide) (he : starEach (e :: es) X.env = (false, eval e X.env) :: starEach es X.env := by rfl)
    (hpl : (backTo pos (starEach es X.env)).any (·.1) = false := by rfl) : PE X (.Call (.Name x p) (e :: es) [] pos) (tMake C sp [] E0 t) := by
  obtain ⟨f, fd, M, F, b⟩ := c.ex
  exact pe_make M F (hr.mono hk) hg c.at_ b .nil pass0 ha hdb he hpl
theorem pe_mak0 (c : Makes X.prog X.w X.K X.mg X.base k x C ps sp) (hr : Room k' X.A) (hk : k + 1 <= k') (hg : Gl X x) (hdb : (x == ("__debug__" : Str)) = false := by decide) : PE X (.Call (.Name x p) [] [] pos) (tMake C sp [] E0 tNil) := by
  obtain ⟨f, fd, M, F, b⟩ := c.ex
  exact pe_make0 M F (hr.mono hk) hg c.at_ b .nil pass0 hdb
theorem vals_at {xs : List V} {us : List Value} (r : Vals xs us) {j : Nat} (h : j < us.toArray.size) : RelV (xs.getD j .non) us.toArray[j] := by
  have hj : j < us.length := by simpa using h
  have hx : j < xs.length := by rw [r.length]; exact hj
  obtain ⟨u, hu, ru⟩ := r.get (i := j) (x := xs[j]) (by simp [hx])
  have e1 : us.toArray[j] = u := by
    have : us[j]? = some us[j] := by simp [hj]
    rw [this] at hu
    simpa using Option.some.inj hu
  rw [e1]
  simpa [List.getD, hx] using ru
end
section
variable {X : Cx} {e o : Expr} {es : List Expr} {ta : TE} {t : TA} {pos apos : Pos} {m f : Str}
theorem ix_listK (K : PySem.W.Frag) (h : X.K = K := by rfl) : IxR X (rIxL K) := by subst h; exact ix_list
theorem ix_tupK (K : PySem.W.Frag) (h : X.K = K := by rfl) : IxR X (rIxT K) := by subst h; exact ix_tup
theorem sl_tupAK (K : PySem.W.Frag) (h : X.K = K := by rfl) : SlR X (rSlTA K) := by subst h; exact sl_tupA
theorem pg_tupK {k : Nat} {g : TGs} {n : Nat} (K : PySem.W.Frag) (hc : X.calm = true) (h : PGs X es g) (hK : X.K = K := by rfl) (hn : (assignEach es X.env).length = n := by rfl) (hst : (assignEach es X.env).findIdx? (·.1) = none := by rfl) : PG X (.Tuple es k pos) (gTup K n g) := by
  subst hK
  exact pg_tup hc h hn hst
theorem pe_fldK (K : PySem.W.Frag) (he : PE X e ta) (hb : attributeBase e f X.env (eval e X.env) = eval e X.env) (hK : X.K = K := by rfl) : PE X (.Attribute e f pos) (tFld K ta f) := by
  subst hK
  exact pe_fld he hb
end
end L2
namespace L2
open PySem PySem.Spec PyProof.Rows
section
variable {X : Cx} {pos : Pos}
theorem get_list : PGet X (rIxL X.K) := by
  intro pins s σ H o i ov iv Q I ro ri h
  obtain ⟨p, xs, i, z, rfl, rfl, hq, he, q⟩ := h
  cases ro
  obtain ⟨t, rfl⟩ := ri
  obtain ⟨its, r, pl, hz⟩ := I.list hq
  obtain ⟨j, h1, h2, h3, h4, h5⟩ := atI_get he
  obtain ⟨w, ew, rw'⟩ := r.get h2
  have hl := r.length
  have hn := line63
  have fin : EP X pins σ Q w s := ⟨z, H, I, rw', q⟩
  by_cases h0 : 0 <= i
  · have hj : i.toNat = j := by
      rw [seqIndex_of h0 h5] at h1
      exact Option.some.inj h1
    exact wpAny_getItem_list pl.isList h0 (by omega) (by rw [hj]; simpa using ew) fin
  · have hj : (i + (its.toArray.size : Int)).toNat = j := by
      rw [seqIndex_neg (by omega) h4] at h1
      rw [List.size_toArray, <- hl]
      exact Option.some.inj h1
    exact wpAny_getItem_list_neg pl.isList (by omega) (by rw [List.size_toArray] <;> omega) (by omega) (by rw [hj]; simpa using ew) fin
end
def rLen (K : PySem.W.Frag) : List V -> Hp -> VK -> Prop := fun xs H Q => ∃ p ys, xs = [.ref p] /\ (SqL K H p ys \/ SqT K H p ys) /\ Q (.int ys.length) H
def rTupOf (K : PySem.W.Frag) : List V -> Hp -> VK -> Prop := fun xs H Q => ∃ p ys, xs = [.ref p] /\ ((SqL K H p ys /\ ∀ l, H l = none -> Q (.ref l) (upd H l (.tup ys))) \/ (SqT K H p ys /\ Q (.ref p) H))
def rLstOf (K : PySem.W.Frag) : List V -> Hp -> VK -> Prop := fun xs H Q => ∃ p ys, xs = [.ref p] /\ (SqL K H p ys \/ SqT K H p ys) /\ ∀ l, H l = none -> Q (.ref l) (upd H l (.lst ys))
def rInt1 : List V -> Hp -> VK -> Prop := fun xs H Q => (∃ i, xs = [.int i] /\ Q (.int i) H) \/ ∃ k, xs = [.bl k] /\ Q (.int (if k then 1 else 0)) H
section
variable {X : Cx}
theorem lenK (K : PySem.W.Frag) (h : X.K = K := by rfl) : CallR X (.builtin "len") (rLen K) := by subst h; exact call_len_seq
theorem tupOfK (K : PySem.W.Frag) (h : X.K = K := by rfl) : CallR X (.type "tuple") (rTupOf K) := by subst h; exact call_tuple_of
theorem lstOfK (K : PySem.W.Frag) (h : X.K = K := by rfl) : CallR X (.type "list") (rLstOf K) := by subst h; exact call_list_of
theorem int1 : CallR X (.type "int") rInt1 := call_int1
end
section
variable {σ : St} {H : Hp} {Q : VK} {B : Bool -> Hp -> Prop} {L : List V -> Hp -> Prop} {ta tb : TE} {t : TA} {c d : TT} {nx bk ct : St -> Hp -> Prop} {rt : VK} {g : TG} {K : PySem.W.Frag}
theorem r_var {i : Nat} {v : V} (h : σ[i]? = some (some v)) (q : Q v H) : tVar i σ H Q := ⟨v, h, q⟩
theorem r_c {v : V} (q : Q v H) : tC v σ H Q := q
theorem r_op {r : R2} (q : ta σ H fun x H1 => tb σ H1 fun y H2 => r x y H2 Q) : tOp r ta tb σ H Q := q
theorem r_I0 {f : Int -> Int -> V} {i j : Int} (q : Q (f i j) H) : rI0 f (.int i) (.int j) H Q := ⟨i, j, rfl, rfl, q⟩
theorem r_I {C : Int -> Int -> Prop} {f : Int -> Int -> V} {i j : Int} (h : C i j) (q : Q (f i j) H) : rI C f (.int i) (.int j) H Q := ⟨i, j, rfl, rfl, h, q⟩
theorem r_isN (q : ta σ H fun x H1 => Q (.bl (decide (x = .non))) H1) : tIsN ta σ H Q := q
theorem r_B (q : ta σ H fun x H1 => ∃ k, x = .bl k /\ B k H1) : tB ta σ H B := q
theorem r_test (q : ta σ H fun x H1 => ∃ k, x = .bl k /\ B k H1) : tTest ta σ H B := q
theorem r_bl {b : Bool} {P : Bool -> Prop} (q : P b) : ∃ k, V.bl b = V.bl k /\ P k := ⟨b, rfl, q⟩
theorem r_and (q : c σ H fun k H1 => if k = true then d σ H1 B else B false H1) : tAnd c d σ H B := q
theorem r_or (q : c σ H fun k H1 => if k = true then B true H1 else d σ H1 B) : tOr c d σ H B := q
theorem r_not (q : c σ H fun k H1 => B (!k) H1) : tNot c σ H B := q
theorem r_andV (q : ta σ H fun x H1 => ∃ k, x = .bl k /\ if k = true then tb σ H1 Q else Q (.bl false) H1) : tAndV ta tb σ H Q := q
theorem r_orV (q : ta σ H fun x H1 => ∃ k, x = .bl k /\ if k = true then Q (.bl true) H1 else tb σ H1 Q) : tOrV ta tb σ H Q := q
theorem r_notV (q : ta σ H fun x H1 => ∃ k, x = .bl k /\ Q (.bl (!k)) H1) : tNotV ta σ H Q := q
theorem r_if (q : c σ H fun k H1 => if k = true then ta σ H1 Q else tb σ H1 Q) : tIf c ta tb σ H Q := q
theorem r_cons (q : ta σ H fun x H1 => t σ H1 fun xs H2 => L (x :: xs) H2) : tCons ta t σ H L := q
theorem r_nil (q : L [] H) : tNil σ H L := q
theorem r_tup (q : t σ H fun xs H1 => xs.length <= sizeLine /\ ∀ p, H1 p = none -> Q (.ref p) (upd H1 p (.tup xs))) : tTup t σ H Q := q
theorem r_lst (q : t σ H fun xs H1 => xs.length <= sizeLine /\ ∀ p, H1 p = none -> Q (.ref p) (upd H1 p (.lst xs))) : tLst t σ H Q := q
theorem r_al {n : Nat} {P : Prop} (h : Nat.ble n sizeLine = true) (q : P) : n <= sizeLine /\ P := ⟨Nat.le_of_ble_eq_true h, q⟩
theorem r_call {sp : Sp} {E : XK} (q : t σ H fun vs H1 => sp (vs ++ []) H1 Q E) : tCall sp [] E t σ H Q := q
theorem r_cb {r : List V -> Hp -> VK -> Prop} (q : t σ H fun vs H1 => r vs H1 Q) : tCB r t σ H Q := q
theorem r_bm {T : String} {r : V -> List V -> Hp -> VK -> Prop} (q : ta σ H fun x H1 => tyV K T x H1 /\ t σ H1 fun xs H2 => r x xs H2 Q) : tBM K T r ta t σ H Q := q
theorem r_sl {r : V -> Option Int -> Option Int -> Hp -> VK -> Prop} {tl th : TO} (q : ta σ H fun x H1 => tl σ H1 fun l H2 => th σ H2 fun u H3 => r x l u H3 Q) : tSl r ta tl th σ H Q := q
theorem r_np {P : Option Int -> Hp -> Prop} (q : P none H) : tNoPart σ H P := q
theorem r_pt {P : Option Int -> Hp -> Prop} (q : ta σ H fun x H1 => ∃ i, x = .int i /\ P (some i) H1) : tPart ta σ H P := q
theorem r_int {i : Int} {P : Int -> Prop} (q : P i) : ∃ k, V.int i = V.int k /\ P k := ⟨i, rfl, q⟩
theorem r_eqI {i j : Int} (q : Q (.bl (decide (i = j))) H) : rEq (.int i) (.int j) H Q := ⟨rfl, by rw [show decide (V.int i = V.int j) = decide (i = j) by simp]; exact q⟩
theorem r_eqS {i j : Str} (q : Q (.bl (decide (i = j))) H) : rEq (.str i) (.str j) H Q := ⟨rfl, by rw [show decide (V.str i = V.str j) = decide (i = j) by simp]; exact q⟩
theorem r_neI {i j : Int} (q : Q (.bl (!decide (i = j))) H) : rNe (.int i) (.int j) H Q := ⟨rfl, by rw [show decide (V.int i = V.int j) = decide (i = j) by simp]; exact q⟩
theorem r_neS {i j : Str} (q : Q (.bl (!decide (i = j))) H) : rNe (.str i) (.str j) H Q := ⟨rfl, by rw [show decide (V.str i = V.str j) = decide (i = j) by simp]; exact q⟩
theorem r_neB {i j : Bool} (q : Q (.bl (!decide (i = j))) H) : rNe (.bl i) (.bl j) H Q := ⟨rfl, by rw [show decide (V.bl i = V.bl j) = decide (i = j) by simp]; exact q⟩
theorem r_ixT {p : Addr} {xs : List V} {i : Int} {v : V} (h : SqT K H p xs) (e : atI xs i = some v) (q : Q v H) : rIxT K (.ref p) (.int i) H Q := ⟨p, xs, i, v, rfl, rfl, h, e, q⟩
theorem r_ixL {p : Addr} {xs : List V} {i : Int} {v : V} (h : SqL K H p xs) (e : atI xs i = some v) (q : Q v H) : rIxL K (.ref p) (.int i) H Q := ⟨p, xs, i, v, rfl, rfl, h, e, q⟩
theorem r_lenT {p : Addr} {xs : List V} (h : SqT K H p xs) (q : Q (.int xs.length) H) : rLen K [.ref p] H Q := ⟨p, xs, rfl, .inr h, q⟩
theorem r_lenL {p : Addr} {xs : List V} (h : SqL K H p xs) (q : Q (.int xs.length) H) : rLen K [.ref p] H Q := ⟨p, xs, rfl, .inl h, q⟩
theorem atI0 {v : V} {l : List V} : atI (v :: l) 0 = some v := atI_nat (j := 0) rfl
theorem atI_off {xs : List V} {j : Nat} {v : V} (h : xs[j]? = some v) : atI xs (0 + (j : Int)) = some v := by rw [Int.zero_add]; exact atI_nat h
theorem take_snoc {α β : Type} (f : α -> β) (xs : List α) {i : Nat} (hi : i < xs.length) : (xs.take i).map f ++ [f xs[i]] = (xs.take (i + 1)).map f := by rw [List.take_succ_eq_append_getElem hi, List.map_append]; rfl
theorem r_isi {x : V} {n a : String} {b : Bool} (h : tyS H x = some a) (k : knownS n = true) (e : subS a n = b) (q : Q (.bl b) H) : rIsiS [x, .ty n] H Q := ⟨x, n, a, rfl, h, k, by rw [e]; exact q⟩
theorem r_isi_ib {i : Int} (q : Q (.bl false) H) : rIsiS [.int i, .ty "bool"] H Q := r_isi rfl (by decide +kernel) (by decide +kernel) q
theorem r_isi_ii {i : Int} (q : Q (.bl true) H) : rIsiS [.int i, .ty "int"] H Q := r_isi rfl (by decide +kernel) (by decide +kernel) q
theorem r_isi_st {i : Str} (q : Q (.bl false) H) : rIsiS [.str i, .ty "tuple"] H Q := r_isi rfl (by decide +kernel) (by decide +kernel) q
theorem r_isi_nl (q : Q (.bl false) H) : rIsiS [.non, .ty "list"] H Q := r_isi rfl (by decide +kernel) (by decide +kernel) q
theorem r_isi_tt {p : Addr} {xs : List V} (h : H p = some (.tup xs)) (q : Q (.bl true) H) : rIsiS [.ref p, .ty "tuple"] H Q := r_isi (tyS_tup h) (by decide +kernel) (by decide +kernel) q
theorem r_isi_ll {p : Addr} {xs : List V} (h : H p = some (.lst xs)) (q : Q (.bl true) H) : rIsiS [.ref p, .ty "list"] H Q := r_isi (tyS_lst h) (by decide +kernel) (by decide +kernel) q
theorem r_seq {t u : TS} (q : t ⟨u ⟨nx, rt, bk, ct⟩, rt, bk, ct⟩ σ H) : tSeq t u ⟨nx, rt, bk, ct⟩ σ H := q
theorem r_asg (q : ta σ H fun x H1 => g x σ H1 nx) : tAsg ta g ⟨nx, rt, bk, ct⟩ σ H := q
theorem r_name {i : Nat} {v : V} {N : St -> Hp -> Prop} (q : N (σ.set i (some v)) H) : gName i v σ H N := q
theorem r_ifS {t u : TS} {D : Ends} (q : c σ H fun k H1 => if k = true then t D σ H1 else u D σ H1) : tIfS c t u D σ H := q
theorem r_ret (q : ta σ H rt) : tRet ta ⟨nx, rt, bk, ct⟩ σ H := q
theorem r_next (q : nx σ H) : tNext ⟨nx, rt, bk, ct⟩ σ H := q
theorem r_drop (q : ta σ H fun _ H1 => nx σ H1) : tDrop ta ⟨nx, rt, bk, ct⟩ σ H := q
theorem r_augS {to ti te : TE} {tget : V -> V -> Hp -> VK -> Prop} {tip : TIp} {tset : TSet} (q : to σ H fun o H1 => ti σ H1 fun i H2 => tget o i H2 fun x H3 => te σ H3 fun y H4 => tip x y H4 fun z H5 => tset o i z H5 fun H6 => nx σ H6) : tAugS to ti te tget tip tset ⟨nx, rt, bk, ct⟩ σ H := q
theorem r_ipI {f : Int -> Int -> Int} {i j : Int} (q : Q (.int (f i j)) H) : ipI f (.int i) (.int j) H Q := ⟨i, j, rfl, rfl, q⟩
theorem r_setL {p : Addr} {xs : List V} {k : Int} {j : Nat} {v : V} {R : Hp -> Prop} (h : H p = some (.lst xs)) (e : ixN xs.length k = some j) (q : R (upd H p (.lst (xs.set j v)))) : rSetL (.ref p) (.int k) v H R := ⟨p, xs, k, j, rfl, rfl, h, e, q⟩
theorem r_gT {n : Nat} {gs : TGs} {p : Addr} {xs : List V} {N : St -> Hp -> Prop} (h : SqT K H p xs) (e : xs.length = n) (q : gs xs σ H N) : gTup K n gs (.ref p) σ H N := ⟨p, xs, rfl, h, e, q⟩
theorem r_gc {gs : TGs} {v : V} {vs : List V} {N : St -> Hp -> Prop} (q : g v σ H fun σ' H' => gs vs σ' H' N) : gCons g gs (v :: vs) σ H N := ⟨v, vs, rfl, q⟩
theorem r_gn {N : St -> Hp -> Prop} (q : N σ H) : gNil [] σ H N := ⟨rfl, q⟩
theorem r_app {p : Addr} {xs : List V} {y : V} (h : H p = some (.lst xs)) (hz : xs.length < sizeLine) (q : Q .non (upd H p (.lst (xs ++ [y])))) : rAppend (.ref p) [y] H Q := ⟨p, xs, y, rfl, rfl, h, hz, q⟩
theorem r_tyL {p : Addr} {xs : List V} {P : Prop} (h : H p = some (.lst xs)) (q : P) : tyV K "list" (.ref p) H /\ P := ⟨.inl ⟨rfl, _, SqL.of h⟩, q⟩
theorem ifd {p : Prop} [Decidable p] {A B : Prop} (h1 : p -> A) (h2 : ¬ p -> B) : if decide p = true then A else B := by
  by_cases h : p
  · rw [if_pos (decide_eq_true h)]; exact h1 h
  · rw [if_neg (by simp [h])]; exact h2 h
theorem ifn {p : Prop} [Decidable p] {A B : Prop} (h1 : ¬ p -> A) (h2 : p -> B) : if (!decide p) = true then A else B := by
  by_cases h : p
  · rw [if_neg (by simp [h])]; exact h2 h
  · rw [if_pos (by simp [h])]; exact h1 h
theorem r_intb {x : Bool} (q : Q (.int (if x then 1 else 0)) H) : rInt1 [.bl x] H Q := .inr ⟨x, rfl, q⟩
theorem r_tol {p : Addr} {ys : List V} (h : SqL K H p ys) (q : ∀ l, H l = none -> Q (.ref l) (upd H l (.tup ys))) : rTupOf K [.ref p] H Q := ⟨p, ys, rfl, .inl ⟨h, q⟩⟩
theorem r_tot {p : Addr} {ys : List V} (h : SqT K H p ys) (q : Q (.ref p) H) : rTupOf K [.ref p] H Q := ⟨p, ys, rfl, .inr ⟨h, q⟩⟩
theorem ifnT {A B : Prop} (h : B) : if (!true) = true then A else B := iteF h
theorem ifnF {A B : Prop} (h : A) : if (!false) = true then A else B := iteT h
theorem up_keep {a b : Addr} {o u : HO} (h : H b = some u) (n : H a = none) : upd H a o b = some u := by rw [upd_ne (ne_of_none h n)]; exact h
theorem up_oth {a b : Addr} {o u : HO} (h : H b = some u) (n : b ≠ a) : upd H a o b = some u := by rw [upd_ne n]; exact h
end
section
variable {σ : St} {H : Hp} {g : TG} {tb : TS} {nx bk ct : St -> Hp -> Prop} {rt : VK} {t : TA} {wi : TI}
theorem r_for (q : wi σ H fun J H1 => ∃ W : Nat -> Nat -> St -> Hp -> Prop, (∃ m, W 0 m σ H1) /\ ∀ i m σ H, W i m σ H ->
    (J.stop i H /\ nx σ H) \/ (J.go i H /\ ∃ N : St -> Hp -> Prop, (∀ σ' H', N σ' H' -> ∃ m', m' < m /\ W (i + 1) m' σ' H') /\ ∀ x H', J.yld i H x H' -> g x σ H' fun σ2 H2 => tb ⟨N, rt, nx, N⟩ σ2 H2)) : tFor wi g tb ⟨nx, rt, bk, ct⟩ σ H := q
def rRg (R : It -> Hp -> Prop) : List V -> Hp -> Prop := fun vs H1 => ∃ j : Int, vs = [.int j] /\ -(2 ^ 62) <= j /\ j < 2 ^ 62 /\ R (Itr 0 j.toNat) H1
theorem r_rng1 {R : It -> Hp -> Prop} (q : t σ H (rRg R)) : iRng1 t σ H R := q
theorem r_comp {tc : TT} {te : TE} {own : Nat} {caps : List Nat} {Q : VK} (q : wi σ H fun J H1 => ∀ D, H1 D = none -> ∃ W : Nat -> Nat -> St -> Hp -> Prop, (∃ m, W 0 m (compSt own caps σ) (upd H1 D (.lst []))) /\ ∀ i m σ' H', W i m σ' H' ->
    (J.stop i H' /\ Q (.ref D) H') \/ (J.go i H' /\ ∃ N : St -> Hp -> Prop, (∀ σ'' H'', N σ'' H'' -> ∃ m', m' < m /\ W (i + 1) m' σ'' H'') /\ ∀ x H2, J.yld i H' x H2 -> g x σ' H2 fun σ3 H3 => tc σ3 H3 fun b H4 =>
      if b = true then te σ3 H4 fun y H5 => ∃ ys, H5 D = some (.lst ys) /\ ys.length < sizeLine /\ N σ3 (upd H5 D (.lst (ys ++ [y]))) else N σ3 H4)) : tComp wi g tc te own caps σ H Q := q
theorem r_yes {B : Bool -> Hp -> Prop} (q : B true H) : tYes σ H B := q
theorem r_iL {K : PySem.W.Frag} {tl : TE} {R : It -> Hp -> Prop} (q : tl σ H fun x H1 => ∃ a, x = .ref a /\ (∃ xs, SqL K H1 a xs) /\ R (Itl K a) H1) : iList K tl σ H R := q
theorem r_iT {K : PySem.W.Frag} {tl : TE} {R : It -> Hp -> Prop} (q : tl σ H fun x H1 => ∃ a, x = .ref a /\ (∃ xs, SqT K H1 a xs) /\ R (Itt K a) H1) : iTup K tl σ H R := q
theorem r_eL {K : PySem.W.Frag} {R : It -> Hp -> Prop} (q : t σ H fun vs H1 => ∃ a, vs = [.ref a] /\ (∃ xs, SqL K H1 a xs) /\ R (Ite fun H xs => SqL K H a xs) H1) : iEnumL K t σ H R := q
theorem r_eT {K : PySem.W.Frag} {R : It -> Hp -> Prop} (q : t σ H fun vs H1 => ∃ a, vs = [.ref a] /\ (∃ xs, SqT K H1 a xs) /\ R (Ite fun H xs => SqT K H a xs) H1) : iEnumT K t σ H R := q
theorem r_refL {K : PySem.W.Frag} {p : Addr} {xs : List V} {R : Addr -> Prop} (h : SqL K H p xs) (q : R p) : ∃ a, V.ref p = .ref a /\ (∃ xs, SqL K H a xs) /\ R a := ⟨p, rfl, ⟨xs, h⟩, q⟩
theorem r_refT {K : PySem.W.Frag} {p : Addr} {xs : List V} {R : Addr -> Prop} (h : SqT K H p xs) (q : R p) : ∃ a, V.ref p = .ref a /\ (∃ xs, SqT K H a xs) /\ R a := ⟨p, rfl, ⟨xs, h⟩, q⟩
theorem r_refL1 {K : PySem.W.Frag} {p : Addr} {xs : List V} {R : Addr -> Prop} (h : SqL K H p xs) (q : R p) : ∃ a, [V.ref p] = [.ref a] /\ (∃ xs, SqL K H a xs) /\ R a := ⟨p, rfl, ⟨xs, h⟩, q⟩
theorem r_refT1 {K : PySem.W.Frag} {p : Addr} {xs : List V} {R : Addr -> Prop} (h : SqT K H p xs) (q : R p) : ∃ a, [V.ref p] = [.ref a] /\ (∃ xs, SqT K H a xs) /\ R a := ⟨p, rfl, ⟨xs, h⟩, q⟩
theorem r_rg {j : Int} {R : It -> Hp -> Prop} (h : -1000000 <= j /\ j <= 1000000) (q : R (Itr 0 j.toNat) H) : rRg R [.int j] H := ⟨j, rfl, by omega, by omega, q⟩
end
section
variable {J : It} {g : TG} {tb : TS} {nx : St -> Hp -> Prop} {rt : VK} {σ : St} {H : Hp} {K : PySem.W.Frag} {a : Addr} {xs : List V} {tc : TT} {te : TE} {R : Hp -> Prop} {D : Addr}
abbrev ForG (J : It) (g : TG) (tb : TS) (nx : St -> Hp -> Prop) (rt : VK) (σ : St) (H : Hp) : Prop := ∃ W : Nat -> Nat -> St -> Hp -> Prop, (∃ m, W 0 m σ H) /\ ∀ i m σ H, W i m σ H ->
    (J.stop i H /\ nx σ H) \/ (J.go i H /\ ∃ N : St -> Hp -> Prop, (∀ σ' H', N σ' H' -> ∃ m', m' < m /\ W (i + 1) m' σ' H') /\ ∀ x H', J.yld i H x H' -> g x σ H' fun σ2 H2 => tb ⟨N, rt, nx, N⟩ σ2 H2)
theorem for_by2 (n : Nat) (Pv : Nat -> St -> Hp -> Prop) (h0 : Pv 0 σ H)
    (go : ∀ i σ H, i < n -> Pv i σ H -> J.go i H /\ ∀ x H', J.yld i H x H' -> g x σ H' fun σ2 H2 => tb ⟨Pv (i + 1), rt, nx, Pv (i + 1)⟩ σ2 H2) (stop : ∀ σ H, Pv n σ H -> J.stop n H /\ nx σ H) : ForG J g tb nx rt σ H := by
  refine ⟨fun i m σ H => m = n - i /\ i <= n /\ Pv i σ H, ⟨n, by simp, Nat.zero_le _, h0⟩, ?_⟩
  rintro i m σ H ⟨rfl, hi, p⟩
  by_cases hlt : i < n
  · obtain ⟨q1, q2⟩ := go i σ H hlt p
    exact .inr ⟨q1, Pv (i + 1), fun σ' H' p' => ⟨n - (i + 1), by omega, rfl, hlt, p'⟩, q2⟩
  · have e : i = n := by omega
    subst e
    exact .inl (stop σ H p)
theorem for_rng {lo : Int} {n : Nat} (Pv : Nat -> St -> Hp -> Prop) (h0 : Pv 0 σ H) (go : ∀ i σ H, i < n -> Pv i σ H -> g (.int (lo + (i : Nat))) σ H fun σ2 H2 => tb ⟨Pv (i + 1), rt, nx, Pv (i + 1)⟩ σ2 H2) (stop : ∀ σ H, Pv n σ H -> nx σ H) : ForG (Itr lo n) g tb nx rt σ H :=
  for_by2 n Pv h0 (fun i σ H hi p => ⟨hi, fun x H' ⟨e1, e2⟩ => by subst e1 e2; exact go i σ _ hi p⟩) fun σ H p => ⟨Nat.le_refl _, stop σ H p⟩
theorem for_lst (xs : List V) (Pv : Nat -> St -> Hp -> Prop) (h0 : Pv 0 σ H) (hl : ∀ i σ H, Pv i σ H -> SqL K H a xs) (go : ∀ i x σ H, xs[i]? = some x -> Pv i σ H -> g x σ H fun σ2 H2 => tb ⟨Pv (i + 1), rt, nx, Pv (i + 1)⟩ σ2 H2) (stop : ∀ σ H, Pv xs.length σ H -> nx σ H) : ForG (Itl K a) g tb nx rt σ H :=
  for_by2 xs.length Pv h0 (fun i σ H hi p => ⟨⟨xs, xs[i], hl i σ H p, by simp [hi]⟩, fun x H' ⟨e1, e2⟩ => by subst e1; exact go i x σ _ (e2 xs (hl i σ _ p)) p⟩) fun σ H p => ⟨⟨xs, hl _ σ H p, Nat.le_refl _⟩, stop σ H p⟩
theorem for_tpl (xs : List V) (Pv : Nat -> St -> Hp -> Prop) (h0 : Pv 0 σ H) (hl : ∀ i σ H, Pv i σ H -> SqT K H a xs) (go : ∀ i x σ H, xs[i]? = some x -> Pv i σ H -> g x σ H fun σ2 H2 => tb ⟨Pv (i + 1), rt, nx, Pv (i + 1)⟩ σ2 H2) (stop : ∀ σ H, Pv xs.length σ H -> nx σ H) : ForG (Itt K a) g tb nx rt σ H :=
  for_by2 xs.length Pv h0 (fun i σ H hi p => ⟨⟨xs, xs[i], hl i σ H p, by simp [hi]⟩, fun x H' ⟨e1, e2⟩ => by subst e1; exact go i x σ _ (e2 xs (hl i σ _ p)) p⟩) fun σ H p => ⟨⟨xs, hl _ σ H p, Nat.le_refl _⟩, stop σ H p⟩
theorem for_enu {Sq : Hp -> List V -> Prop} (xs : List V) (Pv : Nat -> St -> Hp -> Prop) (h0 : Pv 0 σ H) (hl : ∀ i σ H, Pv i σ H -> Sq H xs) (go : ∀ i x σ H T, xs[i]? = some x -> Pv i σ H -> H T = none -> g (.ref T) σ (upd H T (.tup [.int (i : Nat), x])) fun σ2 H2 => tb ⟨Pv (i + 1), rt, nx, Pv (i + 1)⟩ σ2 H2)
    (stop : ∀ σ H, Pv xs.length σ H -> nx σ H) : ForG (Ite Sq) g tb nx rt σ H :=
  for_by2 xs.length Pv h0 (fun i σ H hi p => ⟨⟨xs, xs[i], hl i σ H p, by simp [hi]⟩, fun x H' ⟨T, hT, e1, e2⟩ => by
    have hx : xs[i]? = some xs[i] := by simp [hi]
    have e3 := e2 xs xs[i] (hl i σ _ p) hx
    subst e1 e3
    exact go i _ σ _ T hx p hT⟩) fun σ H p => ⟨⟨xs, hl _ σ H p, Nat.le_refl _⟩, stop σ H p⟩
abbrev CompG (J : It) (g : TG) (tc : TT) (te : TE) (R : Hp -> Prop) (D : Addr) (σ : St) (H : Hp) : Prop := ∃ W : Nat -> Nat -> St -> Hp -> Prop, (∃ m, W 0 m σ H) /\ ∀ i m σ H, W i m σ H ->
      (J.stop i H /\ R H) \/ (J.go i H /\ ∃ N : St -> Hp -> Prop, (∀ σ' H', N σ' H' -> ∃ m', m' < m /\ W (i + 1) m' σ' H') /\ ∀ x H', J.yld i H x H' -> g x σ H' fun σ3 H3 => tc σ3 H3 fun b H4 =>
        if b = true then te σ3 H4 fun y H5 => ∃ ys, H5 D = some (.lst ys) /\ ys.length < sizeLine /\ N σ3 (upd H5 D (.lst (ys ++ [y]))) else N σ3 H4)
theorem comp_rng {lo : Int} {n : Nat} (Pv : Nat -> St -> Hp -> Prop) (h0 : Pv 0 σ H) (go : ∀ i σ H, i < n -> Pv i σ H -> g (.int (lo + (i : Nat))) σ H fun σ3 H3 => tc σ3 H3 fun b H4 =>
      if b = true then te σ3 H4 fun y H5 => ∃ ys, H5 D = some (.lst ys) /\ ys.length < sizeLine /\ Pv (i + 1) σ3 (upd H5 D (.lst (ys ++ [y]))) else Pv (i + 1) σ3 H4) (stop : ∀ σ H, Pv n σ H -> R H) : CompG (Itr lo n) g tc te R D σ H :=
  comp_by n Pv h0 (fun i σ H hi p => ⟨hi, fun x H' ⟨e1, e2⟩ => by subst e1 e2; exact go i σ _ hi p⟩) fun σ H p => ⟨Nat.le_refl _, stop σ H p⟩
theorem comp_lst (xs : List V) (Pv : Nat -> St -> Hp -> Prop) (h0 : Pv 0 σ H) (hl : ∀ i σ H, Pv i σ H -> SqL K H a xs) (go : ∀ i x σ H, xs[i]? = some x -> Pv i σ H -> g x σ H fun σ3 H3 => tc σ3 H3 fun b H4 =>
      if b = true then te σ3 H4 fun y H5 => ∃ ys, H5 D = some (.lst ys) /\ ys.length < sizeLine /\ Pv (i + 1) σ3 (upd H5 D (.lst (ys ++ [y]))) else Pv (i + 1) σ3 H4) (stop : ∀ σ H, Pv xs.length σ H -> R H) : CompG (Itl K a) g tc te R D σ H :=
  comp_by xs.length Pv h0 (fun i σ H hi p => ⟨⟨xs, xs[i], hl i σ H p, by simp [hi]⟩, fun x H' ⟨e1, e2⟩ => by subst e1; exact go i x σ _ (e2 xs (hl i σ _ p)) p⟩) fun σ H p => ⟨⟨xs, hl _ σ H p, Nat.le_refl _⟩, stop σ H p⟩
theorem comp_tpl (xs : List V) (Pv : Nat -> St -> Hp -> Prop) (h0 : Pv 0 σ H) (hl : ∀ i σ H, Pv i σ H -> SqT K H a xs) (go : ∀ i x σ H, xs[i]? = some x -> Pv i σ H -> g x σ H fun σ3 H3 => tc σ3 H3 fun b H4 =>
      if b = true then te σ3 H4 fun y H5 => ∃ ys, H5 D = some (.lst ys) /\ ys.length < sizeLine /\ Pv (i + 1) σ3 (upd H5 D (.lst (ys ++ [y]))) else Pv (i + 1) σ3 H4) (stop : ∀ σ H, Pv xs.length σ H -> R H) : CompG (Itt K a) g tc te R D σ H :=
  comp_by xs.length Pv h0 (fun i σ H hi p => ⟨⟨xs, xs[i], hl i σ H p, by simp [hi]⟩, fun x H' ⟨e1, e2⟩ => by subst e1; exact go i x σ _ (e2 xs (hl i σ _ p)) p⟩) fun σ H p => ⟨⟨xs, hl _ σ H p, Nat.le_refl _⟩, stop σ H p⟩
end
section
variable {X : Cx} {pos : Pos} {tg : Expr} {es : List Expr} {e o l : Expr} {ta te tl : TE} {t : TA} {K : PySem.W.Frag}
theorem get_listK (K : PySem.W.Frag) (h : X.K = K := by rfl) : PGet X (rIxL K) := by subst h; exact get_list
theorem pi_listK (K : PySem.W.Frag) (hl : PE X l tl) (h : X.K = K := by rfl) : PI X tg l (iList K tl) := by subst h; exact pi_list hl
theorem pi_tupK (K : PySem.W.Frag) (hl : PE X l tl) (h : X.K = K := by rfl) : PI X tg l (iTup K tl) := by subst h; exact pi_tup hl
theorem pi_enumLK {elts : List Expr} {k : Nat} {tp : Pos} {a : Expr} {p pos : Pos} (K : PySem.W.Frag) (hg : Gl X "enumerate") (hm : X.mg "enumerate" = none) (ha : PA X [a] t) (h : X.K = K := by rfl) (hs : starEach [a] X.env = [(false, eval a X.env)] := by rfl) : PI X (.Tuple elts k tp) (.Call (.Name "enumerate" p) [a] [] pos) (iEnumL K t) := by subst h; exact pi_enumL hg hm ha hs
theorem pi_enumTK {elts : List Expr} {k : Nat} {tp : Pos} {a : Expr} {p pos : Pos} (K : PySem.W.Frag) (hg : Gl X "enumerate") (hm : X.mg "enumerate" = none) (ha : PA X [a] t) (h : X.K = K := by rfl) (hs : starEach [a] X.env = [(false, eval a X.env)] := by rfl) : PI X (.Tuple elts k tp) (.Call (.Name "enumerate" p) [a] [] pos) (iEnumT K t) := by subst h; exact pi_enumT hg hm ha hs
theorem pi_zipTK {elts : List Expr} {k : Nat} {tp : Pos} {a b : Expr} {p pos : Pos} (K : PySem.W.Frag) (hg : Gl X "zip") (hm : X.mg "zip" = none) (ha : PA X [a, b] t) (h : X.K = K := by rfl) (hs : starEach [a, b] X.env = [(false, eval a X.env), (false, eval b X.env)] := by rfl) (hs2 : starEach [b] X.env = [(false, eval b X.env)] := by rfl) :
    PI X (.Tuple elts k tp) (.Call (.Name "zip" p) [a, b] [] pos) (iZipT K t) := by subst h; exact pi_zipT hg hm ha hs hs2
theorem call_allK (K : PySem.W.Frag) (hc : X.calm = true) (h : X.K = K := by rfl) : CallR X (.builtin "all") (rAll K) := by subst h; exact call_all hc
theorem line_big : 1000000 < sizeLine := by decide
end
def TSame (H H' : Hp) : Prop := ∀ p xs, H p = some (.tup xs) -> H' p = some (.tup xs)
theorem TSame.trans {H H1 H2 : Hp} (a : TSame H H1) (b : TSame H1 H2) : TSame H H2 := fun p xs h => b p xs (a p xs h)
theorem Same.ts {H H' : Hp} (s : Same H H') : TSame H H' := fun p _ h => s p _ h
theorem TSame.new {H : Hp} {a : Addr} {o : HO} (h : H a = none) : TSame H (upd H a o) := (Same.upd h).ts
theorem TSame.lst {H : Hp} {a : Addr} {ys : List V} {o : HO} (h : H a = some (.lst ys)) : TSame H (upd H a o) := fun p xs e => by rw [upd_ne (ne_of e h (by intro z; cases z))]; exact e
end L2
namespace Ce
open PySem L2
def bit (x : Int) (t : Nat) : Bool := decide (x / 2 ^ t % 2 = 1)
def cnt (P : Nat -> Bool) : Nat -> Nat
  | 0 => 0
  | n + 1 => cnt P n + (if P n = true then 1 else 0)
theorem cnt_no {P : Nat -> Bool} : ∀ {n : Nat}, (∀ i, i < n -> P i = false) -> cnt P n = 0
  | 0, _ => rfl
  | n + 1, h => by
    show cnt P n + _ = 0
    rw [cnt_no fun i hi => h i (Nat.lt_succ_of_lt hi), h n (Nat.lt_succ_self n)]
    rfl
theorem pow_pos' (w : Nat) : (0 : Int) < 2 ^ w := Int.pow_pos (by decide)
theorem bit_zero (t : Nat) : bit 0 t = false := by simp [bit]
theorem set_map {α : Type} (f : Nat -> α) (n j : Nat) (v : α) : ((List.range n).map f).set j v = (List.range n).map fun k => if k = j then v else f k := by
  apply List.ext_getElem?
  intro i
  rw [List.getElem?_set]
  simp only [List.getElem?_map, List.length_map, List.length_range]
  by_cases h : j = i
  · subst h
    by_cases hj : j < n
    · simp [hj]
    · simp [hj]
  · have h' : ¬ i = j := fun e => h e.symm
    by_cases hi : i < n
    · simp [h, h', hi]
    · simp [h, hi]
def dP (ds : Nat -> Option Int) (op k : Int) (w : Nat) : Bool := decide (ds w = some k) && bit op w
theorem dP_zero (ds : Nat -> Option Int) (k : Int) (w : Nat) : dP ds 0 k w = false := by simp [dP, bit_zero]
theorem mod_lo (x : Int) {n : Int} (h : 0 < n) : 0 <= x % n := Int.emod_nonneg _ (by omega)
theorem mod_hi (x : Int) {n : Int} (h : 0 < n) : x % n < n := Int.emod_lt_of_pos _ h
theorem mod_nat (x : Int) (n : Nat) (h : 0 < n) : ∃ j : Nat, j < n /\ x % (n : Int) = (j : Int) := ⟨(x % n).toNat, by have := mod_lo x (n := n) (by omega); have := mod_hi x (n := n) (by omega); omega, by have := mod_lo x (n := n) (by omega); omega⟩
theorem bitAnd_bit (x : Int) (t : Nat) : decide (Builtin.bitAnd (x / 2 ^ t) 1 = 1) = bit x t := by
  unfold bit
  rw [PyProof.Rows.bitAnd_m1]
inductive Gt where
  | plain | door (k : Int) | need (k : Int) | bar (b : Int) | wade (h k : Int) | float (h : Int)
def Gt.vs : Gt -> List V
  | .plain => [.str "plain"]
  | .door k => [.str "door", .int k]
  | .need k => [.str "need", .int k]
  | .bar b => [.str "bar", .int b]
  | .wade h k => [.str "wade", .int h, .int k]
  | .float h => [.str "float", .int h]
def Gt.ok : Gt -> Prop
  | .plain => True
  | .door k => 0 <= k /\ k < 12
  | .need k => 0 <= k /\ k < 12
  | .bar b => 0 <= b /\ b < 8
  | .wade h k => (0 <= h /\ h < 10) /\ 0 <= k /\ k < 12
  | .float h => 0 <= h /\ h < 10
def Gt.dk : Gt -> Option Int
  | .door k => some k
  | _ => none
def Gt.word : Gt -> Str
  | .plain => "plain"
  | .door _ => "door"
  | .need _ => "need"
  | .bar _ => "bar"
  | .wade _ _ => "wade"
  | .float _ => "float"
def Gt.ns : Gt -> List Int
  | .plain => []
  | .door k => [k]
  | .need k => [k]
  | .bar b => [b]
  | .wade h k => [h, k]
  | .float h => [h]
theorem Gt.vs_eq (g : Gt) : g.vs = .str g.word :: g.ns.map V.int := by cases g <;> rfl
theorem Gt.ns_len (g : Gt) : g.ns.length <= 2 := by cases g <;> simp [Gt.ns]
theorem str_need : ("need" : Str) ≠ "door" := by decide +kernel
theorem str_bar : ("bar" : Str) ≠ "door" := by decide +kernel
theorem str_float : ("float" : Str) ≠ "door" := by decide +kernel
theorem str_plain : ("plain" : Str) ≠ "door" := by decide +kernel
theorem str_wade : ("wade" : Str) ≠ "door" := by decide +kernel
theorem word_door (g : Gt) : decide (g.word = "door") = g.dk.isSome := by
  cases g with
  | plain => exact decide_eq_false str_plain
  | door k => exact decide_eq_true rfl
  | need k => exact decide_eq_false str_need
  | bar k => exact decide_eq_false str_bar
  | wade h k => exact decide_eq_false str_wade
  | float k => exact decide_eq_false str_float
theorem door_of {g : Gt} (h : g.word = "door") : ∃ k, g = .door k := by
  have := word_door g
  rw [h] at this
  cases g with
  | door k => exact ⟨k, rfl⟩
  | _ => simp [Gt.dk] at this
structure Way where
  a : Int
  b : Int
  g : Gt
  back : Bool
structure Cl where
  rooms : Int
  fst : Int
  lst : Int
  ways : List Way
  things : List (Int × Int)
  levers : List (Int × Int)
  wheels : List (Int × Int)
  bars : Int
  water : Int
structure ClOk (C : Cl) : Prop where
  r1 : 1 <= C.rooms
  r2 : C.rooms <= 14
  f : 0 <= C.fst /\ C.fst < C.rooms
  l : 0 <= C.lst /\ C.lst < C.rooms
  wl : C.ways.length <= 20
  tl : C.things.length <= 8
  ll : C.levers.length <= 4
  vl : C.wheels.length <= 4
  w : ∀ x ∈ C.ways, (0 <= x.a /\ x.a < C.rooms) /\ (0 <= x.b /\ x.b < C.rooms) /\ x.a ≠ x.b /\ x.g.ok
  t : ∀ x ∈ C.things, (0 <= x.1 /\ x.1 < C.rooms) /\ 0 <= x.2 /\ x.2 < 12
  lv : ∀ x ∈ C.levers, (0 <= x.1 /\ x.1 < C.rooms) /\ 1 <= x.2 /\ x.2 <= 255
  wh : ∀ x ∈ C.wheels, (0 <= x.1 /\ x.1 < C.rooms) /\ 0 <= x.2 /\ x.2 <= 9
  b : 0 <= C.bars /\ C.bars <= 255
  wa : 0 <= C.water /\ C.water <= 9
def PairAt (H : Hp) (p : Addr) (x : Int × Int) : Prop := H p = some (.tup [.int x.1, .int x.2])
def WayAt (H : Hp) (p : Addr) (x : Way) : Prop := ∃ g, H p = some (.tup [.int x.a, .int x.b, .ref g, .bl x.back]) /\ H g = some (.tup x.g.vs)
def Rows {α : Type} (At : Hp -> Addr -> α -> Prop) (H : Hp) (ps : List Addr) (xs : List α) : Prop := ps.length = xs.length /\ ∀ (i : Nat) (p : Addr) (x : α), ps[i]? = some p -> xs[i]? = some x -> At H p x
def TupOf {α : Type} (At : Hp -> Addr -> α -> Prop) (H : Hp) (q : Addr) (xs : List α) : Prop := ∃ ps, H q = some (.tup (ps.map V.ref)) /\ Rows At H ps xs
def LstOf {α : Type} (At : Hp -> Addr -> α -> Prop) (H : Hp) (q : Addr) (xs : List α) : Prop := ∃ ps, H q = some (.lst (ps.map V.ref)) /\ Rows At H ps xs
section
variable {α : Type} {At : Hp -> Addr -> α -> Prop} {H H' : Hp} {ps : List Addr} {xs : List α} {p q : Addr} {x : α}
theorem PairAt.mono (s : TSame H H') {p : Addr} {x : Int × Int} (h : PairAt H p x) : PairAt H' p x := s _ _ h
theorem WayAt.mono (s : TSame H H') {p : Addr} {x : Way} (h : WayAt H p x) : WayAt H' p x := let ⟨g, h1, h2⟩ := h; ⟨g, s _ _ h1, s _ _ h2⟩
theorem Rows.mono (m : ∀ p x, At H p x -> At H' p x) (h : Rows At H ps xs) : Rows At H' ps xs := ⟨h.1, fun i p x h1 h2 => m p x (h.2 i p x h1 h2)⟩
theorem Rows.nil : Rows At H [] [] := ⟨rfl, fun i p x h _ => by simp at h⟩
theorem Rows.snoc (h : Rows At H ps xs) (hx : At H p x) : Rows At H (ps ++ [p]) (xs ++ [x]) := by
  refine ⟨by simp [h.1], fun i q y h1 h2 => ?_⟩
  by_cases hi : i < ps.length
  · rw [List.getElem?_append_left hi] at h1
    rw [List.getElem?_append_left (by rw [<- h.1]; exact hi)] at h2
    exact h.2 i q y h1 h2
  · have e : i = ps.length := by
      have := (List.getElem?_eq_some_iff.mp h1).1
      simp at this
      omega
    subst e
    rw [List.getElem?_append_right (Nat.le_refl _)] at h1
    rw [List.getElem?_append_right (by rw [h.1]; exact Nat.le_refl _), <- h.1] at h2
    simp at h1 h2
    rw [<- h1, <- h2]
    exact hx
theorem Rows.get (h : Rows At H ps xs) {i : Nat} (hi : i < xs.length) : ∃ p, (ps.map V.ref)[i]? = some (.ref p) /\ At H p xs[i] := by
  have hp : i < ps.length := by rw [h.1]; exact hi
  exact ⟨ps[i], by simp [hp], h.2 i _ _ (by simp [hp]) (by simp [hi])⟩
theorem TupOf.mono (s : TSame H H') (m : ∀ p x, At H p x -> At H' p x) (h : TupOf At H q xs) : TupOf At H' q xs := let ⟨ps, h1, h2⟩ := h; ⟨ps, s _ _ h1, h2.mono m⟩
theorem TupOf.get (h : TupOf At H q xs) : ∃ vs, H q = some (.tup vs) /\ vs.length = xs.length /\ ∀ i (hi : i < xs.length), ∃ p, vs[i]? = some (.ref p) /\ At H p xs[i] := by
  obtain ⟨ps, h1, h2⟩ := h
  exact ⟨_, h1, by simp [h2.1], fun i hi => h2.get hi⟩
end
structure ClAt (H : Hp) (c : Addr) (C : Cl) : Prop where
  ex : ∃ w t l v, H c = some (.tup [.int C.rooms, .int C.fst, .int C.lst, .ref w, .ref t, .ref l, .ref v, .int C.bars, .int C.water]) /\ TupOf WayAt H w C.ways /\ TupOf PairAt H t C.things /\ TupOf PairAt H l C.levers /\ TupOf PairAt H v C.wheels
theorem ClAt.mono {H H' : Hp} (s : TSame H H') {c : Addr} {C : Cl} (h : ClAt H c C) : ClAt H' c C := by
  obtain ⟨w, t, l, v, h0, h1, h2, h3, h4⟩ := h.ex
  exact ⟨w, t, l, v, s _ _ h0, h1.mono s (fun _ _ => WayAt.mono s), h2.mono s (fun _ _ => PairAt.mono s), h3.mono s (fun _ _ => PairAt.mono s), h4.mono s (fun _ _ => PairAt.mono s)⟩
def tP (C : Cl) (tk k : Int) (t : Nat) : Bool := decide ((C.things.getD t (0, 0)).2 = k) && bit tk t
def dsOf (C : Cl) (w : Nat) : Option Int := (C.ways[w]?).bind fun x => x.g.dk
def hold (C : Cl) (tk op k : Int) : Int := (cnt (tP C tk k) C.things.length : Int) - (cnt (dP (dsOf C) op k) C.ways.length : Int)
def cl (f : Int -> Int) : List V := (List.range 12).map fun k : Nat => V.int (f k)
theorem hold_zero (C : Cl) (k : Int) : hold C 0 0 k = 0 := by
  unfold hold
  rw [cnt_no fun i _ => by simp [tP, bit_zero], cnt_no fun i _ => dP_zero _ _ _]
  rfl
theorem cl_len (f : Int -> Int) : (cl f).length = 12 := by simp [cl]
theorem cl_at {f : Int -> Int} {k : Int} (h0 : 0 <= k) (h1 : k < 12) : atI (cl f) k = some (.int (f k)) := by
  obtain ⟨j, rfl⟩ : ∃ j : Nat, k = (j : Int) := ⟨k.toNat, by omega⟩
  exact atI_nat (by simp [cl, show j < 12 by omega])
theorem cl_ix {f : Int -> Int} {k : Int} (h0 : 0 <= k) (h1 : k < 12) : ixN (cl f).length k = some k.toNat := by
  rw [cl_len]
  unfold ixN
  rw [if_pos h0, if_pos (by omega)]
theorem cl_set {f : Int -> Int} {k v : Int} (h0 : 0 <= k) (h1 : k < 12) : (cl f).set k.toNat (.int v) = cl fun j => if j = k then v else f j := by
  unfold cl
  rw [set_map]
  refine List.map_congr_left fun j _ => ?_
  by_cases e : (j : Int) = k
  · rw [if_pos (by omega)]
    show _ = V.int (if (j : Int) = k then v else f j)
    rw [if_pos e]
  · rw [if_neg (by omega)]
    show _ = V.int (if (j : Int) = k then v else f j)
    rw [if_neg e]
theorem cl_congr {f g : Int -> Int} (h : ∀ k, 0 <= k -> k < 12 -> f k = g k) : cl f = cl g := by
  unfold cl
  refine List.map_congr_left fun j hj => ?_
  rw [List.mem_range] at hj
  rw [h j (by omega) (by omega)]
structure StOk (C : Cl) (rm tk op b wt : Int) : Prop where
  hrm : 0 <= rm /\ rm < C.rooms
  htk : 0 <= tk /\ tk < 2 ^ C.things.length
  hop : 0 <= op /\ op < 2 ^ C.ways.length
  dr : ∀ i, i < C.ways.length -> bit op i = true -> (dsOf C i).isSome = true
  hb : 0 <= b /\ b <= 255
  hwt : 0 <= wt /\ wt <= 9
  held : ∀ k, 0 <= k -> k < 12 -> 0 <= hold C tk op k
end Ce
namespace L2
open PySem PySem.Spec PyProof.Rows
section
variable {H : Hp} {Q : VK} {K : PySem.W.Frag} {σ : St}
theorem r_chain {r r' : R2} {ta tb tc : TE} (q : ta σ H fun x H1 => tb σ H1 fun y H2 => r x y H2 fun z H3 => ∃ k, z = .bl k /\ (if k = true then tc σ H3 fun w' H4 => r' y w' H4 Q else Q (.bl false) H3)) : tChain r r' ta tb tc σ H Q := q
end
end L2
namespace Ce
open PySem L2
theorem bit_test {x : Int} (h : 0 <= x) (t : Nat) : bit x t = x.toNat.testBit t := by
  unfold bit
  rw [Nat.testBit_eq_decide_div_mod_eq]
  obtain ⟨n, rfl⟩ : ∃ n : Nat, x = (n : Int) := ⟨x.toNat, by omega⟩
  rw [Int.toNat_natCast]
  congr 1
  have e : ((n : Int) / 2 ^ t % 2 = 1) = ((((n / 2 ^ t % 2 : Nat) : Int)) = ((1 : Nat) : Int)) := by
    rw [Int.natCast_emod, Int.natCast_ediv, Int.natCast_pow]
    rfl
  rw [e, Int.natCast_inj]
theorem start_ok {C : Cl} (ok : ClOk C) : StOk C C.fst 0 0 C.bars C.water :=
  ⟨ok.f, ⟨by decide, pow_pos' _⟩, ⟨by decide, pow_pos' _⟩, fun i _ hb => (by rw [bit_zero] at hb; cases hb), ok.b, ok.wa, fun k _ _ => (by rw [hold_zero]; exact Int.le_refl 0)⟩
end Ce
namespace L2
open PySem PySem.Spec PyProof.Rows
structure LaidM (K : PySem.W.Frag) (C : Addr) (m qual : Str) (st : Stmt) (ps : List Str) : Prop where
  ex : ∃ f fd, Fun K m qual st f fd /\ Meth K C m f /\ Binds K fd ps []
structure LaidI (K : PySem.W.Frag) (mg : Str -> Option Value) (x : Str) (C : Addr) (qual : Str) (st : Stmt) (ps : List Str) : Prop where
  ex : ∃ f fd, Fun K "__init__" qual st f fd /\ Mk K C f /\ Binds K fd ps []
  at_ : mg x = some (.ref C)
structure LaidC (K : PySem.W.Frag) (mg : Str -> Option Value) (x m qual : Str) (st : Stmt) (ps : List Str) : Prop where
  ex : ∃ C f fd, mg x = some (.ref C) /\ Fun K m qual st f fd /\ CMeth K C m f /\ Binds K fd ps []
section
variable {P : Program} {w : World} {K : PySem.W.Frag} {mg : Str -> Option Value} {base : Heap}
theorem LaidM.vm {C : Addr} {m qual : Str} {st : Stmt} {N ps : List Str} {k : Nat} {sp : Sp} (L : LaidM K C m qual st ps) (cl : Cls K C) (S : FnScope N ps (defScope st)) (len : ∀ vs H Q E, sp vs H Q E -> vs.length = ps.length)
    (hbody : ∀ (f : Addr) (cdv : Value) (A : Around) (outer : List Env) (s : Shared) (H : Hp) (vs : List V) (Q : VK) (E : XK), Room k (A.deeper (envOfC qual (defScope st) s.heap.objs.size f cdv)) -> sp vs H Q E ->
      ∃ t, PSs (cxOf CX0 P w K mg base N qual (defScope st) f cdv A outer s H E).nox (defBody st) t /\ t { nx := fun _ H' => Q .non H', rt := Q } (start N vs) H) : VMeth P w K mg base (k + 1) C m ps sp := by
  obtain ⟨f, fd, F, hm, b⟩ := L.ex
  exact ⟨cl, f, fd, hm, F.ok S len (fun cdv A outer s H vs Q E hr h => hbody f cdv A outer s H vs Q E hr h), b⟩
theorem LaidI.makes {x : Str} {C : Addr} {qual : Str} {st : Stmt} {N ps : List Str} {k : Nat} {sp : Sp} (L : LaidI K mg x C qual st ps) (S : FnScope N ps (defScope st)) (len : ∀ vs H Q E, sp vs H Q E -> vs.length = ps.length)
    (hbody : ∀ (f : Addr) (cdv : Value) (A : Around) (outer : List Env) (s : Shared) (H : Hp) (vs : List V) (Q : VK) (E : XK), Room k (A.deeper (envOfC qual (defScope st) s.heap.objs.size f cdv)) -> sp vs H Q E ->
      ∃ t, PSs (cxOf CX0 P w K mg base N qual (defScope st) f cdv A outer s H E).nox (defBody st) t /\ t { nx := fun _ H' => Q .non H', rt := Q } (start N vs) H) : Makes P w K mg base (k + 1) x C ps sp := by
  obtain ⟨f, fd, F, M, b⟩ := L.ex
  exact ⟨⟨f, fd, M, F.ok S len (fun cdv A outer s H vs Q E hr h => hbody f cdv A outer s H vs Q E hr h), b⟩, L.at_⟩
theorem LaidC.cc {x m qual : Str} {st : Stmt} {N ps : List Str} {k : Nat} {sp : Sp} (L : LaidC K mg x m qual st ps) (S : FnScope N ps (defScope st)) (len : ∀ vs H Q E, sp vs H Q E -> vs.length = ps.length)
    (hbody : ∀ (f : Addr) (cdv : Value) (A : Around) (outer : List Env) (s : Shared) (H : Hp) (vs : List V) (Q : VK) (E : XK), Room k (A.deeper (envOfC qual (defScope st) s.heap.objs.size f cdv)) -> sp vs H Q E ->
      ∃ t, PSs (cxOf CX0 P w K mg base N qual (defScope st) f cdv A outer s H E).nox (defBody st) t /\ t { nx := fun _ H' => Q .non H', rt := Q } (start N vs) H) : CCal P w K mg base (k + 1) x m ps sp := by
  obtain ⟨C, f, fd, hm, F, cm, b⟩ := L.ex
  exact ⟨C, f, fd, hm, cm, F.ok S len (fun cdv A outer s H vs Q E hr h => hbody f cdv A outer s H vs Q E hr h), b⟩
end
def rFld (K : PySem.W.Frag) (f : Str) (x : V) (H : Hp) (Q : VK) : Prop := ∃ a C dx fs v, x = .ref a /\ H a = some (.ins C dx fs) /\ Cls K C /\ NoAttr K C f /\ fs.lookup f = some v /\ Q v H
def rSetF (K : PySem.W.Frag) (f : Str) (x y : V) (H : Hp) (R : Hp -> Prop) : Prop := ∃ a C dx fs, x = .ref a /\ H a = some (.ins C dx fs) /\ Cls K C /\ NoAttr K C f /\ fs.length < 1000 /\ R (upd H a (.ins C dx (putF f y fs)))
def rVM (P : Program) (w : World) (K : PySem.W.Frag) (mg : Str -> Option Value) (base : Heap) (k : Nat) (m : Str) (σ : St) (t : TA) (x : V) (H : Hp) (Q : VK) : Prop := ∃ a C dx fs ps sp, x = .ref a /\ H a = some (.ins C dx fs) /\ VMeth P w K mg base k C m ps sp /\ fs.lookup m = none /\ t σ H fun vs H2 => sp (x :: vs) H2 Q E0
section
variable {σ : St} {H : Hp} {Q : VK} {K : PySem.W.Frag} {ta tv : TE} {t : TA} {f m : Str} {nx bk ct : St -> Hp -> Prop} {rt : VK} {P : Program} {w : World} {mg : Str -> Option Value} {base : Heap} {k : Nat}
theorem r_fld0 (q : ta σ H fun x H1 => rFld K f x H1 Q) : tFld K ta f σ H Q := q
theorem r_setf0 (q : tv σ H fun y H1 => ta σ H1 fun x H2 => rSetF K f x y H2 fun H3 => nx σ H3) : sFld K ta tv f ⟨nx, rt, bk, ct⟩ σ H := q
theorem r_vm0 (q : ta σ H fun x H1 => rVM P w K mg base k m σ t x H1 Q) : tVM P w K mg base k m ta t σ H Q := q
theorem r_fld {a C dx : Addr} {fs : List (Str × V)} {v : V} (h : H a = some (.ins C dx fs)) (c : Cls K C) (n : NoAttr K C f) (l : fs.lookup f = some v) (q : Q v H) : rFld K f (.ref a) H Q := ⟨a, C, dx, fs, v, rfl, h, c, n, l, q⟩
theorem r_setf {a C dx : Addr} {fs : List (Str × V)} {y : V} {R : Hp -> Prop} (h : H a = some (.ins C dx fs)) (c : Cls K C) (n : NoAttr K C f) (l : fs.length < 1000) (q : R (upd H a (.ins C dx (putF f y fs)))) : rSetF K f (.ref a) y H R := ⟨a, C, dx, fs, rfl, h, c, n, l, q⟩
theorem r_vm {a C dx : Addr} {fs : List (Str × V)} {ps : List Str} {sp : Sp} (h : H a = some (.ins C dx fs)) (v : VMeth P w K mg base k C m ps sp) (l : fs.lookup m = none) (q : t σ H fun vs H2 => sp (.ref a :: vs) H2 Q E0) : rVM P w K mg base k m σ t (.ref a) H Q := ⟨a, C, dx, fs, ps, sp, rfl, h, v, l, q⟩
theorem r_make {C : Addr} {sp : Sp} {E : XK} (q : t σ H fun vs H1 => ∀ x dx, H1 x = none -> H1 dx = none -> dx ≠ x -> sp (.ref x :: (vs ++ [])) (upd (upd H1 dx (.own x)) x (.ins C dx [])) (fun v H2 => v = .non /\ Q (.ref x) H2) E) : tMake C sp [] E t σ H Q := q
end
section
variable {X : Cx}
theorem ps_fldK {o value : Expr} {ta tv : TE} {f : Str} {pos pos' : Pos} (K : PySem.W.Frag) (ha : PE X o ta) (hv : PE X value tv) (hs : swapsWith value (some (.Attribute o f pos')) pos.line X.env = pure false) (hK : X.K = K := by rfl) : PS X (.Assign [.Attribute o f pos'] value pos) (sFld K ta tv f) := by subst hK; exact ps_fld ha hv hs
end
end L2
namespace L2
open PySem PySem.Spec PyProof.Rows
inductive Deq (K : PySem.W.Frag) (H : Hp) : Nat -> V -> V -> Bool -> Prop where
  | flat {n : Nat} {x y : V} (fx : flatV x = true) (fy : flatV y = true) : Deq K H n x y (eqV x y)
  | same {n : Nat} (a : Addr) : Deq K H n (.ref a) (.ref a) true
  | tup {n : Nat} {a b : Addr} {xs ys : List V} {e : Nat -> Bool} (hne : a ≠ b) (ha : SqT K H a xs) (hb : SqT K H b ys) (h : ∀ j, j < xs.length -> j < ys.length -> Deq K H n (xs.getD j .non) (ys.getD j .non) (e j)) :
      Deq K H (n + 1) (.ref a) (.ref b) ((List.range (min xs.length ys.length)).all e && xs.length == ys.length)
  | lst {n : Nat} {a b : Addr} {xs ys : List V} {e : Nat -> Bool} (hne : a ≠ b) (ha : SqL K H a xs) (hb : SqL K H b ys) (hl : xs.length = ys.length) (h : ∀ j, j < xs.length -> j < ys.length -> Deq K H n (xs.getD j .non) (ys.getD j .non) (e j)) :
      Deq K H (n + 1) (.ref a) (.ref b) ((List.range xs.length).all e)
  | lstn {n : Nat} {a b : Addr} {xs ys : List V} (hne : a ≠ b) (ha : SqL K H a xs) (hb : SqL K H b ys) (hl : xs.length ≠ ys.length) : Deq K H (n + 1) (.ref a) (.ref b) false
section
variable {X : Cx} {pins : List (Addr × Obj)} {σ : St} {H : Hp} {s : Shared}
theorem eqAt_D (I : Inv X pins σ H s) {n : Nat} {x y : V} {b : Bool} (d : Deq X.K H n x y b) : ∀ {A : Around} {u v : Value}, A.units + n < cLine -> RelV x u -> RelV y v -> SeqAt.EqAt A s u v b := by
  induction d with
  | flat fx fy => intro A u v _ rx ry; exact eqAt_V rx ry fx fy
  | same a => intro A u v _ rx ry; cases rx; cases ry; exact SeqAt.EqAt.same _
  | @tup n a b xs ys e hne ha hb h ih =>
    intro A u v hu rx ry
    cases rx
    cases ry
    obtain ⟨ia, ra, pa, _⟩ := I.tuple ha
    obtain ⟨ib, rb, pb, _⟩ := I.tuple hb
    have la := ra.length
    have lb := rb.length
    refine SeqAt.EqAt.of_refs hne ?_
    have q := SeqAt.RcAt.tuples (A := A) (e := e) (show s.heap.IsTuple a ia.toArray from pa) (show s.heap.IsTuple b ib.toArray from pb) (by omega) (fun j h1 h2 => ih j (by simpa [la] using h1) (by simpa [lb] using h2) (by show A.units + 1 + n < cLine; omega) (vals_at ra h1) (vals_at rb h2))
    simpa [la, lb] using q
  | @lst n a b xs ys e hne ha hb hl h ih =>
    intro A u v hu rx ry
    cases rx
    cases ry
    obtain ⟨ia, ra, pa, _⟩ := I.list ha
    obtain ⟨ib, rb, pb, _⟩ := I.list hb
    have la := ra.length
    have lb := rb.length
    refine SeqAt.EqAt.of_refs hne ?_
    have q := SeqAt.RcAt.lists (A := A) (e := e) pa.isList pb.isList (by simp; omega) (by omega) (fun j h1 h2 => ih j (by simpa [la] using h1) (by simpa [lb] using h2) (by show A.units + 1 + n < cLine; omega) (vals_at ra h1) (vals_at rb h2))
    simpa [la] using q
  | @lstn n a b xs ys hne ha hb hl =>
    intro A u v hu rx ry
    cases rx
    cases ry
    obtain ⟨ia, ra, pa, _⟩ := I.list ha
    obtain ⟨ib, rb, pb, _⟩ := I.list hb
    have la := ra.length
    have lb := rb.length
    exact SeqAt.EqAt.of_refs hne (SeqAt.RcAt.lists_lengths pa.isList pb.isList (by simp; omega) (by omega))
end
def rEqD (K : PySem.W.Frag) (n : Nat) : R2 := fun x y H Q =>
  (∃ p q xs ys e, x = .ref p /\ y = .ref q /\ SqT K H p xs /\ SqT K H q ys /\ (∀ j, j < xs.length -> j < ys.length -> Deq K H n (xs.getD j .non) (ys.getD j .non) (e j)) /\ Q (.bl ((List.range (min xs.length ys.length)).all e && xs.length == ys.length)) H) \/
  (∃ p q xs ys e, x = .ref p /\ y = .ref q /\ SqL K H p xs /\ SqL K H q ys /\ xs.length = ys.length /\ (∀ j, j < xs.length -> j < ys.length -> Deq K H n (xs.getD j .non) (ys.getD j .non) (e j)) /\ Q (.bl ((List.range xs.length).all e)) H) \/
  (∃ p q xs ys, x = .ref p /\ y = .ref q /\ SqL K H p xs /\ SqL K H q ys /\ xs.length ≠ ys.length /\ Q (.bl false) H)
def rNeD (K : PySem.W.Frag) (n : Nat) : R2 := fun x y H Q =>
  (∃ p q xs ys e, x = .ref p /\ y = .ref q /\ SqL K H p xs /\ SqL K H q ys /\ xs.length = ys.length /\ (∀ j, j < xs.length -> j < ys.length -> Deq K H n (xs.getD j .non) (ys.getD j .non) (e j)) /\ Q (.bl (!(List.range xs.length).all e)) H) \/
  (∃ p q xs ys, x = .ref p /\ y = .ref q /\ SqL K H p xs /\ SqL K H q ys /\ xs.length ≠ ys.length /\ Q (.bl true) H)
section
variable {X : Cx}
theorem op_eqD (K : PySem.W.Frag) (n : Nat) (hu : X.A.units + n + 1 < cLine) (hK : X.K = K := by rfl) : OpR X (compareOp .Eq) (rEqD K n) := by
  subst hK
  intro pins s σ H x y v u Q I rx ry h
  rcases h with ⟨p, q, xs, ys, e, rfl, rfl, hp, hq, hd, k⟩ | ⟨p, q, xs, ys, e, rfl, rfl, hp, hq, hl, hd, k⟩ | ⟨p, q, xs, ys, rfl, rfl, hp, hq, hl, k⟩
  · cases rx
    cases ry
    obtain ⟨ia, ra, pa, _⟩ := I.tuple hp
    obtain ⟨ib, rb, pb, _⟩ := I.tuple hq
    have la := ra.length
    have lb := rb.length
    refine SeqAt.eq_tupleAt (e := e) (show s.heap.IsTuple p ia.toArray from pa) (show s.heap.IsTuple q ib.toArray from pb) (by omega) (fun j h1 h2 => eqAt_D I (hd j (by simpa [la] using h1) (by simpa [lb] using h2)) (by show X.A.units + 1 + n < cLine; omega) (vals_at ra h1) (vals_at rb h2)) ⟨.bl _, H, I, ?_, k⟩
    show Value.bool _ = Value.bool _
    simp [la, lb]
  · cases rx
    cases ry
    obtain ⟨ia, ra, pa, _⟩ := I.list hp
    obtain ⟨ib, rb, pb, _⟩ := I.list hq
    have la := ra.length
    have lb := rb.length
    refine SeqAt.eq_listAt (e := e) pa.isList pb.isList (by simp; omega) (by omega) (fun j h1 h2 => eqAt_D I (hd j (by simpa [la] using h1) (by simpa [lb] using h2)) (by show X.A.units + 1 + n < cLine; omega) (vals_at ra h1) (vals_at rb h2)) ⟨.bl _, H, I, ?_, k⟩
    show Value.bool _ = Value.bool _
    simp [la]
  · cases rx
    cases ry
    obtain ⟨ia, ra, pa, _⟩ := I.list hp
    obtain ⟨ib, rb, pb, _⟩ := I.list hq
    have la := ra.length
    have lb := rb.length
    exact SeqAt.eq_list_lengthsAt pa.isList pb.isList (by simp; omega) (by omega) ⟨.bl false, H, I, rfl, k⟩
theorem op_neD (K : PySem.W.Frag) (n : Nat) (hu : X.A.units + n + 1 < cLine) (hK : X.K = K := by rfl) : OpR X (compareOp .NotEq) (rNeD K n) := by
  subst hK
  intro pins s σ H x y v u Q I rx ry h
  rcases h with ⟨p, q, xs, ys, e, rfl, rfl, hp, hq, hl, hd, k⟩ | ⟨p, q, xs, ys, rfl, rfl, hp, hq, hl, k⟩
  · cases rx
    cases ry
    obtain ⟨ia, ra, pa, _⟩ := I.list hp
    obtain ⟨ib, rb, pb, _⟩ := I.list hq
    have la := ra.length
    have lb := rb.length
    refine SeqAt.RcNeAt.lists (e := e) pa.isList pb.isList (by simp; omega) (by omega) (fun j h1 h2 => eqAt_D I (hd j (by simpa [la] using h1) (by simpa [lb] using h2)) (by show X.A.units + 1 + n < cLine; omega) (vals_at ra h1) (vals_at rb h2)) _ _ _ _ ⟨.bl _, H, I, ?_, k⟩
    show Value.bool _ = Value.bool _
    simp [la]
  · cases rx
    cases ry
    obtain ⟨ia, ra, pa, _⟩ := I.list hp
    obtain ⟨ib, rb, pb, _⟩ := I.list hq
    have la := ra.length
    have lb := rb.length
    exact SeqAt.RcNeAt.lists_lengths pa.isList pb.isList (by simp; omega) (by omega) _ _ _ _ ⟨.bl true, H, I, rfl, k⟩
end
def tFs (ta tb : TE) : TE := fun σ H Q => ta σ H fun x H1 => ∃ z1 : Str, x = .str z1 /\ z1.length <= sizeLine /\ tb σ H1 fun y H2 => ∃ z2 : Str, y = .str z2 /\ z1.length + z2.length <= sizeLine /\ ∀ z : Str, z.length = z1.length + z2.length -> Q (.str z) H2
def tFv (te : TE) : TE := fun σ H Q => te σ H fun x H1 => ∃ z : Str, x = .str z /\ z.length <= sizeLine /\ Q (.str z) H1
section
variable {X : Cx} {a b e : Expr} {ta tb te : TE} {pos : Pos}
theorem pe_fv (he : PE X e te) : PE X (.FormattedValue e (-1) none pos) (tFv te) := by
  intro pins s σ H Q I h
  refine FormattedValue_plain (thn (he pins s σ H _ I h) fun v s1 ⟨x, H1, I1, rx, z, ez, hz, q⟩ => ?_)
  subst ez
  obtain ⟨t, rfl⟩ := rx
  exact formatField_str (fun t' tk => ⟨.str z, H1, I1.tok _, ⟨_, rfl⟩, q⟩) hz
theorem len_app (x y : Str) : (x ++ y).length = x.length + y.length := strLen_append x y
theorem pe_fs (ha : PE X a ta) (hb : PE X b tb) (he : evalEach [a, b] X.env = [eval a X.env, eval b X.env] := by rfl) : PE X (.JoinedStr [a, b] pos) (tFs ta tb) := by
  intro pins s σ H Q I h
  refine JoinedStr_many (joinParts_cons (thn (ha pins s σ H _ I h) fun v s1 ⟨x, H1, I1, rx, z1, e1, hz1, q⟩ => ?_))
  subst e1
  obtain ⟨t, rfl⟩ := rx
  have el : (Str.empty ++ z1).length = z1.length := by rw [len_app]; simp [Str.empty, Str.length]
  refine ⟨by rw [el]; exact hz1, ?_⟩
  refine joinParts_cons (thn (hb pins s1 σ H1 _ I1 q) fun v s2 ⟨y, H2, I2, ry, z2, e2, hz2, q2⟩ => ?_)
  subst e2
  obtain ⟨t', rfl⟩ := ry
  have el2 : (Str.empty ++ z1 ++ z2).length = z1.length + z2.length := by rw [len_app, el]
  refine ⟨by rw [el2]; exact hz2, ?_⟩
  exact joinParts_nil ⟨.str _, H2, I2.tok _, ⟨_, rfl⟩, q2 _ el2⟩ (by rw [el2]; exact hz2)
end
section
variable {σ : St} {H : Hp} {Q : VK} {ta tb te : TE}
theorem r_fv (q : te σ H fun x H1 => ∃ z : Str, x = .str z /\ z.length <= sizeLine /\ Q (.str z) H1) : tFv te σ H Q := q
theorem r_fs (q : ta σ H fun x H1 => ∃ z1 : Str, x = .str z1 /\ z1.length <= sizeLine /\ tb σ H1 fun y H2 => ∃ z2 : Str, y = .str z2 /\ z1.length + z2.length <= sizeLine /\ ∀ z : Str, z.length = z1.length + z2.length -> Q (.str z) H2) : tFs ta tb σ H Q := q
end
end L2
namespace L2
open PySem PySem.Spec PyProof.Rows
structure FunD (K : PySem.W.Frag) (x : Str) (st : Stmt) (ds : List Value) (f : Addr) (fd : FuncData) : Prop where
  ex : ∃ (T : Addr) (o : Obj) (n : Nat) (oc : Value) (od : Option Addr) (kV doc pm : Value) (an : Option Addr) (cdv ct : Value) (osl : Array (Option Value)),
    fd = PySem.W.fnOf x x (defArgs st) (defBody st) (defScope st) (.ref T) kV doc pm an cdv ct /\ K.lookup f = some ⟨oc, od, .func fd, osl⟩ /\ PySem.W.codeIn K cdv x = true /\ K.lookup T = some o /\ o.data = .seq ds.toArray n
  kp : PySem.W.keepIn K (.ref f) = true
structure LaidD (K : PySem.W.Frag) (mg : Str -> Option Value) (x : Str) (st : Stmt) (ds : List Value) : Prop where
  ex : ∃ f fd, FunD K x st ds f fd /\ mg x = some (.ref f)
structure CalD (P : Program) (w : World) (K : PySem.W.Frag) (mg : Str -> Option Value) (base : Heap) (k : Nat) (x : Str) (ps : List Str) (sp : Sp) (st : Stmt) (ds : List Value) : Prop where
  ex : ∃ f fd, FnOk P w K mg base CX0 k f fd ps sp /\ mg x = some (.ref f) /\ FunD K x st ds f fd
def BnD (x : Str) (st : Stmt) (ds : List Value) (args : Args) (binds : List (Str × Value)) : Prop :=
  ∀ (T : Addr) (kV doc pm : Value) (an : Option Addr) (cdv ct : Value), ∃ k, bindArgs (PySem.W.fnOf x x (defArgs st) (defBody st) (defScope st) (.ref T) kV doc pm an cdv ct) args = seqItems? (.ref T) >>= k /\ k (some ds.toArray) = pure binds
section
variable {P : Program} {w : World} {K : PySem.W.Frag} {mg : Str -> Option Value} {base : Heap} {x : Str} {st : Stmt} {ds : List Value}
theorem FunD.bind {f : Addr} {fd : FuncData} {args : Args} {binds : List (Str × Value)} {s : Shared} (F : FunD K x st ds f fd) (X : K.In s.heap) (h : BnD x st ds args binds) : BindsTo s fd args binds := by
  obtain ⟨T, o, n, oc, od, kV, doc, pm, an, cdv, ct, osl, rfl, lk, hcd, ho, hs⟩ := F.ex
  obtain ⟨k, h1, h2⟩ := h T kV doc pm an cdv ct
  exact PySem.W.binds_K X rfl ho hs h1 h2
theorem LaidD.cal {N ps : List Str} {k : Nat} {sp : Sp} (L : LaidD K mg x st ds) (S : FnScope N ps (defScope st)) (len : ∀ vs H Q E, sp vs H Q E -> vs.length = ps.length)
    (hbody : ∀ (f : Addr) (cdv : Value) (A : Around) (outer : List Env) (s : Shared) (H : Hp) (vs : List V) (Q : VK) (E : XK), Room k (A.deeper (envOfC x (defScope st) s.heap.objs.size f cdv)) -> sp vs H Q E ->
      ∃ t, PSs (cxOf CX0 P w K mg base N x (defScope st) f cdv A outer s H E).nox (defBody st) t /\ t { nx := fun _ H' => Q .non H', rt := Q } (start N vs) H) : CalD P w K mg base (k + 1) x ps sp st ds := by
  obtain ⟨f, fd, F, m⟩ := L.ex
  refine ⟨f, fd, ?_, m, F⟩
  obtain ⟨T, o, n, oc, od, kV, doc, pm, an, cdv, ct, osl, rfl, lk, hcd, ho, hs⟩ := F.ex
  refine fn_of lk hcd S len fun A outer s H vs Q E hr hsp => ?_
  obtain ⟨t, h, q⟩ := hbody f cdv A outer s H vs Q E hr hsp
  exact ⟨t, h.nox, q⟩
theorem laidD_mk {h : Heap} {f T : Addr} {oc : Value} {od an : Option Addr} {osl : Array (Option Value)} {kV doc pm cdv ct : Value} {o : Obj} {n : Nat} (X : K.In h) (G : h.Ns mainGlobals mg) (a : PySem.W.nsIn K mainGlobals x = some (some (.ref f)))
    (l : K.lookup f = some ⟨oc, od, .func (PySem.W.fnOf x x (defArgs st) (defBody st) (defScope st) (.ref T) kV doc pm an cdv ct), osl⟩) (c : PySem.W.codeIn K cdv x = true) (k : PySem.W.keepIn K (.ref f) = true)
    (ho : K.lookup T = some o) (hs : o.data = .seq ds.toArray n) : LaidD K mg x st ds :=
  ⟨f, _, ⟨⟨T, o, n, oc, od, kV, doc, pm, an, cdv, ct, osl, rfl, l, c, ho, hs⟩, k⟩, PySem.W.mg_of X G a⟩
end
section
variable {X : Cx} {k k' : Nat} {x : Str} {ps ks : List Str} {sp : Sp} {p pos : Pos} {e : Expr} {es : List Expr} {kws : List Keyword} {t tk : TA} {st : Stmt} {ds ds' : List Value} {dvs : List V}
theorem pe_calD (c : CalD X.prog X.w X.K X.mg X.base k x ps sp st ds) (hb : ∀ us : List Value, (us ++ ds').length = ps.length -> BnD x st ds ⟨us, []⟩ (ps.zip (us ++ ds'))) (hd : Vals dvs ds') (hr : Room k' X.A) (hk : k <= k') (hg : Gl X x) (ha : PA X (e :: es) t)
    (hdb : (x == ("__debug__" : Str)) = false := by decide) (he : starEach (e :: es) X.env = (false, eval e X.env) :: starEach es X.env := by rfl)
    (hpl : (backTo pos (starEach es X.env)).any (·.1) = false := by rfl) : PE X (.Call (.Name x p) (e :: es) [] pos) (tCall sp dvs E0 t) := by
  obtain ⟨f, fd, F, m, D⟩ := c.ex
  exact pe_call F (hr.mono hk) hg m D.kp (fun s us hX hl => D.bind hX (hb us hl)) hd pass0 ha hdb he hpl
end
end L2
namespace HT
open PySem PyProof.Rows
section
variable {prog : Program} {w : World} {A : Around} {E : Value -> Shared -> Prop} {s : Shared}
theorem cat_tup0 {t b : Addr} {vs ws : List Value} {Q : Value -> Shared -> Prop} (ht : IsTup s.heap t vs.toArray) (hb : IsTup s.heap b ws.toArray) (hv : vs = []) (h : Q (.ref b) s) : wpAny (model prog w) A (binaryOp .Add (.ref t) (.ref b)) Q E s := by
  obtain ⟨⟨cls, dd, data, sl⟩, ho, hc, n, hd⟩ := id ht
  obtain ⟨⟨cls2, dd2, data2, sl2⟩, ho2, hc2, n2, hd2⟩ := id hb
  simp only at hc hd hc2 hd2
  subst hc hd hc2 hd2
  exact concat_meets ⟨_, ho, rfl⟩ ⟨_, ho2, rfl⟩ noFill_tuple_add seq_tuple_add PySem.F.slot_tuple_add PySem.F.entry_tuple_add (PySem.F.args_tuple_add_2 _ _)
      (tuple_addW0 t b vs.toArray ws.toArray n n2 dd dd2 sl sl2 (by simp [hv])) ⟨ho, ho2, h⟩
end
end HT
namespace L2
open PySem PySem.Spec PyProof.Rows
def rCatTA (K : PySem.W.Frag) : R2 := fun x y H Q => ∃ a b xs ys, x = .ref a /\ y = .ref b /\ SqT K H a xs /\ SqT K H b ys /\ xs.length + ys.length <= sizeLine /\
  (xs = [] -> Q (.ref b) H) /\ (xs ≠ [] -> ys = [] -> Q (.ref a) H) /\ (xs ≠ [] -> ys ≠ [] -> ∀ p, H p = none -> Q (.ref p) (upd H p (.tup (xs ++ ys))))
section
variable {X : Cx}
theorem op_catTA (K : PySem.W.Frag) (hK : X.K = K := by rfl) : OpR X (binaryOp .Add) (rCatTA K) := by
  subst hK
  intro pins s σ H x y v u Q I rx ry h
  obtain ⟨a, b, xs, ys, e1, e2, ha, hb, hz, q0, q1, q2⟩ := h
  by_cases hx : xs = []
  · subst e1 e2
    cases rx
    cases ry
    obtain ⟨its, r1, p1, _⟩ := I.tuple ha
    obtain ⟨its2, r2, p2, _⟩ := I.tuple hb
    exact HT.cat_tup0 p1 p2 (r1.nil_iff.mpr hx) ⟨.ref b, H, I, rfl, q0 hx⟩
  · exact op_catT pins s σ H x y v u Q I rx ry ⟨a, b, xs, ys, e1, e2, ha, hb, hx, hz, q1 hx, q2 hx⟩
end
section
variable {H : Hp} {Q : VK} {K : PySem.W.Frag}
theorem r_catA0 {p q : Addr} {ys : List V} (h1 : SqT K H p []) (h2 : SqT K H q ys) (hz : ys.length <= sizeLine) (k : Q (.ref q) H) : rCatTA K (.ref p) (.ref q) H Q :=
  ⟨p, q, [], ys, rfl, rfl, h1, h2, by simpa using hz, fun _ => k, fun e => (e rfl).elim, fun e => (e rfl).elim⟩
theorem r_catA1 {p q : Addr} {x : V} {xs : List V} (h1 : SqT K H p (x :: xs)) (h2 : SqT K H q []) (hz : (x :: xs).length <= sizeLine) (k : Q (.ref p) H) : rCatTA K (.ref p) (.ref q) H Q :=
  ⟨p, q, x :: xs, [], rfl, rfl, h1, h2, by simpa using hz, fun e => by simp at e, fun _ _ => k, fun _ e => (e rfl).elim⟩
theorem r_catA2 {p q : Addr} {x y : V} {xs ys : List V} (h1 : SqT K H p (x :: xs)) (h2 : SqT K H q (y :: ys)) (hz : Nat.ble ((x :: xs).length + (y :: ys).length) sizeLine = true) (k : ∀ r, H r = none -> Q (.ref r) (upd H r (.tup (x :: xs ++ y :: ys)))) : rCatTA K (.ref p) (.ref q) H Q :=
  ⟨p, q, x :: xs, y :: ys, rfl, rfl, h1, h2, Nat.le_of_ble_eq_true hz, fun e => by simp at e, fun _ e => by simp at e, fun _ _ => k⟩
end
end L2
namespace Ce
open PySem L2
def letsG (g : Gt) (f : Int -> Int) (op : Bool) (bars wt : Int) : Bool := match g with
  | .plain => true
  | .door _ => op
  | .need k => decide (0 < f k)
  | .bar b => bit bars b.toNat
  | .wade h k => decide (wt <= h) || decide (0 < f k)
  | .float h => decide (h <= wt)
inductive Wd where
  | go | pull | take | turn | unlock
  deriving DecidableEq
def Wd.str : Wd -> Str
  | .go => "go"
  | .pull => "pull"
  | .take => "take"
  | .turn => "turn"
  | .unlock => "unlock"
def Wd.part : Wd -> Int
  | .go => 3
  | .pull => 5
  | .take => 4
  | .turn => 6
  | .unlock => 3
structure Sd where
  rm : Int
  tk : Int
  op : Int
  b : Int
  wt : Int
def Sd.vs (s : Sd) : List V := [.int s.rm, .int s.tk, .int s.op, .int s.b, .int s.wt]
def Sd.ok (C : Cl) (s : Sd) : Prop := StOk C s.rm s.tk s.op s.b s.wt
def enterB (x : Way) (rm : Int) : Bool := decide (rm = x.a) || (decide (rm = x.b) && x.back)
def canB (C : Cl) (s : Sd) (i : Nat) : Wd -> Bool
  | .go => match C.ways[i]? with
    | some x => enterB x s.rm && letsG x.g (hold C s.tk s.op) (bit s.op i) s.b s.wt
    | none => false
  | .pull => match C.levers[i]? with
    | some x => decide (s.rm = x.1)
    | none => false
  | .take => match C.things[i]? with
    | some x => decide (s.rm = x.1) && !bit s.tk i
    | none => false
  | .turn => match C.wheels[i]? with
    | some x => decide (s.rm = x.1) && !decide (s.wt = x.2)
    | none => false
  | .unlock => match C.ways[i]? with
    | some x => match x.g.dk with
      | some k => (enterB x s.rm && !bit s.op i) && decide (0 < hold C s.tk s.op k)
      | none => false
    | none => false
def doneB (C : Cl) (s : Sd) (i : Nat) : Wd -> Sd
  | .go => match C.ways[i]? with
    | some x => { s with rm := if s.rm = x.a then x.b else x.a }
    | none => s
  | .pull => match C.levers[i]? with
    | some x => { s with b := Builtin.bitXor s.b x.2 }
    | none => s
  | .take => { s with tk := s.tk + 2 ^ i }
  | .turn => match C.wheels[i]? with
    | some x => { s with wt := x.2 }
    | none => s
  | .unlock => { s with op := s.op + 2 ^ i }
def Cl.num (C : Cl) : Wd -> Nat
  | .go => C.ways.length
  | .pull => C.levers.length
  | .take => C.things.length
  | .turn => C.wheels.length
  | .unlock => C.ways.length
def canD (C : Cl) (s : Sd) (d : Wd) (n : Int) : Bool := !decide (s.rm = C.lst) && (decide (0 <= n) && canB C s n.toNat d)
def doneD (C : Cl) (s : Sd) (d : Wd) (n : Int) : Sd := doneB C s n.toNat d
theorem canB_lt {C : Cl} {s : Sd} {i : Nat} {d : Wd} (h : canB C s i d = true) : i < C.num d := by
  cases d <;> simp only [canB] at h
  · cases e : C.ways[i]? with
    | none => rw [e] at h; simp at h
    | some x => exact (List.getElem?_eq_some_iff.mp e).1
  · cases e : C.levers[i]? with
    | none => rw [e] at h; simp at h
    | some x => exact (List.getElem?_eq_some_iff.mp e).1
  · cases e : C.things[i]? with
    | none => rw [e] at h; simp at h
    | some x => exact (List.getElem?_eq_some_iff.mp e).1
  · cases e : C.wheels[i]? with
    | none => rw [e] at h; simp at h
    | some x => exact (List.getElem?_eq_some_iff.mp e).1
  · cases e : C.ways[i]? with
    | none => rw [e] at h; simp at h
    | some x => exact (List.getElem?_eq_some_iff.mp e).1
theorem canD_last {C : Cl} {s : Sd} {d : Wd} {n : Int} (h : s.rm = C.lst) : canD C s d n = false := by simp [canD, h]
theorem canD_neg {C : Cl} {s : Sd} {d : Wd} {n : Int} (h : n < 0) : canD C s d n = false := by
  have : ¬ 0 <= n := by omega
  simp [canD, this]
theorem canD_beyond {C : Cl} {s : Sd} {d : Wd} {n : Int} (h : ¬ n < C.num d) : canD C s d n = false := by
  by_cases h0 : 0 <= n
  · have : canB C s n.toNat d = false := by
      cases e : canB C s n.toNat d with
      | false => rfl
      | true => have := canB_lt e; omega
    simp [canD, this]
  · exact canD_neg (by omega)
theorem canD_in {C : Cl} {s : Sd} {d : Wd} {i : Nat} (h : ¬ s.rm = C.lst) : canD C s d (i : Int) = canB C s i d := by
  have : (0 : Int) <= (i : Int) := by omega
  simp [canD, h, this]
theorem canD_of {C : Cl} {s : Sd} {d : Wd} {n : Int} (h : canD C s d n = true) : ¬ s.rm = C.lst /\ ∃ i : Nat, n = (i : Int) /\ i < C.num d /\ canB C s i d = true := by
  unfold canD at h
  simp only [Bool.and_eq_true, Bool.not_eq_true', decide_eq_false_iff_not, decide_eq_true_eq] at h
  exact ⟨h.1, n.toNat, by omega, canB_lt h.2.2, h.2.2⟩
theorem bit_off {x : Int} {w : Nat} (h : bit x w = false) : Builtin.bitOr x (2 ^ w) = x + 2 ^ w := by
  rw [PyProof.Rows.bitOr_and, PySem.W.kbt_bit]
  have : x / 2 ^ w % 2 = 0 := by
    unfold bit at h
    have h' := of_decide_eq_false h
    omega
  rw [this]
  simp
theorem and_add_xor (x y : Nat) : x + y = (x ^^^ y) + 2 * (x &&& y) := by
  have key : ∀ n x y, x < 2 ^ n -> y < 2 ^ n -> x + y = (x ^^^ y) + 2 * (x &&& y) := by
    intro n
    induction n with
    | zero => intro x y hx hy; have : x = 0 := by simpa using hx
              have : y = 0 := by simpa using hy
              subst_vars; rfl
    | succ n ih =>
      intro x y hx hy
      have h := ih (x / 2) (y / 2) (by rw [Nat.pow_succ] at hx; omega) (by rw [Nat.pow_succ] at hy; omega)
      have e1 : (x ^^^ y) / 2 = (x / 2) ^^^ (y / 2) := Nat.xor_div_two
      have e2 : (x &&& y) / 2 = (x / 2) &&& (y / 2) := Nat.and_div_two
      have m1 : (x ^^^ y) % 2 = (x % 2 + y % 2) % 2 := by
        have h1 : (x ^^^ y) % 2 = (x % 2) ^^^ (y % 2) := Nat.xor_mod_two_pow (n := 1)
        rw [h1]
        have a : x % 2 = 0 \/ x % 2 = 1 := by omega
        have b : y % 2 = 0 \/ y % 2 = 1 := by omega
        rcases a with a | a <;> rcases b with b | b <;> simp [a, b]
      have m2 : (x &&& y) % 2 = (x % 2) * (y % 2) := by
        have h1 : (x &&& y) % 2 = (x % 2) &&& (y % 2) := Nat.and_mod_two_pow (n := 1)
        rw [h1]
        have a : x % 2 = 0 \/ x % 2 = 1 := by omega
        have b : y % 2 = 0 \/ y % 2 = 1 := by omega
        rcases a with a | a <;> rcases b with b | b <;> simp [a, b]
      have a : x % 2 = 0 \/ x % 2 = 1 := by omega
      have b : y % 2 = 0 \/ y % 2 = 1 := by omega
      rw [<- e1, <- e2] at h
      rcases a with a | a <;> rcases b with b | b <;> rw [a, b] at m1 m2 <;> omega
  exact key (x + y) x y (Nat.lt_of_le_of_lt (Nat.le_add_right x y) Nat.lt_two_pow_self) (Nat.lt_of_le_of_lt (Nat.le_add_left y x) Nat.lt_two_pow_self)
theorem xor_nat {x y : Int} (hx : 0 <= x) (hy : 0 <= y) : Builtin.bitXor x y = ((x.toNat ^^^ y.toNat : Nat) : Int) := by
  rw [PyProof.Rows.bitXor_and, PyProof.Rows.bitAnd_pp hx hy]
  have := and_add_xor x.toNat y.toNat
  omega
theorem xor_range {x y : Int} (hx : 0 <= x) (hx' : x <= 255) (hy : 0 <= y) (hy' : y <= 255) : 0 <= Builtin.bitXor x y /\ Builtin.bitXor x y <= 255 := by
  rw [xor_nat hx hy]
  have : x.toNat ^^^ y.toNat < 2 ^ 8 := Nat.xor_lt_two_pow (by omega) (by omega)
  omega
theorem add_off {x i : Nat} (h : x.testBit i = false) : x + 2 ^ i = x ^^^ 2 ^ i := by
  have h1 := and_add_xor x (2 ^ i)
  have h2 : x &&& 2 ^ i = 0 := by
    apply Nat.eq_of_testBit_eq
    intro j
    rw [Nat.testBit_and, Nat.testBit_two_pow, Nat.zero_testBit]
    by_cases e : i = j
    · rw [<- e, h]; simp
    · simp [e]
  omega
theorem bit_add {x : Int} {i : Nat} (h0 : 0 <= x) (h : bit x i = false) (j : Nat) : bit (x + 2 ^ i) j = (decide (i = j) ^^ bit x j) := by
  obtain ⟨n, rfl⟩ : ∃ n : Nat, x = (n : Int) := ⟨x.toNat, by omega⟩
  have hp := pow_pos' i
  have e : ((n : Int) + 2 ^ i) = ((n + 2 ^ i : Nat) : Int) := by rw [Int.natCast_add, Int.natCast_pow]; rfl
  rw [bit_test h0, Int.toNat_natCast] at h
  rw [e, bit_test (by omega), bit_test h0, Int.toNat_natCast, Int.toNat_natCast, add_off h, Nat.testBit_xor, Nat.testBit_two_pow, Bool.xor_comm]
theorem add_lt {x : Int} {i m : Nat} (h0 : 0 <= x) (h1 : x < 2 ^ m) (hi : i < m) (h : bit x i = false) : 0 <= x + 2 ^ i /\ x + 2 ^ i < 2 ^ m := by
  obtain ⟨n, rfl⟩ : ∃ n : Nat, x = (n : Int) := ⟨x.toNat, by omega⟩
  have hp := pow_pos' i
  have e : ((n : Int) + 2 ^ i) = ((n + 2 ^ i : Nat) : Int) := by rw [Int.natCast_add, Int.natCast_pow]; rfl
  have em : (2 : Int) ^ m = ((2 ^ m : Nat) : Int) := by rw [Int.natCast_pow]; rfl
  rw [bit_test h0, Int.toNat_natCast] at h
  rw [em] at h1
  have hn : n < 2 ^ m := by omega
  have : n ^^^ 2 ^ i < 2 ^ m := Nat.xor_lt_two_pow hn (Nat.pow_lt_pow_right (by decide) hi)
  rw [e, em, add_off h]
  omega
theorem cnt_one {P R : Nat -> Bool} {i : Nat} (h : ∀ j, j ≠ i -> R j = P j) (hi : P i = false) : ∀ m, cnt R m = cnt P m + (if i < m then (if R i = true then 1 else 0) else 0)
  | 0 => by simp [cnt]
  | m + 1 => by
    show cnt R m + _ = cnt P m + _ + _
    rw [cnt_one h hi m]
    by_cases e : m = i
    · subst e
      rw [if_neg (Nat.lt_irrefl _), if_pos (Nat.lt_succ_self _), hi]
      simp
    · rw [h m e]
      by_cases h2 : i < m
      · rw [if_pos h2, if_pos (show i < m + 1 by omega), Nat.add_right_comm]
      · rw [if_neg h2, if_neg (show ¬ i < m + 1 by omega), Nat.add_right_comm]
theorem hold_take {C : Cl} {tk op : Int} {i : Nat} (h0 : 0 <= tk) (hi : i < C.things.length) (hb : bit tk i = false) (k : Int) : hold C (tk + 2 ^ i) op k = hold C tk op k + (if C.things[i].2 = k then 1 else 0) := by
  unfold hold
  have e : cnt (tP C (tk + 2 ^ i) k) C.things.length = cnt (tP C tk k) C.things.length + (if C.things[i].2 = k then 1 else 0) := by
    rw [cnt_one (P := tP C tk k) (i := i) (fun j hj => by simp [tP, bit_add h0 hb, show ¬ i = j from fun z => hj z.symm]) (by simp [tP, hb]), if_pos hi]
    congr 1
    simp only [tP, bit_add h0 hb, hb]
    by_cases ek : C.things[i].2 = k
    · simp [ek, hi]
    · simp [ek, hi]
  rw [e]
  split <;> omega
theorem hold_unlock {C : Cl} {tk op : Int} {i : Nat} (h0 : 0 <= op) (hi : i < C.ways.length) (hb : bit op i = false) (k : Int) : hold C tk (op + 2 ^ i) k = hold C tk op k - (if C.ways[i].g.dk = some k then 1 else 0) := by
  unfold hold
  have eds : dsOf C i = C.ways[i].g.dk := by simp [dsOf, hi]
  have e : cnt (dP (dsOf C) (op + 2 ^ i) k) C.ways.length = cnt (dP (dsOf C) op k) C.ways.length + (if C.ways[i].g.dk = some k then 1 else 0) := by
    rw [cnt_one (P := dP (dsOf C) op k) (i := i) (fun j hj => by simp [dP, bit_add h0 hb, show ¬ i = j from fun z => hj z.symm]) (by simp [dP, hb]), if_pos hi]
    congr 1
    simp only [dP, bit_add h0 hb, hb, eds]
    by_cases ek : C.ways[i].g.dk = some k
    · simp [ek]
    · simp [ek]
  rw [e]
  split <;> omega
theorem done_ok {C : Cl} {s : Sd} {d : Wd} {n : Int} (ok : ClOk C) (h : s.ok C) (hc : canD C s d n = true) : (doneD C s d n).ok C := by
  obtain ⟨hl, i, rfl, hi, hb⟩ := canD_of hc
  unfold doneD
  rw [Int.toNat_natCast]
  obtain ⟨h1, h2, h3, h4, h5, h6, h7⟩ := id h
  cases d with
  | go =>
    have hi' : i < C.ways.length := hi
    have w := ok.w _ (List.getElem_mem hi')
    simp only [doneB, List.getElem?_eq_getElem hi']
    refine ⟨?_, h2, h3, h4, h5, h6, h7⟩
    by_cases e : s.rm = C.ways[i].a
    · simp only [e, if_true]
      exact w.2.1
    · simp only [e, if_false]
      exact w.1
  | pull =>
    have hi' : i < C.levers.length := hi
    have w := ok.lv _ (List.getElem_mem hi')
    simp only [doneB, List.getElem?_eq_getElem hi']
    exact ⟨h1, h2, h3, h4, xor_range h5.1 h5.2 (by omega) w.2.2, h6, h7⟩
  | take =>
    have hi' : i < C.things.length := hi
    have ho : bit s.tk i = false := by
      simp only [canB, List.getElem?_eq_getElem hi', Bool.and_eq_true, Bool.not_eq_true'] at hb
      exact hb.2
    refine ⟨h1, add_lt h2.1 h2.2 hi' ho, h3, h4, h5, h6, fun k k0 k1 => ?_⟩
    show 0 <= hold C (s.tk + 2 ^ i) s.op k
    rw [hold_take h2.1 hi' ho]
    have := h7 k k0 k1
    split <;> omega
  | turn =>
    have hi' : i < C.wheels.length := hi
    have w := ok.wh _ (List.getElem_mem hi')
    simp only [doneB, List.getElem?_eq_getElem hi']
    exact ⟨h1, h2, h3, h4, h5, w.2, h7⟩
  | unlock =>
    have hi' : i < C.ways.length := hi
    have eds : dsOf C i = C.ways[i].g.dk := by simp [dsOf, hi']
    cases hk : C.ways[i].g.dk with
    | none => simp [canB, hi', hk] at hb
    | some kd =>
      simp only [canB, List.getElem?_eq_getElem hi', hk, Bool.and_eq_true, Bool.not_eq_true', decide_eq_true_eq] at hb
      refine ⟨h1, h2, add_lt h3.1 h3.2 hi' hb.1.2, fun j hj hbj => ?_, h5, h6, fun k k0 k1 => ?_⟩
      · replace hbj : bit (s.op + 2 ^ i) j = true := hbj
        rw [bit_add h3.1 hb.1.2] at hbj
        by_cases e : i = j
        · rw [<- e, eds, hk]; rfl
        · have : bit s.op j = true := by simpa [e] using hbj
          exact h4 j hj this
      · show 0 <= hold C s.tk (s.op + 2 ^ i) k
        rw [hold_unlock h3.1 hi' hb.1.2, hk]
        have := h7 k k0 k1
        by_cases e : kd = k
        · rw [if_pos (by rw [e]), <- e]; omega
        · rw [if_neg (by intro z; exact e (Option.some.inj z))]; omega
def rowD (d : Wd) (n : Nat) : List (Wd × Nat) := (List.range n).map fun i => (d, i)
theorem rowD_len (d : Wd) (n : Nat) : (rowD d n).length = n := by simp [rowD]
theorem rowD_succ (d : Wd) (n : Nat) : rowD d (n + 1) = rowD d n ++ [(d, n)] := by simp [rowD, List.range_succ]
def allD (C : Cl) : List (Wd × Nat) := rowD .go C.ways.length ++ rowD .pull C.levers.length ++ rowD .take C.things.length ++ rowD .turn C.wheels.length ++ rowD .unlock C.ways.length
def fitD (C : Cl) (s : Sd) : List (Wd × Nat) := (allD C).filter fun x => canD C s x.1 (x.2 : Int)
theorem allD_len {C : Cl} (ok : ClOk C) : (allD C).length <= 56 := by
  have := ok.wl
  have := ok.tl
  have := ok.ll
  have := ok.vl
  simp only [allD, List.length_append, rowD_len]
  omega
theorem fitD_len {C : Cl} (ok : ClOk C) (s : Sd) : (fitD C s).length <= 56 := Nat.le_trans (List.length_filter_le _ _) (allD_len ok)
theorem mem_rowD {d d' : Wd} {n i : Nat} : (d', i) ∈ rowD d n ↔ d' = d /\ i < n := by
  simp only [rowD, List.mem_map, List.mem_range, Prod.mk.injEq]
  constructor
  · rintro ⟨j, h, rfl, rfl⟩; exact ⟨rfl, h⟩
  · rintro ⟨rfl, h⟩; exact ⟨i, h, rfl, rfl⟩
theorem mem_allD {C : Cl} {d : Wd} {i : Nat} : (d, i) ∈ allD C ↔ i < C.num d := by
  simp only [allD, List.mem_append, mem_rowD]
  cases d <;> simp [Cl.num]
theorem mem_fitD {C : Cl} {s : Sd} {d : Wd} {i : Nat} : (d, i) ∈ fitD C s ↔ canD C s d (i : Int) = true := by
  simp only [fitD, List.mem_filter, mem_allD]
  constructor
  · exact fun h => h.2
  · intro h
    obtain ⟨_, j, e, hj, _⟩ := canD_of h
    have : i = j := by omega
    exact ⟨by rw [this]; exact hj, h⟩
theorem go_of {C : Cl} {s : Sd} {i : Nat} (hc : canD C s .go (i : Int) = true) : ∃ x, C.ways[i]? = some x /\ enterB x s.rm = true /\ letsG x.g (hold C s.tk s.op) (bit s.op i) s.b s.wt = true /\ ¬ s.rm = C.lst /\ doneD C s .go (i : Int) = { s with rm := if s.rm = x.a then x.b else x.a } := by
  obtain ⟨hl, j, e, hi, hb⟩ := canD_of hc
  have e' : i = j := by omega
  subst e'
  have hi' : i < C.ways.length := hi
  have hx : C.ways[i]? = some C.ways[i] := List.getElem?_eq_getElem hi'
  simp only [canB, hx, Bool.and_eq_true] at hb
  exact ⟨C.ways[i], hx, hb.1, hb.2, hl, by unfold doneD; rw [Int.toNat_natCast]; simp [doneB, hi']⟩
end Ce
namespace L2
open PySem PySem.Spec PyProof.Rows
section
variable {X : Cx} {o e : Expr} {es : List Expr} {m : Str} {apos pos : Pos} {k k' : Nat} {ta : TE} {t : TA}
theorem pe_vmK {pl : Sem Bool} (P : Program) (w : World) (K : PySem.W.Frag) (mg : Str -> Option Value) (base : Heap) (hr : Room k' X.A) (hk : k <= k') (he : PE X o ta) (ha : PA X (e :: es) t)
    (e1 : X.prog = P := by rfl) (e2 : X.w = w := by rfl) (e3 : X.K = K := by rfl) (e4 : X.mg = mg := by rfl) (e5 : X.base = base := by rfl)
    (hst : starEach (e :: es) X.env = (false, eval e X.env) :: starEach es X.env := by rfl) (hpl : (backTo pos (starEach es X.env)).any (·.1) = false := by rfl)
    (ht : eval (.Call (.Attribute o m apos) (e :: es) [] pos) X.env = (do
      let ov <- eval o X.env
      standAt apos.atName
      let (f, first) <- holding [ov] (getMethod ov m pl)
      callWith pos f first (backTo pos (starEach (e :: es) X.env)) (backToKw pos (keywordEach [] X.env))) := by rfl) :
    PE X (.Call (.Attribute o m apos) (e :: es) [] pos) (tVM P w K mg base k m ta t) := by
  subst e1 e2 e3 e4 e5
  exact pe_vm (hr.mono hk) he ha hst hpl ht
theorem pe_vm0K {pl : Sem Bool} (P : Program) (w : World) (K : PySem.W.Frag) (mg : Str -> Option Value) (base : Heap) (hr : Room k' X.A) (hk : k <= k') (he : PE X o ta)
    (e1 : X.prog = P := by rfl) (e2 : X.w = w := by rfl) (e3 : X.K = K := by rfl) (e4 : X.mg = mg := by rfl) (e5 : X.base = base := by rfl)
    (ht : eval (.Call (.Attribute o m apos) [] [] pos) X.env = (do
      let ov <- eval o X.env
      standAt apos.atName
      let (f, first) <- holding [ov] (getMethod ov m pl)
      callWith pos f first (backTo pos (starEach [] X.env)) (backToKw pos (keywordEach [] X.env))) := by rfl) :
    PE X (.Call (.Attribute o m apos) [] [] pos) (tVM P w K mg base k m ta tNil) := by
  subst e1 e2 e3 e4 e5
  exact pe_vm0 (hr.mono hk) he ht
end
end L2
namespace L2
open PySem PySem.Spec PyProof.Rows
end L2
namespace L2
open PySem PySem.Spec PyProof.Rows
end L2
namespace L2
open PySem PySem.Spec PyProof.Rows
end L2
namespace L2
open PySem PySem.Spec PyProof.Rows
end L2
namespace L2
open PySem PySem.Spec PyProof.Rows
end L2
namespace L2
open PySem PySem.Spec PyProof.Rows
end L2
namespace L2
open PySem PySem.Spec PyProof.Rows
end L2
namespace L2
open PySem PySem.Spec PyProof.Rows
end L2
namespace L2
open PySem PySem.Spec PyProof.Rows
end L2
namespace L2
open PySem PySem.Spec PyProof.Rows
end L2
namespace L2
open PySem PySem.Spec PyProof.Rows
section
variable {κ : Type} [DecidableEq κ]
def valV (kvs : List (κ × V)) (k : κ) : Option V := (kvs.find? fun kv => decide (kv.1 = k)).map (·.2)
def putK (kvs : List (κ × V)) (k : κ) (v : V) : List (κ × V) :=
  if (kvs.any fun kv => decide (kv.1 = k)) = true then kvs.map (fun kv => if kv.1 = k then (kv.1, v) else kv) else kvs ++ [(k, v)]
theorem valV_pos {p : κ × V} {r : List (κ × V)} {k : κ} (e : p.1 = k) : valV (p :: r) k = some p.2 := by simp [valV, List.find?_cons, e]
theorem valV_neg {p : κ × V} {r : List (κ × V)} {k : κ} (e : ¬ p.1 = k) : valV (p :: r) k = valV r k := by simp [valV, List.find?_cons, e]
theorem valV_any (k : κ) : ∀ kvs : List (κ × V), (kvs.any fun kv => decide (kv.1 = k)) = (valV kvs k).isSome
  | [] => rfl
  | p :: r => by
    rw [List.any_cons]
    by_cases e : p.1 = k
    · simp only [valV_pos e, decide_eq_true e, Bool.true_or, Option.isSome_some]
    · rw [valV_neg e, decide_eq_false e, Bool.false_or]; exact valV_any k r
theorem length_putK (kvs : List (κ × V)) (k : κ) (v : V) : (putK kvs k v).length <= kvs.length + 1 := by
  unfold putK
  split
  · rw [List.length_map]; omega
  · rw [List.length_append, List.length_cons, List.length_nil]; omega
theorem RelO.isSome_eq {o : Option V} {u : Option Value} (r : RelO o u) : o.isSome = u.isSome := by
  cases o with
  | none => cases u with
    | none => rfl
    | some _ => exact (show False from r).elim
  | some _ => cases u with
    | none => exact (show False from r).elim
    | some _ => rfl
theorem KV.val {kvs : List (κ × V)} {vs : List (κ × Value)} (r : KV kvs vs) (k : κ) : RelO (valV kvs k) (valueAt vs k) := by
  unfold KV at r
  induction r with
  | nil => exact True.intro
  | @cons p q ps qs h t ih =>
    obtain ⟨h1, h2⟩ := h
    by_cases e : p.1 = k
    · have e' : q.1 = k := h1.symm.trans e
      have b : valueAt (q :: qs) k = some q.2 := by simp [valueAt, List.find?_cons, e']
      rw [valV_pos e, b]; exact h2
    · have e' : ¬ q.1 = k := fun z => e (h1.trans z)
      have b : valueAt (q :: qs) k = valueAt qs k := by simp [valueAt, List.find?_cons, e']
      rw [valV_neg e, b]; exact ih
theorem KV.any {kvs : List (κ × V)} {vs : List (κ × Value)} (r : KV kvs vs) (k : κ) : (kvs.any fun kv => decide (kv.1 = k)) = vs.any fun kv => decide (kv.1 = k) := by
  unfold KV at r
  induction r with
  | nil => rfl
  | cons h t ih => rw [List.any_cons, List.any_cons, ih, h.1]
theorem KV.repl {kvs : List (κ × V)} {vs : List (κ × Value)} (r : KV kvs vs) (k : κ) {y : V} {u : Value} (ry : RelV y u) :
    KV (kvs.map fun kv => if kv.1 = k then (kv.1, y) else kv) (vs.map fun kv => if kv.1 = k then (kv.1, u) else kv) := by
  unfold KV at r ⊢
  induction r with
  | nil => exact .nil
  | @cons p q ps qs h t ih =>
    rw [List.map_cons, List.map_cons]
    refine .cons ?_ ih
    obtain ⟨h1, h2⟩ := h
    by_cases e : p.1 = k
    · rw [if_pos e, if_pos (h1.symm.trans e)]; exact ⟨h1, ry⟩
    · rw [if_neg e, if_neg (fun z => e (h1.trans z))]; exact ⟨h1, h2⟩
theorem KV.put {kvs : List (κ × V)} {vs : List (κ × Value)} (r : KV kvs vs) (k : κ) {y : V} {u : Value} (ry : RelV y u) : KV (putK kvs k y) (stored vs k u) := by
  unfold putK stored
  rw [r.any k]
  by_cases e : (vs.any fun kv => decide (kv.1 = k)) = true
  · rw [if_pos e, if_pos e]; exact r.repl k ry
  · rw [if_neg e, if_neg e]; exact Paired.snoc r ⟨rfl, ry⟩
theorem KV.length {kvs : List (κ × V)} {vs : List (κ × Value)} (r : KV kvs vs) : kvs.length = vs.length := Paired.length r
end
theorem kV_is {P : Program} {w : World} {k : Key} {u : Value} (r : RelV (kV k) u) : (mixKind P w).is k u = true := by
  cases k with
  | inl i => obtain ⟨t, e⟩ := (show ∃ t, u = Value.int i t from r); subst e; exact mixKind_int P w i t
  | inr x => obtain ⟨t, e⟩ := (show ∃ t, u = Value.str x t from r); subst e; exact mixKind_str P w x t
theorem items_are {P : Program} {w : World} : ∀ {ks : List Key} {us : List Value}, Vals (ks.map kV) us -> ItemsAre (mixKind P w) ks us
  | [], _, r => by rw [List.map_nil] at r; cases r; exact .nil
  | k :: ks, _, r => by
    rw [List.map_cons] at r
    cases r with
    | cons h t => exact .cons (kV_is h) (items_are t)
abbrev KT (H : Hp) : List (List Key × V) -> List (List Key × Addr × Value) -> Prop := Paired fun p q => p.1 = q.1 /\ H q.2.1 = some (.tup (p.1.map kV)) /\ RelV p.2 q.2.2
theorem KT.val {H : Hp} {kvs : List (List Key × V)} {xs : List (List Key × Addr × Value)} (r : KT H kvs xs) (k : List Key) : RelO (valV kvs k) ((atKey xs k).map (·.2)) := by
  induction r with
  | nil => exact True.intro
  | @cons p q ps qs h t ih =>
    obtain ⟨h1, _, h2⟩ := h
    by_cases e : p.1 = k
    · have e' : q.1 = k := h1.symm.trans e
      have b : atKey (q :: qs) k = some q.2 := by simp [atKey, List.find?_cons, e']
      rw [valV_pos e, b]; exact h2
    · have e' : ¬ q.1 = k := fun z => e (h1.trans z)
      have b : atKey (q :: qs) k = atKey qs k := by simp [atKey, List.find?_cons, e']
      rw [valV_neg e, b]; exact ih
theorem KT.repl {H : Hp} {kvs : List (List Key × V)} {xs : List (List Key × Addr × Value)} (r : KT H kvs xs) (k : List Key) {y : V} {u : Value} (ry : RelV y u) :
    KT H (kvs.map fun kv => if kv.1 = k then (kv.1, y) else kv) (xs.map (putAt k u)) := by
  induction r with
  | nil => exact .nil
  | @cons p q ps qs h t ih =>
    rw [List.map_cons, List.map_cons]
    refine .cons ?_ ih
    obtain ⟨h1, h2, h3⟩ := h
    unfold putAt
    by_cases e : p.1 = k
    · rw [if_pos e, if_pos (h1.symm.trans e)]; exact ⟨h1, h2, ry⟩
    · rw [if_neg e, if_neg (fun z => e (h1.trans z))]; exact ⟨h1, h2, h3⟩
theorem KT.put {H : Hp} {kvs : List (List Key × V)} {xs : List (List Key × Addr × Value)} (r : KT H kvs xs) (k : List Key) {b : Addr} {y : V} {u : Value} (hb : H b = some (.tup (k.map kV))) (ry : RelV y u) :
    KT H (putK kvs k y) (storedH xs k b u) := by
  have e : (kvs.any fun kv => decide (kv.1 = k)) = (atKey xs k).isSome := by
    rw [valV_any, (r.val k).isSome_eq, Option.isSome_map]
  unfold putK storedH
  rw [e]
  by_cases q : (atKey xs k).isSome = true
  · rw [if_pos q, if_pos q]; exact r.repl k ry
  · rw [if_neg q, if_neg q]; exact Paired.snoc r ⟨rfl, hb, ry⟩
theorem KT.keeps {H H' : Hp} {kvs : List (List Key × V)} {xs : List (List Key × Addr × Value)} (r : KT H kvs xs) (ht : ∀ b ys, H b = some (.tup ys) -> H' b = some (.tup ys)) : KT H' kvs xs :=
  Paired.mapP r fun _ _ z => ⟨z.1, ht _ _ z.2.1, z.2.2⟩
section
variable {P : Program} {w : World} {H : Hp} {h : Heap} {a : Addr}
theorem rd_of {u : HO} (ok : HOk P w H h) (e : Rd H a u) : ObjOk P w H h a u := e.ok ok
theorem dk_rd {kvs : List (Key × V)} (ok : HOk P w H h) (e : Rd H a (.dK kvs)) : kvs.length <= sizeLine /\ (a == sysModules) = false /\ ∃ vs, KV kvs vs /\ h.DictOf (mixKind P w) a vs :=
  show ObjOk P w H h a (.dK kvs) from rd_of ok e
theorem dk_of {kvs : List (Key × V)} (ok : HOk P w H h) (e : H a = some (.dK kvs)) : kvs.length <= sizeLine /\ (a == sysModules) = false /\ ∃ vs, KV kvs vs /\ h.DictOf (mixKind P w) a vs := dk_rd ok (.inl e)
theorem key_of {ks : List Key} (ok : HOk P w H h) (e : H a = some (.tup (ks.map kV))) : (tupleKind (mixKind P w)).is h ks a := by
  obtain ⟨_, its, r, o, h1, h2, n, h3⟩ := (show ObjOk P w H h a (.tup (ks.map kV)) from ok a _ e)
  exact ⟨o, its.toArray, n, h1, h2, h3, by simpa using items_are r⟩
theorem dt_rd {kvs : List (List Key × V)} (ok : HOk P w H h) (e : Rd H a (.dT kvs)) : kvs.length <= sizeLine /\ (a == sysModules) = false /\
    ∃ xs, KT H kvs xs /\ h.DictOfH (tupleKind (mixKind P w)) a xs := by
  obtain ⟨z, y, xs, r, o, es, ep, h1, h2, h3, h4, h5⟩ := (show ObjOk P w H h a (.dT kvs) from rd_of ok e)
  refine ⟨z, y, xs, r, o, es, ep, h1, h2, h3, h4, fun x hx => ?_, h5⟩
  have all : ∀ {l : List (List Key × V)} {m : List (List Key × Addr × Value)}, KT H l m -> ∀ x ∈ m, (tupleKind (mixKind P w)).is h x.1 x.2.1 := by
    intro l m q
    induction q with
    | nil => intro x hx; exact nomatch hx
    | @cons p q ps qs hq t ih =>
      intro x hx
      rcases List.mem_cons.mp hx with e | hx
      · subst e
        exact key_of ok (by rw [<- hq.1]; exact hq.2.1)
      · exact ih x hx
  exact all r x hx
theorem dt_of {kvs : List (List Key × V)} (ok : HOk P w H h) (e : H a = some (.dT kvs)) : kvs.length <= sizeLine /\ (a == sysModules) = false /\
    ∃ xs, KT H kvs xs /\ h.DictOfH (tupleKind (mixKind P w)) a xs := dt_rd ok (.inl e)
end
def DGet (H : Hp) (a : Addr) (y : V) (r : Option V) : Prop :=
  (∃ kvs k, Rd H a (.dK kvs) /\ y = kV k /\ r = valV kvs k) \/ ∃ kvs k b, Rd H a (.dT kvs) /\ y = .ref b /\ H b = some (.tup (k.map kV)) /\ r = valV kvs k
def DPut (H : Hp) (a : Addr) (y v : V) (H' : Hp) : Prop :=
  (∃ kvs k, H a = some (.dK kvs) /\ y = kV k /\ kvs.length < sizeLine /\ H' = upd H a (.dK (putK kvs k v))) \/
  ∃ kvs k b, H a = some (.dT kvs) /\ y = .ref b /\ H b = some (.tup (k.map kV)) /\ kvs.length < sizeLine /\ H' = upd H a (.dT (putK kvs k v))
theorem DPut.t {H : Hp} {a b : Addr} {kvs : List (List Key × V)} {k : List Key} {v : V} (e : H a = some (.dT kvs)) (eb : H b = some (.tup (k.map kV))) (hl : kvs.length < sizeLine) :
    DPut H a (.ref b) v (upd H a (.dT (putK kvs k v))) := .inr ⟨kvs, k, b, e, rfl, eb, hl, rfl⟩
section
variable {X : Cx} {pins : List (Addr × Obj)} {σ : St} {H : Hp} {s : Shared} {a : Addr} {y v : V} {u r : Value} {o : Option V} {A : Around} {E : Value -> Shared -> Prop}
theorem Inv.big (I : Inv X pins σ H s) : sysModules < s.heap.objs.size := by
  have h : mainGlobals < s.heap.objs.size := (I.mod.glob.keeps I.bk).lt
  exact Nat.lt_trans (by decide) h
theorem d_getItem {Q : Value -> Shared -> Prop} (hu : A.units + 1 < cLine) (I : Inv X pins σ H s) (g : DGet H a y (some v)) (ry : RelV y u) (h : ∀ w' s', Inv X pins σ H s' -> RelV v w' -> Q w' s') :
    wpAny (model X.prog X.w) A (getItem (.ref a) u) Q E s := by
  rcases g with ⟨kvs, k, e, ey, l⟩ | ⟨kvs, k, b, e, ey, eb, l⟩
  · subst ey
    obtain ⟨z, hd, vs, rel, dd⟩ := dk_rd I.hok e
    obtain ⟨w', hw, rw'⟩ := RelO.some_of (v := v) (o := valueAt vs k) (by rw [l]; exact rel.val k)
    exact wpAny_getItem_of (kV_is ry) dd.mapOf hw (h w' _ (I.tok _) rw')
  · subst ey
    cases (show u = Value.ref b from ry)
    obtain ⟨z, hd, xs, rel, dd⟩ := dt_rd I.hok e
    obtain ⟨w', hw, rw'⟩ := RelO.some_of (v := v) (o := (atKey xs k).map (·.2)) (by rw [l]; exact rel.val k)
    obtain ⟨p, hp, hp2⟩ := Option.map_eq_some_iff.mp hw
    refine wpAny_getItem_heap (tupleKind_room_in1 hu) (key_of I.hok eb) dd hp ?_
    rw [hp2]
    exact h w' _ (I.tok _) rw'
theorem d_in {Q : Value -> Shared -> Prop} (hu : A.units + 1 < cLine) (I : Inv X pins σ H s) (g : DGet H a y o) (ry : RelV y u) (h : ∀ s', Inv X pins σ H s' -> Q (.bool o.isSome) s') :
    wpAny (model X.prog X.w) A (compareOp .In u (.ref a)) Q E s := by
  rcases g with ⟨kvs, k, e, ey, l⟩ | ⟨kvs, k, b, e, ey, eb, l⟩
  · subst ey
    obtain ⟨z, hd, vs, rel, dd⟩ := dk_rd I.hok e
    refine wpAny_in_of (kV_is ry) hd dd.mapOf ?_
    rw [<- (rel.val k).isSome_eq, <- l]
    exact h _ (I.tok _)
  · subst ey
    cases (show u = Value.ref b from ry)
    obtain ⟨z, hd, xs, rel, dd⟩ := dt_rd I.hok e
    refine wpAny_in_heap (tupleKind_room_in1 hu) (key_of I.hok eb) hd dd ?_
    have q := (rel.val k).isSome_eq
    rw [Option.isSome_map] at q
    rw [<- q, <- l]
    exact h _ (I.tok _)
theorem d_notIn {Q : Value -> Shared -> Prop} (hu : A.units + 1 < cLine) (I : Inv X pins σ H s) (g : DGet H a y o) (ry : RelV y u) (h : ∀ s', Inv X pins σ H s' -> Q (.bool (!o.isSome)) s') :
    wpAny (model X.prog X.w) A (compareOp .NotIn u (.ref a)) Q E s := by
  rcases g with ⟨kvs, k, e, ey, l⟩ | ⟨kvs, k, b, e, ey, eb, l⟩
  · subst ey
    obtain ⟨z, hd, vs, rel, dd⟩ := dk_rd I.hok e
    refine wpAny_notIn_of (kV_is ry) hd dd.mapOf ?_
    rw [<- (rel.val k).isSome_eq, <- l]
    exact h _ (I.tok _)
  · subst ey
    cases (show u = Value.ref b from ry)
    obtain ⟨z, hd, xs, rel, dd⟩ := dt_rd I.hok e
    refine wpAny_notIn_heap (tupleKind_room_in1 hu) (key_of I.hok eb) hd dd ?_
    have q := (rel.val k).isSome_eq
    rw [Option.isSome_map] at q
    rw [<- q, <- l]
    exact h _ (I.tok _)
theorem d_write {h' : Heap} {t' : Nat} {ob : HO} (I : Inv X pins σ H s) (mu : Mut (H a)) (hs : Heap.SameBut a s.heap h') (he : ∃ q, h'.get? a = some q) (new : ObjOk X.prog X.w (upd H a ob) h' a ob) :
    Inv X pins σ (upd H a ob) { s with heap := h', toks := t' } :=
  I.write (x := a) (e := a) mu (.inl rfl) (fun b q hb z => (hs.2 b hb).trans z) he new
theorem dk_new {P : Program} {w : World} {H' : Hp} {h' : Heap} {kvs : List (Key × V)} {vs : List (Key × Value)} (z : kvs.length <= sizeLine) (hd : (a == sysModules) = false) (rel : KV kvs vs) (dd : h'.DictOf (mixKind P w) a vs) :
    ObjOk P w H' h' a (.dK kvs) := ⟨z, hd, vs, rel, dd⟩
theorem d_setItem {H' : Hp} {Q : Unit -> Shared -> Prop} (hu : A.units + 1 < cLine) (I : Inv X pins σ H s) (g : DPut H a y v H') (ry : RelV y u) (rv : RelV v r) (h : ∀ s', Inv X pins σ H' s' -> Q () s') :
    wpAny (model X.prog X.w) A (setItem (.ref a) u r) Q E s := by
  rcases g with ⟨kvs, k, e, ey, l, eH⟩ | ⟨kvs, k, b, e, ey, eb, l, eH⟩
  · subst ey eH
    obtain ⟨z, hd, vs, rel, dd⟩ := dk_of I.hok e
    have hz : vs.length <= sizeLine := by rw [<- rel.length]; exact z
    have hl : (putK kvs k v).length <= sizeLine := by have := length_putK kvs k v; omega
    refine wpAny_setItem_pairs (hsz := hz) (kV_is ry) dd fun h' dd' hs => h _ ?_
    have he : ∃ q, h'.get? a = some q := let ⟨q, _, _, hq, _⟩ := dd'; ⟨q, hq⟩
    exact d_write I (by rw [e]; exact True.intro) hs he (dk_new hl hd (rel.put k rv) dd')
  · subst ey eH
    cases (show u = Value.ref b from ry)
    obtain ⟨z, hd, xs, rel, dd⟩ := dt_of I.hok e
    have hz : xs.length <= sizeLine := by rw [<- Paired.length rel]; exact z
    have hl : (putK kvs k v).length <= sizeLine := by have := length_putK kvs k v; omega
    refine wpAny_setItem_heap (hsz := hz) (tupleKind_room_in1 hu) (key_of I.hok eb) dd fun h' dd' hs => h _ ?_
    obtain ⟨q, es, ep, hq, h2, h3, h4, _, h5⟩ := dd'
    refine d_write I (by rw [e]; exact True.intro) hs ⟨q, hq⟩ ⟨hl, hd, _, (rel.put k eb rv).keeps fun c ys ec => ?_, q, es, ep, hq, h2, h3, h4, h5⟩
    rw [upd_ne (ne_of ec e (fun z => nomatch z))]
    exact ec
end
def NoSl (i : Expr) : Prop := ∀ ov iv, subscripted i false ov iv = operate [ov, iv] (getItem ov iv)
theorem subD_of {prog : Program} {w : World} {A : Around} {E : Value -> Shared -> Prop} {s : Shared} {env : Env} {value slice : Expr} {pos : Pos} {T id : String} {Q : Value -> Shared -> Prop}
    (hl : typeLookup (.type T) "__getitem__" = pure (some (.builtin id))) (hs : NoSl slice)
    (h : wpAny (model prog w) A (eval value env) (fun o s₁ => wpAny (model prog w) A (eval slice env) (fun i s₂ => s₂.TypeIs o T /\ wpAny (model prog w) A (getItem o i) Q E s₂) E s₁) E s) :
    wpAny (model prog w) A (eval (.Subscript value slice pos) env) Q E s := by
  refine Subscript_ (wpAny_mono h (fun o s₁ h₁ => wpAny_mono h₁ (fun i s₂ h₂ => ?_) fun _ _ x => x) fun _ _ x => x)
  obtain ⟨hT, h₂⟩ := h₂
  unfold subscriptTail
  refine wpAny_bind ?_
  rw [getitemInPython_of_ne hT.not_modules]
  refine wpAny_bind (wpAny_specialOf hT hl ?_)
  have fin : wpAny (model prog w) A (subscripted slice false o i) (fun r s₃ => wpAny (model prog w) A (letTemporaryGo value o r >>= fun _ => pure r) Q E s₃) E s₂ := by
    rw [hs o i]
    exact wpAny_operating (wpAny_mono h₂ (fun r s₃ h₃ => wpAny_bind (wpAny_letTemporaryGo (wpAny_pure h₃))) fun _ _ x => x)
  first
    | exact wpAny_pure (wpAny_bind fin)
    | exact wpAny_bind (wpAny_pure (wpAny_bind fin))
    | exact wpAny_bind fin
theorem dict_typeIs {X : Cx} {pins : List (Addr × Obj)} {σ : St} {H : Hp} {s : Shared} {a : Addr} {y : V} {o : Option V} (I : Inv X pins σ H s) (g : DGet H a y o) : s.TypeIs (.ref a) "dict" := by
  rcases g with ⟨kvs, k, e, _, _⟩ | ⟨kvs, k, b, e, _, _, _⟩
  · obtain ⟨_, _, vs, _, dd⟩ := dk_rd I.hok e
    exact dd.typeIs
  · obtain ⟨_, _, xs, _, dd⟩ := dt_rd I.hok e
    exact dd.typeIs
def tDGet (td ty : TE) : TE := fun σ H Q => td σ H fun x H1 => ty σ H1 fun y H2 => ∃ a v, x = .ref a /\ DGet H2 a y (some v) /\ Q v H2
def tDIn (ty td : TE) : TE := fun σ H Q => ty σ H fun y H1 => td σ H1 fun x H2 => ∃ a o, x = .ref a /\ DGet H2 a y o /\ Q (.bl o.isSome) H2
def tDNotIn (ty td : TE) : TE := fun σ H Q => ty σ H fun y H1 => td σ H1 fun x H2 => ∃ a o, x = .ref a /\ DGet H2 a y o /\ Q (.bl (!o.isSome)) H2
def sDPut (td ty tv : TE) : TS := fun D σ H => tv σ H fun v H1 => td σ H1 fun x H2 => ty σ H2 fun y H3 => ∃ a H4, x = .ref a /\ DPut H3 a y v H4 /\ D.nx σ H4
section
variable {X : Cx} {o i e value : Expr} {pos pos' tpos : Pos} {td ty tv : TE}
theorem pe_dget (hu : X.A.units + 1 < cLine) (ho : PE X o td) (hi : PE X i ty) (hs : NoSl i) : PE X (.Subscript o i pos) (tDGet td ty) := by
  intro pins s σ H Q I h
  refine subD_of PySem.F.slot_dict_getitem.lookup hs (thn (ho pins s σ H _ I h) fun u s1 ⟨x, H1, I1, rx, q1⟩ => thn (hi pins s1 σ H1 _ I1 q1) fun iv s2 ⟨y, H2, I2, ry, a, v, ex, g, q2⟩ => ?_)
  subst ex
  obtain rfl : u = Value.ref a := rx
  exact ⟨dict_typeIs I2 g, d_getItem hu I2 g ry fun w' s3 I3 rw' => ⟨v, H2, I3, rw', q2⟩⟩
theorem pc_din (hu : X.A.units + 1 < cLine) (hi : PE X i ty) (ho : PE X o td) : PC X .In i o (tDIn ty td) := by
  intro pins s σ H Q I h
  refine thn (hi pins s σ H _ I h) fun iv s1 ⟨y, H1, I1, ry, q1⟩ => thn (ho pins s1 σ H1 _ I1 q1) fun u s2 ⟨x, H2, I2, rx, a, ov, ex, g, q2⟩ => ?_
  subst ex
  obtain rfl : u = Value.ref a := rx
  exact d_in hu I2 g ry fun s3 I3 => ⟨.bl ov.isSome, H2, I3, rfl, q2⟩
theorem pc_dnotin (hu : X.A.units + 1 < cLine) (hi : PE X i ty) (ho : PE X o td) : PC X .NotIn i o (tDNotIn ty td) := by
  intro pins s σ H Q I h
  refine thn (hi pins s σ H _ I h) fun iv s1 ⟨y, H1, I1, ry, q1⟩ => thn (ho pins s1 σ H1 _ I1 q1) fun u s2 ⟨x, H2, I2, rx, a, ov, ex, g, q2⟩ => ?_
  subst ex
  obtain rfl : u = Value.ref a := rx
  exact d_notIn hu I2 g ry fun s3 I3 => ⟨.bl (!ov.isSome), H2, I3, rfl, q2⟩
theorem ps_dput (hu : X.A.units + 1 < cLine) (ho : PE X o td) (hi : PE X i ty) (hv : PE X value tv) (hs : swapsWith value (some (.Subscript o i pos')) pos.line X.env = pure false) :
    PS X (.Assign [.Subscript o i pos'] value pos) (sDPut td ty tv) := by
  intro pins s σ H D I h
  refine wpAny_Assign_Subscript (thn (hv pins s σ H _ I h) fun r s1 ⟨v, H1, I1, rv, q1⟩ => thn (ho pins s1 σ H1 _ I1 q1) fun u s2 ⟨x, H2, I2, rx, q2⟩ => thn (hi pins s2 σ H2 _ I2 q2) fun iv s3 ⟨y, H3, I3, ry, a, H4, ex, g, q3⟩ => ?_) hs
  subst ex
  obtain rfl : u = Value.ref a := rx
  exact d_setItem hu I3 g ry rv fun s4 I4 => ⟨σ, H4, I4, q3⟩
end
theorem dt_empty {P : Program} {w : World} {H : Hp} (h : Heap) (hb : sysModules < h.objs.size) : ObjOk P w H (h.push { cls := .type "dict", data := .dict #[] }) h.objs.size (.dT []) :=
  ⟨Nat.zero_le _, beq_eq_false_iff_ne.mpr (Ne.symm (Nat.ne_of_lt hb)), [], .nil, _, #[], 0, Heap.get?_push_size _ rfl, ⟨rfl, rfl, rfl⟩, rfl, rfl, List.nodup_nil⟩
def tDNewT : TE := fun _ H Q => ∀ p, H p = none -> Q (.ref p) (upd H p (.dT []))
section
variable {X : Cx} {pos : Pos}
theorem pe_dnewT : PE X (.Dict [] [] pos) tDNewT := fun pins s σ H Q I h =>
  wpAny_Dict_empty ⟨.ref s.heap.objs.size, _, I.laid (a := s.heap.objs.size) (o := .dT []) (t' := s.toks) (fun _ _ q => Heap.get?_push_of_some _ q) (Nat.le_refl _) (dt_empty s.heap I.big), rfl, h _ (I.hok.fresh (Nat.le_refl _))⟩
end
end L2
namespace Att
open PySem PySem.W PySem.Calls PyProof.Rows
end Att
namespace L2
open PySem PySem.Spec PyProof.Rows
end L2
namespace L2
open PySem PySem.Spec PyProof.Rows
end L2
namespace L2
open PySem PySem.Spec PyProof.Rows
end L2
namespace L2
open PySem PySem.Spec PyProof.Rows
def rInD (K : PySem.W.Frag) (n : Nat) (neg : Bool) : R2 := fun x y H Q => ∃ (p : Addr) (ps : List Addr) (e : Addr -> Bool), y = .ref p /\ SqL K H p (ps.map V.ref) /\ (∀ b ∈ ps, Deq K H n (.ref b) x (e b)) /\ Q (.bl (if neg then !ps.any e else ps.any e)) H
def refB (e : Addr -> Bool) : Value -> Bool
  | .ref b => e b
  | _ => false
theorem vals_refs : ∀ {ps : List Addr} {us : List Value}, Vals (ps.map V.ref) us -> us = ps.map Value.ref
  | [], _, .nil => rfl
  | p :: ps, _, .cons r t => by
    have r' := (show _ = Value.ref p from r)
    rw [r', vals_refs t]
    rfl
theorem any_refB (e : Addr -> Bool) (ps : List Addr) : (ps.map Value.ref).any (refB e) = ps.any e := by
  rw [List.any_map]
  rfl
section
variable {X : Cx}
theorem op_inD (K : PySem.W.Frag) (n : Nat) (hu : X.A.units + n + 1 < cLine) (hK : X.K = K := by rfl) : OpR X (compareOp .In) (rInD K n false) := by
  subst hK
  intro pins s σ H x y v u Q I rx ry h
  obtain ⟨p, ps, e, rfl, hq, hd, q⟩ := h
  cases ry
  obtain ⟨its, r, pl, hz⟩ := I.list hq
  have ei := vals_refs r
  subst ei
  refine SeqAt.in_listAt (refB e) pl.isList (fun w hw => ?_) ⟨.bl _, H, I, rfl, ?_⟩
  · obtain ⟨b, hb, rfl⟩ := List.mem_map.mp (show w ∈ ps.map Value.ref by simpa using hw)
    exact eqAt_D I (hd b hb) (by first | omega | (show X.A.units + 1 + n < cLine; omega)) rfl rx
  · rw [show (ps.map Value.ref).toArray.any (refB e) = (ps.map Value.ref).any (refB e) by simp, any_refB]
    exact q
theorem op_notInD (K : PySem.W.Frag) (n : Nat) (hu : X.A.units + n + 1 < cLine) (hK : X.K = K := by rfl) : OpR X (compareOp .NotIn) (rInD K n true) := by
  subst hK
  intro pins s σ H x y v u Q I rx ry h
  obtain ⟨p, ps, e, rfl, hq, hd, q⟩ := h
  cases ry
  obtain ⟨its, r, pl, hz⟩ := I.list hq
  have ei := vals_refs r
  subst ei
  refine SeqAt.notIn_listAt (refB e) pl.isList (fun w hw => ?_) ⟨.bl _, H, I, rfl, ?_⟩
  · obtain ⟨b, hb, rfl⟩ := List.mem_map.mp (show w ∈ ps.map Value.ref by simpa using hw)
    exact eqAt_D I (hd b hb) (by first | omega | (show X.A.units + 1 + n < cLine; omega)) rfl rx
  · rw [show (ps.map Value.ref).toArray.any (refB e) = (ps.map Value.ref).any (refB e) by simp, any_refB]
    exact q
end
end L2
namespace DI
open PySem PyProof.Rows
section
variable {prog : Program} {w : World} {A : Around} {E : Value -> Shared -> Prop} {s : Shared} {d it v : Addr} {o : Obj} {es : Array DictEntry} {ep i : Nat}
theorem ty (ho : s.heap.get? d = some o) (hx : o.ExactDict) : s.TypeIs (.ref d) "dict" := ⟨o, ho, hx.1⟩
theorem keys {Q : Value -> Shared -> Prop} (hd : (d == sysModules) = false) (ho : s.heap.get? d = some o) (hx : o.ExactDict) (hdat : o.data = .dict es ep)
    (hQ : Q (.ref s.heap.objs.size) { s with heap := s.heap.push { cls := .type "dict_keyiterator", data := .fields #[.ref d, .int 0 0, .int es.size 0, .int ep 0] } }) : wpAny (model prog w) A (pyIter (.ref d)) Q E s := by
  have hT := ty ho hx
  refine wpAny_pyIter_slot hT F.slot_dict_iter (wpAny_call_entry F.slot_dict_iter hT F.entry_dict_iter ?_ (F.args_dict_iter_1 _))
  unfold Builtin.«dict.__iter__» Builtin.Dict.dictSlotNone Builtin.Dict.showsAll
  refine wpAny_bind (wpAny_bind (wpAny_notOrdered_dict hT (wpAny_pure (wpAny_bind ?_))))
  refine wpAny_pure (wpAny_bind ?_)
  dsimp only
  rw [if_neg (by intro z; rw [hd] at z; cases z)]
  refine wpAny_pure (wpAny_bind (wpAny_dictEntries ho hdat (wpAny_bind (wpAny_dictEpoch ho hdat ?_))))
  refine wpAny_bind (wpAny_newObj_type (wpAny_pure ⟨_, rfl, "dict_keyiterator", _, ⟨_, Heap.get?_push_size _ rfl, rfl⟩, F.slot_dict_keyiterator_next.lookup, ?_⟩))
  simpa [rawInt] using hQ
theorem keyNext {Q : Option Value -> Shared -> Prop} (hit : s.heap.IsKeyIter it d i es.size ep) (ho : s.heap.get? d = some o) (hdat : o.data = .dict es ep) (hi : i < es.size)
    (hQ : ∀ h', h'.IsKeyIter it d (i + 1) es.size ep -> Heap.SameBut it s.heap h' -> Q (some es[i].key) { s with heap := h' }) : wpAny (model prog w) A (pyNext (.ref it)) Q E s := by
  obtain ⟨oi, hoi, hc, hf⟩ := id hit
  have hT := hit.typeIs
  unfold pyNext
  refine wpAny_bind (wpAny_attempt (wpAny_callSpecial?_slot (name := Str.ofString "__next__") hT F.slot_dict_keyiterator_next (wpAny_call_entry F.slot_dict_keyiterator_next hT F.entry_dict_keyiterator_next ?_ (F.args_dict_keyiterator_next_1 _))))
  refine wpAny_bind (wpAny_pure (wpAny_bind (wpAny_bind ?_)))
  first | refine wpAny_bind (wpAny_typeNameOfWhole_keyiter hT (wpAny_pure (wpAny_bind (wpAny_fieldsOf hoi hf ?_)))) | refine wpAny_bind (wpAny_typeNameOf_keyiter hT (wpAny_pure (wpAny_bind (wpAny_fieldsOf hoi hf ?_))))
  simp only [show Builtin.Dict_items.ownsTuple "dict_keyiterator" = false by decide, Bool.false_eq_true, if_false]
  show wpAny _ _ (if (Value.ref d == Value.none) = true then _ else _) _ _ s
  rw [if_neg (by exact Bool.false_ne_true)]
  refine wpAny_bind (wpAny_pure (wpAny_bind (wpAny_dictEntries ho hdat ?_)))
  rw [if_neg (by simp)]
  refine wpAny_bind (wpAny_pure (wpAny_bind (wpAny_dictEpoch ho hdat ?_)))
  rw [if_neg (by simp)]
  refine wpAny_pure ?_
  simp only [show ¬ ((i : Int) < 0) by omega, if_false, Int.toNat_natCast, Array.getElem?_eq_getElem hi]
  refine wpAny_bind ?_
  first | refine wpAny_bind (wpAny_typeNameOfWhole_keyiter hT (wpAny_pure (wpAny_bind (wpAny_isOneOf_keyiter hT ?_)))) | refine wpAny_bind (wpAny_typeNameOf_keyiter hT (wpAny_pure (wpAny_bind (wpAny_isOneOf_keyiter hT ?_))))
  show wpAny _ _ (setField (.ref it) 1 (rawInt ((i : Int) + 1)) >>= _) _ _ s
  refine wpAny_bind (wpAny_setField hoi hf (by simp) ?_)
  have hit' : (s.heap.update it (Obj.mapFields (·.setIfInBounds 1 (rawInt ((i : Int) + 1))))).IsKeyIter it d (i + 1) es.size ep :=
    ⟨_, Heap.get?_update_self _ hoi (Obj.isFreed_of_fields (Obj.data_mapFields hf _)), (Obj.cls_mapFields ..).trans hc, by rw [Obj.data_mapFields hf]; simp [rawInt]⟩
  refine wpAny_bind (wpAny_holding (wpAny_bind (wpAny_isOneOf_keyiter (s := { s with heap := s.heap.update it (Obj.mapFields (·.setIfInBounds 1 (rawInt ((i : Int) + 1)))) }) hit'.typeIs ?_)))
  show wpAny _ _ (pure es[i].key) _ _ _
  exact wpAny_pure (wpAny_pure ⟨_, rfl, wpAny_pure (hQ _ hit' (Heap.SameBut.update ..))⟩)
theorem keyEnd {Q : Option Value -> Shared -> Prop} (hh : A.handled = none) (hit : s.heap.IsKeyIter it d i es.size ep) (ho : s.heap.get? d = some o) (hdat : o.data = .dict es ep) (hi : es.size <= i)
    (hQ : ∀ h', Heap.ExtBut it s.heap h' -> Q none { s with heap := h' }) : wpAny (model prog w) A (pyNext (.ref it)) Q E s := by
  obtain ⟨oi, hoi, hc, hf⟩ := id hit
  have hT := hit.typeIs
  unfold pyNext
  refine wpAny_bind (wpAny_attempt (wpAny_callSpecial?_slot (name := Str.ofString "__next__") hT F.slot_dict_keyiterator_next (wpAny_call_entry F.slot_dict_keyiterator_next hT F.entry_dict_keyiterator_next ?_ (F.args_dict_keyiterator_next_1 _))))
  refine wpAny_bind (wpAny_pure (wpAny_bind (wpAny_bind ?_)))
  first | refine wpAny_bind (wpAny_typeNameOfWhole_keyiter hT (wpAny_pure (wpAny_bind (wpAny_fieldsOf hoi hf ?_)))) | refine wpAny_bind (wpAny_typeNameOf_keyiter hT (wpAny_pure (wpAny_bind (wpAny_fieldsOf hoi hf ?_))))
  simp only [show Builtin.Dict_items.ownsTuple "dict_keyiterator" = false by decide, Bool.false_eq_true, if_false]
  show wpAny _ _ (if (Value.ref d == Value.none) = true then _ else _) _ _ s
  rw [if_neg (by exact Bool.false_ne_true)]
  refine wpAny_bind (wpAny_pure (wpAny_bind (wpAny_dictEntries ho hdat ?_)))
  rw [if_neg (by simp)]
  refine wpAny_bind (wpAny_pure (wpAny_bind (wpAny_dictEpoch ho hdat ?_)))
  rw [if_neg (by simp)]
  refine wpAny_pure ?_
  simp only [show ¬ ((i : Int) < 0) by omega, if_false, Int.toNat_natCast, Array.getElem?_eq_none hi]
  refine wpAny_bind ?_
  first | refine wpAny_bind (wpAny_typeNameOfWhole_keyiter hT (wpAny_pure ?_)) | refine wpAny_bind (wpAny_typeNameOf_keyiter hT (wpAny_pure ?_))
  show wpAny _ _ (setField (.ref it) 0 .none >>= _) _ _ s
  refine wpAny_bind (wpAny_setField hoi hf (by simp) ?_)
  show wpAny _ _ (newExc (.type "StopIteration") [] >>= _) _ _ _
  refine wpAny_bind ?_
  simp only [newExc, newTuple]
  refine wpAny_bind (wpAny_newObj_type (wpAny_bind (m := firstArgMember _ _) (wpAny_of_eq (a := Value.none) (by first | rfl | (simp only [firstArgMember]; rfl)) (wpAny_newObj_type ?_ (by size_fits)))) (by size_fits))
  simp only [raiseNew]
  refine wpAny_bind (wpAny_handled ?_)
  rw [show A.in1.handled = none from hh]
  refine wpAny_bind (wpAny_pure (wpAny_throw ?_))
  refine wpAny_bind (wpAny_isInstance (b := true) (T := "StopIteration") ⟨_, Heap.get?_push_size _ rfl, rfl⟩ isSubtype_stop ?_)
  exact wpAny_pure (hQ _ (((Heap.SameBut.update ..).extBut.push _).push _))
theorem view (d : Addr) (hd : (d == sysModules) = false) : MeetsIn prog w (Builtin.«dict.items» ⟨[.ref d], []⟩) (fun _ R s => (∃ o, s.heap.get? d = some o /\ o.ExactDict) /\
      R (.ok (.ret (.ref s.heap.objs.size))) { s with heap := s.heap.push { cls := .type "dict_items", data := .fields #[.ref d] } }) :=
  .of_wp fun A R s ⟨⟨o, ho, hx⟩, h⟩ => by
    unfold Builtin.«dict.items» Builtin.Dict.noArgs Builtin.Dict.showsAll
    refine wpAny_bind (wpAny_bind (wpAny_notOrdered_dict (ty ho hx) (wpAny_pure (wpAny_bind ?_))))
    rw [if_neg (by intro z; rw [hd] at z; cases z)]
    exact wpAny_pure (wpAny_bind (wpAny_newObj_type (wpAny_pure ⟨_, rfl, h⟩)))
theorem items {Q : Value -> Shared -> Prop} (hv : s.heap.IsItemsView v d) (ho : s.heap.get? d = some o) (hdat : o.data = .dict es ep)
    (hQ : Q (.ref s.heap.objs.size) { s with heap := s.heap.push { cls := .type "dict_itemiterator", data := .fields #[.none, .bool false, .ref d, .int 0 0, .int es.size 0, .int ep 0, .none, .none] } }) : wpAny (model prog w) A (pyIter (.ref v)) Q E s := by
  obtain ⟨ov, hov, hcv, hdv⟩ := id hv
  refine wpAny_pyIter_slot hv.typeIs F.slot_dict_items_iter (wpAny_call_entry F.slot_dict_items_iter hv.typeIs F.entry_dict_items_iter ?_ (F.args_dict_items_iter_1 _))
  unfold Builtin.«dict_items.__iter__» Builtin.Dict_items.dictOf Builtin.Dict_items.newIterator
  refine wpAny_bind (wpAny_pure (wpAny_bind (wpAny_bind (wpAny_field hov hdv (x := .ref d) rfl (wpAny_pure ?_)))))
  refine wpAny_bind (wpAny_bind (wpAny_dictEntries ho hdat (wpAny_bind (wpAny_dictEpoch ho hdat ?_))))
  simp only [show Builtin.Dict_items.ownsTuple "dict_itemiterator" = true by decide, if_true]
  refine wpAny_newObj_type (wpAny_pure ⟨_, rfl, "dict_itemiterator", _, ⟨_, Heap.get?_push_size _ rfl, rfl⟩, F.slot_dict_itemiterator_next.lookup, ?_⟩)
    (by simp only [sizeOk, Builtin.Dict_items.ownedTupleFields, List.size_toArray, List.length_append, List.length_cons, List.length_nil, sizeLine_eq]; omega)
  simpa [rawInt, Builtin.Dict_items.ownedTupleFields] using hQ
theorem itemNext {ok ov : Value} {Q : Option Value -> Shared -> Prop} (hit : IsItemIter s.heap it d i es.size ep ok ov) (ho : s.heap.get? d = some o) (hdat : o.data = .dict es ep) (hi : i < es.size)
    (hQ : ∀ h', IsItemIterOut h' it d (i + 1) es.size ep es[i].key es[i].val s.heap.objs.size -> h'.get? s.heap.objs.size = some { cls := .type "tuple", data := .seq #[es[i].key, es[i].val] } ->
      (∀ b o, b ≠ it -> s.heap.get? b = some o -> h'.get? b = some o) -> Q (some (.ref s.heap.objs.size)) { s with heap := h' }) : wpAny (model prog w) A (pyNext (.ref it)) Q E s := by
  obtain ⟨hp, g, dr, tk, os⟩ := s
  have hT : Shared.TypeIs ⟨hp, g, dr, tk, os⟩ (.ref it) "dict_itemiterator" := ⟨_, hit, rfl⟩
  unfold pyNext
  refine wpAny_bind (wpAny_attempt (wpAny_callSpecial?_slot (name := Str.ofString "__next__") hT F.slot_dict_itemiterator_next (wpAny_call_entry F.slot_dict_itemiterator_next hT F.entry_dict_itemiterator_next ?_ (F.args_dict_itemiterator_next_1 _))))
  refine wpAny_bind (wpAny_pure (wpAny_bind (wpAny_bind ?_)))
  first | refine wpAny_bind (wpAny_typeNameOfWhole_itemiter hT (wpAny_pure (wpAny_bind (wpAny_fieldsOf hit rfl ?_)))) | refine wpAny_bind (wpAny_typeNameOf_itemiter hT (wpAny_pure (wpAny_bind (wpAny_fieldsOf hit rfl ?_))))
  simp only [show Builtin.Dict_items.ownsTuple "dict_itemiterator" = true by decide, if_true]
  show wpAny _ _ (if (Value.ref d == Value.none) = true then _ else _) _ _ _
  rw [if_neg (by exact Bool.false_ne_true)]
  refine wpAny_bind (wpAny_pure (wpAny_bind (wpAny_dictEntries ho hdat ?_)))
  rw [if_neg (by simp)]
  refine wpAny_bind (wpAny_pure (wpAny_bind (wpAny_dictEpoch ho hdat ?_)))
  rw [if_neg (by simp)]
  refine wpAny_pure ?_
  simp only [show ¬ ((i : Int) < 0) by omega, if_false, Int.toNat_natCast, Array.getElem?_eq_getElem hi]
  refine wpAny_bind ?_
  first | refine wpAny_bind (wpAny_typeNameOfWhole_itemiter hT (wpAny_pure (wpAny_bind (wpAny_isOneOf_itemiter hT ?_)))) | refine wpAny_bind (wpAny_typeNameOf_itemiter hT (wpAny_pure (wpAny_bind (wpAny_isOneOf_itemiter hT ?_))))
  show wpAny _ _ (setField (.ref it) 3 (rawInt ((i : Int) + 1)) >>= _) _ _ _
  refine wpAny_bind (wpAny_setField_rec hit (by simp) fun h1 e1 b1 => ?_)
  replace b1 : Heap.SameBut it hp h1 := b1
  replace e1 : IsItemIter h1 it d (i + 1) es.size ep ok ov := by
    unfold IsItemIter
    rw [show ((i + 1 : Nat) : Int) = (i : Int) + 1 by omega]
    simpa [rawInt] using e1
  have T1 : Shared.TypeIs ⟨h1, g, dr, tk, os⟩ (.ref it) "dict_itemiterator" := ⟨_, e1, rfl⟩
  refine wpAny_bind (wpAny_holding (wpAny_bind (wpAny_isOneOf_itemiter T1 (wpAny_bind (wpAny_isOneOf_itemiter T1 ?_)))))
  show wpAny _ _ (Builtin.Dict_items.pairFromOwner (.ref it) 6 es[i].key es[i].val) _ _ _
  unfold Builtin.Dict_items.pairFromOwner
  refine wpAny_bind (wpAny_newTuple ?_)
  have z1 : h1.objs.size = hp.objs.size := b1.1
  have lt : it < hp.objs.size := Heap.lt_size hit
  have ne : hp.objs.size ≠ it := Nat.ne_of_gt lt
  obtain ⟨h2, eh2⟩ : ∃ h2, h2 = h1.push { cls := .type "tuple", data := .seq #[es[i].key, es[i].val] } := ⟨_, rfl⟩
  have e2 : IsItemIter h2 it d (i + 1) es.size ep ok ov := by rw [eh2]; exact Heap.get?_push_of_some _ e1
  have t2 : h2.get? hp.objs.size = some { cls := .type "tuple", data := .seq #[es[i].key, es[i].val] } := by rw [eh2, <- z1]; exact Heap.get?_push_size _ rfl
  have k2 : ∀ b o, b ≠ it -> hp.get? b = some o -> h2.get? b = some o := fun b o hb e => by rw [eh2]; exact Heap.get?_push_of_some _ (b1.extBut b o hb e)
  show wpAny _ _ (Builtin.Dict_items.ownedTupleIsFree (.ref it) >>= _) _ _ ⟨h1.push _, g, dr, tk, os⟩
  rw [z1, <- eh2]
  refine wpAny_bind ?_
  unfold Builtin.Dict_items.ownedTupleIsFree
  refine wpAny_bind (wpAny_field e2 rfl (x := .none) rfl (wpAny_pure ?_))
  simp only [if_true]
  refine wpAny_bind (wpAny_field e2 rfl (x := ok) rfl (wpAny_bind (wpAny_field e2 rfl (x := ov) rfl (wpAny_bind (wpAny_setField_rec e2 (by simp) fun h3 e3 b3 => ?_)))))
  replace b3 : Heap.SameBut it h2 h3 := b3
  replace e3 : IsItemIter h3 it d (i + 1) es.size ep es[i].key ov := e3
  refine wpAny_bind (wpAny_setField_rec e3 (by simp) fun h4 e4 b4 => ?_)
  replace b4 : Heap.SameBut it h3 h4 := b4
  replace e4 : IsItemIter h4 it d (i + 1) es.size ep es[i].key es[i].val := e4
  refine wpAny_bind (wpAny_setField_rec e4 (by simp) fun h5 e5 b5 => ?_)
  replace b5 : Heap.SameBut it h4 h5 := b5
  replace e5 : IsItemIterOut h5 it d (i + 1) es.size ep es[i].key es[i].val hp.objs.size := e5
  refine wpAny_bind (wpAny_setField_rec e5 (by simp) fun h6 e6 b6 => ?_)
  replace b6 : Heap.SameBut it h5 h6 := b6
  replace e6 : IsItemIterOut h6 it d (i + 1) es.size ep es[i].key es[i].val hp.objs.size := e6
  have kk : ∀ b o, b ≠ it -> h2.get? b = some o -> h6.get? b = some o := fun b o hb e => b6.extBut b o hb (b5.extBut b o hb (b4.extBut b o hb (b3.extBut b o hb e)))
  exact wpAny_bind (wpAny_letGo (wpAny_pure (wpAny_pure ⟨_, rfl, wpAny_pure (hQ h6 e6 (kk _ _ ne t2) fun b o hb e => kk b o hb (k2 b o hb e))⟩)))
theorem itemEnd {ok ov : Value} {Q : Option Value -> Shared -> Prop} (hh : A.handled = none) (hit : IsItemIter s.heap it d i es.size ep ok ov) (ho : s.heap.get? d = some o) (hdat : o.data = .dict es ep) (hi : es.size <= i)
    (hQ : ∀ h', Heap.ExtBut it s.heap h' -> Q none { s with heap := h' }) : wpAny (model prog w) A (pyNext (.ref it)) Q E s := by
  have hT : s.TypeIs (.ref it) "dict_itemiterator" := ⟨_, hit, rfl⟩
  unfold pyNext
  refine wpAny_bind (wpAny_attempt (wpAny_callSpecial?_slot (name := Str.ofString "__next__") hT F.slot_dict_itemiterator_next (wpAny_call_entry F.slot_dict_itemiterator_next hT F.entry_dict_itemiterator_next ?_ (F.args_dict_itemiterator_next_1 _))))
  refine wpAny_bind (wpAny_pure (wpAny_bind (wpAny_bind ?_)))
  first | refine wpAny_bind (wpAny_typeNameOfWhole_itemiter hT (wpAny_pure (wpAny_bind (wpAny_fieldsOf hit rfl ?_)))) | refine wpAny_bind (wpAny_typeNameOf_itemiter hT (wpAny_pure (wpAny_bind (wpAny_fieldsOf hit rfl ?_))))
  simp only [show Builtin.Dict_items.ownsTuple "dict_itemiterator" = true by decide, if_true]
  show wpAny _ _ (if (Value.ref d == Value.none) = true then _ else _) _ _ s
  rw [if_neg (by exact Bool.false_ne_true)]
  refine wpAny_bind (wpAny_pure (wpAny_bind (wpAny_dictEntries ho hdat ?_)))
  rw [if_neg (by simp)]
  refine wpAny_bind (wpAny_pure (wpAny_bind (wpAny_dictEpoch ho hdat ?_)))
  rw [if_neg (by simp)]
  refine wpAny_pure ?_
  simp only [show ¬ ((i : Int) < 0) by omega, if_false, Int.toNat_natCast, Array.getElem?_eq_none hi]
  refine wpAny_bind ?_
  first | refine wpAny_bind (wpAny_typeNameOfWhole_itemiter hT (wpAny_pure ?_)) | refine wpAny_bind (wpAny_typeNameOf_itemiter hT (wpAny_pure ?_))
  show wpAny _ _ (setField (.ref it) 2 .none >>= _) _ _ s
  refine wpAny_bind (wpAny_setField hit rfl (by simp) ?_)
  show wpAny _ _ (newExc (.type "StopIteration") [] >>= _) _ _ _
  refine wpAny_bind ?_
  simp only [newExc, newTuple]
  refine wpAny_bind (wpAny_newObj_type (wpAny_bind (m := firstArgMember _ _) (wpAny_of_eq (a := Value.none) (by first | rfl | (simp only [firstArgMember]; rfl)) (wpAny_newObj_type ?_ (by size_fits)))) (by size_fits))
  simp only [raiseNew]
  refine wpAny_bind (wpAny_handled ?_)
  rw [show A.in1.handled = none from hh]
  refine wpAny_bind (wpAny_pure (wpAny_throw ?_))
  refine wpAny_bind (wpAny_isInstance (b := true) (T := "StopIteration") ⟨_, Heap.get?_push_size _ rfl, rfl⟩ isSubtype_stop ?_)
  exact wpAny_pure (hQ _ (((Heap.SameBut.update ..).extBut.push _).push _))
end
end DI
namespace L2
open PySem PySem.Spec PyProof.Rows
theorem Paired.at' {α β : Type} {F : α -> β -> Prop} : ∀ {l : List α} {m : List β} {i : Nat} {x : α} {y : β}, Paired F l m -> l[i]? = some x -> m[i]? = some y -> F x y
  | _, _, 0, _, _, .cons r _, hx, hy => by cases hx; cases hy; exact r
  | _, _, i + 1, _, _, .cons _ t, hx, hy => Paired.at' (i := i) t hx hy
section
variable {X : Cx} {pins : List (Addr × Obj)} {σ : St} {H : Hp} {s : Shared} {a : Addr}
theorem Inv.hold {kvs : List (List Key × V)} (I : Inv X pins σ H s) (e : H a = some (.dT kvs)) : ∃ o, Inv X pins σ (upd H a (.frz o (.dT kvs))) s := by
  obtain ⟨z, y, xs, r, o, es, ep, h1, h2⟩ := (show ObjOk X.prog X.w H s.heap a (.dT kvs) from I.hok a _ e)
  have ne : ∀ {b : Addr} {u : HO}, H b = some u -> (∀ k, u ≠ .dT k) -> b ≠ a := fun {b u} q n z => by rw [z, e] at q; cases q; exact n _ rfl
  refine ⟨o, I.un (h' := s.heap) (t' := s.toks) ⟨fun b ob q n _ _ => q, fun b ob q n _ _ => ⟨ob.slots, q⟩, fun b ob q n _ => ?_, fun b ob q _ => ⟨ob, q⟩, fun b ts q => ?_, fun b ob u q => ?_, fun b ps q => ⟨#[], ?_⟩⟩ fun b u q => ?_⟩
  · rw [upd_ne (fun z => by rw [z, e] at n; cases n)]; exact n
  · rw [upd_ne (ne q fun k z => by cases z)]; exact q
  · rw [upd_ne (ne q fun k z => by cases z)]; exact q
  · rw [upd_ne (ne q fun k z => by cases z)]; simpa using q
  · have ht : ∀ c ts, H c = some (.tup ts) -> upd H a (.frz o (.dT kvs)) c = some (.tup ts) := fun c ts q => by rw [upd_ne (ne q fun k z => by cases z)]; exact q
    have ho : ∀ c x, H c = some (.own x) -> upd H a (.frz o (.dT kvs)) c = some (.own x) := fun c x q => by rw [upd_ne (ne q fun k z => by cases z)]; exact q
    by_cases hb : b = a
    · subst hb
      rw [upd_same] at q
      cases q
      exact ⟨h1, (I.hok b _ e).stay (fun c v _ q => q) (fun c q => ho c b q) ht⟩
    · rw [upd_ne hb] at q
      exact (I.hok b u q).stay (fun c v _ q => q) (fun c q => ho c b q) ht
theorem Inv.heldAt {o : Obj} {kvs : List (List Key × V)} {es : Array DictEntry} {ep : Nat} (I : Inv X pins σ H s) (e : H a = some (.frz o (.dT kvs))) (hd : o.data = .dict es ep) : s.heap.get? a = some o /\ o.ExactDict /\ (a == sysModules) = false /\ es.size = kvs.length /\
    ∀ (i : Nat) (hi : i < kvs.length) (hj : i < es.size), ∃ b, es[i].key = .ref b /\ H b = some (.tup (kvs[i].1.map kV)) /\ RelV kvs[i].2 es[i].val := by
  obtain ⟨h0, z, y, xs, r, o', es', ep', h1, h2, h3, h4, h5⟩ := (show ObjOk X.prog X.w H s.heap a (.frz o (.dT kvs)) from I.hok a _ e)
  rw [h0] at h1
  cases h1
  rw [hd] at h3
  cases h3
  have hl : kvs.length = xs.length := r.length
  have hs : es.size = xs.length := size_of_entries h4
  refine ⟨h0, h2, y, by omega, fun i hi hj => ?_⟩
  have e1 := entry_at h4 i
  have hx : xs[i]? = some (xs[i]'(by omega)) := List.getElem?_eq_getElem _
  rw [Array.getElem?_eq_getElem hj, hx] at e1
  have e2 := Option.some.inj e1
  have rq := Paired.at' r (List.getElem?_eq_getElem hi) hx
  refine ⟨(xs[i]'(by omega)).2.1, by rw [e2]; rfl, ?_, ?_⟩
  · exact rq.2.1
  · rw [e2]; exact rq.2.2
end
def Itd (a : Addr) (o : Obj) (kvs : List (List Key × V)) : It :=
  ⟨fun i H => H a = some (.frz o (.dT kvs)) /\ i < kvs.length, fun i H x H' => H' = H /\ ∃ b p, kvs[i]? = some p /\ x = .ref b /\ H b = some (.tup (p.1.map kV)), fun i H => H a = some (.frz o (.dT kvs)) /\ kvs.length <= i⟩
def Itp (a : Addr) (o : Obj) (kvs : List (List Key × V)) : It :=
  ⟨fun i H => H a = some (.frz o (.dT kvs)) /\ i < kvs.length, fun i H x H' => ∃ T b p, H T = none /\ kvs[i]? = some p /\ x = .ref T /\ H b = some (.tup (p.1.map kV)) /\ H' = upd H T (.tup [.ref b, p.2]), fun i H => H a = some (.frz o (.dT kvs)) /\ kvs.length <= i⟩
theorem turn_dk {P : Program} {w : World} {K : PySem.W.Frag} {tg : Expr} {a it : Addr} {o : Obj} {kvs : List (List Key × V)} {es : Array DictEntry} {ep : Nat} (hd : o.data = .dict es ep) : Turn P w K tg (Itd a o kvs) [it] it (fun i h => h.IsKeyIter it a i es.size ep) where
  mem := by simp
  obj := fun i h st b hb => by
    have e : b = it := by simpa using hb
    subst e
    obtain ⟨o, e, c, d⟩ := st
    exact ⟨o, e, fun v z => by rw [d] at z; cases z⟩
  keep := fun i h h' st k => st.at fun o e => k it (by simp) o e
  item := by
    intro X hP hw hK hc i pins s σ H E I hf st hg
    subst hP hw hK
    obtain ⟨ha, hi⟩ := hg
    obtain ⟨f0, f1, f2, f3, f4, f5⟩ := hf it (by simp)
    obtain ⟨g0, gx, gm, gs, gi⟩ := I.heldAt ha hd
    have hj : i < es.size := by omega
    obtain ⟨b, kb, tb, _⟩ := gi i hi hj
    refine DI.keyNext st g0 hd hj fun h' st' sb => ?_
    have I1 : Inv X pins σ H { s with heap := h' } := I.turned (t' := s.toks) (fun b o hb e => (sb.2 b hb).trans e) f0 f1 f3 f4 f5
    obtain ⟨o', e, c, d⟩ := id st'
    exact ⟨_, rfl, go_of (s := { s with heap := h' }) e c d (by decide) ⟨.ref b, H, I1, kb, ⟨rfl, b, _, List.getElem?_eq_getElem hi, rfl, tb⟩, st', fun b hb => (hf b hb).1⟩⟩
  done := by
    intro X hP hw hK hc i pins s σ H E I hf st hg
    subst hP hw hK
    obtain ⟨ha, hi⟩ := hg
    obtain ⟨f0, f1, f2, f3, f4, f5⟩ := hf it (by simp)
    obtain ⟨g0, gx, gm, gs, gi⟩ := I.heldAt ha hd
    exact DI.keyEnd (I.ok.hd hc) st g0 hd (by omega) fun h' eb => ⟨rfl, I.turned (t' := s.toks) (fun b o hb e => eb b o hb e) f0 f1 f3 f4 f5⟩
  self := fun _ _ _ _ _ st h => wpAny_pyIter_keyiter st h
theorem entry_itemit : entryFor table "dict_itemiterator.__iter__" = some Builtin.«dict_keyiterator.__iter__» := entryFor_alias (id' := "dict_keyiterator.__iter__") (by kernel_rfl) rfl (by decide +kernel) (by kernel_rfl)
theorem iter_itemit {prog : Program} {w : World} {A : Around} {E : Value -> Shared -> Prop} {s : Shared} {it d : Addr} {i n ep : Nat} {ok ov : Value} {Q : Value -> Shared -> Prop} (hit : IsItemIter s.heap it d i n ep ok ov) (h : Q (.ref it) s) : wpAny (model prog w) A (pyIter (.ref it)) Q E s := by
  have hT : s.TypeIs (.ref it) "dict_itemiterator" := ⟨_, hit, rfl⟩
  refine wpAny_pyIter_slot hT F.slot_dict_itemiterator_iter (wpAny_call_entry F.slot_dict_itemiterator_iter hT entry_itemit ?_ (F.args_dict_itemiterator_iter_1 _))
  show wpAny _ _ (ret (.ref it)) _ _ s
  exact wpAny_pure ⟨_, rfl, "dict_itemiterator", _, hT, F.slot_dict_itemiterator_next.lookup, h⟩
theorem turn_dp {P : Program} {w : World} {K : PySem.W.Frag} {elts : List Expr} {k : Nat} {tp : Pos} {a it : Addr} {o : Obj} {kvs : List (List Key × V)} {es : Array DictEntry} {ep : Nat} (hd : o.data = .dict es ep) : Turn P w K (.Tuple elts k tp) (Itp a o kvs) [it] it (fun i h => ∃ ok ov, IsItemIter h it a i es.size ep ok ov) where
  mem := by simp
  obj := fun i h st b hb => by
    have e : b = it := by simpa using hb
    subst e
    obtain ⟨_, _, e⟩ := st
    exact ⟨_, e, fun v z => by cases z⟩
  keep := fun i h h' st kk => let ⟨ok, ov, e⟩ := st; ⟨ok, ov, kk it (by simp) _ e⟩
  item := by
    intro X hP hw hK hc i pins s σ H E I hf st hg
    subst hP hw hK
    obtain ⟨ha, hi⟩ := hg
    obtain ⟨ok, ov, st⟩ := st
    obtain ⟨g0, gx, gm, gs, gi⟩ := I.heldAt ha hd
    have hj : i < es.size := by omega
    obtain ⟨b, kb, tb, rb⟩ := gi i hi hj
    refine DI.itemNext st g0 hd hj fun h' ho hT hk => ?_
    have ne : ∀ b ∈ [it], b ≠ s.heap.objs.size := fun b hb => by rw [List.mem_singleton.mp hb]; exact Nat.ne_of_lt (Heap.lt_size st)
    have kk : ∀ b o, b ∉ [it] -> s.heap.get? b = some o -> h'.get? b = some o := fun b o hb q => hk b o (fun z => hb (by simp [z])) q
    have I1 : Inv X pins σ (upd H s.heap.objs.size (.tup [.ref b, kvs[i].2])) { s with heap := h', toks := s.toks } := I.yields (vals := [es[i].key, es[i].val]) hf kk (Nat.le_refl _) ⟨_, hT, rfl, _, rfl⟩ (.cons kb (.cons rb .nil)) (by show 2 <= sizeLine; decide)
    have hf1 := fp_upd (o := .tup [.ref b, kvs[i].2]) hf ne
    refine ⟨_, rfl, wpAny_letOwnedTupleGo_items ho fun h'' he'' sb => ?_⟩
    have I2 : Inv X pins σ (upd H s.heap.objs.size (.tup [.ref b, kvs[i].2])) { s with heap := h'', toks := s.toks } := I1.turnedL (t' := s.toks) hf1 fun b o hb q => (sb.2 b fun z => hb (by simp [z])).trans q
    exact ⟨.ref s.heap.objs.size, _, I2, rfl, ⟨_, b, _, I.hok.fresh (Nat.le_refl _), List.getElem?_eq_getElem hi, rfl, tb, rfl⟩, ⟨_, _, he''⟩, fun b hb => (hf1 b hb).1⟩
  done := by
    intro X hP hw hK hc i pins s σ H E I hf st hg
    subst hP hw hK
    obtain ⟨ha, hi⟩ := hg
    obtain ⟨ok, ov, st⟩ := st
    obtain ⟨g0, gx, gm, gs, gi⟩ := I.heldAt ha hd
    exact DI.itemEnd (I.ok.hd hc) st g0 hd (by omega) fun h' eb => ⟨rfl, I.turnedL (t' := s.toks) (ch := [it]) hf fun b o hb q => eb b o (fun z => hb (by simp [z])) q⟩
  self := fun _ _ _ _ _ st h => by obtain ⟨_, _, st⟩ := st; exact iter_itemit st h
section
variable {X : Cx} {tg : Expr}
def iDk (tl : TE) : TI := fun σ H R => tl σ H fun x H1 => ∃ a o kvs, x = .ref a /\ H1 a = some (.frz o (.dT kvs)) /\ R (Itd a o kvs) H1
theorem pi_dk {l : Expr} {tl : TE} (hl : PE X l tl) : PI X tg l (iDk tl) := by
  intro pins s σ H R I h
  refine thn (hl pins s σ H _ I h) fun v s1 ⟨x, H1, I1, r1, q1⟩ => ?_
  obtain ⟨a, o, kvs, e, ha, q⟩ := q1
  subst e
  cases r1
  obtain ⟨es, ep, hd⟩ : ∃ es ep, o.data = .dict es ep := by
    obtain ⟨h0, z, y, xs, r, o', es', ep', h1, h2, h3, h4, h5⟩ := (show ObjOk X.prog X.w H1 s1.heap a (.frz o (.dT kvs)) from I1.hok a _ ha)
    rw [h0] at h1
    cases h1
    exact ⟨_, _, h3⟩
  obtain ⟨g0, gx, gm, gs, gi⟩ := I1.heldAt ha hd
  refine DI.keys gm g0 gx hd ?_
  refine ⟨s1.heap.objs.size, [s1.heap.objs.size], _, _, H1, rfl, I1.kept (t' := s1.toks) fun b o e => Heap.get?_push_of_some _ e, turn_dk hd, ⟨_, Heap.get?_push_size _ rfl, rfl, rfl⟩, fun b hb => ?_, q⟩
  have e : b = s1.heap.objs.size := by simpa using hb
  subst e
  exact I1.fpOk (Nat.le_refl _) (I1.hok.fresh (Nat.le_refl _))
def iDp (tl : TE) : TI := fun σ H R => tl σ H fun x H1 => ∃ a o kvs, x = .ref a /\ H1 a = some (.frz o (.dT kvs)) /\ R (Itp a o kvs) H1
theorem pi_dp {elts : List Expr} {k : Nat} {tp : Pos} {l : Expr} {tl : TE} {apos cpos : Pos} (hl : PE X l tl) (hbase : attributeBase l "items" X.env (eval l X.env) = eval l X.env := by rfl) (hline : (apos.endLine == cpos.line) = true := by rfl) : PI X (.Tuple elts k tp) (.Call (.Attribute l "items" apos) [] [] cpos) (iDp tl) := by
  intro pins s σ H R I h
  refine wpAny_Call_method0_late hbase hline (thn (hl pins s σ H _ I h) fun v s1 ⟨x, H1, I1, r1, q1⟩ => ?_)
  obtain ⟨a, o, kvs, e, ha, q⟩ := q1
  subst e
  cases r1
  obtain ⟨es, ep, hd⟩ : ∃ es ep, o.data = .dict es ep := by
    obtain ⟨h0, z, y, xs, r, o', es', ep', h1, h2, h3, h4, h5⟩ := (show ObjOk X.prog X.w H1 s1.heap a (.frz o (.dT kvs)) from I1.hok a _ ha)
    rw [h0] at h1
    cases h1
    exact ⟨_, _, h3⟩
  obtain ⟨g0, gx, gm, gs, gi⟩ := I1.heldAt ha hd
  refine ⟨"dict", "dict.items", F.plainAttrs_dict, F.slot_dict_items, F.type_dict_items, DI.ty g0 gx, fun b z => by cases z; exact ⟨o, g0, gx.2.1⟩, Calls.callWith_builtin rfl (PySem.evalArgs_none ?_)⟩
  refine call_meetsIn F.slot_dict_items (DI.ty g0 gx) F.entry_dict_items (F.args_dict_items_1 _) (DI.view a gm) ⟨⟨o, g0, gx⟩, ?_⟩
  have I2 : Inv X pins σ H1 { s1 with heap := s1.heap.push { cls := .type "dict_items", data := .fields #[.ref a] } } := I1.kept (t' := s1.toks) fun b o e => Heap.get?_push_of_some _ e
  refine DI.items (s := { s1 with heap := s1.heap.push { cls := .type "dict_items", data := .fields #[.ref a] } }) ⟨_, Heap.get?_push_size _ rfl, rfl, rfl⟩ (Heap.get?_push_of_some _ g0) hd ?_
  refine ⟨_, [_], _, _, H1, rfl, I2.kept (t' := s1.toks) fun b o e => Heap.get?_push_of_some _ e, turn_dp hd, ⟨_, _, Heap.get?_push_size _ rfl⟩, fun b hb => ?_, q⟩
  rw [List.mem_singleton.mp hb]
  exact I2.fpOk (Nat.le_refl _) (I2.hok.fresh (Nat.le_refl _))
end
def sHold (t : TS) : TS := fun D σ H => ∃ a kvs, H a = some (.dT kvs) /\ ∀ o, t D σ (upd H a (.frz o (.dT kvs)))
theorem ps_hold {X : Cx} {s : Stmt} {t : TS} (h : PS X s t) : PS X s (sHold t) := by
  intro pins sh σ H D I q
  obtain ⟨a, kvs, e, k⟩ := q
  obtain ⟨o, I1⟩ := I.hold e
  exact h pins sh σ _ D I1 (k o)
section
variable {K : PySem.W.Frag} {g : TG} {tb : TS} {nx : St -> Hp -> Prop} {rt : V -> Hp -> Prop} {σ : St} {H : Hp} {a : Addr} {o : Obj} {kvs : List (List Key × V)}
theorem for_dk (Pv : Nat -> St -> Hp -> Prop) (h0 : Pv 0 σ H) (hl : ∀ i σ H, Pv i σ H -> H a = some (.frz o (.dT kvs)))
    (go : ∀ i b p σ H, kvs[i]? = some p -> H b = some (.tup (p.1.map kV)) -> Pv i σ H -> g (.ref b) σ H fun σ2 H2 => tb ⟨Pv (i + 1), rt, nx, Pv (i + 1)⟩ σ2 H2) (stop : ∀ σ H, Pv kvs.length σ H -> nx σ H) : ForG (Itd a o kvs) g tb nx rt σ H :=
  for_by2 kvs.length Pv h0 (fun i σ H hi p => ⟨⟨hl i σ H p, hi⟩, fun x H' ⟨e1, b, q, hq, ex, hb⟩ => by subst e1 ex; exact go i b q σ _ hq hb p⟩) fun σ H p => ⟨⟨hl _ σ H p, Nat.le_refl _⟩, stop σ H p⟩
theorem for_dp (Pv : Nat -> St -> Hp -> Prop) (h0 : Pv 0 σ H) (hl : ∀ i σ H, Pv i σ H -> H a = some (.frz o (.dT kvs)))
    (go : ∀ i b T p σ H, kvs[i]? = some p -> H b = some (.tup (p.1.map kV)) -> H T = none -> Pv i σ H -> g (.ref T) σ (upd H T (.tup [.ref b, p.2])) fun σ2 H2 => tb ⟨Pv (i + 1), rt, nx, Pv (i + 1)⟩ σ2 H2) (stop : ∀ σ H, Pv kvs.length σ H -> nx σ H) : ForG (Itp a o kvs) g tb nx rt σ H :=
  for_by2 kvs.length Pv h0 (fun i σ H hi p => ⟨⟨hl i σ H p, hi⟩, fun x H' ⟨T, b, q, hT, hq, ex, hb, e1⟩ => by subst e1 ex; exact go i b T q σ _ hq hb hT p⟩) fun σ H p => ⟨⟨hl _ σ H p, Nat.le_refl _⟩, stop σ H p⟩
variable {tc : TT} {te : TE} {R : Hp -> Prop} {D : Addr}
theorem comp_dk (Pv : Nat -> St -> Hp -> Prop) (h0 : Pv 0 σ H) (hl : ∀ i σ H, Pv i σ H -> H a = some (.frz o (.dT kvs))) (go : ∀ i b p σ H, kvs[i]? = some p -> H b = some (.tup (p.1.map kV)) -> Pv i σ H -> g (.ref b) σ H fun σ3 H3 => tc σ3 H3 fun b H4 =>
      if b = true then te σ3 H4 fun y H5 => ∃ ys, H5 D = some (.lst ys) /\ ys.length < sizeLine /\ Pv (i + 1) σ3 (upd H5 D (.lst (ys ++ [y]))) else Pv (i + 1) σ3 H4) (stop : ∀ σ H, Pv kvs.length σ H -> R H) : CompG (Itd a o kvs) g tc te R D σ H :=
  comp_by kvs.length Pv h0 (fun i σ H hi p => ⟨⟨hl i σ H p, hi⟩, fun x H' ⟨e1, b, q, hq, ex, hb⟩ => by subst e1 ex; exact go i b q σ _ hq hb p⟩) fun σ H p => ⟨⟨hl _ σ H p, Nat.le_refl _⟩, stop σ H p⟩
end
end L2
namespace Srt
open PySem PySem.W PyProof.Rows
section
variable {α β : Type} {n : Nat} {lt : Nat -> Nat -> Bool}
def Runs (n : Nat) (lt : Nat -> Nat -> Bool) : KasT α -> (α -> Prop) -> Prop
  | .ret a, Q => Q a
  | .ask i j k, Q => i < n /\ j < n /\ Runs n lt (k (lt i j)) Q
theorem Runs.bind {f : α -> KasT β} {Q : β -> Prop} : ∀ {t : KasT α}, Runs n lt t (fun a => Runs n lt (f a) Q) -> Runs n lt (t.bind f) Q
  | .ret _, h => h
  | .ask _ _ _, h => ⟨h.1, h.2.1, Runs.bind h.2.2⟩
theorem Runs.mono {Q Q' : α -> Prop} (hq : ∀ a, Q a -> Q' a) : ∀ {t : KasT α}, Runs n lt t Q -> Runs n lt t Q'
  | .ret _, h => hq _ h
  | .ask _ _ _, h => ⟨h.1, h.2.1, Runs.mono hq h.2.2⟩
theorem Runs.wp {cmp : Nat -> Nat -> (Bool -> Shared -> Prop) -> Shared -> Prop} {s : Shared} (hc : ∀ i j C, i < n -> j < n -> C (lt i j) s -> cmp i j C s) {Q : α -> Prop} {G : α -> Shared -> Prop} (hq : ∀ a, Q a -> G a s) : ∀ {t : KasT α}, Runs n lt t Q -> t.kasWp cmp G s
  | .ret _, h => hq _ h
  | .ask _ _ _, h => hc _ _ _ h.1 h.2.1 (Runs.wp hc hq h.2.2)
end
variable {O : KeyOrd} {key : Nat -> O.α} {n : Nat}
def ky (key : Nat -> O.α) (p : Array Nat) (k : Nat) : O.α := key (p.getD k 0)
abbrev ltk (O : KeyOrd) (key : Nat -> O.α) (i j : Nat) : Bool := O.blt (key i) (key j)
theorem ky_congr {p q : Array Nat} {i j : Nat} (h : p[i]? = q[j]?) : ky key p i = ky key q j := by
  unfold ky
  rw [Array.getD_eq_getD_getElem?, Array.getD_eq_getD_getElem?, h]
abbrev PO (n : Nat) (p : Array Nat) : Prop := p.Perm (List.range n).toArray
theorem PO.size {p : Array Nat} (h : PO n p) : p.size = n := by have := h.size_eq; simpa using this
theorem PO.lt {p : Array Nat} (h : PO n p) (h0 : 0 < n) (k : Nat) : p.getD k 0 < n := by
  rw [Array.getD_eq_getD_getElem?]
  cases e : p[k]? with
  | none => exact h0
  | some x =>
    have : x ∈ (List.range n).toArray := h.mem_iff.mp (Array.mem_of_getElem? e)
    simpa using this
theorem PO.rev {p : Array Nat} (h : PO n p) (i j : Nat) : PO n (kas_rev p i j) := (mirror_perm p i j _).trans h
theorem ky_rev {p : Array Nat} {i j : Nat} (hj : j <= p.size) (k : Nat) : ky key (kas_rev p i j) k = if i <= k /\ k < j then ky key p (i + j - 1 - k) else ky key p k := by
  have e := getElem?_mirror_all (i := i) hj k
  by_cases h1 : i <= k /\ k < j
  · rw [if_pos h1] at e ⊢; exact ky_congr e
  · rw [if_neg h1] at e ⊢; exact ky_congr e
theorem ky_reveq {p : Array Nat} {i j : Nat} (hj : j <= p.size) (heq : ∀ k, i <= k -> k < j -> ky key p k = ky key p (j - 1)) (k : Nat) : ky key (kas_rev p i j) k = ky key p k := by
  rw [ky_rev hj]
  split
  · rw [heq _ (by omega) (by omega), heq k (by omega) (by omega)]
  · rfl
def Up (key : Nat -> O.α) (m : Nat) (p : Array Nat) : Prop := ∀ i j, i <= j -> j < m -> O.kle (ky key p i) (ky key p j)
def Dn (key : Nat -> O.α) (m : Nat) (p : Array Nat) : Prop := ∀ i j, i <= j -> j < m -> O.kle (ky key p j) (ky key p i)
theorem Up.one {p : Array Nat} : Up key 1 p := fun i j h1 h2 => by
  have : i = j := by omega
  subst this
  exact KeyOrd.kle_refl _
theorem Up.snoc {m : Nat} {p : Array Nat} (h : Up key m p) (h1 : 1 <= m) (hl : O.kle (ky key p (m - 1)) (ky key p m)) : Up key (m + 1) p := fun i j hij hj => by
  by_cases e : j = m
  · subst e
    by_cases e2 : i = j
    · subst e2; exact KeyOrd.kle_refl _
    · exact KeyOrd.kle_trans (h i (j - 1) (by omega) (by omega)) hl
  · exact h i j hij (by omega)
theorem Dn.snoc {m : Nat} {p : Array Nat} (h : Dn key m p) (h1 : 1 <= m) (hl : O.kle (ky key p m) (ky key p (m - 1))) : Dn key (m + 1) p := fun i j hij hj => by
  by_cases e : j = m
  · subst e
    by_cases e2 : i = j
    · subst e2; exact KeyOrd.kle_refl _
    · exact KeyOrd.kle_trans hl (h i (j - 1) (by omega) (by omega))
  · exact h i j hij (by omega)
theorem asc {p : Array Nat} (hp : PO n p) (h0 : 0 < n) : ∀ (f m : Nat), 1 <= m -> m + f <= n -> Up key m p -> Runs n (ltk O key) (kas_asc p f m) (fun r => m <= r /\ r <= m + f /\ Up key r p /\ (r = m + f \/ O.klt (ky key p r) (ky key p (r - 1))))
  | 0, m, h1, h2, h => ⟨Nat.le_refl _, Nat.le_refl _, h, .inl rfl⟩
  | f + 1, m, h1, h2, h => by
    refine ⟨hp.lt h0 _, hp.lt h0 _, ?_⟩
    cases e : ltk O key (p.getD m 0) (p.getD (m - 1) 0) with
    | true =>
      show Runs _ _ (if (true : Bool) = true then _ else _) _
      rw [if_pos rfl]
      exact ⟨Nat.le_refl _, by omega, h, .inr e⟩
    | false =>
      show Runs _ _ (if (false : Bool) = true then _ else _) _
      rw [if_neg (by decide)]
      refine (asc hp h0 f (m + 1) (by omega) (by omega) (h.snoc h1 e)).mono fun r ⟨a, b, c, d⟩ => ⟨by omega, by omega, c, ?_⟩
      rcases d with d | d
      · exact .inl (by omega)
      · exact .inr d
abbrev Eqs (key : Nat -> O.α) (p : Array Nat) (m q : Nat) : Prop := ∀ i, m - (q + 1) <= i -> i < m -> ky key p i = ky key p (m - 1)
theorem desc (h0 : 0 < n) : ∀ (f : Nat) (p : Array Nat) (m q : Nat), PO n p -> q + 1 <= m -> m + f <= n -> Dn key m p -> Eqs key p m q ->
    Runs n (ltk O key) (kas_desc f p m q) (fun r => PO n r.1 /\ r.2.2 + 1 <= r.2.1 /\ r.2.1 <= n /\ Dn key r.2.1 r.1 /\ Eqs key r.1 r.2.1 r.2.2)
  | 0, p, m, q, hp, h1, h2, h, he => ⟨hp, h1, by simpa using h2, h, he⟩
  | f + 1, p, m, q, hp, h1, h2, h, he => by
    refine ⟨hp.lt h0 _, hp.lt h0 _, ?_⟩
    have one : ∀ p', Eqs key p' (m + 1) 0 := fun p' i a b => by
      have : i = m := by omega
      subst this
      rfl
    cases e : ltk O key (p.getD m 0) (p.getD (m - 1) 0) with
    | true =>
      show Runs _ _ (if (true : Bool) = true then _ else _) _
      rw [if_pos rfl]
      have hn : Dn key (m + 1) p := h.snoc (by omega) (KeyOrd.kle_of_klt e)
      by_cases hq : q > 0
      · rw [if_pos hq]
        have hk := ky_reveq (key := key) (p := p) (i := m - (q + 1)) (j := m) (by rw [hp.size]; omega) he
        refine desc h0 f _ (m + 1) 0 (hp.rev _ _) (by omega) (by omega) (fun i j a b => ?_) (one _)
        rw [hk, hk]
        exact hn i j a b
      · rw [if_neg hq]
        exact desc h0 f _ (m + 1) 0 hp (by omega) (by omega) hn (one _)
    | false =>
      show Runs _ _ (if (false : Bool) = true then _ else _) _
      rw [if_neg (by decide)]
      refine ⟨hp.lt h0 _, hp.lt h0 _, ?_⟩
      cases e2 : ltk O key (p.getD (m - 1) 0) (p.getD m 0) with
      | true =>
        show Runs _ _ (if (true : Bool) = true then _ else _) _
        rw [if_pos rfl]
        exact ⟨hp, h1, by show m <= n; omega, h, he⟩
      | false =>
        show Runs _ _ (if (false : Bool) = true then _ else _) _
        rw [if_neg (by decide)]
        have eq : ky key p m = ky key p (m - 1) := O.total _ _ e e2
        refine desc h0 f p (m + 1) (q + 1) hp (by omega) (by omega) (h.snoc (by omega) e2) fun i a b => ?_
        show ky key p i = ky key p m
        by_cases ei : i = m
        · rw [ei]
        · rw [eq]; exact he i (by omega) (by omega)
abbrev Done (key : Nat -> O.α) (n : Nat) (r : Nat × Array Nat) : Prop := PO n r.2 /\ 1 <= r.1 /\ r.1 <= n /\ Up key r.1 r.2
theorem tail3 {p : Array Nat} {m : Nat} (hp : PO n p) (h1 : 1 <= m) (h2 : m <= n) (h : Dn key m p) : Runs n (ltk O key) (kas_tail3 m n p) (Done key n) := by
  refine Runs.bind ((asc (hp.rev 0 m) (by omega) (n - m) m h1 (by omega) fun i j a b => ?_).mono fun r ⟨a, b, c, d⟩ => ?_)
  · rw [ky_rev (by rw [hp.size]; omega), ky_rev (by rw [hp.size]; omega), if_pos (by omega), if_pos (by omega)]
    exact h _ _ (by omega) (by omega)
  · exact ⟨hp.rev 0 m, by show 1 <= r; omega, by show r <= n; omega, c⟩
theorem descPart {p : Array Nat} {m : Nat} (hp : PO n p) (h1 : 1 <= m) (h2 : m + 1 <= n) (he : ∀ i, i < m -> ky key p i = ky key p (m - 1)) (hl : O.klt (ky key p m) (ky key p (m - 1))) : Runs n (ltk O key) (kas_descPart m n p) (Done key n) := by
  have hd : Dn key m p := fun i j a b => by rw [he i (by omega), he j b]; exact KeyOrd.kle_refl _
  refine Runs.bind ((desc (by omega) (n - (m + 1)) p (m + 1) 0 hp (by omega) (by omega) (hd.snoc h1 (KeyOrd.kle_of_klt hl)) fun i a b => ?_).mono fun r ⟨a, b, c, d, e⟩ => ?_)
  · have : i = m := by omega
    subst this
    rfl
  · split
    · have hk := ky_reveq (key := key) (p := r.1) (i := r.2.1 - (r.2.2 + 1)) (j := r.2.1) (by rw [a.size]; omega) e
      refine tail3 (a.rev _ _) (by omega) c fun i j x y => ?_
      rw [hk, hk]
      exact d i j x y
    · exact tail3 a (by omega) c d
theorem count {p : Array Nat} (hp : PO n p) (h1 : 1 <= n) : Runs n (ltk O key) (kas_count n p) (Done key n) := by
  refine Runs.bind ((asc hp h1 (n - 1) 1 (Nat.le_refl _) (by omega) Up.one).mono fun m ⟨a, b, c, d⟩ => ?_)
  by_cases e : m = n
  · rw [if_pos (by simpa using e)]
    exact ⟨hp, a, by show m <= n; omega, c⟩
  · rw [if_neg (by simpa using e)]
    have hl : O.klt (ky key p m) (ky key p (m - 1)) := d.resolve_left (by omega)
    split
    · refine ⟨hp.lt h1 _, hp.lt h1 _, ?_⟩
      cases e2 : ltk O key (p.getD 0 0) (p.getD (m - 1) 0) with
      | true => show Runs _ _ (if (true : Bool) = true then _ else _) _; rw [if_pos rfl]; exact ⟨hp, a, by show m <= n; omega, c⟩
      | false =>
        show Runs _ _ (if (false : Bool) = true then _ else _) _
        rw [if_neg (by decide)]
        have eqs : ∀ i, i < m -> ky key p i = ky key p (m - 1) := fun i hi =>
          KeyOrd.kle_antisymm (c i (m - 1) (by omega) (by omega)) (KeyOrd.kle_trans (show O.kle (ky key p (m - 1)) (ky key p 0) from e2) (c 0 i (by omega) hi))
        have hk := ky_reveq (key := key) (p := p) (i := 0) (j := m) (by rw [hp.size]; omega) fun k _ hk => eqs k hk
        exact descPart (hp.rev _ _) a (by omega) (fun i hi => by rw [hk, hk]; exact eqs i hi) (by rw [hk, hk]; exact hl)
    · have em : m = 1 := by omega
      subst em
      exact descPart hp (by omega) (by omega) (fun i hi => by rw [show i = 0 by omega]) hl
theorem place {p : Array Nat} {k : Nat} (hp : PO n p) (h0 : 0 < n) (hs : Up key k p) : ∀ (f l r : Nat), r - l <= f -> l <= r -> r <= k -> (∀ i, i < l -> O.kle (ky key p i) (ky key p k)) -> (∀ i, r <= i -> i < k -> O.klt (ky key p k) (ky key p i)) ->
    Runs n (ltk O key) (kas_place p k f l r) (fun l => l <= k /\ (∀ i, i < l -> O.kle (ky key p i) (ky key p k)) /\ ∀ i, l <= i -> i < k -> O.klt (ky key p k) (ky key p i))
  | 0, l, r, h1, h2, h3, ha, hb => ⟨by omega, ha, fun i x y => hb i (by omega) y⟩
  | f + 1, l, r, h1, h2, h3, ha, hb => by
    unfold kas_place
    by_cases e : l ≥ r
    · rw [if_pos e]
      exact ⟨by omega, ha, fun i x y => hb i (by omega) y⟩
    · rw [if_neg e]
      refine ⟨hp.lt h0 _, hp.lt h0 _, ?_⟩
      cases e2 : ltk O key (p.getD k 0) (p.getD ((l + r) / 2) 0) with
      | true =>
        show Runs _ _ (if (true : Bool) = true then _ else _) _
        rw [if_pos rfl]
        exact place hp h0 hs f l ((l + r) / 2) (by omega) (by omega) (by omega) ha fun i x y => KeyOrd.klt_of_klt_of_kle (show O.klt (ky key p k) (ky key p ((l + r) / 2)) from e2) (hs _ _ x y)
      | false =>
        show Runs _ _ (if (false : Bool) = true then _ else _) _
        rw [if_neg (by decide)]
        exact place hp h0 hs f ((l + r) / 2 + 1) r (by omega) (by omega) h3 (fun i x => KeyOrd.kle_trans (hs i ((l + r) / 2) (by omega) (by omega)) e2) hb
theorem ky_bubble {p : Array Nat} {src d : Nat} (hs : src < p.size) (hd : d <= src) (k : Nat) : ky key (bubble p src d) k = if k = src - d then ky key p src else if src - d < k /\ k <= src then ky key p (k - 1) else ky key p k := by
  have e := getElem?_bubble hs d hd k
  split
  · rename_i h; rw [if_pos h] at e; exact ky_congr e
  · rename_i h
    rw [if_neg h] at e
    split
    · rename_i h2; rw [if_pos h2] at e; exact ky_congr e
    · rename_i h2; rw [if_neg h2] at e; exact ky_congr e
theorem bin (h0 : 0 < n) : ∀ (f : Nat) (p : Array Nat) (k : Nat), PO n p -> 1 <= k -> k + f = n -> Up key k p -> Runs n (ltk O key) (kas_bin f p k) (fun p => PO n p /\ Up key n p)
  | 0, p, k, hp, h1, h2, h => by
    have : k = n := by omega
    subst this
    exact ⟨hp, h⟩
  | f + 1, p, k, hp, h1, h2, h => by
    refine Runs.bind ((place hp h0 h k 0 k (by omega) (by omega) (Nat.le_refl _) (fun i z => absurd z (Nat.not_lt_zero _)) fun i x y => absurd x (by omega)).mono fun l ⟨a, b, c⟩ => ?_)
    have hk := ky_bubble (key := key) (p := p) (src := k) (d := k - l) (by rw [hp.size]; omega) (by omega)
    refine bin h0 f _ (k + 1) ((bubble_perm _ _ _).trans hp) (by omega) (by omega) fun i j x y => ?_
    rw [hk, hk]
    have e : k - (k - l) = l := by omega
    rw [e]
    by_cases i1 : i = l
    · rw [if_pos i1]
      by_cases j1 : j = l
      · rw [if_pos j1]; exact KeyOrd.kle_refl _
      · rw [if_neg j1, if_pos (by omega)]
        exact KeyOrd.kle_of_klt (c (j - 1) (by omega) (by omega))
    · rw [if_neg i1]
      by_cases i2 : l < i /\ i <= k
      · rw [if_pos i2, if_neg (by omega), if_pos (by omega)]
        exact h _ _ (by omega) (by omega)
      · rw [if_neg i2]
        by_cases j1 : j = l
        · rw [if_pos j1]; exact b i (by omega)
        · rw [if_neg j1]
          by_cases j2 : l < j /\ j <= k
          · rw [if_pos j2]
            exact h _ _ (by omega) (by omega)
          · rw [if_neg j2]
            exact h _ _ x (by omega)
theorem all (h1 : 1 <= n) : Runs n (ltk O key) (kas_sort n) (fun p => PO n p /\ Up key n p) := by
  refine Runs.bind ((count (Array.Perm.refl _) h1).mono fun r ⟨a, b, c, d⟩ => ?_)
  split
  · have e : max r.1 1 = r.1 := by omega
    rw [e]
    exact bin h1 _ _ _ a b (by omega) d
  · have e : r.1 = n := by omega
    rw [e] at d
    exact ⟨a, d⟩
end Srt
set_option maxHeartbeats 4000000
namespace Srt
open PySem PySem.W PyProof.Rows
def LO : KeyOrd where
  α := List Int
  blt a b := decide (a < b)
  irrefl a := decide_eq_false (List.lt_irrefl a)
  trans a b c h1 h2 := decide_eq_true (List.lt_trans (of_decide_eq_true h1) (of_decide_eq_true h2))
  negTrans a b c h := by
    have h := of_decide_eq_true h
    by_cases h1 : a < b
    · exact .inl (decide_eq_true h1)
    · by_cases h2 : b < c
      · exact .inr (decide_eq_true h2)
      · exact absurd h (List.not_lt.mpr (List.le_trans (List.not_lt.mp h2) (List.not_lt.mp h1)))
  total a b h1 h2 := List.le_antisymm (List.not_lt.mp (of_decide_eq_false h2)) (List.not_lt.mp (of_decide_eq_false h1))
section
variable {prog : Program} {w : World} {A : Around} {E : Value -> Shared -> Prop} {s : Shared} {Q : Bool -> Shared -> Prop}
theorem lex : ∀ {us vs : List Value} {ks js : List Int} {i : Nat}, IntsAre us ks -> IntsAre vs js -> ks.length = js.length -> Q (decide (ks < js)) s -> KatLex prog w A true false Q (us.zip vs) i s
  | _, _, [], [], i, .nil, .nil, _, h => by
    have e : decide (([] : List Int) < []) = false := rfl
    rw [e] at h
    exact h
  | _, _, k :: ks, j :: js, i, .cons _ t hu, .cons _ t' hv, hl, h => by
    refine kat_cons (wpAny_eqBool_int ?_)
    by_cases e : k = j
    · subst e
      rw [show (k == k) = true by simp]
      refine kat_yes (lex hu hv (by simpa using hl) ?_)
      have e2 : decide (k :: ks < k :: js) = decide (ks < js) := by simp [List.cons_lt_cons_iff]
      rw [e2] at h
      exact h
    · rw [show (k == j) = false by simpa using e]
      have e2 : decide (k :: ks < j :: js) = decide (k < j) := by simp [List.cons_lt_cons_iff, e]
      rw [e2] at h
      refine kat_no ?_
      by_cases hi : i = 0
      · subst hi
        exact oneLt_int h
      · rw [show (true && i == 0) = false by simpa using hi]
        exact kat_one _ _ (lt_int h)
theorem list_sort {κ : SortKind} {a : Addr} {vs : List Value} {n : Nat} {P : PySem.Fin -> Shared -> Prop} {lt : Nat -> Nat -> Bool} {G : Array Nat -> Prop} (ho : s.heap.get? a = some (seqObj "list" vs.toArray n)) (h64 : vs.length < 64) (hG : ∀ p, G p -> p.size = vs.length)
    (hk : 2 <= vs.length -> ∀ (h' : Heap), (∀ b o, b ≠ a -> s.heap.get? b = some o -> h'.get? b = some o) -> ∀ (R : SortKind -> Shared -> Prop), R κ { s with heap := h' } -> wpAny (model prog w) A (keyKind' vs.toArray) R (fun _ _ => False) { s with heap := h' })
    (ha : 2 <= vs.length -> ∀ (h' : Heap), (∀ b o, b ≠ a -> s.heap.get? b = some o -> h'.get? b = some o) -> ∀ i j C, i < vs.length -> j < vs.length -> C (lt i j) { s with heap := h' } -> kas_ask prog w A κ vs i j C { s with heap := h' })
    (hr : 2 <= vs.length -> Runs vs.length lt (kas_sort vs.length) G)
    (h : ∀ out : Array Value, (vs.length < 2 /\ out = vs.toArray \/ ∃ p, G p /\ out = (p.toList.map fun i => vs.getD i Value.none).toArray) -> P (.done (.ret .none)) { s with heap := sortedHeap s.heap a vs out }) :
    wpAny (model prog w) A (Builtin.«list.sort» ⟨[.ref a], []⟩) P E s := by
  have hlt : a < s.heap.objs.size := Heap.lt_size ho
  obtain ⟨e1, ho1⟩ : ∃ e1, (s.heap.update a (Obj.mapSeq fun _ => (#[] : Array Value))).get? a = some (seqObj "list" #[] e1) := ⟨_, get?_update_seq ho fun _ => #[]⟩
  have kp : ∀ b o, b ≠ a -> s.heap.get? b = some o -> (((s.heap.update a (Obj.mapSeq fun _ => (#[] : Array Value))).push (seqObj "tuple" vs.toArray 0)).push (seqObj "list" #[] 0)).get? b = some o := fun b o hb e =>
    Heap.get?_push_of_some _ (Heap.get?_push_of_some _ (((Heap.SameBut.update s.heap a (Obj.mapSeq fun _ => (#[] : Array Value))).2 b hb).trans e))
  have ho6 : (((s.heap.update a (Obj.mapSeq fun _ => (#[] : Array Value))).push (seqObj "tuple" vs.toArray 0)).push (seqObj "list" #[] 0)).get? a = some (seqObj "list" #[] e1) := Heap.get?_push_of_some _ (Heap.get?_push_of_some _ ho1)
  rw [list_sort_plain]
  refine wpAny_bind (listItems_at ho rfl (wpAny_bind (listUpdate_at ho rfl (wpAny_bind (seqEpoch_at ho1 rfl (wpAny_bind (wpAny_newTuple (wpAny_bind (wpAny_newList (wpAny_holding ?_) (Nat.zero_le _))) (by show vs.length <= _; rw [sizeLine_eq]; omega))))) (by rw [List.size_toArray, sizeLine_eq]; omega) (Nat.zero_le _))))
  show wpAny (model prog w) A _ P E { s with heap := ((s.heap.update a (Obj.mapSeq fun _ => (#[] : Array Value))).push (seqObj "tuple" vs.toArray 0)).push (seqObj "list" #[] 0) }
  dsimp only
  by_cases h2 : vs.length < 2
  · have h2' : vs.toArray.size < 2 := by rw [List.size_toArray]; exact h2
    rw [if_pos h2', if_pos h2']
    refine wpAny_bind (wpAny_pure ?_)
    rw [StateT.run_pure]
    refine wpAny_bind (wpAny_pure ?_)
    dsimp only
    have eo : Array.map (fun x : Value × Value => x.2) (arrOf (SortSt.mk' general' (vs.toArray.zip vs.toArray) #[] 7 none)) = vs.toArray := by
      show Array.map (fun x : Value × Value => x.2) (vs.toArray.zip vs.toArray) = vs.toArray
      apply Array.toList_inj.mp
      rw [Array.toList_map, Array.toList_zip]
      exact List.map_snd_zip (Nat.le_refl _)
    rw [eo]
    refine wpAny_bind (seqEpoch_at ho6 rfl (wpAny_bind (listUpdate_at ho6 rfl ?_ (Nat.zero_le _) (by rw [List.size_toArray, sizeLine_eq]; omega))))
    simp only [bne_self_eq_false, Bool.false_eq_true, if_false]
    exact wpAny_pure (h _ (.inl ⟨h2, rfl⟩))
  · have h2' : ¬ vs.toArray.size < 2 := by rw [List.size_toArray]; exact h2
    rw [if_neg h2', if_neg h2']
    obtain ⟨s6, es6⟩ : ∃ s6 : Shared, s6 = { s with heap := ((s.heap.update a (Obj.mapSeq fun _ => (#[] : Array Value))).push (seqObj "tuple" vs.toArray 0)).push (seqObj "list" #[] 0) } := ⟨_, rfl⟩
    have ho7 : s6.heap.get? a = some (seqObj "list" #[] e1) := by rw [es6]; exact ho6
    have hk' := hk (by omega) _ kp (fun κ' s0 => κ' = κ /\ s0 = s6) ⟨rfl, es6.symm⟩
    have ha' := ha (by omega) _ kp
    rw [<- es6] at hk' ha' ⊢
    refine wpAny_bind (wpAny_mono hk' (fun κ' s0 hκ => ?_) fun _ _ x => x.elim)
    obtain ⟨rfl, rfl⟩ := hκ
    refine wpAny_bind (wpAny_mono (kat_run (Q := fun st' s' => s' = s0 /\ ∃ p : Array Nat, arrOf st' = p.map (kas_item (vs.toArray.zip vs.toArray)) /\ failedOf st' = none /\ G p) (G := fun p s' => s' = s0 /\ G p)
      rfl (by omega) h64 (fun p' st' s' a1 a2 a3 a4 => ⟨a4.1, p', a2, a3, a4.2⟩) (Runs.wp ha' (fun p hp => ⟨rfl, hp⟩) (hr (by omega)))) ?_ fun _ _ e => e)
    rintro ⟨⟨⟩, st'⟩ s' ⟨rfl, p, har, hf, hp⟩
    dsimp only
    have hsz : (List.toArray (p.toList.map fun i => vs.getD i Value.none)).size = vs.length := by rw [List.size_toArray, List.length_map, Array.length_toList, hG p hp]
    rw [kat_snds rfl har]
    refine wpAny_bind (seqEpoch_at ho7 rfl (wpAny_bind (listUpdate_at ho7 rfl ?_ (Nat.zero_le _) (Nat.le_trans (Nat.le_of_eq hsz) (by rw [sizeLine_eq]; omega)))))
    rw [hf]
    simp only [bne_self_eq_false, Bool.false_eq_true, if_false]
    have hh := h _ (.inr ⟨p, hp, rfl⟩)
    rw [es6]
    exact wpAny_pure hh
theorem sorted_any {κ : SortKind} {l : Addr} {vs : List Value} {Q : Value -> Shared -> Prop} {lt : Nat -> Nat -> Bool} {G : Array Nat -> Prop} (hl : s.heap.IsList l vs.toArray) (h64 : vs.length < 64) (hG : ∀ p, G p -> p.size = vs.length)
    (hk : 2 <= vs.length -> ∀ (A : Around) (h' : Heap), (∀ b o, s.heap.get? b = some o -> h'.get? b = some o) -> ∀ (R : SortKind -> Shared -> Prop), R κ { s with heap := h' } -> wpAny (model prog w) A (keyKind' vs.toArray) R (fun _ _ => False) { s with heap := h' })
    (ha : 2 <= vs.length -> ∀ (A : Around) (h' : Heap), (∀ b o, s.heap.get? b = some o -> h'.get? b = some o) -> ∀ i j C, i < vs.length -> j < vs.length -> C (lt i j) { s with heap := h' } -> kas_ask prog w A κ vs i j C { s with heap := h' })
    (hr : 2 <= vs.length -> Runs vs.length lt (kas_sort vs.length) G)
    (h : ∀ out : Array Value, (vs.length < 2 /\ out = vs.toArray \/ ∃ p, G p /\ out = (p.toList.map fun i => vs.getD i Value.none).toArray) -> Q (.ref (s.heap.objs.size + 1)) { s with heap := sortedAll s.heap vs out }) :
    wpAny (model prog w) A (call (.builtin "sorted") [.ref l]) Q E s := by
  refine Calls.call_function_entry kind_sorted plain_sorted entry_sorted (args_sorted1 _) ?_
  unfold Builtin.«sorted»
  refine wpAny_bind (m := checkCount "sorted" 1 1 _) (wpAny_pure (wpAny_bind (collect_list hl (wpAny_bind (wpAny_newList ?_ (by rw [sizeLine_eq]; omega))) (by rw [sizeLine_eq]; omega))))
  have hsz : ((s.heap.push (seqObj "list" #[] 0)).update s.heap.objs.size (Obj.mapSeq (· ++ vs.toArray))).objs.size = s.heap.objs.size + 1 := by
    rw [Heap.size_update, size_push']
  have hoL : (((s.heap.push (seqObj "list" #[] 0)).update s.heap.objs.size (Obj.mapSeq (· ++ vs.toArray))).push (seqObj "list" vs.toArray 0)).get? (s.heap.objs.size + 1) = some (seqObj "list" vs.toArray 0) := by
    rw [<- hsz]; exact Heap.get?_push_size _ rfl
  have kp : ∀ b o, s.heap.get? b = some o -> (((s.heap.push (seqObj "list" #[] 0)).update s.heap.objs.size (Obj.mapSeq (· ++ vs.toArray))).push (seqObj "list" vs.toArray 0)).get? b = some o := fun b o q => by
    have hlt : b < s.heap.objs.size := Heap.lt_size q
    rw [Heap.get?_push_ne _ _ _ (by rw [hsz]; exact Nat.ne_of_lt (Nat.lt_succ_of_lt hlt)), Heap.get?_update_ne _ _ _ _ (Nat.ne_of_lt hlt), Heap.get?_push_ne _ _ _ (Nat.ne_of_lt hlt)]
    exact q
  have kq : ∀ b o, s.heap.get? b = some o -> b ≠ s.heap.objs.size + 1 := fun b o q => Nat.ne_of_lt (Nat.lt_succ_of_lt (Heap.lt_size q))
  show wpAny _ _ _ _ _ { s with heap := ((s.heap.push (seqObj "list" #[] 0)).update s.heap.objs.size (Obj.mapSeq (· ++ vs.toArray))).push (seqObj "list" vs.toArray 0) }
  rw [hsz]
  refine wpAny_bind (wpAny_holding (wpAny_call_entry slot_list_sort ⟨_, hoL, rfl⟩ entry_list_sort (list_sort (s := { s with heap := _ }) hoL h64 hG (fun h2 h' k => hk h2 _ h' fun b o q => k b o (kq b o q) (kp b o q)) (fun h2 h' k => ha h2 _ h' fun b o q => k b o (kq b o q) (kp b o q)) hr fun out ho => ⟨_, rfl, ?_⟩) (args_list_sort _)))
  exact wpAny_pure ⟨_, rfl, h out ho⟩
end
end Srt
namespace L2
open PySem PySem.Spec PyProof.Rows PySem.W
theorem pw_two {α : Type} {R : α -> α -> Prop} : ∀ {l : List α}, l.length < 2 -> l.Pairwise R
  | [], _ => .nil
  | [_], _ => List.pairwise_singleton _ _
  | _ :: _ :: _, h => absurd h (by simp)
theorem perm_getD {α : Type} (l : List α) (d : α) : (List.range l.length).map (fun i => l.getD i d) = l := by
  apply List.ext_getElem
  · simp
  · intro i h1 h2
    simp [List.getD_eq_getElem?_getD, h2]
def rSortT (K : PySem.W.Frag) : List V -> Hp -> VK -> Prop := fun xs H Q => ∃ (p : Addr) (l : List (Addr × List Int)) (m : Nat), xs = [.ref p] /\ SqL K H p (l.map fun x => V.ref x.1) /\ l.length < 64 /\ 1 <= m /\ (∀ x ∈ l, H x.1 = some (.tup (x.2.map V.int)) /\ x.2.length = m) /\
  ∀ (q : Addr) (l' : List (Addr × List Int)), H q = none -> l'.Perm l -> l'.Pairwise (fun a b => ¬ b.2 < a.2) -> Q (.ref q) (upd H q (.lst (l'.map fun x => V.ref x.1)))
theorem tup_ints {X : Cx} {pins : List (Addr × Obj)} {σ : St} {H : Hp} {s : Shared} {b : Addr} {ks : List Int} (I : Inv X pins σ H s) (e : H b = some (.tup (ks.map V.int))) : ∃ (o : Obj) (us : List Value) (n : Nat), s.heap.get? b = some o /\ o.cls = .type "tuple" /\ o.data = .seq us.toArray n /\ IntsAre us ks := by
  obtain ⟨_, its, r, o, h1, h2, n, h3⟩ := (show ObjOk X.prog X.w H s.heap b (.tup (ks.map V.int)) from I.hok b _ e)
  exact ⟨o, its, n, h1, h2, h3, intsAre_of r⟩
theorem ints_len {us : List Value} {ks : List Int} (h : IntsAre us ks) : us.length = ks.length := by
  induction h with
  | nil => rfl
  | cons _ _ _ ih => simp [ih]
section
variable {X : Cx}
theorem sortTK (K : PySem.W.Frag) (hK : X.K = K := by rfl) : CallR X (.builtin "sorted") (rSortT K) := by
  subst hK
  intro pins s σ H xs us Q I r h
  obtain ⟨p, l, m, rfl, hq, h64, hm, hl, q⟩ := h
  obtain ⟨u, rfl, rx⟩ := vals1 r
  cases rx
  obtain ⟨its, rv, pl, hz⟩ := I.list hq
  have ei : its = (l.map (·.1)).map Value.ref := vals_refs (by rw [List.map_map]; exact rv)
  have hn : its.length = l.length := by rw [ei]; simp
  have big := line_big
  have gd : ∀ i (hi : i < l.length), its.getD i Value.none = .ref l[i].1 := fun i hi => by rw [ei]; simp [List.getD_eq_getElem?_getD, hi]
  refine Srt.sorted_any (κ := tuples' true) (lt := Srt.ltk Srt.LO fun i => (l.map (·.2)).getD i []) (G := fun p => Srt.PO its.length p /\ Srt.Up (O := Srt.LO) (fun i => (l.map (·.2)).getD i []) its.length p) pl.isList (by omega) (fun p hp => hp.1.size) ?_ ?_ (fun h2 => Srt.all (by omega)) ?_
  · intro h2 A h' kp R hR
    have I' : Inv X pins σ H { s with heap := h' } := I.kept (t' := s.toks) kp
    obtain ⟨fs, kt, hf⟩ : ∃ fs : List Value, KatTups h' its fs /\ fs.length = its.length /\ ∀ v ∈ fs, ∃ n t, v = Value.int n t := by
      rw [ei]
      clear ei hn gd rv h2 q h64 hq hz pl
      induction l with
      | nil => exact ⟨[], trivial, rfl, fun v hv => nomatch hv⟩
      | cons x l ih =>
        obtain ⟨fs, a1, a2, a3⟩ := ih fun y hy => hl y (List.mem_cons_of_mem _ hy)
        obtain ⟨e1, e2⟩ := hl x (.head _)
        obtain ⟨o, us, n, g1, g2, g3, g4⟩ := tup_ints I' e1
        have hlen := ints_len g4
        match us, x.2, g4, hlen, e2 with
        | _, _, .cons k t hr, _, _ =>
          refine ⟨.int k t :: fs, KatTups.cons g1 g2 g3 (by simp) a1, by simpa using a2, fun v hv => ?_⟩
          rcases List.mem_cons.mp hv with rfl | hv
          · exact ⟨_, _, rfl⟩
          · exact a3 v hv
        | _, _, .nil, _, e2 => simp at e2; omega
    refine kat_kind (s := { s with heap := h' }) kt (by omega) (T := .type "int") (fun v hv => ?_) (by decide) (by rw [show (Value.type "int" != Value.type "tuple") = true by decide]; exact hR)
    obtain ⟨n, t, rfl⟩ := hf.2 v hv
    exact .now
  · intro h2 A h' kp i j C hi hj hC
    have I' : Inv X pins σ H { s with heap := h' } := I.kept (t' := s.toks) kp
    unfold kas_ask
    rw [gd i (by omega), gd j (by omega)]
    obtain ⟨a1, a2⟩ := hl l[i] (List.getElem_mem _)
    obtain ⟨b1, b2⟩ := hl l[j] (List.getElem_mem _)
    obtain ⟨o, us, n, g1, g2, g3, g4⟩ := tup_ints I' a1
    obtain ⟨o', us', n', g1', g2', g3', g4'⟩ := tup_ints I' b1
    have l1 := ints_len g4
    have l2 := ints_len g4'
    refine kat_lt (s := { s with heap := h' }) g1 g3 g1' g3' ?_
    rw [show decide (us.toArray.size < us'.toArray.size) = false by simp; omega]
    refine Srt.lex (s := { s with heap := h' }) g4 g4' (by omega) ?_
    have e1 : (l.map (·.2)).getD i [] = l[i].2 := by simp [List.getD_eq_getElem?_getD, show i < l.length by omega]
    have e2 : (l.map (·.2)).getD j [] = l[j].2 := by simp [List.getD_eq_getElem?_getD, show j < l.length by omega]
    have hC' : C (decide ((l.map (·.2)).getD i [] < (l.map (·.2)).getD j [])) { s with heap := h' } := hC
    rw [e1, e2] at hC'
    exact hC'
  · intro out ho
    obtain ⟨l', hp, ho', hs⟩ : ∃ l' : List (Addr × List Int), l'.Perm l /\ out.toList = l'.map (fun x => Value.ref x.1) /\ l'.Pairwise (fun a b => ¬ b.2 < a.2) := by
      rcases ho with ⟨h2, rfl⟩ | ⟨pp, ⟨po, up⟩, rfl⟩
      · refine ⟨l, List.Perm.refl _, by rw [ei]; simp, ?_⟩
        exact pw_two (by omega)
      · have po' : pp.toList.Perm (List.range l.length) := by rw [<- hn]; simpa using po.toList
        refine ⟨pp.toList.map fun i => l.getD i (0, []), by have := po'.map fun i => l.getD i (0, []); rwa [perm_getD] at this, ?_, ?_⟩
        · rw [List.map_map]
          refine List.map_congr_left fun i hi => ?_
          have : i < l.length := by simpa using po'.mem_iff.mp hi
          rw [gd i this]
          simp [List.getD_eq_getElem?_getD, this]
        · rw [List.pairwise_map]
          refine List.pairwise_iff_getElem.mpr fun i j hi hj hij => ?_
          have hs : pp.size = its.length := po.size
          have hi' : i < pp.size := by simpa using hi
          have hj' : j < pp.size := by simpa using hj
          have this : Srt.LO.blt _ _ = false := up i j (by omega) (by omega)
          have g : ∀ k (hk : k < pp.size), Srt.ky (O := Srt.LO) (fun i => (l.map (·.2)).getD i []) pp k = (l.getD (pp.toList[k]'(by simpa using hk)) (0, [])).2 := fun k hk => by
            unfold Srt.ky
            simp only [Array.getD, hk, dif_pos, Array.getElem_toList]
            have hb : pp[k] < l.length := by
              have : pp[k] ∈ pp.toList := by simp
              simpa using po'.mem_iff.mp this
            show (l.map (·.2)).getD pp[k] [] = _
            simp only [List.getD_eq_getElem?_getD, List.getElem?_map, List.getElem?_eq_getElem hb, Option.map_some, Option.getD_some]
          rw [g i hi', g j hj'] at this
          exact of_decide_eq_false this
    obtain ⟨e, he⟩ := sortedAll_at s.heap its out
    refine ⟨.ref (s.heap.objs.size + 1), upd H (s.heap.objs.size + 1) (.lst (l'.map fun x => V.ref x.1)), I.laid (t' := s.toks) (fun _ _ => sortedAll_old) (Nat.le_succ _) ⟨?_, out.toList, e, ?_, ?_⟩, rfl, q _ _ (I.hok.fresh (Nat.le_succ _)) hp hs⟩
    · have := hp.length_eq
      rw [List.length_map]
      omega
    · rw [ho']
      clear ho' hs hp
      induction l' with
      | nil => exact .nil
      | cons x l' ih => exact .cons rfl ih
    · simpa [seqObj] using he
end
end L2
namespace L2
open PySem PySem.Spec PyProof.Rows
theorem hu1_of {k : Nat} {A : Around} (hr : Room k A) : A.units + 1 < cLine := by have := hr.un; omega
section
variable {σ : St} {H : Hp} {Q : VK} {td ty tv : TE} {nx : St -> Hp -> Prop} {rt : V -> Hp -> Prop} {bk ct : St -> Hp -> Prop}
theorem r_dnew (q : ∀ p, H p = none -> Q (.ref p) (upd H p (.dT []))) : tDNewT σ H Q := q
theorem r_dget (q : td σ H fun x H1 => ty σ H1 fun y H2 => ∃ a v, x = .ref a /\ DGet H2 a y (some v) /\ Q v H2) : tDGet td ty σ H Q := q
theorem r_din (q : ty σ H fun y H1 => td σ H1 fun x H2 => ∃ a o, x = .ref a /\ DGet H2 a y o /\ Q (.bl o.isSome) H2) : tDIn ty td σ H Q := q
theorem r_dnin (q : ty σ H fun y H1 => td σ H1 fun x H2 => ∃ a o, x = .ref a /\ DGet H2 a y o /\ Q (.bl (!o.isSome)) H2) : tDNotIn ty td σ H Q := q
theorem r_dput (q : tv σ H fun v H1 => td σ H1 fun x H2 => ty σ H2 fun y H3 => ∃ a H4, x = .ref a /\ DPut H3 a y v H4 /\ nx σ H4) : sDPut td ty tv ⟨nx, rt, bk, ct⟩ σ H := q
theorem r_hold {t : TS} {D : Ends} (q : ∃ a kvs, H a = some (.dT kvs) /\ ∀ o, t D σ (upd H a (.frz o (.dT kvs)))) : sHold t D σ H := q
theorem r_dk {R : It -> Hp -> Prop} (q : td σ H fun x H1 => ∃ a o kvs, x = .ref a /\ H1 a = some (.frz o (.dT kvs)) /\ R (Itd a o kvs) H1) : iDk td σ H R := q
theorem r_dp {R : It -> Hp -> Prop} (q : td σ H fun x H1 => ∃ a o kvs, x = .ref a /\ H1 a = some (.frz o (.dT kvs)) /\ R (Itp a o kvs) H1) : iDp td σ H R := q
end
theorem r_augN {i : Nat} {v : V} {te : TE} {ip : V -> V -> Hp -> VK -> Prop} {σ : St} {H : Hp} {nx : St -> Hp -> Prop} {rt : V -> Hp -> Prop} {bk ct : St -> Hp -> Prop} (h : σ[i]? = some (some v)) (q : te σ H fun y H1 => ip v y H1 fun z H2 => nx (σ.set i (some z)) H2) : tAug i te ip ⟨nx, rt, bk, ct⟩ σ H := ⟨v, h, q⟩
theorem r_while {c : TT} {tb : TS} {σ : St} {H : Hp} {nx : St -> Hp -> Prop} {rt : V -> Hp -> Prop} {bk ct : St -> Hp -> Prop} (W : Nat -> St -> Hp -> Prop) (m : Nat) (h0 : W m σ H)
    (go : ∀ m σ H, W m σ H -> c σ H fun b H1 => if b = true then ∃ N : St -> Hp -> Prop, (∀ σ' H', N σ' H' -> ∃ m', m' < m /\ W m' σ' H') /\ tb ⟨N, rt, nx, N⟩ σ H1 else nx σ H1) : tWhile c tb ⟨nx, rt, bk, ct⟩ σ H := ⟨W, ⟨m, h0⟩, go⟩
theorem pi_dkK {X : Cx} {tg l : Expr} {tl : TE} (K : PySem.W.Frag) (hl : PE X l tl) : PI X tg l (iDk tl) := pi_dk hl
theorem pi_dpK {X : Cx} {elts : List Expr} {k : Nat} {tp : Pos} {l : Expr} {tl : TE} {apos cpos : Pos} (K : PySem.W.Frag) (hl : PE X l tl) (hbase : attributeBase l "items" X.env (eval l X.env) = eval l X.env := by rfl) (hline : (apos.endLine == cpos.line) = true := by rfl) : PI X (.Tuple elts k tp) (.Call (.Attribute l "items" apos) [] [] cpos) (iDp tl) := pi_dp hl hbase hline
end L2
namespace Ce
open L2 PySem PySem.Spec PyProof.Rows
def Sd.ns (s : Sd) : List Int := [s.rm, s.tk, s.op, s.b, s.wt]
def Sd.key (s : Sd) : List Key := [.inl s.rm, .inl s.tk, .inl s.op, .inl s.b, .inl s.wt]
theorem Sd.ns_inj {a b : Sd} (h : a.ns = b.ns) : a = b := by
  cases a; cases b; simp only [Sd.ns, List.cons.injEq, and_true] at h; obtain ⟨h1, h2, h3, h4, h5⟩ := h; subst h1 h2 h3 h4 h5; rfl
theorem Sd.key_inj {a b : Sd} (h : a.key = b.key) : a = b := by
  cases a; cases b; simp only [Sd.key, List.cons.injEq, Sum.inl.injEq, and_true] at h; obtain ⟨h1, h2, h3, h4, h5⟩ := h; subst h1 h2 h3 h4 h5; rfl
theorem Sd.vs_inj {a b : Sd} (h : a.vs = b.vs) : a = b := by
  cases a; cases b; simp only [Sd.vs, List.cons.injEq, V.int.injEq, and_true] at h; obtain ⟨h1, h2, h3, h4, h5⟩ := h; subst h1 h2 h3 h4 h5; rfl
instance : DecidableEq Sd := fun a b => decidable_of_iff (a.ns = b.ns) ⟨Sd.ns_inj, fun h => by rw [h]⟩
def SAt (H : Hp) (p : Addr) (s : Sd) : Prop := H p = some (.tup s.vs)
theorem SAt.mono {H H' : Hp} (s : TSame H H') {p : Addr} {x : Sd} (h : SAt H p x) : SAt H' p x := s _ _ h
theorem SAt.put {H : Hp} {D : Addr} {xs : List V} {o : HO} (hD : H D = some (.lst xs)) {p : Addr} {x : Sd} (h : SAt H p x) : SAt (upd H D o) p x := TSame.lst hD _ _ h
theorem deq_sd {K : PySem.W.Frag} {H : Hp} {a b : Addr} {s t : Sd} (ha : SAt H a s) (hb : SAt H b t) : Deq K H 1 (.ref a) (.ref b) (decide (s = t)) := by
  by_cases e : a = b
  · subst e
    have : s = t := Sd.vs_inj (by have h := ha.symm.trans hb; simpa using h)
    rw [decide_eq_true this]
    exact .same a
  · have h := Deq.tup (K := K) (n := 0) (e := fun j => eqV (s.vs.getD j .non) (t.vs.getD j .non)) e (SqT.of ha) (SqT.of hb) fun j h1 h2 => .flat (by
        have : j < 5 := h1
        obtain rfl | rfl | rfl | rfl | rfl : j = 0 \/ j = 1 \/ j = 2 \/ j = 3 \/ j = 4 := by omega
        all_goals rfl) (by
        have : j < 5 := h1
        obtain rfl | rfl | rfl | rfl | rfl : j = 0 \/ j = 1 \/ j = 2 \/ j = 3 \/ j = 4 := by omega
        all_goals rfl)
    have e2 : ((List.range (min s.vs.length t.vs.length)).all (fun j => eqV (s.vs.getD j .non) (t.vs.getD j .non)) && s.vs.length == t.vs.length) = decide (s = t) := by
      have e3 : decide (s = t) = (decide (s.rm = t.rm) && (decide (s.tk = t.tk) && (decide (s.op = t.op) && (decide (s.b = t.b) && decide (s.wt = t.wt))))) := by
        cases s; cases t; simp [Bool.decide_and]
      rw [e3]
      show ((eqV (.int s.rm) (.int t.rm) && (eqV (.int s.tk) (.int t.tk) && (eqV (.int s.op) (.int t.op) && (eqV (.int s.b) (.int t.b) && (eqV (.int s.wt) (.int t.wt) && true))))) && true) = _
      simp [eqV]
      rfl
    rw [e2] at h
    exact h
def sdOf (H : Hp) (b : Addr) : Option Sd := match H b with
  | some (.tup [.int r, .int t, .int o, .int bb, .int w]) => some ⟨r, t, o, bb, w⟩
  | _ => none
theorem sdOf_at {H : Hp} {b : Addr} {s : Sd} (h : SAt H b s) : sdOf H b = some s := by
  unfold sdOf
  rw [h]
  rfl
theorem any_sd {H : Hp} {s : Sd} : ∀ {ps : List Addr} {sts : List Sd}, Rows SAt H ps sts -> (ps.any fun b => decide (sdOf H b = some s)) = decide (s ∈ sts)
  | [], [], _ => by simp
  | [], _ :: _, h => by simp [Rows] at h
  | _ :: _, [], h => by simp [Rows] at h
  | p :: ps, t :: sts, h => by
    have h1 : SAt H p t := h.2 0 p t rfl rfl
    have h2 : Rows SAt H ps sts := ⟨by have := h.1; simpa using this, fun i q x a b => h.2 (i + 1) q x a b⟩
    rw [List.any_cons, any_sd h2, sdOf_at h1]
    by_cases e : t = s
    · subst e; simp
    · simp [e, show ¬ s = t from fun z => e z.symm]
theorem Rows.mem {α : Type} {At : Hp -> Addr -> α -> Prop} {H : Hp} {ps : List Addr} {xs : List α} (h : Rows At H ps xs) {b : Addr} (hb : b ∈ ps) : ∃ x ∈ xs, At H b x := by
  obtain ⟨i, hi, e⟩ := List.getElem_of_mem hb
  have hj : i < xs.length := by rw [<- h.1]; exact hi
  exact ⟨xs[i], List.getElem_mem hj, h.2 i b _ (by rw [List.getElem?_eq_getElem hi, e]) (List.getElem?_eq_getElem hj)⟩
theorem r_inS {K : PySem.W.Frag} {H : Hp} {Q : VK} {p q : Addr} {s : Sd} {sts : List Sd} (hl : LstOf SAt H p sts) (hq : SAt H q s) (k : Q (.bl (decide (s ∈ sts))) H) : rInD K 1 false (.ref q) (.ref p) H Q := by
  obtain ⟨ps, h1, h2⟩ := hl
  refine ⟨p, ps, fun b => decide (sdOf H b = some s), rfl, SqL.of h1, fun b hb => ?_, ?_⟩
  · obtain ⟨t, _, ht⟩ := Rows.mem h2 hb
    have := deq_sd (K := K) ht hq
    show Deq K H 1 (.ref b) (.ref q) (decide (sdOf H b = some s))
    rw [sdOf_at ht]
    simpa using this
  · rw [any_sd h2]; exact k
theorem r_notInS {K : PySem.W.Frag} {H : Hp} {Q : VK} {p q : Addr} {s : Sd} {sts : List Sd} (hl : LstOf SAt H p sts) (hq : SAt H q s) (k : Q (.bl (!decide (s ∈ sts))) H) : rInD K 1 true (.ref q) (.ref p) H Q := by
  obtain ⟨ps, h1, h2⟩ := hl
  refine ⟨p, ps, fun b => decide (sdOf H b = some s), rfl, SqL.of h1, fun b hb => ?_, ?_⟩
  · obtain ⟨t, _, ht⟩ := Rows.mem h2 hb
    have := deq_sd (K := K) ht hq
    show Deq K H 1 (.ref b) (.ref q) (decide (sdOf H b = some s))
    rw [sdOf_at ht]
    simpa using this
  · rw [any_sd h2]; exact k
abbrev Dk := List (Sd × V)
def dkv (l : Dk) : List (List Key × V) := l.map fun x => (x.1.key, x.2)
def dat (l : Dk) (s : Sd) : Option V := (l.find? fun x => decide (x.1 = s)).map (·.2)
theorem dkv_val (s : Sd) : ∀ l : Dk, valV (dkv l) s.key = dat l s
  | [] => rfl
  | x :: l => by
    by_cases e : x.1 = s
    · rw [show dkv (x :: l) = (x.1.key, x.2) :: dkv l from rfl, valV_pos (by rw [e])]
      simp [dat, e]
    · rw [show dkv (x :: l) = (x.1.key, x.2) :: dkv l from rfl, valV_neg (fun z => e (Sd.key_inj z)), dkv_val s l]
      simp [dat, e]
theorem dat_none {l : Dk} {s : Sd} : dat l s = none ↔ s ∉ l.map (·.1) := by
  unfold dat
  rw [Option.map_eq_none_iff, List.find?_eq_none]
  simp only [decide_eq_true_eq, List.mem_map, not_exists, not_and]
theorem dat_some {l : Dk} {s : Sd} {v : V} (hn : (l.map (·.1)).Nodup) (h : (s, v) ∈ l) : dat l s = some v := by
  induction l with
  | nil => cases h
  | cons x l ih =>
    rw [List.map_cons, List.nodup_cons] at hn
    rcases List.mem_cons.mp h with e | h
    · subst e; simp [dat]
    · have ne : ¬ x.1 = s := fun e => hn.1 (List.mem_map.mpr ⟨_, h, e.symm⟩)
      have := ih hn.2 h
      simpa [dat, ne] using this
theorem dat_isSome {l : Dk} {s : Sd} : (dat l s).isSome = decide (s ∈ l.map (·.1)) := by
  cases e : dat l s with
  | none => rw [decide_eq_false (dat_none.mp e)]; rfl
  | some v =>
    have : ¬ dat l s = none := by rw [e]; simp
    rw [decide_eq_true (Classical.byContradiction fun z => this (dat_none.mpr z))]; rfl
theorem dkv_new {l : Dk} {s : Sd} {v : V} (h : s ∉ l.map (·.1)) : putK (dkv l) s.key v = dkv (l ++ [(s, v)]) := by
  unfold putK
  rw [valV_any, dkv_val, dat_none.mpr h, if_neg (by decide)]
  simp [dkv]
def DAtS (H : Hp) (a : Addr) (l : Dk) : Prop := H a = some (.dT (dkv l))
theorem dget_s {H : Hp} {a b : Addr} {l : Dk} {s : Sd} (h : Rd H a (.dT (dkv l))) (hb : SAt H b s) : DGet H a (.ref b) (dat l s) := .inr ⟨_, s.key, b, h, rfl, hb, (dkv_val s l).symm⟩
theorem dput_s {H : Hp} {a b : Addr} {l : Dk} {s : Sd} {v : V} (h : DAtS H a l) (hb : SAt H b s) (hl : l.length < sizeLine) (hn : s ∉ l.map (·.1)) : DPut H a (.ref b) v (upd H a (.dT (dkv (l ++ [(s, v)])))) := by
  have := DPut.t (k := s.key) (v := v) h hb (by simpa [dkv] using hl)
  rwa [dkv_new hn] at this
inductive Rch {α : Type} (R : α -> α -> Prop) (a : α) : α -> Prop where
  | refl : Rch R a a
  | step {b c : α} : Rch R a b -> R b c -> Rch R a c
theorem Rch.trans {α : Type} {R : α -> α -> Prop} {a b c : α} (h1 : Rch R a b) (h2 : Rch R b c) : Rch R a c := by
  induction h2 with
  | refl => exact h1
  | step _ r ih => exact ih.step r
theorem Rch.head {α : Type} {R : α -> α -> Prop} {a b c : α} (h : R a b) (h2 : Rch R b c) : Rch R a c := (Rch.refl.step h).trans h2
structure Srch (R : Sd -> Sd -> Prop) (s0 : Sd) (row : List Sd) (pl : Nat) : Prop where
  nd : row.Nodup
  st : s0 ∈ row
  rch : ∀ x ∈ row, Rch R s0 x
  cl : ∀ i (h : i < row.length), i < pl -> ∀ y, R row[i] y -> y ∈ row
theorem Srch.start {R : Sd -> Sd -> Prop} {s0 : Sd} : Srch R s0 [s0] 0 := ⟨by simp, by simp, fun x hx => by rw [List.mem_singleton.mp hx]; exact .refl, fun i _ h => absurd h (Nat.not_lt_zero _)⟩
theorem Srch.end {R : Sd -> Sd -> Prop} {s0 : Sd} {row : List Sd} {pl : Nat} (h : Srch R s0 row pl) (hp : row.length <= pl) (x : Sd) : x ∈ row ↔ Rch R s0 x := by
  refine ⟨h.rch x, fun hx => ?_⟩
  induction hx with
  | refl => exact h.st
  | step _ r ih =>
    obtain ⟨i, hi, e⟩ := List.getElem_of_mem ih
    exact h.cl i hi (by omega) _ (by rw [e]; exact r)
structure Mid (R : Sd -> Sd -> Prop) (s0 here : Sd) (row : List Sd) (pl : Nat) (done : List Sd) : Prop where
  nd : row.Nodup
  st : s0 ∈ row
  rch : ∀ x ∈ row, Rch R s0 x
  cl : ∀ i (h : i < row.length), i < pl -> ∀ y, R row[i] y -> y ∈ row
  at' : row[pl]? = some here
  dn : ∀ y ∈ done, y ∈ row
theorem Srch.mid {R : Sd -> Sd -> Prop} {s0 here : Sd} {row : List Sd} {pl : Nat} (h : Srch R s0 row pl) (e : row[pl]? = some here) : Mid R s0 here row pl [] := ⟨h.nd, h.st, h.rch, h.cl, e, fun y z => nomatch z⟩
theorem Mid.old {R : Sd -> Sd -> Prop} {s0 here y : Sd} {row done : List Sd} {pl : Nat} (h : Mid R s0 here row pl done) (hy : y ∈ row) : Mid R s0 here row pl (done ++ [y]) :=
  ⟨h.nd, h.st, h.rch, h.cl, h.at', fun x hx => by rcases List.mem_append.mp hx with z | z; · exact h.dn x z
                                                  · rw [List.mem_singleton.mp z]; exact hy⟩
theorem Mid.new {R : Sd -> Sd -> Prop} {s0 here y : Sd} {row done : List Sd} {pl : Nat} (h : Mid R s0 here row pl done) (hy : y ∉ row) (r : R here y) : Mid R s0 here (row ++ [y]) pl (done ++ [y]) := by
  have hpl : pl < row.length := (List.getElem?_eq_some_iff.mp h.at').1
  refine ⟨List.nodup_append.mpr ⟨h.nd, by simp, fun a ha b hb e => ?_⟩, List.mem_append_left _ h.st, fun x hx => ?_, fun i hi hl z rz => ?_, ?_, fun x hx => ?_⟩
  · rw [List.mem_singleton.mp hb] at e; subst e; exact hy ha
  · rcases List.mem_append.mp hx with z | z
    · exact h.rch x z
    · rw [List.mem_singleton.mp z]
      exact (h.rch here (List.mem_of_getElem? h.at')).step r
  · rw [List.getElem_append_left (by omega)] at rz
    exact List.mem_append_left _ (h.cl i (by omega) hl z rz)
  · rw [List.getElem?_append_left hpl]; exact h.at'
  · rcases List.mem_append.mp hx with z | z
    · exact List.mem_append_left _ (h.dn x z)
    · exact List.mem_append_right _ z
theorem Mid.next {R : Sd -> Sd -> Prop} {s0 here : Sd} {row done : List Sd} {pl : Nat} (h : Mid R s0 here row pl done) (hd : ∀ y, R here y -> y ∈ done) : Srch R s0 row (pl + 1) := by
  refine ⟨h.nd, h.st, h.rch, fun i hi hl z rz => ?_⟩
  by_cases e : i = pl
  · subst e
    have : row[i] = here := (List.getElem?_eq_some_iff.mp h.at').2
    rw [this] at rz
    exact h.dn z (hd z rz)
  · exact h.cl i hi (by omega) z rz
def Ord (l : List Sd) : Prop := l.Pairwise fun a b => ¬ b.ns < a.ns
theorem perm_ord : ∀ {l m : List Sd}, l.Perm m -> Ord l -> Ord m -> l = m := fun {l m} hp hl hm =>
  hp.eq_of_pairwise (fun a b _ _ h1 h2 => Sd.ns_inj (List.le_antisymm (List.not_lt.mp h1) (List.not_lt.mp h2))) hl hm
structure IsR (R : Sd -> Sd -> Prop) (s : Sd) (l : List Sd) : Prop where
  nd : l.Nodup
  ord : Ord l
  mem : ∀ t, t ∈ l ↔ Rch R s t /\ Rch R t s
theorem IsR.uniq {R : Sd -> Sd -> Prop} {s t : Sd} {l m : List Sd} (h1 : IsR R s l) (h2 : IsR R t m) (e : Rch R s t /\ Rch R t s) : l = m := by
  refine perm_ord ((List.perm_ext_iff_of_nodup h1.nd h2.nd).mpr fun x => ?_) h1.ord h2.ord
  rw [h1.mem, h2.mem]
  exact ⟨fun ⟨a, b⟩ => ⟨e.2.trans a, b.trans e.1⟩, fun ⟨a, b⟩ => ⟨e.1.trans a, b.trans e.2⟩⟩
theorem IsR.self {R : Sd -> Sd -> Prop} {s : Sd} {l : List Sd} (h : IsR R s l) : s ∈ l := (h.mem s).mpr ⟨.refl, .refl⟩
end Ce
namespace Mine
open PySem L2
def top (i : Nat) : Stmt := PySem.Challenge.pw_delve_k24_rounds.main.body.getD i (.Pass ⟨0, 0, 0, 0⟩)
abbrev s__wall : Stmt := top 0
abbrev s_within : Stmt := top 10
abbrev s_has_bit : Stmt := top 11
abbrev s_changed : Stmt := top 12
abbrev s_gate_of : Stmt := top 21
abbrev s_is_gate : Stmt := top 22
abbrev s_tops_of : Stmt := top 23
abbrev s_cellar : Stmt := top 45
abbrev s_check_number : Stmt := top 46
abbrev s_made_ways : Stmt := top 47
abbrev s_made_pairs : Stmt := top 48
abbrev s_made_rows : Stmt := top 49
abbrev s_start : Stmt := top 56
abbrev s_held : Stmt := top 57
abbrev s_door_kinds : Stmt := top 58
abbrev s_can_enter : Stmt := top 66
abbrev s_deed_of : Stmt := top 67
abbrev s_deeds_at : Stmt := top 68
abbrev s_behind : Stmt := top 69
abbrev s_stands_by_go : Stmt := top 70
abbrev s_fit_deeds : Stmt := top 71
abbrev s_all_goes : Stmt := top 72
abbrev s_all_deeds : Stmt := top 73
abbrev s_counts_from : Stmt := top 75
abbrev s_turned_links : Stmt := top 76
abbrev s_round_of : Stmt := top 78
abbrev s_go_links : Stmt := top 79
abbrev s__law_cell_at : Stmt := top 81
abbrev s__law_gate : Stmt := top 82
abbrev s__law_cellar : Stmt := top 83
abbrev s__law_come : Stmt := top 84
abbrev s__law_goes : Stmt := top 85
abbrev s__law_any : Stmt := top 86
abbrev s_law : Stmt := top 87
abbrev s_Gate_init : Stmt := inClass (top 14) 0
abbrev s_Gate_told : Stmt := inClass (top 14) 1
abbrev s_Plain_init : Stmt := inClass (top 15) 0
abbrev s_Plain_lets : Stmt := inClass (top 15) 1
abbrev s_Door_init : Stmt := inClass (top 16) 0
abbrev s_Door_lets : Stmt := inClass (top 16) 1
abbrev s_Need_init : Stmt := inClass (top 17) 0
abbrev s_Need_lets : Stmt := inClass (top 17) 1
abbrev s_Bar_init : Stmt := inClass (top 18) 0
abbrev s_Bar_lets : Stmt := inClass (top 18) 1
abbrev s_Wade_init : Stmt := inClass (top 19) 0
abbrev s_Wade_lets : Stmt := inClass (top 19) 1
abbrev s_Float_init : Stmt := inClass (top 20) 0
abbrev s_Float_lets : Stmt := inClass (top 20) 1
abbrev s_Deed_init : Stmt := inClass (top 60) 0
abbrev s_Deed_can : Stmt := inClass (top 60) 1
abbrev s_Deed_told : Stmt := inClass (top 60) 2
abbrev s_Deed_own_part : Stmt := inClass (top 60) 4
abbrev s_Go_init : Stmt := inClass (top 61) 0
abbrev s_Go_fits : Stmt := inClass (top 61) 1
abbrev s_Go_done : Stmt := inClass (top 61) 2
abbrev s_Pull_init : Stmt := inClass (top 62) 0
abbrev s_Pull_fits : Stmt := inClass (top 62) 1
abbrev s_Pull_done : Stmt := inClass (top 62) 2
abbrev s_Take_init : Stmt := inClass (top 63) 0
abbrev s_Take_fits : Stmt := inClass (top 63) 1
abbrev s_Take_done : Stmt := inClass (top 63) 2
abbrev s_Turn_init : Stmt := inClass (top 64) 0
abbrev s_Turn_fits : Stmt := inClass (top 64) 1
abbrev s_Turn_done : Stmt := inClass (top 64) 2
abbrev s_Unlock_init : Stmt := inClass (top 65) 0
abbrev s_Unlock_fits : Stmt := inClass (top 65) 1
abbrev s_Unlock_done : Stmt := inClass (top 65) 2
theorem sc_within : FnScope ["number", "least", "most"] ["number", "least", "most"] (defScope s_within) := ⟨rfl, rfl, rfl, by decide +kernel, rfl, by decide +kernel, by decide +kernel⟩
theorem sc_has_bit : FnScope ["bits", "place"] ["bits", "place"] (defScope s_has_bit) := ⟨rfl, rfl, rfl, by decide +kernel, rfl, by decide +kernel, by decide +kernel⟩
theorem sc_changed : FnScope ["parts", "place", "part"] ["parts", "place", "part"] (defScope s_changed) := ⟨rfl, rfl, rfl, by decide +kernel, rfl, by decide +kernel, by decide +kernel⟩
theorem sc_gate_of : FnScope ["gate", "word"] ["gate"] (defScope s_gate_of) := ⟨rfl, rfl, rfl, by decide +kernel, rfl, by decide +kernel, by decide +kernel⟩
theorem sc_is_gate : FnScope ["thing", "tops", "numbers"] ["thing"] (defScope s_is_gate) := ⟨rfl, rfl, rfl, by decide +kernel, rfl, by decide +kernel, by decide +kernel⟩
theorem sc_tops_of : FnScope ["word"] ["word"] (defScope s_tops_of) := ⟨rfl, rfl, rfl, by decide +kernel, rfl, by decide +kernel, by decide +kernel⟩
theorem sc_cellar : FnScope ["rooms", "first", "last", "ways", "things", "levers", "wheels", "bars", "water"] ["rooms", "first", "last", "ways", "things", "levers", "wheels", "bars", "water"] (defScope s_cellar) := ⟨rfl, rfl, rfl, by decide +kernel, rfl, by decide +kernel, by decide +kernel⟩
theorem sc_check_number : FnScope ["name", "number", "least", "most"] ["name", "number", "least", "most"] (defScope s_check_number) := ⟨rfl, rfl, rfl, by decide +kernel, rfl, by decide +kernel, by decide +kernel⟩
theorem sc_made_ways : FnScope ["rooms", "ways", "made", "a", "b", "gate", "back"] ["rooms", "ways"] (defScope s_made_ways) := ⟨rfl, rfl, rfl, by decide +kernel, rfl, by decide +kernel, by decide +kernel⟩
theorem sc_made_pairs : FnScope ["name", "rooms", "pairs", "most_pairs", "least", "most", "made", "room", "number"] ["name", "rooms", "pairs", "most_pairs", "least", "most"] (defScope s_made_pairs) := ⟨rfl, rfl, rfl, by decide +kernel, rfl, by decide +kernel, by decide +kernel⟩
theorem sc_made_rows : FnScope ["name", "rows", "most", "made"] ["name", "rows", "most"] (defScope s_made_rows) := ⟨rfl, rfl, rfl, by decide +kernel, rfl, by decide +kernel, by decide +kernel⟩
theorem sc_start : FnScope ["cellar"] ["cellar"] (defScope s_start) := ⟨rfl, rfl, rfl, by decide +kernel, rfl, by decide +kernel, by decide +kernel⟩
theorem sc_held : FnScope ["cellar", "stand", "counts", "number", "thing", "kind"] ["cellar", "stand"] (defScope s_held) := ⟨rfl, rfl, rfl, by decide +kernel, rfl, by decide +kernel, by decide +kernel⟩
theorem sc_door_kinds : FnScope ["cellar"] ["cellar"] (defScope s_door_kinds) := ⟨rfl, rfl, rfl, by decide +kernel, rfl, by decide +kernel, by decide +kernel⟩
theorem sc_can_enter : FnScope ["way", "room"] ["way", "room"] (defScope s_can_enter) := ⟨rfl, rfl, rfl, by decide +kernel, rfl, by decide +kernel, by decide +kernel⟩
theorem sc_deed_of : FnScope ["deed", "word"] ["deed"] (defScope s_deed_of) := ⟨rfl, rfl, rfl, by decide +kernel, rfl, by decide +kernel, by decide +kernel⟩
theorem sc_deeds_at : FnScope ["cellar", "stand"] ["cellar", "stand"] (defScope s_deeds_at) := ⟨rfl, rfl, rfl, by decide +kernel, rfl, by decide +kernel, by decide +kernel⟩
theorem sc_behind : FnScope ["cellar", "stand", "deed", "thing"] ["cellar", "stand", "deed"] (defScope s_behind) := ⟨rfl, rfl, rfl, by decide +kernel, rfl, by decide +kernel, by decide +kernel⟩
theorem sc_stands_by_go : FnScope ["cellar", "stand"] ["cellar", "stand"] (defScope s_stands_by_go) := ⟨rfl, rfl, rfl, by decide +kernel, rfl, by decide +kernel, by decide +kernel⟩
theorem sc_fit_deeds : FnScope ["cellar", "stand"] ["cellar", "stand"] (defScope s_fit_deeds) := ⟨rfl, rfl, rfl, by decide +kernel, rfl, by decide +kernel, by decide +kernel⟩
theorem sc_all_goes : FnScope ["cellar"] ["cellar"] (defScope s_all_goes) := ⟨rfl, rfl, rfl, by decide +kernel, rfl, by decide +kernel, by decide +kernel⟩
theorem sc_all_deeds : FnScope ["cellar", "pulls", "takes", "turns", "unlocks"] ["cellar"] (defScope s_all_deeds) := ⟨rfl, rfl, rfl, by decide +kernel, rfl, by decide +kernel, by decide +kernel⟩
theorem sc_counts_from : FnScope ["begins", "links", "row", "counts", "begin", "place", "here", "other"] ["begins", "links"] (defScope s_counts_from) := ⟨rfl, rfl, rfl, by decide +kernel, rfl, by decide +kernel, by decide +kernel⟩
theorem sc_turned_links : FnScope ["links", "turned", "stand", "others", "other"] ["links"] (defScope s_turned_links) := ⟨rfl, rfl, rfl, by decide +kernel, rfl, by decide +kernel, by decide +kernel⟩
theorem sc_round_of : FnScope ["cellar", "stand", "links", "gone_to", "gone_from"] ["cellar", "stand"] (defScope s_round_of) := ⟨rfl, rfl, rfl, by decide +kernel, rfl, by decide +kernel, by decide +kernel⟩
theorem sc_go_links : FnScope ["cellar", "stand", "links", "room", "here"] ["cellar", "stand"] (defScope s_go_links) := ⟨rfl, rfl, rfl, by decide +kernel, rfl, by decide +kernel, by decide +kernel⟩
theorem sc__law_cell_at : FnScope ["_law_script", "_law_k"] ["_law_script", "_law_k"] (defScope s__law_cell_at) := ⟨rfl, rfl, rfl, by decide +kernel, rfl, by decide +kernel, by decide +kernel⟩
theorem sc__law_gate : FnScope ["_law_cell", "_law_way"] ["_law_cell"] (defScope s__law_gate) := ⟨rfl, rfl, rfl, by decide +kernel, rfl, by decide +kernel, by decide +kernel⟩
theorem sc__law_cellar : FnScope ["_law_script", "_law_first", "_law_rooms", "_law_ways", "_law_k", "_law_cell", "_law_a", "_law_b", "_law_some", "_law_things", "_law_levers", "_law_wheels", "_law_last", "_law_more"] ["_law_script"] (defScope s__law_cellar) := ⟨rfl, rfl, rfl, by decide +kernel, rfl, by decide +kernel, by decide +kernel⟩
theorem sc__law_come : FnScope ["_law_place", "_law_stand", "_law_found", "_law_at", "_law_deed", "_law_other"] ["_law_place", "_law_stand"] (defScope s__law_come) := ⟨rfl, rfl, rfl, by decide +kernel, rfl, by decide +kernel, by decide +kernel⟩
theorem sc__law_goes : FnScope ["_law_place", "_law_stand", "_law_found", "_law_at", "_law_deed", "_law_other"] ["_law_place", "_law_stand"] (defScope s__law_goes) := ⟨rfl, rfl, rfl, by decide +kernel, rfl, by decide +kernel, by decide +kernel⟩
theorem sc__law_any : FnScope ["_law_script", "_law_place", "_law_cell", "_law_taken"] ["_law_script", "_law_place"] (defScope s__law_any) := ⟨rfl, rfl, rfl, by decide +kernel, rfl, by decide +kernel, by decide +kernel⟩
theorem sc_law : FnScope ["_law_script", "_law_place", "_law_some", "_law_first", "_law_second", "_law_far", "_law_due", "_law_told", "_law_one", "_law_other"] ["_law_script"] (defScope s_law) := ⟨rfl, rfl, rfl, by decide +kernel, rfl, by decide +kernel, by decide +kernel⟩
theorem sc_Gate_init : FnScope ["self", "word", "numbers"] ["self", "word", "numbers"] (defScope s_Gate_init) := ⟨rfl, rfl, rfl, by decide +kernel, rfl, by decide +kernel, by decide +kernel⟩
theorem sc_Plain_init : FnScope ["self"] ["self"] (defScope s_Plain_init) := ⟨rfl, rfl, rfl, by decide +kernel, rfl, by decide +kernel, by decide +kernel⟩
theorem sc_Plain_lets : FnScope ["self", "held", "opened", "bars", "water"] ["self", "held", "opened", "bars", "water"] (defScope s_Plain_lets) := ⟨rfl, rfl, rfl, by decide +kernel, rfl, by decide +kernel, by decide +kernel⟩
theorem sc_Door_init : FnScope ["self", "kind"] ["self", "kind"] (defScope s_Door_init) := ⟨rfl, rfl, rfl, by decide +kernel, rfl, by decide +kernel, by decide +kernel⟩
theorem sc_Door_lets : FnScope ["self", "held", "opened", "bars", "water"] ["self", "held", "opened", "bars", "water"] (defScope s_Door_lets) := ⟨rfl, rfl, rfl, by decide +kernel, rfl, by decide +kernel, by decide +kernel⟩
theorem sc_Need_init : FnScope ["self", "kind"] ["self", "kind"] (defScope s_Need_init) := ⟨rfl, rfl, rfl, by decide +kernel, rfl, by decide +kernel, by decide +kernel⟩
theorem sc_Need_lets : FnScope ["self", "held", "opened", "bars", "water"] ["self", "held", "opened", "bars", "water"] (defScope s_Need_lets) := ⟨rfl, rfl, rfl, by decide +kernel, rfl, by decide +kernel, by decide +kernel⟩
theorem sc_Bar_init : FnScope ["self", "bar"] ["self", "bar"] (defScope s_Bar_init) := ⟨rfl, rfl, rfl, by decide +kernel, rfl, by decide +kernel, by decide +kernel⟩
theorem sc_Bar_lets : FnScope ["self", "held", "opened", "bars", "water"] ["self", "held", "opened", "bars", "water"] (defScope s_Bar_lets) := ⟨rfl, rfl, rfl, by decide +kernel, rfl, by decide +kernel, by decide +kernel⟩
theorem sc_Wade_init : FnScope ["self", "height", "kind"] ["self", "height", "kind"] (defScope s_Wade_init) := ⟨rfl, rfl, rfl, by decide +kernel, rfl, by decide +kernel, by decide +kernel⟩
theorem sc_Wade_lets : FnScope ["self", "held", "opened", "bars", "water"] ["self", "held", "opened", "bars", "water"] (defScope s_Wade_lets) := ⟨rfl, rfl, rfl, by decide +kernel, rfl, by decide +kernel, by decide +kernel⟩
theorem sc_Float_init : FnScope ["self", "height"] ["self", "height"] (defScope s_Float_init) := ⟨rfl, rfl, rfl, by decide +kernel, rfl, by decide +kernel, by decide +kernel⟩
theorem sc_Float_lets : FnScope ["self", "held", "opened", "bars", "water"] ["self", "held", "opened", "bars", "water"] (defScope s_Float_lets) := ⟨rfl, rfl, rfl, by decide +kernel, rfl, by decide +kernel, by decide +kernel⟩
theorem sc_Deed_init : FnScope ["self", "word", "number", "part"] ["self", "word", "number", "part"] (defScope s_Deed_init) := ⟨rfl, rfl, rfl, by decide +kernel, rfl, by decide +kernel, by decide +kernel⟩
theorem sc_Deed_can : FnScope ["self", "cellar", "stand"] ["self", "cellar", "stand"] (defScope s_Deed_can) := ⟨rfl, rfl, rfl, by decide +kernel, rfl, by decide +kernel, by decide +kernel⟩
theorem sc_Deed_told : FnScope ["self"] ["self"] (defScope s_Deed_told) := ⟨rfl, rfl, rfl, by decide +kernel, rfl, by decide +kernel, by decide +kernel⟩
theorem sc_Deed_own_part : FnScope ["self", "cellar"] ["self", "cellar"] (defScope s_Deed_own_part) := ⟨rfl, rfl, rfl, by decide +kernel, rfl, by decide +kernel, by decide +kernel⟩
theorem sc_Go_init : FnScope ["self", "number"] ["self", "number"] (defScope s_Go_init) := ⟨rfl, rfl, rfl, by decide +kernel, rfl, by decide +kernel, by decide +kernel⟩
theorem sc_Go_fits : FnScope ["self", "cellar", "stand", "way", "opened"] ["self", "cellar", "stand"] (defScope s_Go_fits) := ⟨rfl, rfl, rfl, by decide +kernel, rfl, by decide +kernel, by decide +kernel⟩
theorem sc_Go_done : FnScope ["self", "cellar", "stand", "way", "other_end"] ["self", "cellar", "stand"] (defScope s_Go_done) := ⟨rfl, rfl, rfl, by decide +kernel, rfl, by decide +kernel, by decide +kernel⟩
theorem sc_Pull_init : FnScope ["self", "number"] ["self", "number"] (defScope s_Pull_init) := ⟨rfl, rfl, rfl, by decide +kernel, rfl, by decide +kernel, by decide +kernel⟩
theorem sc_Pull_fits : FnScope ["self", "cellar", "stand"] ["self", "cellar", "stand"] (defScope s_Pull_fits) := ⟨rfl, rfl, rfl, by decide +kernel, rfl, by decide +kernel, by decide +kernel⟩
theorem sc_Pull_done : FnScope ["self", "cellar", "stand"] ["self", "cellar", "stand"] (defScope s_Pull_done) := ⟨rfl, rfl, rfl, by decide +kernel, rfl, by decide +kernel, by decide +kernel⟩
theorem sc_Take_init : FnScope ["self", "number"] ["self", "number"] (defScope s_Take_init) := ⟨rfl, rfl, rfl, by decide +kernel, rfl, by decide +kernel, by decide +kernel⟩
theorem sc_Take_fits : FnScope ["self", "cellar", "stand"] ["self", "cellar", "stand"] (defScope s_Take_fits) := ⟨rfl, rfl, rfl, by decide +kernel, rfl, by decide +kernel, by decide +kernel⟩
theorem sc_Take_done : FnScope ["self", "cellar", "stand"] ["self", "cellar", "stand"] (defScope s_Take_done) := ⟨rfl, rfl, rfl, by decide +kernel, rfl, by decide +kernel, by decide +kernel⟩
theorem sc_Turn_init : FnScope ["self", "number"] ["self", "number"] (defScope s_Turn_init) := ⟨rfl, rfl, rfl, by decide +kernel, rfl, by decide +kernel, by decide +kernel⟩
theorem sc_Turn_fits : FnScope ["self", "cellar", "stand", "wheel"] ["self", "cellar", "stand"] (defScope s_Turn_fits) := ⟨rfl, rfl, rfl, by decide +kernel, rfl, by decide +kernel, by decide +kernel⟩
theorem sc_Turn_done : FnScope ["self", "cellar", "stand"] ["self", "cellar", "stand"] (defScope s_Turn_done) := ⟨rfl, rfl, rfl, by decide +kernel, rfl, by decide +kernel, by decide +kernel⟩
theorem sc_Unlock_init : FnScope ["self", "number"] ["self", "number"] (defScope s_Unlock_init) := ⟨rfl, rfl, rfl, by decide +kernel, rfl, by decide +kernel, by decide +kernel⟩
theorem sc_Unlock_fits : FnScope ["self", "cellar", "stand", "way", "gate"] ["self", "cellar", "stand"] (defScope s_Unlock_fits) := ⟨rfl, rfl, rfl, by decide +kernel, rfl, by decide +kernel, by decide +kernel⟩
theorem sc_Unlock_done : FnScope ["self", "cellar", "stand"] ["self", "cellar", "stand"] (defScope s_Unlock_done) := ⟨rfl, rfl, rfl, by decide +kernel, rfl, by decide +kernel, by decide +kernel⟩
structure Cs where
  Gate : Addr
  Plain : Addr
  Door : Addr
  Need : Addr
  Bar : Addr
  Wade : Addr
  Float : Addr
  Deed : Addr
  Go : Addr
  Pull : Addr
  Take : Addr
  Turn : Addr
  Unlock : Addr
structure Txt (mg : Str -> Option Value) (cs : Cs) : Prop where
  n_all : mg "all" = none
  n_bool : mg "bool" = none
  n_enumerate : mg "enumerate" = none
  n_int : mg "int" = none
  n_isinstance : mg "isinstance" = none
  n_len : mg "len" = none
  n_list : mg "list" = none
  n_range : mg "range" = none
  n_sorted : mg "sorted" = none
  n_tuple : mg "tuple" = none
  n_zip : mg "zip" = none
  e_ALL_BARS : ∃ t, mg "ALL_BARS" = some (.int 255 t)
  e_BARS : ∃ t, mg "BARS" = some (.int 3 t)
  e_FIRST : ∃ t, mg "FIRST" = some (.int 1 t)
  e_FIRST_BARS : ∃ t, mg "FIRST_BARS" = some (.int 7 t)
  e_FIRST_WATER : ∃ t, mg "FIRST_WATER" = some (.int 8 t)
  e_LAST : ∃ t, mg "LAST" = some (.int 2 t)
  e_LAST_BAR : ∃ t, mg "LAST_BAR" = some (.int 7 t)
  e_LAST_KIND : ∃ t, mg "LAST_KIND" = some (.int 11 t)
  e_LEVERS : ∃ t, mg "LEVERS" = some (.int 5 t)
  e_MOST_LEVERS : ∃ t, mg "MOST_LEVERS" = some (.int 4 t)
  e_MOST_ROOMS : ∃ t, mg "MOST_ROOMS" = some (.int 14 t)
  e_MOST_THINGS : ∃ t, mg "MOST_THINGS" = some (.int 8 t)
  e_MOST_WAYS : ∃ t, mg "MOST_WAYS" = some (.int 20 t)
  e_MOST_WHEELS : ∃ t, mg "MOST_WHEELS" = some (.int 4 t)
  e_OPENED : ∃ t, mg "OPENED" = some (.int 2 t)
  e_PAIR_NUMBER : ∃ t, mg "PAIR_NUMBER" = some (.int 1 t)
  e_PAIR_ROOM : ∃ t, mg "PAIR_ROOM" = some (.int 0 t)
  e_ROOM : ∃ t, mg "ROOM" = some (.int 0 t)
  e_ROOMS : ∃ t, mg "ROOMS" = some (.int 0 t)
  e_TAKEN : ∃ t, mg "TAKEN" = some (.int 1 t)
  e_THINGS : ∃ t, mg "THINGS" = some (.int 4 t)
  e_TOP_HEIGHT : ∃ t, mg "TOP_HEIGHT" = some (.int 9 t)
  e_WATER : ∃ t, mg "WATER" = some (.int 4 t)
  e_WAYS : ∃ t, mg "WAYS" = some (.int 3 t)
  e_WAY_A : ∃ t, mg "WAY_A" = some (.int 0 t)
  e_WAY_B : ∃ t, mg "WAY_B" = some (.int 1 t)
  e_WAY_BACK : ∃ t, mg "WAY_BACK" = some (.int 3 t)
  e_WAY_GATE : ∃ t, mg "WAY_GATE" = some (.int 2 t)
  e_WHEELS : ∃ t, mg "WHEELS" = some (.int 6 t)
  c_Gate : mg "Gate" = some (.ref cs.Gate)
  c_Plain : mg "Plain" = some (.ref cs.Plain)
  c_Door : mg "Door" = some (.ref cs.Door)
  c_Need : mg "Need" = some (.ref cs.Need)
  c_Bar : mg "Bar" = some (.ref cs.Bar)
  c_Wade : mg "Wade" = some (.ref cs.Wade)
  c_Float : mg "Float" = some (.ref cs.Float)
  c_Deed : mg "Deed" = some (.ref cs.Deed)
  c_Go : mg "Go" = some (.ref cs.Go)
  c_Pull : mg "Pull" = some (.ref cs.Pull)
  c_Take : mg "Take" = some (.ref cs.Take)
  c_Turn : mg "Turn" = some (.ref cs.Turn)
  c_Unlock : mg "Unlock" = some (.ref cs.Unlock)
structure Tcl (K : W.Frag) (cs : Cs) : Prop where
  cl_Plain : Cls K cs.Plain
  no_Plain_numbers : NoAttr K cs.Plain "numbers"
  no_Plain_word : NoAttr K cs.Plain "word"
  cl_Door : Cls K cs.Door
  no_Door_numbers : NoAttr K cs.Door "numbers"
  no_Door_word : NoAttr K cs.Door "word"
  cl_Need : Cls K cs.Need
  no_Need_kind : NoAttr K cs.Need "kind"
  no_Need_numbers : NoAttr K cs.Need "numbers"
  no_Need_word : NoAttr K cs.Need "word"
  cl_Bar : Cls K cs.Bar
  no_Bar_bar : NoAttr K cs.Bar "bar"
  no_Bar_numbers : NoAttr K cs.Bar "numbers"
  no_Bar_word : NoAttr K cs.Bar "word"
  cl_Wade : Cls K cs.Wade
  no_Wade_height : NoAttr K cs.Wade "height"
  no_Wade_kind : NoAttr K cs.Wade "kind"
  no_Wade_numbers : NoAttr K cs.Wade "numbers"
  no_Wade_word : NoAttr K cs.Wade "word"
  cl_Float : Cls K cs.Float
  no_Float_height : NoAttr K cs.Float "height"
  no_Float_numbers : NoAttr K cs.Float "numbers"
  no_Float_word : NoAttr K cs.Float "word"
  cl_Go : Cls K cs.Go
  no_Go_number : NoAttr K cs.Go "number"
  no_Go_part : NoAttr K cs.Go "part"
  no_Go_word : NoAttr K cs.Go "word"
  cl_Pull : Cls K cs.Pull
  no_Pull_number : NoAttr K cs.Pull "number"
  no_Pull_part : NoAttr K cs.Pull "part"
  no_Pull_word : NoAttr K cs.Pull "word"
  cl_Take : Cls K cs.Take
  no_Take_number : NoAttr K cs.Take "number"
  no_Take_part : NoAttr K cs.Take "part"
  no_Take_word : NoAttr K cs.Take "word"
  cl_Turn : Cls K cs.Turn
  no_Turn_number : NoAttr K cs.Turn "number"
  no_Turn_part : NoAttr K cs.Turn "part"
  no_Turn_word : NoAttr K cs.Turn "word"
  cl_Unlock : Cls K cs.Unlock
  no_Unlock_number : NoAttr K cs.Unlock "number"
  no_Unlock_part : NoAttr K cs.Unlock "part"
  no_Unlock_word : NoAttr K cs.Unlock "word"
-- ROOM 10
-- PATCHED
-- DROP ok_cell
-- DROP ok_gate
-- DROP ok_heldL
-- DROP ok_cellar
-- DROP stand_b
-- DROP ok_stand
-- DROP vm_dtext
-- DROP vm_told
-- DROP vm_text
local macro_rules | `(tactic| walk_at "ne") => `(tactic| refine ifd (fun h => absurd h (by decide +kernel)) (fun _ => ?_))
local macro_rules | `(tactic| walk_at "eq") => `(tactic| refine ifd (fun _ => ?_) (fun h => absurd rfl h))
local macro_rules | `(tactic| walk_at "at") => `(tactic| first | rfl | exact atI0 | exact atI_off (by assumption) | exact atI_nat (by assumption) | assumption)
local macro_rules | `(tactic| walk_at "hp") => `(tactic| first | with_reducible assumption | with_reducible exact upd_same | ((with_reducible apply up_keep); (rotate_left; (with_reducible assumption)); walk_at "hp") | exact upd_same)
local macro_rules | `(tactic| walk_at "sq") => `(tactic| first | with_reducible assumption | ((with_reducible apply SqT.of); walk_at "hp") | ((with_reducible apply SqL.of); walk_at "hp") | ((with_reducible refine' Same.seq ?s ?h); (case h => with_reducible assumption); (case s => walk_at "sm")) | ((with_reducible refine' Same.tup ?s ?h); (case h => with_reducible assumption); (case s => walk_at "sm")))
local macro_rules | `(tactic| walk_at "sm") => `(tactic| first | with_reducible assumption | with_reducible exact Same.refl _ | ((with_reducible refine Same.trans ?_ (Same.upd (by assumption))); walk_at "sm"))
local macro_rules | `(tactic| walk_at "side") => `(tactic| first | assumption | omega | (exact ⟨by omega, by omega⟩) | (exact Or.inl ⟨by omega, by omega⟩) | (exact Or.inr ⟨by omega, by omega⟩) | (exact ⟨by omega, by omega, by omega⟩) | (exact ⟨by omega, by omega, by decide⟩) | (exact ⟨⟨by omega, by omega⟩, by omega, by omega⟩))
local macro_rules | `(tactic| walk_at "rd1") => `(tactic| first | ((with_reducible refine' r_var ?h ?_); (case h => rfl)) | with_reducible refine' r_op ?_ | with_reducible refine' r_c ?_ | with_reducible refine' r_cons ?_ | with_reducible refine' r_nil ?_ | with_reducible refine' r_seq ?_ | with_reducible refine' r_asg ?_ | with_reducible refine' r_name ?_ | with_reducible refine' r_call ?_ | with_reducible refine' r_cb ?_ | with_reducible refine' r_I0 ?_ | with_reducible refine' r_test ?_ | with_reducible refine' r_bl ?_ | with_reducible refine' r_B ?_ | with_reducible refine' r_ifS ?_ | with_reducible refine' r_ret ?_ | with_reducible refine' r_eqI ?_ | with_reducible refine' r_eqS ?_ | with_reducible refine' r_eqB ?_ | with_reducible refine' r_neI ?_ | with_reducible refine' r_neS ?_ | with_reducible refine' r_neB ?_ | with_reducible refine' r_and ?_ | with_reducible refine' r_or ?_ | with_reducible refine' r_not ?_ | with_reducible refine' r_un ?_ | with_reducible refine' r_U ?_ | with_reducible refine' r_isN ?_ | with_reducible refine' r_notN ?_ | with_reducible refine' r_andV ?_ | with_reducible refine' r_orV ?_ | with_reducible refine' r_notV ?_ | with_reducible refine' r_if ?_ | with_reducible refine' r_tup ?_ | with_reducible refine' r_lst ?_ | with_reducible refine' r_sl ?_ | with_reducible refine' r_np ?_ | with_reducible refine' r_pt ?_ | with_reducible refine' r_int ?_ | with_reducible refine' r_fld0 ?_ | with_reducible refine' r_setf0 ?_ | with_reducible refine' r_vm0 ?_ | with_reducible refine' r_make ?_ | with_reducible refine' r_chain ?_ | with_reducible refine' r_max2 ?_ | with_reducible refine' r_min2 ?_ | with_reducible refine' r_inti ?_ | with_reducible refine' r_intb ?_ | with_reducible refine' r_strs ?_ | with_reducible refine' r_next ?_ | with_reducible refine' r_drop ?_ | with_reducible refine' r_sub ?_ | with_reducible refine' r_augS ?_ | with_reducible refine' r_ipI ?_ | with_reducible refine' r_gc ?_ | with_reducible refine' r_gn ?_ | with_reducible refine' r_retN ?_ | with_reducible refine' r_bm ?_ | with_reducible refine' r_bm0 ?_ | with_reducible refine' r_for ?_ | with_reducible refine' r_rng1 ?_ | with_reducible refine' r_rng2 ?_ | with_reducible refine' r_comp ?_ | with_reducible refine' r_yes ?_ | with_reducible refine' r_iL ?_ | with_reducible refine' r_iT ?_ | with_reducible refine' r_eL ?_ | with_reducible refine' r_eT ?_ | with_reducible refine' iteT ?_ | with_reducible refine' iteF ?_ | with_reducible refine' ifnT ?_ | with_reducible refine' ifnF ?_ | with_reducible refine' r_fs ?_ | with_reducible refine' r_fv ?_ | with_reducible refine' r_callD ?_ | with_reducible refine' r_callK ?_ | with_reducible refine' r_isi_ii ?_ | with_reducible refine' r_isi_ib ?_ | with_reducible refine' r_isi_bb ?_ | with_reducible refine' r_isi_bi ?_ | with_reducible refine' r_isi_ss ?_ | with_reducible refine' r_isi_sb ?_ | with_reducible refine' r_isi_si ?_ | with_reducible refine' r_isi_st ?_ | with_reducible refine' r_isi_it ?_ | with_reducible refine' r_isi_bt ?_ | with_reducible refine' r_isi_is ?_ | with_reducible refine' r_isi_bs ?_ | with_reducible refine' r_isi_nl ?_ | with_reducible refine' r_notT0 ?_ | with_reducible refine' r_dnew ?_ | with_reducible refine' r_dget ?_ | with_reducible refine' r_din ?_ | with_reducible refine' r_dnin ?_ | with_reducible refine' r_dput ?_ | with_reducible refine' r_hold ?_ | with_reducible refine' r_dk ?_ | with_reducible refine' r_dp ?_ | ((with_reducible refine' r_I ?h ?_); (case h => walk_at "side")) | ((with_reducible refine' r_al ?h ?_); (case h => rfl)) | ((with_reducible refine' r_aug ?h ?_); (case h => rfl)) | ((with_reducible refine' r_augN ?h ?_); (case h => rfl)) | ((with_reducible refine' r_ixT ?h ?e ?_); (case h => walk_at "sq"); (case e => walk_at "at")) | ((with_reducible refine' r_ixL ?h ?e ?_); (case h => walk_at "sq"); (case e => walk_at "at")) | ((with_reducible refine' r_ixU ?h ?e ?_); (case h => assumption); (case e => walk_at "at")) | ((with_reducible refine' r_lenT ?h ?_); (case h => walk_at "sq")) | ((with_reducible refine' r_lenL ?h ?_); (case h => walk_at "sq")) | ((with_reducible refine' r_lenU ?h ?_); (case h => assumption)) | ((with_reducible refine' r_refT ?h ?_); (case h => walk_at "sq")) | ((with_reducible refine' r_refL ?h ?_); (case h => walk_at "sq")) | ((with_reducible refine' r_refT1 ?h ?_); (case h => walk_at "sq")) | ((with_reducible refine' r_refL1 ?h ?_); (case h => walk_at "sq")) | ((with_reducible refine' r_tyL ?h ?_); (case h => walk_at "hp")) | ((with_reducible refine' r_isi_tt ?h ?_); (case h => walk_at "hp")) | ((with_reducible refine' r_isi_tl ?h ?_); (case h => walk_at "hp")) | ((with_reducible refine' r_isi_ll ?h ?_); (case h => walk_at "hp")) | ((with_reducible refine' r_isi_lt ?h ?_); (case h => walk_at "hp")) | ((with_reducible refine' r_gT ?h ?e ?_); (case h => walk_at "sq"); (case e => rfl)) | ((with_reducible refine' r_gL ?h ?e ?_); (case h => walk_at "sq"); (case e => rfl)) | ((with_reducible refine' r_rg ?h ?_); (case h => walk_at "side")) | ((with_reducible refine' r_rg2 ?h ?_); (case h => walk_at "side")))
local macro_rules | `(tactic| walk_at "rd") => `(tactic| repeat (walk_at "rd1"))
open Ce
def spBit : Sp := fun vs H Q _ => ∃ x t, vs = [.int x, .int t] /\ 0 <= t /\ Q (.bl (bit x t.toNat)) H
def spGate : Sp := fun vs H Q _ => ∃ c : Int, vs = [.int c] /\ ∀ (p : Addr) (g : Gt) (H' : Hp), Same H H' -> g.ok -> H' p = some (.tup g.vs) -> Q (.ref p) H'
def spStart : Sp := fun vs H Q _ => ∃ (p : Addr) (C : Cl), vs = [.ref p] /\ ClAt H p C /\ ∀ (q : Addr) (H' : Hp), Same H H' -> H' q = some (.tup [.int C.fst, .int 0, .int 0, .int C.bars, .int C.water]) -> Q (.ref q) H'
def dkV (g : Gt) : V := match g.dk with
  | some k => .int k
  | none => .non
def spDk : Sp := fun vs H Q _ => ∃ (p : Addr) (C : Cl), vs = [.ref p] /\ ClAt H p C /\ ClOk C /\ ∀ (q : Addr) (H' : Hp), Same H H' -> H q = none -> H' q = some (.lst (C.ways.map fun x => dkV x.g)) -> Q (.ref q) H'
def spHeld : Sp := fun vs H Q _ => ∃ (p q : Addr) (C : Cl) (rm tk op b wt : Int), vs = [.ref p, .ref q] /\ ClAt H p C /\ ClOk C /\ H q = some (.tup [.int rm, .int tk, .int op, .int b, .int wt]) /\ (∀ i, i < C.ways.length -> bit op i = true -> (dsOf C i).isSome = true) /\
  ∀ (r : Addr) (H' : Hp), Same H H' -> H r = none -> H' r = some (.lst (cl (hold C tk op))) -> Q (.ref r) H'
theorem atI_ints {xs : List Int} {j : Nat} (h : j < xs.length) : atI (xs.map V.int) (j : Int) = some (.int (xs.getD j 0)) := atI_nat (by simp [List.getD, h])
theorem cnt_tp {C : Cl} {tk k : Int} {i : Nat} (hi : i < C.things.length) : (cnt (tP C tk k) (i + 1) : Int) = (cnt (tP C tk k) i : Int) + (if bit tk i = true then (if k = C.things[i].2 then 1 else 0) else 0) := by
  show ((cnt _ i + _ : Nat) : Int) = _
  have e : C.things.getD i (0, 0) = C.things[i] := by simp [List.getD, hi]
  unfold tP
  rw [e]
  by_cases h1 : bit tk i = true
  · by_cases h2 : C.things[i].2 = k
    · simp [h1, h2]
    · have : ¬ k = C.things[i].2 := fun z => h2 z.symm
      simp [h1, h2, this]
  · simp [h1]
theorem cnt_dp {C : Cl} {op k : Int} {i : Nat} (hi : i < C.ways.length) : (cnt (dP (dsOf C) op k) (i + 1) : Int) = (cnt (dP (dsOf C) op k) i : Int) + (if bit op i = true then (if C.ways[i].g.dk = some k then 1 else 0) else 0) := by
  show ((cnt _ i + _ : Nat) : Int) = _
  have e : dsOf C i = C.ways[i].g.dk := by simp [dsOf, hi]
  unfold dP
  rw [e]
  by_cases h1 : bit op i = true
  · by_cases h2 : C.ways[i].g.dk = some k
    · simp [h1, h2]
    · simp [h1, h2]
  · simp [h1]
section
variable {P : Program} {w : World} {K : W.Frag} {mg : Str -> Option Value} {base : Heap} {cs : Cs}
theorem ok_has_bit (T : Txt mg cs) (L : Laid K mg "has_bit" s_has_bit ["bits", "place"]) : Cal P w K mg base 1 "has_bit" ["bits", "place"] spBit := by
  refine L.cal (k := 0) sc_has_bit (fun vs H Q E h => ?_) (fun f cdv A outer s H vs Q E hr h => ?_)
  · obtain ⟨x, t, rfl, _⟩ := h
    rfl
  · obtain ⟨x, t, rfl, h0, k⟩ := h
    refine ⟨_, (pss_one (ps_ret (pe_cmpR op_eq (pe_op op_and (pe_op op_shr (pv 0) (pv 1)) pe_int) pe_int (nomark _)))), ?_⟩
    walk_at "rd"
    rw [bitAnd_bit]
    exact k
theorem ok_start (T : Txt mg cs) (L : Laid K mg "start" s_start ["cellar"]) : Cal P w K mg base 1 "start" ["cellar"] spStart := by
  obtain ⟨t1, e_FIRST⟩ := T.e_FIRST
  obtain ⟨t2, e_FIRST_BARS⟩ := T.e_FIRST_BARS
  obtain ⟨t3, e_FIRST_WATER⟩ := T.e_FIRST_WATER
  refine L.cal (k := 0) sc_start (fun vs H Q E h => ?_) (fun f cdv A outer s H vs Q E hr h => ?_)
  · obtain ⟨p, C, rfl, _⟩ := h
    rfl
  · obtain ⟨p, C, rfl, hC, k⟩ := h
    obtain ⟨pw, pt, pl, pv', h0, _⟩ := hC.ex
    refine ⟨_, (pss_one (ps_ret (pe_tup (pa_cons (pe_ix (ix_tupK K) (pv 0) (pe_glob (v := .int 1) rfl e_FIRST ⟨_, rfl⟩) (fun _ _ => rfl)) (pa_cons pe_int (pa_cons pe_int (pa_cons (pe_ix (ix_tupK K) (pv 0) (pe_glob (v := .int 7) rfl e_FIRST_BARS ⟨_, rfl⟩) (fun _ _ => rfl)) (pa_cons (pe_ix (ix_tupK K) (pv 0) (pe_glob (v := .int 8) rfl e_FIRST_WATER ⟨_, rfl⟩) (fun _ _ => rfl)) pa_nil)))))))), ?_⟩
    walk_at "rd"
    intro q hq
    exact k q _ (Same.upd hq) upd_same
theorem ok_dk (T : Txt mg cs) (L : Laid K mg "door_kinds" s_door_kinds ["cellar"]) : Cal P w K mg base 1 "door_kinds" ["cellar"] spDk := by
  obtain ⟨t1, e_WAYS⟩ := T.e_WAYS
  refine L.cal (k := 0) sc_door_kinds (fun vs H Q E h => ?_) (fun f cdv A outer s H vs Q E hr h => ?_)
  · obtain ⟨p, C, rfl, _⟩ := h
    rfl
  · obtain ⟨p, C, rfl, hC, ok, k⟩ := h
    obtain ⟨pw, pt, pl, pv', h0, h1, _⟩ := hC.ex
    obtain ⟨wv, hw, hwl, hwg⟩ := h1.get
    have big := line_big
    refine ⟨_, (pss_one (ps_ret (pe_comp (compOk (N := ["a", "b", "gate", "back"]) (own := 4) (caps := []) ["cellar"] (defScope s_door_kinds) (by decide +kernel)) rfl (pi_tupK K (pe_ix (ix_tupK K) (pv 0) (pe_glob (v := .int 3) rfl e_WAYS ⟨_, rfl⟩) (fun _ _ => rfl))) (fun _ _ _ _ => (pg_tupK (n := 4) K rfl (pgs_cons (pg_name (i := 0) (show List.Nodup (["a", "b", "gate", "back"] : List Str) by decide +kernel) rfl (Or.inl rfl)) (pgs_cons (pg_name (i := 1) (show List.Nodup (["a", "b", "gate", "back"] : List Str) by decide +kernel) rfl (Or.inl rfl)) (pgs_cons (pg_name (i := 2) (show List.Nodup (["a", "b", "gate", "back"] : List Str) by decide +kernel) rfl (Or.inl rfl)) (pgs_cons (pg_name (i := 3) (show List.Nodup (["a", "b", "gate", "back"] : List Str) by decide +kernel) rfl (Or.inl rfl)) pgs_nil)))))) (fun _ _ _ _ => pf_nil) (fun _ _ _ _ => (pe_ifExp (pt_cmpR op_eq (pe_ix (ix_tupK K) (pv 2) pe_int (fun _ _ => rfl)) pe_str (nomark _)) (pe_ix (ix_tupK K) (pv 2) pe_int (fun _ _ => rfl)) pe_non))))), ?_⟩
    walk_at "rd"
    intro D hD
    refine comp_tpl wv (fun i σ H' => ∃ v0 v1 v2 v3, σ = [v0, v1, v2, v3] /\ Same H H' /\ H' D = some (.lst ((C.ways.take i).map fun x => dkV x.g))) ⟨none, none, none, none, rfl, Same.upd hD, by rw [upd_same]; rfl⟩ ?_ ?_ ?_
    · rintro i σ H' ⟨_, _, _, _, rfl, s1, _⟩
      exact SqT.of (s1 _ _ hw)
    · rintro i x σ H' hx ⟨v0, v1, v2, v3, rfl, s1, hD1⟩
      have hi : i < C.ways.length := by rw [<- hwl]; exact (List.getElem?_eq_some_iff.mp hx).1
      obtain ⟨p1, e, g, hp1, hg⟩ := hwg i hi
      rw [hx] at e
      cases e
      have hp2 := s1 _ _ hp1
      have hg2 := s1 _ _ hg
      have hl := ok.wl
      rw [Gt.vs_eq] at hg2
      have fin : ∀ v, v = dkV C.ways[i].g -> ∃ ys, H' D = some (.lst ys) /\ ys.length < sizeLine /\ ∃ v0 v1 v2 v3, ([some (.int C.ways[i].a), some (.int C.ways[i].b), some (.ref g), some (.bl C.ways[i].back)] : St) = [v0, v1, v2, v3] /\ Same H (upd H' D (.lst (ys ++ [v]))) /\ (upd H' D (.lst (ys ++ [v]))) D = some (.lst ((C.ways.take (i + 1)).map fun x => dkV x.g)) := by
        intro v ev
        subst ev
        refine ⟨_, hD1, by simp; omega, _, _, _, _, rfl, s1.put hD, ?_⟩
        rw [upd_same, take_snoc (fun x : Way => dkV x.g) C.ways hi]
      walk_at "rd"
      refine ifd (fun hd => ?_) (fun hd => ?_)
      · obtain ⟨k1, ek⟩ := door_of hd
        rw [ek] at hg2
        walk_at "rd"
        exact fin _ (by rw [ek]; rfl)
      · walk_at "rd"
        refine fin _ ?_
        cases eg : C.ways[i].g with
        | door k1 => rw [eg] at hd; exact absurd rfl hd
        | _ => rfl
    · rintro σ H' ⟨_, _, _, _, rfl, s1, hD1⟩
      rw [show wv.length = C.ways.length from hwl, List.take_length] at hD1
      exact k D H' s1 hD hD1
theorem ok_held (T : Txt mg cs) (L : Laid K mg "held" s_held ["cellar", "stand"]) (C_has_bit : Cal P w K mg base 1 "has_bit" ["bits", "place"] spBit) (C_door_kinds : Cal P w K mg base 1 "door_kinds" ["cellar"] spDk) : Cal P w K mg base 2 "held" ["cellar", "stand"] spHeld := by
  obtain ⟨t1, e_LAST_KIND⟩ := T.e_LAST_KIND
  obtain ⟨t2, e_OPENED⟩ := T.e_OPENED
  obtain ⟨t3, e_TAKEN⟩ := T.e_TAKEN
  obtain ⟨t4, e_THINGS⟩ := T.e_THINGS
  refine L.cal (k := 1) sc_held (fun vs H Q E h => ?_) (fun f cdv A outer s H vs Q E hr h => ?_)
  · obtain ⟨p, q, C, _, _, _, _, _, rfl, _⟩ := h
    rfl
  · obtain ⟨p, q, C, rm, tk, op, b, wt, rfl, hC, ok, hq, hdr, k⟩ := h
    obtain ⟨pw, pt, pl, pv', h0, h1, h2, _⟩ := hC.ex
    obtain ⟨tv, ht, htl, htg⟩ := h2.get
    have big := line_big
    refine ⟨_, (pss_cons (ps_set (i := 2) sc_held.nd rfl (Or.inl rfl) (pe_op op_rep (pe_lst (pa_cons pe_int pa_nil)) (pe_op op_add (pe_glob (v := .int 11) rfl e_LAST_KIND ⟨_, rfl⟩) pe_int)))
      (pss_cons (ps_for PassesOwn.never rfl (pi_enumTK K rfl T.n_enumerate (pa_cons (pe_ix (ix_tupK K) (pv 0) (pe_glob (v := .int 4) rfl e_THINGS ⟨_, rfl⟩) (fun _ _ => rfl)) pa_nil)) (pg_tupK (n := 2) K rfl (pgs_cons (pg_name (i := 3) sc_held.nd rfl (Or.inl rfl)) (pgs_cons (pg_name (i := 4) sc_held.nd rfl (Or.inl rfl)) pgs_nil))) (pss_one (ps_if (pt_val (pe_cal C_has_bit hr (by decide) rfl (pa_cons (pe_ix (ix_tupK K) (pv 1) (pe_glob (v := .int 1) rfl e_TAKEN ⟨_, rfl⟩) (fun _ _ => rfl)) (pa_cons (pv 3) pa_nil)))) (pss_one (ps_augS (pv 2) (pe_ix (ix_tupK K) (pv 4) pe_int (fun _ _ => rfl)) (get_listK K) pe_int ip_add set_list)) pss_nil)))
      (pss_cons (ps_for PassesOwn.never rfl (pi_enumLK K rfl T.n_enumerate (pa_cons (pe_cal C_door_kinds hr (by decide) rfl (pa_cons (pv 0) pa_nil)) pa_nil)) (pg_tupK (n := 2) K rfl (pgs_cons (pg_name (i := 3) sc_held.nd rfl (Or.inl rfl)) (pgs_cons (pg_name (i := 5) sc_held.nd rfl (Or.inl rfl)) pgs_nil))) (pss_one (ps_if (pt_val (pe_cal C_has_bit hr (by decide) rfl (pa_cons (pe_ix (ix_tupK K) (pv 1) (pe_glob (v := .int 2) rfl e_OPENED ⟨_, rfl⟩) (fun _ _ => rfl)) (pa_cons (pv 3) pa_nil)))) (pss_one (ps_augS (pv 2) (pv 5) (get_listK K) pe_int ip_sub set_list)) pss_nil)))
      (pss_one (ps_ret (pv 2)))))), ?_⟩
    walk_at "rd"
    intro p1 hp1
    walk_at "rd"
    refine ⟨p1, _, _, rfl, rfl, upd_same, by decide, by decide, by show 1 * 12 <= sizeLine; decide, fun cs hcs => ?_⟩
    have hcs0 : H cs = none := (Same.upd hp1).free hcs
    have s0 : Same H (upd (upd H p1 (.lst [.int 0])) cs (.lst (List.replicate (11 + 1 : Int).toNat [V.int 0]).flatten)) := (Same.upd hp1).trans (Same.upd hcs)
    have h0' := s0 _ _ h0
    have ht' := s0 _ _ ht
    walk_at "rd"
    refine for_enu tv (fun i σ H' => ∃ v3 v4 v5, σ = [some (.ref p), some (.ref q), some (.ref cs), v3, v4, v5] /\ Same H H' /\ H' cs = some (.lst (cl fun k => (cnt (tP C tk k) i : Int)))) ⟨none, none, none, rfl, s0, by rw [upd_same]; rfl⟩ ?_ ?_ ?_
    · rintro i σ H' ⟨_, _, _, rfl, s1, _⟩
      exact SqT.of (s1 _ _ ht)
    · rintro i x σ H' T1 hx ⟨v3, v4, v5, rfl, s1, hc⟩ hT1
      have hi : i < C.things.length := by rw [<- htl]; exact (List.getElem?_eq_some_iff.mp hx).1
      obtain ⟨p2, e, hp2⟩ := htg i hi
      rw [hx] at e
      cases e
      have hp3 : H' p2 = _ := s1 _ _ hp2
      have hq3 := s1 _ _ hq
      obtain ⟨_, k0, k1⟩ := ok.t _ (List.getElem_mem hi)
      have sT : Same H (upd H' T1 (.tup [.int (i : Nat), .ref p2])) := s1.trans (Same.upd hT1)
      have hcT : (upd H' T1 (.tup [.int (i : Nat), .ref p2])) cs = some (.lst (cl fun k => (cnt (tP C tk k) i : Int))) := up_keep hc hT1
      walk_at "rd"
      refine ⟨tk, i, rfl, by omega, ?_⟩
      rw [Int.toNat_natCast]
      walk_at "rd"
      refine ite2 (fun hb => ?_) (fun hb => ?_)
      · walk_at "rd"
        refine r_ixL (SqL.of hcT) (cl_at k0 k1) ?_
        walk_at "rd"
        refine r_setL hcT (cl_ix k0 k1) ?_
        refine ⟨_, _, _, rfl, sT.put hcs0, ?_⟩
        rw [upd_same, cl_set k0 k1]
        congr 2
        refine cl_congr fun k _ _ => ?_
        rw [cnt_tp hi, if_pos hb]
        by_cases ek : k = C.things[i].2
        · rw [if_pos ek, if_pos ek, ek]
        · rw [if_neg ek, if_neg ek]; omega
      · walk_at "rd"
        refine ⟨_, _, _, rfl, sT, ?_⟩
        rw [hcT]
        congr 2
        refine cl_congr fun k _ _ => ?_
        rw [cnt_tp hi, if_neg hb]; omega
    · rintro σ H' ⟨v3, v4, v5, rfl, s1, hc⟩
      rw [show tv.length = C.things.length from htl] at hc
      walk_at "rd"
      refine ⟨p, C, rfl, hC.mono s1.ts, ok, fun dk H2 s2 hdk hdk2 => ?_⟩
      have s12 := s1.trans s2
      have hc2 := s2 _ _ hc
      walk_at "rd"
      refine for_enu (C.ways.map fun x => dkV x.g) (fun i σ H' => ∃ v3 v4 v5, σ = [some (.ref p), some (.ref q), some (.ref cs), v3, v4, v5] /\ Same H H' /\ H' dk = some (.lst (C.ways.map fun x => dkV x.g)) /\ H' cs = some (.lst (cl fun k => (cnt (tP C tk k) C.things.length : Int) - (cnt (dP (dsOf C) op k) i : Int)))) ⟨v3, v4, v5, rfl, s12, hdk2, ?_⟩ ?_ ?_ ?_
      · rw [hc2]
        refine congrArg (fun l => some (HO.lst l)) (cl_congr fun k _ _ => ?_)
        show _ = _ - ((0 : Nat) : Int)
        omega
      · rintro i σ H' ⟨_, _, _, rfl, s3, h3, _⟩
        exact SqL.of h3
      · rintro i x σ H' T1 hx ⟨v3, v4, v5, rfl, s3, hd3, hc3⟩ hT1
        have hi : i < C.ways.length := by have := (List.getElem?_eq_some_iff.mp hx).1; simpa using this
        have ex : x = dkV C.ways[i].g := by simpa [hi] using hx.symm
        subst ex
        have hq3 := s3 _ _ hq
        have hne : dk ≠ cs := fun z => by rw [z] at hdk; rw [hdk] at hc; cases hc
        have sT : Same H (upd H' T1 (.tup [.int (i : Nat), dkV C.ways[i].g])) := s3.trans (Same.upd hT1)
        have hcT : (upd H' T1 (.tup [.int (i : Nat), dkV C.ways[i].g])) cs = _ := up_keep hc3 hT1
        have hdT : (upd H' T1 (.tup [.int (i : Nat), dkV C.ways[i].g])) dk = _ := up_keep hd3 hT1
        walk_at "rd"
        refine ⟨op, i, rfl, by omega, ?_⟩
        rw [Int.toNat_natCast]
        walk_at "rd"
        refine ite2 (fun hb => ?_) (fun hb => ?_)
        · have hsome := hdr i hi hb
          have eds : dsOf C i = C.ways[i].g.dk := by simp [dsOf, hi]
          rw [eds] at hsome
          obtain ⟨k2, ek2⟩ := Option.isSome_iff_exists.mp hsome
          have hgok := (ok.w _ (List.getElem_mem hi)).2.2.2
          have hk2 : 0 <= k2 /\ k2 < 12 := by
            cases eg : C.ways[i].g with
            | door j => rw [eg] at ek2 hgok; cases ek2; exact hgok
            | _ => rw [eg] at ek2; cases ek2
          have ev : dkV C.ways[i].g = .int k2 := by unfold dkV; rw [ek2]
          rw [ev] at hcT hdT sT ⊢
          walk_at "rd"
          refine r_ixL (SqL.of hcT) (cl_at hk2.1 hk2.2) ?_
          walk_at "rd"
          refine r_setL hcT (cl_ix hk2.1 hk2.2) ?_
          refine ⟨_, _, _, rfl, sT.put hcs0, up_oth hdT hne, ?_⟩
          rw [upd_same, cl_set hk2.1 hk2.2]
          congr 2
          refine cl_congr fun k _ _ => ?_
          rw [cnt_dp hi, if_pos hb, ek2]
          by_cases ek : k = k2
          · rw [if_pos ek, if_pos (by rw [ek]), ek]; omega
          · rw [if_neg ek, if_neg (by intro z; exact ek (Option.some.inj z).symm)]; omega
        · walk_at "rd"
          refine ⟨_, _, _, rfl, sT, hdT, ?_⟩
          rw [hcT]
          congr 2
          refine cl_congr fun k _ _ => ?_
          rw [cnt_dp hi, if_neg hb]; omega
      · rintro σ H' ⟨v3, v4, v5, rfl, s3, hd3, hc3⟩
        walk_at "rd"
        rw [List.length_map] at hc3
        exact k cs H' s3 hcs0 hc3
end
def clsOf (cs : Cs) : Gt -> Addr
  | .plain => cs.Plain
  | .door _ => cs.Door
  | .need _ => cs.Need
  | .bar _ => cs.Bar
  | .wade _ _ => cs.Wade
  | .float _ => cs.Float
def fldB (q : Addr) (g : Gt) : List (Str × V) := putF "numbers" (.ref q) (putF "word" (.str g.word) [])
def flds (q : Addr) : Gt -> List (Str × V)
  | .need k => putF "kind" (.int k) (fldB q (.need k))
  | .bar b => putF "bar" (.int b) (fldB q (.bar b))
  | .wade h k => putF "kind" (.int k) (putF "height" (.int h) (fldB q (.wade h k)))
  | .float h => putF "height" (.int h) (fldB q (.float h))
  | g => fldB q g
theorem fl_lets (q : Addr) (g : Gt) : (flds q g).lookup ("lets" : Str) = none := by
  cases g <;> (unfold flds; first | unfold fldB | skip) <;> simp only [fldB, lookup_putF] <;> repeat (first | rfl | rw [if_neg (by decide +kernel)])
theorem fl_needk (q : Addr) (k : Int) : (flds q (.need k)).lookup ("kind" : Str) = some (.int k) := by
  unfold flds; rw [lookup_putF, if_pos rfl]
theorem fl_barb (q : Addr) (k : Int) : (flds q (.bar k)).lookup ("bar" : Str) = some (.int k) := by
  unfold flds; rw [lookup_putF, if_pos rfl]
theorem fl_wadek (q : Addr) (h k : Int) : (flds q (.wade h k)).lookup ("kind" : Str) = some (.int k) := by
  unfold flds; rw [lookup_putF, if_pos rfl]
theorem fl_wadeh (q : Addr) (h k : Int) : (flds q (.wade h k)).lookup ("height" : Str) = some (.int h) := by
  unfold flds; rw [lookup_putF, if_neg (by decide +kernel), lookup_putF, if_pos rfl]
theorem fl_floath (q : Addr) (h : Int) : (flds q (.float h)).lookup ("height" : Str) = some (.int h) := by
  unfold flds; rw [lookup_putF, if_pos rfl]
structure GObj (cs : Cs) (H : Hp) (p : Addr) (g : Gt) : Prop where
  ex : ∃ dx q, H p = some (.ins (clsOf cs g) dx (flds q g)) /\ H q = some (.tup (g.ns.map V.int))
theorem GObj.mono {cs : Cs} {H H' : Hp} {p : Addr} {g : Gt} (s : Same H H') (h : GObj cs H p g) : GObj cs H' p g := let ⟨dx, q, h1, h2⟩ := h.ex; ⟨dx, q, s _ _ h1, s _ _ h2⟩
def spGInit (K : W.Frag) : Sp := fun vs H Q _ => ∃ (p C dx q : Addr) (z : Str), vs = [.ref p, .str z, .ref q] /\ H p = some (.ins C dx []) /\ Cls K C /\ NoAttr K C "word" /\ NoAttr K C "numbers" /\ Q .non (upd H p (.ins C dx (putF "numbers" (.ref q) (putF "word" (.str z) []))))
def spMk (cs : Cs) (wd : Str) : Sp := fun vs H Q _ => ∃ (p dx : Addr) (g : Gt), vs = .ref p :: g.ns.map V.int /\ g.word = wd /\ H p = some (.ins (clsOf cs g) dx []) /\ ∀ H', (∀ b o, H b = some o -> b ≠ p -> H' b = some o) -> GObj cs H' p g -> Q .non H'
def spObj (cs : Cs) : Sp := fun vs H Q _ => ∃ (p : Addr) (g : Gt), vs = [.ref p] /\ H p = some (.tup g.vs) /\ ∀ (x : Addr) (H' : Hp), Same H H' -> H x = none -> GObj cs H' x g -> Q (.ref x) H'
def spLets (cs : Cs) (wd : Str) : Sp := fun vs H Q _ => ∃ (p hl : Addr) (g : Gt) (f : Int -> Int) (op : Bool) (bars wt : Int), vs = [.ref p, .ref hl, .bl op, .int bars, .int wt] /\ g.word = wd /\ GObj cs H p g /\ g.ok /\ H hl = some (.lst (cl f)) /\ Q (.bl (letsG g f op bars wt)) H
section
variable {P : Program} {w : World} {K : W.Frag} {mg : Str -> Option Value} {base : Heap} {cs : Cs}
theorem ok_ginit (T : Txt mg cs) (L : LaidC K mg "Gate" "__init__" "Gate.__init__" s_Gate_init ["self", "word", "numbers"]) : CCal P w K mg base 1 "Gate" "__init__" ["self", "word", "numbers"] (spGInit K) := by
  refine L.cc (k := 0) sc_Gate_init (fun vs H Q E h => ?_) (fun f cdv A outer s H vs Q E hr h => ?_)
  · obtain ⟨p, C, dx, q, z, rfl, _⟩ := h
    rfl
  · obtain ⟨p, C, dx, q, z, rfl, hp, cl, nw, nn, k⟩ := h
    refine ⟨_, (pss_cons (ps_fldK K (pv 0) (pv 1) rfl)
      (pss_one (ps_fldK K (pv 0) (pv 2) rfl))), ?_⟩
    walk_at "rd"
    refine r_setf hp cl nw (by decide) ?_
    walk_at "rd"
    refine r_setf upd_same cl nn (by show 1 < 1000; decide) ?_
    rw [upd_upd]
    exact k
theorem mk_plain (T : Txt mg cs) (TC : Tcl K cs) (L : LaidI K mg "Plain" cs.Plain "Plain.__init__" s_Plain_init ["self"]) (C_Gate_init : CCal P w K mg base 1 "Gate" "__init__" ["self", "word", "numbers"] (spGInit K)) : Makes P w K mg base 2 "Plain" cs.Plain ["self"] (spMk cs "plain") := by
  refine L.makes (k := 1) sc_Plain_init (fun vs H Q E h => ?_) (fun f cdv A outer s H vs Q E hr h => ?_)
  · obtain ⟨p, dx, g, rfl, hw, _⟩ := h
    cases g <;> first | rfl | exact absurd hw (by simp only [Gt.word]; decide +kernel)
  · obtain ⟨p, dx, g, rfl, hw, hp, k⟩ := h
    cases g <;> first | exact absurd hw (by simp only [Gt.word]; decide +kernel) | skip
    refine ⟨_, (pss_one (ps_expr (pe_cc C_Gate_init hr (by decide) rfl (pa_cons (pv 0) (pa_cons pe_str (pa_cons (pe_tup pa_nil) pa_nil)))))), ?_⟩
    walk_at "rd"
    intro t ht
    refine ⟨p, cs.Plain, dx, t, _, rfl, up_keep hp ht, TC.cl_Plain, TC.no_Plain_word, TC.no_Plain_numbers, ?_⟩
    walk_at "rd"
    have hpt : p ≠ t := ne_of_none hp ht
    refine k _ (fun b o hb hbp => ?_) ⟨dx, t, upd_same, by rw [upd_ne hpt.symm]; exact upd_same⟩
    rw [upd_ne hbp, upd_ne (ne_of_none hb ht)]
    exact hb
theorem mk_door (T : Txt mg cs) (TC : Tcl K cs) (L : LaidI K mg "Door" cs.Door "Door.__init__" s_Door_init ["self", "kind"]) (C_Gate_init : CCal P w K mg base 1 "Gate" "__init__" ["self", "word", "numbers"] (spGInit K)) : Makes P w K mg base 2 "Door" cs.Door ["self", "kind"] (spMk cs "door") := by
  refine L.makes (k := 1) sc_Door_init (fun vs H Q E h => ?_) (fun f cdv A outer s H vs Q E hr h => ?_)
  · obtain ⟨p, dx, g, rfl, hw, _⟩ := h
    cases g <;> first | rfl | exact absurd hw (by simp only [Gt.word]; decide +kernel)
  · obtain ⟨p, dx, g, rfl, hw, hp, k⟩ := h
    cases g <;> first | exact absurd hw (by simp only [Gt.word]; decide +kernel) | skip
    rename_i n
    refine ⟨_, (pss_one (ps_expr (pe_cc C_Gate_init hr (by decide) rfl (pa_cons (pv 0) (pa_cons pe_str (pa_cons (pe_tup (pa_cons (pv 1) pa_nil)) pa_nil)))))), ?_⟩
    walk_at "rd"
    intro t ht
    refine ⟨p, cs.Door, dx, t, _, rfl, up_keep hp ht, TC.cl_Door, TC.no_Door_word, TC.no_Door_numbers, ?_⟩
    walk_at "rd"
    have hpt : p ≠ t := ne_of_none hp ht
    refine k _ (fun b o hb hbp => ?_) ⟨dx, t, upd_same, by rw [upd_ne hpt.symm]; exact upd_same⟩
    rw [upd_ne hbp, upd_ne (ne_of_none hb ht)]
    exact hb
theorem mk_need (T : Txt mg cs) (TC : Tcl K cs) (L : LaidI K mg "Need" cs.Need "Need.__init__" s_Need_init ["self", "kind"]) (C_Gate_init : CCal P w K mg base 1 "Gate" "__init__" ["self", "word", "numbers"] (spGInit K)) : Makes P w K mg base 2 "Need" cs.Need ["self", "kind"] (spMk cs "need") := by
  refine L.makes (k := 1) sc_Need_init (fun vs H Q E h => ?_) (fun f cdv A outer s H vs Q E hr h => ?_)
  · obtain ⟨p, dx, g, rfl, hw, _⟩ := h
    cases g <;> first | rfl | exact absurd hw (by simp only [Gt.word]; decide +kernel)
  · obtain ⟨p, dx, g, rfl, hw, hp, k⟩ := h
    cases g <;> first | exact absurd hw (by simp only [Gt.word]; decide +kernel) | skip
    rename_i n
    refine ⟨_, (pss_cons (ps_expr (pe_cc C_Gate_init hr (by decide) rfl (pa_cons (pv 0) (pa_cons pe_str (pa_cons (pe_tup (pa_cons (pv 1) pa_nil)) pa_nil)))))
      (pss_one (ps_fldK K (pv 0) (pv 1) rfl))), ?_⟩
    walk_at "rd"
    intro t ht
    refine ⟨p, cs.Need, dx, t, _, rfl, up_keep hp ht, TC.cl_Need, TC.no_Need_word, TC.no_Need_numbers, ?_⟩
    walk_at "rd"
    refine r_setf upd_same TC.cl_Need TC.no_Need_kind (by show 2 < 1000; decide) ?_
    rw [upd_upd]
    have hpt : p ≠ t := ne_of_none hp ht
    refine k _ (fun b o hb hbp => ?_) ⟨dx, t, upd_same, by rw [upd_ne hpt.symm]; exact upd_same⟩
    rw [upd_ne hbp, upd_ne (ne_of_none hb ht)]
    exact hb
theorem mk_bar (T : Txt mg cs) (TC : Tcl K cs) (L : LaidI K mg "Bar" cs.Bar "Bar.__init__" s_Bar_init ["self", "bar"]) (C_Gate_init : CCal P w K mg base 1 "Gate" "__init__" ["self", "word", "numbers"] (spGInit K)) : Makes P w K mg base 2 "Bar" cs.Bar ["self", "bar"] (spMk cs "bar") := by
  refine L.makes (k := 1) sc_Bar_init (fun vs H Q E h => ?_) (fun f cdv A outer s H vs Q E hr h => ?_)
  · obtain ⟨p, dx, g, rfl, hw, _⟩ := h
    cases g <;> first | rfl | exact absurd hw (by simp only [Gt.word]; decide +kernel)
  · obtain ⟨p, dx, g, rfl, hw, hp, k⟩ := h
    cases g <;> first | exact absurd hw (by simp only [Gt.word]; decide +kernel) | skip
    rename_i n
    refine ⟨_, (pss_cons (ps_expr (pe_cc C_Gate_init hr (by decide) rfl (pa_cons (pv 0) (pa_cons pe_str (pa_cons (pe_tup (pa_cons (pv 1) pa_nil)) pa_nil)))))
      (pss_one (ps_fldK K (pv 0) (pv 1) rfl))), ?_⟩
    walk_at "rd"
    intro t ht
    refine ⟨p, cs.Bar, dx, t, _, rfl, up_keep hp ht, TC.cl_Bar, TC.no_Bar_word, TC.no_Bar_numbers, ?_⟩
    walk_at "rd"
    refine r_setf upd_same TC.cl_Bar TC.no_Bar_bar (by show 2 < 1000; decide) ?_
    rw [upd_upd]
    have hpt : p ≠ t := ne_of_none hp ht
    refine k _ (fun b o hb hbp => ?_) ⟨dx, t, upd_same, by rw [upd_ne hpt.symm]; exact upd_same⟩
    rw [upd_ne hbp, upd_ne (ne_of_none hb ht)]
    exact hb
theorem mk_float (T : Txt mg cs) (TC : Tcl K cs) (L : LaidI K mg "Float" cs.Float "Float.__init__" s_Float_init ["self", "height"]) (C_Gate_init : CCal P w K mg base 1 "Gate" "__init__" ["self", "word", "numbers"] (spGInit K)) : Makes P w K mg base 2 "Float" cs.Float ["self", "height"] (spMk cs "float") := by
  refine L.makes (k := 1) sc_Float_init (fun vs H Q E h => ?_) (fun f cdv A outer s H vs Q E hr h => ?_)
  · obtain ⟨p, dx, g, rfl, hw, _⟩ := h
    cases g <;> first | rfl | exact absurd hw (by simp only [Gt.word]; decide +kernel)
  · obtain ⟨p, dx, g, rfl, hw, hp, k⟩ := h
    cases g <;> first | exact absurd hw (by simp only [Gt.word]; decide +kernel) | skip
    rename_i n
    refine ⟨_, (pss_cons (ps_expr (pe_cc C_Gate_init hr (by decide) rfl (pa_cons (pv 0) (pa_cons pe_str (pa_cons (pe_tup (pa_cons (pv 1) pa_nil)) pa_nil)))))
      (pss_one (ps_fldK K (pv 0) (pv 1) rfl))), ?_⟩
    walk_at "rd"
    intro t ht
    refine ⟨p, cs.Float, dx, t, _, rfl, up_keep hp ht, TC.cl_Float, TC.no_Float_word, TC.no_Float_numbers, ?_⟩
    walk_at "rd"
    refine r_setf upd_same TC.cl_Float TC.no_Float_height (by show 2 < 1000; decide) ?_
    rw [upd_upd]
    have hpt : p ≠ t := ne_of_none hp ht
    refine k _ (fun b o hb hbp => ?_) ⟨dx, t, upd_same, by rw [upd_ne hpt.symm]; exact upd_same⟩
    rw [upd_ne hbp, upd_ne (ne_of_none hb ht)]
    exact hb
theorem mk_wade (T : Txt mg cs) (TC : Tcl K cs) (L : LaidI K mg "Wade" cs.Wade "Wade.__init__" s_Wade_init ["self", "height", "kind"]) (C_Gate_init : CCal P w K mg base 1 "Gate" "__init__" ["self", "word", "numbers"] (spGInit K)) : Makes P w K mg base 2 "Wade" cs.Wade ["self", "height", "kind"] (spMk cs "wade") := by
  refine L.makes (k := 1) sc_Wade_init (fun vs H Q E h => ?_) (fun f cdv A outer s H vs Q E hr h => ?_)
  · obtain ⟨p, dx, g, rfl, hw, _⟩ := h
    cases g <;> first | rfl | exact absurd hw (by simp only [Gt.word]; decide +kernel)
  · obtain ⟨p, dx, g, rfl, hw, hp, k⟩ := h
    cases g <;> first | exact absurd hw (by simp only [Gt.word]; decide +kernel) | skip
    rename_i n1 n2
    refine ⟨_, (pss_cons (ps_expr (pe_cc C_Gate_init hr (by decide) rfl (pa_cons (pv 0) (pa_cons pe_str (pa_cons (pe_tup (pa_cons (pv 1) (pa_cons (pv 2) pa_nil))) pa_nil)))))
      (pss_cons (ps_fldK K (pv 0) (pv 1) rfl)
      (pss_one (ps_fldK K (pv 0) (pv 2) rfl)))), ?_⟩
    walk_at "rd"
    intro t ht
    refine ⟨p, cs.Wade, dx, t, _, rfl, up_keep hp ht, TC.cl_Wade, TC.no_Wade_word, TC.no_Wade_numbers, ?_⟩
    walk_at "rd"
    refine r_setf upd_same TC.cl_Wade TC.no_Wade_height (by show 2 < 1000; decide) ?_
    walk_at "rd"
    refine r_setf upd_same TC.cl_Wade TC.no_Wade_kind (by show 3 < 1000; decide) ?_
    rw [upd_upd, upd_upd]
    have hpt : p ≠ t := ne_of_none hp ht
    refine k _ (fun b o hb hbp => ?_) ⟨dx, t, upd_same, by rw [upd_ne hpt.symm]; exact upd_same⟩
    rw [upd_ne hbp, upd_ne (ne_of_none hb ht)]
    exact hb
theorem made_obj {H : Hp} {Q : VK} {g : Gt} {x dx : Addr} (hx : H x = none) (hdx : H dx = none) (ne : dx ≠ x) (k : ∀ (x : Addr) (H' : Hp), Same H H' -> H x = none -> GObj cs H' x g -> Q (.ref x) H') : spMk cs g.word (.ref x :: (g.ns.map V.int ++ [])) (upd (upd H dx (.own x)) x (.ins (clsOf cs g) dx [])) (fun v H2 => v = .non /\ Q (.ref x) H2) E0 := by
  refine ⟨x, dx, g, by rw [List.append_nil], rfl, upd_same, fun H' hk ho => ⟨rfl, k x H' (fun b o hb => ?_) hx ho⟩⟩
  refine hk b o ?_ (ne_of_none hb hx)
  rw [upd_ne (ne_of_none hb hx), upd_ne (ne_of_none hb hdx)]
  exact hb
theorem ok_gate_of (T : Txt mg cs) (L : Laid K mg "gate_of" s_gate_of ["gate"]) (C_Plain : Makes P w K mg base 2 "Plain" cs.Plain ["self"] (spMk cs "plain")) (C_Door : Makes P w K mg base 2 "Door" cs.Door ["self", "kind"] (spMk cs "door")) (C_Need : Makes P w K mg base 2 "Need" cs.Need ["self", "kind"] (spMk cs "need"))
    (C_Bar : Makes P w K mg base 2 "Bar" cs.Bar ["self", "bar"] (spMk cs "bar")) (C_Wade : Makes P w K mg base 2 "Wade" cs.Wade ["self", "height", "kind"] (spMk cs "wade")) (C_Float : Makes P w K mg base 2 "Float" cs.Float ["self", "height"] (spMk cs "float")) : Cal P w K mg base 4 "gate_of" ["gate"] (spObj cs) := by
  refine L.cal (k := 3) sc_gate_of (fun vs H Q E h => ?_) (fun f cdv A outer s H vs Q E hr h => ?_)
  · obtain ⟨p, g, rfl, _⟩ := h
    rfl
  · obtain ⟨p, g, rfl, hp, k⟩ := h
    refine ⟨_, (pss_cons (ps_set (i := 1) sc_gate_of.nd rfl (Or.inl rfl) (pe_ix (ix_tupK K) (pv 0) pe_int (fun _ _ => rfl)))
      (pss_cons (ps_if (pt_cmpR op_eq (pv 1) pe_str (nomark _)) (pss_one (ps_ret (pe_mak0 C_Plain hr (by decide) rfl))) pss_nil)
      (pss_cons (ps_if (pt_cmpR op_eq (pv 1) pe_str (nomark _)) (pss_one (ps_ret (pe_mak C_Door hr (by decide) rfl (pa_cons (pe_ix (ix_tupK K) (pv 0) pe_int (fun _ _ => rfl)) pa_nil)))) pss_nil)
      (pss_cons (ps_if (pt_cmpR op_eq (pv 1) pe_str (nomark _)) (pss_one (ps_ret (pe_mak C_Need hr (by decide) rfl (pa_cons (pe_ix (ix_tupK K) (pv 0) pe_int (fun _ _ => rfl)) pa_nil)))) pss_nil)
      (pss_cons (ps_if (pt_cmpR op_eq (pv 1) pe_str (nomark _)) (pss_one (ps_ret (pe_mak C_Bar hr (by decide) rfl (pa_cons (pe_ix (ix_tupK K) (pv 0) pe_int (fun _ _ => rfl)) pa_nil)))) pss_nil)
      (pss_cons (ps_if (pt_cmpR op_eq (pv 1) pe_str (nomark _)) (pss_one (ps_ret (pe_mak C_Wade hr (by decide) rfl (pa_cons (pe_ix (ix_tupK K) (pv 0) pe_int (fun _ _ => rfl)) (pa_cons (pe_ix (ix_tupK K) (pv 0) pe_int (fun _ _ => rfl)) pa_nil))))) pss_nil)
      (pss_cons (ps_if (pt_cmpR op_eq (pv 1) pe_str (nomark _)) (pss_one (ps_ret (pe_mak C_Float hr (by decide) rfl (pa_cons (pe_ix (ix_tupK K) (pv 0) pe_int (fun _ _ => rfl)) pa_nil)))) pss_nil)
      (pss_one ps_never)))))))), ?_⟩
    have hp' := hp
    rw [Gt.vs_eq] at hp'
    walk_at "rd"
    refine ifd (fun h1 => ?_) (fun h1 => ?_)
    · cases g <;> first | exact absurd h1 (by simp only [Gt.word]; decide +kernel) | skip
      walk_at "rd"
      exact fun x dx hx hdx ne => made_obj hx hdx ne k
    walk_at "rd"
    refine ifd (fun h2 => ?_) (fun h2 => ?_)
    · cases g <;> first | exact absurd h2 (by simp only [Gt.word]; decide +kernel) | skip
      walk_at "rd"
      exact fun x dx hx hdx ne => made_obj hx hdx ne k
    walk_at "rd"
    refine ifd (fun h3 => ?_) (fun h3 => ?_)
    · cases g <;> first | exact absurd h3 (by simp only [Gt.word]; decide +kernel) | skip
      walk_at "rd"
      exact fun x dx hx hdx ne => made_obj hx hdx ne k
    walk_at "rd"
    refine ifd (fun h4 => ?_) (fun h4 => ?_)
    · cases g <;> first | exact absurd h4 (by simp only [Gt.word]; decide +kernel) | skip
      walk_at "rd"
      exact fun x dx hx hdx ne => made_obj hx hdx ne k
    walk_at "rd"
    refine ifd (fun h5 => ?_) (fun h5 => ?_)
    · cases g <;> first | exact absurd h5 (by simp only [Gt.word]; decide +kernel) | skip
      walk_at "rd"
      exact fun x dx hx hdx ne => made_obj hx hdx ne k
    walk_at "rd"
    refine ifd (fun h6 => ?_) (fun h6 => ?_)
    · cases g <;> first | exact absurd h6 (by simp only [Gt.word]; decide +kernel) | skip
      walk_at "rd"
      exact fun x dx hx hdx ne => made_obj hx hdx ne k
    cases g
    · exact absurd rfl h1
    · exact absurd rfl h2
    · exact absurd rfl h3
    · exact absurd rfl h4
    · exact absurd rfl h5
    · exact absurd rfl h6
theorem vm_lets_Plain (T : Txt mg cs) (TC : Tcl K cs) (L : LaidM K cs.Plain "lets" "Plain.lets" s_Plain_lets ["self", "held", "opened", "bars", "water"]) : VMeth P w K mg base 2 cs.Plain "lets" ["self", "held", "opened", "bars", "water"] (spLets cs "plain") := by
  refine L.vm (k := 1) TC.cl_Plain sc_Plain_lets (fun vs H Q E h => ?_) (fun f cdv A outer s H vs Q E hr h => ?_)
  · obtain ⟨p, hl, g, fn, op, bars, wt, rfl, _⟩ := h
    rfl
  · obtain ⟨p, hl, g, fn, op, bars, wt, rfl, hw, ho, ok, hh, k⟩ := h
    obtain ⟨dx, q, hp, hq⟩ := ho.ex
    cases g <;> first | exact absurd hw (by simp only [Gt.word]; decide +kernel) | skip
    refine ⟨_, (pss_one (ps_ret pe_bl)), ?_⟩
    walk_at "rd"
    exact k
theorem vm_lets_Door (T : Txt mg cs) (TC : Tcl K cs) (L : LaidM K cs.Door "lets" "Door.lets" s_Door_lets ["self", "held", "opened", "bars", "water"]) : VMeth P w K mg base 2 cs.Door "lets" ["self", "held", "opened", "bars", "water"] (spLets cs "door") := by
  refine L.vm (k := 1) TC.cl_Door sc_Door_lets (fun vs H Q E h => ?_) (fun f cdv A outer s H vs Q E hr h => ?_)
  · obtain ⟨p, hl, g, fn, op, bars, wt, rfl, _⟩ := h
    rfl
  · obtain ⟨p, hl, g, fn, op, bars, wt, rfl, hw, ho, ok, hh, k⟩ := h
    obtain ⟨dx, q, hp, hq⟩ := ho.ex
    cases g <;> first | exact absurd hw (by simp only [Gt.word]; decide +kernel) | skip
    rename_i n
    refine ⟨_, (pss_one (ps_ret (pv 2))), ?_⟩
    walk_at "rd"
    exact k
theorem vm_lets_Need (T : Txt mg cs) (TC : Tcl K cs) (L : LaidM K cs.Need "lets" "Need.lets" s_Need_lets ["self", "held", "opened", "bars", "water"]) : VMeth P w K mg base 2 cs.Need "lets" ["self", "held", "opened", "bars", "water"] (spLets cs "need") := by
  refine L.vm (k := 1) TC.cl_Need sc_Need_lets (fun vs H Q E h => ?_) (fun f cdv A outer s H vs Q E hr h => ?_)
  · obtain ⟨p, hl, g, fn, op, bars, wt, rfl, _⟩ := h
    rfl
  · obtain ⟨p, hl, g, fn, op, bars, wt, rfl, hw, ho, ok, hh, k⟩ := h
    obtain ⟨dx, q, hp, hq⟩ := ho.ex
    cases g <;> first | exact absurd hw (by simp only [Gt.word]; decide +kernel) | skip
    rename_i n
    refine ⟨_, (pss_one (ps_ret (pe_cmpR op_gt (pe_ix (ix_listK K) (pv 1) (pe_fldK K (pv 0) rfl) (fun _ _ => rfl)) pe_int (nomark _)))), ?_⟩
    have ok' : 0 <= n /\ n < 12 := ok
    walk_at "rd"
    refine r_fld hp TC.cl_Need TC.no_Need_kind (fl_needk q n) ?_
    refine r_ixL (SqL.of hh) (cl_at ok'.1 ok'.2) ?_
    walk_at "rd"
    exact k
theorem vm_lets_Bar (T : Txt mg cs) (TC : Tcl K cs) (L : LaidM K cs.Bar "lets" "Bar.lets" s_Bar_lets ["self", "held", "opened", "bars", "water"]) (C_has_bit : Cal P w K mg base 1 "has_bit" ["bits", "place"] spBit) : VMeth P w K mg base 2 cs.Bar "lets" ["self", "held", "opened", "bars", "water"] (spLets cs "bar") := by
  refine L.vm (k := 1) TC.cl_Bar sc_Bar_lets (fun vs H Q E h => ?_) (fun f cdv A outer s H vs Q E hr h => ?_)
  · obtain ⟨p, hl, g, fn, op, bars, wt, rfl, _⟩ := h
    rfl
  · obtain ⟨p, hl, g, fn, op, bars, wt, rfl, hw, ho, ok, hh, k⟩ := h
    obtain ⟨dx, q, hp, hq⟩ := ho.ex
    cases g <;> first | exact absurd hw (by simp only [Gt.word]; decide +kernel) | skip
    rename_i n
    refine ⟨_, (pss_one (ps_ret (pe_cal C_has_bit hr (by decide) rfl (pa_cons (pv 3) (pa_cons (pe_fldK K (pv 0) rfl) pa_nil))))), ?_⟩
    have ok' : 0 <= n /\ n < 8 := ok
    walk_at "rd"
    refine r_fld hp TC.cl_Bar TC.no_Bar_bar (fl_barb q n) ?_
    walk_at "rd"
    exact ⟨bars, n, rfl, ok'.1, k⟩
theorem vm_lets_Wade (T : Txt mg cs) (TC : Tcl K cs) (L : LaidM K cs.Wade "lets" "Wade.lets" s_Wade_lets ["self", "held", "opened", "bars", "water"]) : VMeth P w K mg base 2 cs.Wade "lets" ["self", "held", "opened", "bars", "water"] (spLets cs "wade") := by
  refine L.vm (k := 1) TC.cl_Wade sc_Wade_lets (fun vs H Q E h => ?_) (fun f cdv A outer s H vs Q E hr h => ?_)
  · obtain ⟨p, hl, g, fn, op, bars, wt, rfl, _⟩ := h
    rfl
  · obtain ⟨p, hl, g, fn, op, bars, wt, rfl, hw, ho, ok, hh, k⟩ := h
    obtain ⟨dx, q, hp, hq⟩ := ho.ex
    cases g <;> first | exact absurd hw (by simp only [Gt.word]; decide +kernel) | skip
    rename_i n1 n2
    refine ⟨_, (pss_one (ps_ret (pe_or (pe_cmpR op_le (pv 4) (pe_fldK K (pv 0) rfl) (nomark _)) (pe_one (pe_cmpR op_gt (pe_ix (ix_listK K) (pv 1) (pe_fldK K (pv 0) rfl) (fun _ _ => rfl)) pe_int (nomark _)))))), ?_⟩
    have ok' : (0 <= n1 /\ n1 < 10) /\ 0 <= n2 /\ n2 < 12 := ok
    walk_at "rd"
    refine r_fld hp TC.cl_Wade TC.no_Wade_height (fl_wadeh q n1 n2) ?_
    walk_at "rd"
    have k' : Q (.bl (decide (wt <= n1) || decide (0 < fn n2))) H := k
    refine ifd (fun h1 => ?_) (fun h1 => ?_)
    · rw [decide_eq_true h1, Bool.true_or] at k'
      exact k'
    · rw [decide_eq_false h1, Bool.false_or] at k'
      walk_at "rd"
      refine r_fld hp TC.cl_Wade TC.no_Wade_kind (fl_wadek q n1 n2) ?_
      refine r_ixL (SqL.of hh) (cl_at ok'.2.1 ok'.2.2) ?_
      walk_at "rd"
      exact k'
theorem vm_lets_Float (T : Txt mg cs) (TC : Tcl K cs) (L : LaidM K cs.Float "lets" "Float.lets" s_Float_lets ["self", "held", "opened", "bars", "water"]) : VMeth P w K mg base 2 cs.Float "lets" ["self", "held", "opened", "bars", "water"] (spLets cs "float") := by
  refine L.vm (k := 1) TC.cl_Float sc_Float_lets (fun vs H Q E h => ?_) (fun f cdv A outer s H vs Q E hr h => ?_)
  · obtain ⟨p, hl, g, fn, op, bars, wt, rfl, _⟩ := h
    rfl
  · obtain ⟨p, hl, g, fn, op, bars, wt, rfl, hw, ho, ok, hh, k⟩ := h
    obtain ⟨dx, q, hp, hq⟩ := ho.ex
    cases g <;> first | exact absurd hw (by simp only [Gt.word]; decide +kernel) | skip
    rename_i n
    refine ⟨_, (pss_one (ps_ret (pe_cmpR op_ge (pv 4) (pe_fldK K (pv 0) rfl) (nomark _)))), ?_⟩
    walk_at "rd"
    refine r_fld hp TC.cl_Float TC.no_Float_height (fl_floath q n) ?_
    walk_at "rd"
    exact k
end
def dcls (cs : Cs) : Wd -> Addr
  | .go => cs.Go
  | .pull => cs.Pull
  | .take => cs.Take
  | .turn => cs.Turn
  | .unlock => cs.Unlock
def dfl (d : Wd) (n : Int) : List (Str × V) := putF "part" (.int d.part) (putF "number" (.int n) (putF "word" (.str d.str) []))
theorem df_word (d : Wd) (n : Int) : (dfl d n).lookup ("word" : Str) = some (.str d.str) := by
  unfold dfl; simp only [lookup_putF]; repeat (first | rw [if_pos rfl] | rw [if_pos trivial] | rw [if_neg (by decide +kernel)])
theorem df_number (d : Wd) (n : Int) : (dfl d n).lookup ("number" : Str) = some (.int n) := by
  unfold dfl; simp only [lookup_putF]; repeat (first | rw [if_pos rfl] | rw [if_pos trivial] | rw [if_neg (by decide +kernel)])
theorem df_part (d : Wd) (n : Int) : (dfl d n).lookup ("part" : Str) = some (.int d.part) := by
  unfold dfl; simp only [lookup_putF]; repeat (first | rw [if_pos rfl] | rw [if_pos trivial] | rw [if_neg (by decide +kernel)])
theorem df_none (d : Wd) (n : Int) {m : Str} (h1 : m ≠ "part") (h2 : m ≠ "number") (h3 : m ≠ "word") : (dfl d n).lookup m = none := by
  unfold dfl; simp only [lookup_putF]; rw [if_neg h1, if_neg h2, if_neg h3]; rfl
theorem df_can (d : Wd) (n : Int) : (dfl d n).lookup ("can" : Str) = none := df_none d n (by decide +kernel) (by decide +kernel) (by decide +kernel)
theorem df_fits (d : Wd) (n : Int) : (dfl d n).lookup ("fits" : Str) = none := df_none d n (by decide +kernel) (by decide +kernel) (by decide +kernel)
theorem df_done (d : Wd) (n : Int) : (dfl d n).lookup ("done" : Str) = none := df_none d n (by decide +kernel) (by decide +kernel) (by decide +kernel)
theorem df_told (d : Wd) (n : Int) : (dfl d n).lookup ("told" : Str) = none := df_none d n (by decide +kernel) (by decide +kernel) (by decide +kernel)
theorem df_own (d : Wd) (n : Int) : (dfl d n).lookup ("own_part" : Str) = none := df_none d n (by decide +kernel) (by decide +kernel) (by decide +kernel)
structure DObj (cs : Cs) (H : Hp) (p : Addr) (d : Wd) (n : Int) : Prop where
  ex : ∃ dx, H p = some (.ins (dcls cs d) dx (dfl d n))
theorem DObj.mono {cs : Cs} {H H' : Hp} {p : Addr} {d : Wd} {n : Int} (s : Same H H') (h : DObj cs H p d n) : DObj cs H' p d n := let ⟨dx, h1⟩ := h.ex; ⟨dx, s _ _ h1⟩
structure DCl (K : W.Frag) (cs : Cs) (d : Wd) : Prop where
  cl : Cls K (dcls cs d)
  nw : NoAttr K (dcls cs d) "word"
  nn : NoAttr K (dcls cs d) "number"
  np : NoAttr K (dcls cs d) "part"
theorem dcl_of {K : W.Frag} {cs : Cs} (TC : Tcl K cs) (d : Wd) : DCl K cs d := by
  cases d
  · exact ⟨TC.cl_Go, TC.no_Go_word, TC.no_Go_number, TC.no_Go_part⟩
  · exact ⟨TC.cl_Pull, TC.no_Pull_word, TC.no_Pull_number, TC.no_Pull_part⟩
  · exact ⟨TC.cl_Take, TC.no_Take_word, TC.no_Take_number, TC.no_Take_part⟩
  · exact ⟨TC.cl_Turn, TC.no_Turn_word, TC.no_Turn_number, TC.no_Turn_part⟩
  · exact ⟨TC.cl_Unlock, TC.no_Unlock_word, TC.no_Unlock_number, TC.no_Unlock_part⟩
def RowAt (H : Hp) (C : Cl) (i : Nat) (r : Addr) : Wd -> Prop
  | .go => ∃ x, C.ways[i]? = some x /\ WayAt H r x
  | .pull => ∃ x, C.levers[i]? = some x /\ PairAt H r x
  | .take => ∃ x, C.things[i]? = some x /\ PairAt H r x
  | .turn => ∃ x, C.wheels[i]? = some x /\ PairAt H r x
  | .unlock => ∃ x, C.ways[i]? = some x /\ WayAt H r x
def spWithin : Sp := fun vs H Q _ => ∃ n a b : Int, vs = [.int n, .int a, .int b] /\ Q (.bl (decide (a <= n) && decide (n <= b))) H
def spEnter : Sp := fun vs H Q _ => ∃ (r : Addr) (x : Way) (rm : Int), vs = [.ref r, .int rm] /\ WayAt H r x /\ Q (.bl (enterB x rm)) H
def spChg : Sp := fun vs H Q _ => ∃ (q : Addr) (s : Sd) (j : Nat) (n : Int), vs = [.ref q, .int j, .int n] /\ j < 5 /\ H q = some (.tup s.vs) /\ ∀ (r : Addr) (H' : Hp), Same H H' -> H' r = some (.tup (s.vs.set j (.int n))) -> Q (.ref r) H'
def spDInit (K : W.Frag) : Sp := fun vs H Q _ => ∃ (p C dx : Addr) (z : Str) (n t : Int), vs = [.ref p, .str z, .int n, .int t] /\ H p = some (.ins C dx []) /\ Cls K C /\ NoAttr K C "word" /\ NoAttr K C "number" /\ NoAttr K C "part" /\ Q .non (upd H p (.ins C dx (putF "part" (.int t) (putF "number" (.int n) (putF "word" (.str z) [])))))
def spMkD (cs : Cs) (d : Wd) : Sp := fun vs H Q _ => ∃ (p dx : Addr) (n : Int), vs = [.ref p, .int n] /\ H p = some (.ins (dcls cs d) dx []) /\ ∀ H', (∀ b o, H b = some o -> b ≠ p -> H' b = some o) -> DObj cs H' p d n -> Q .non H'
def spOwn (cs : Cs) (d : Wd) : Sp := fun vs H Q _ => ∃ (p c : Addr) (C : Cl) (i : Nat), vs = [.ref p, .ref c] /\ DObj cs H p d i /\ ClAt H c C /\ i < C.num d /\ ∀ r, RowAt H C i r d -> Q (.ref r) H
def spFits (cs : Cs) (d : Wd) : Sp := fun vs H Q _ => ∃ (p c q : Addr) (C : Cl) (s : Sd) (i : Nat), vs = [.ref p, .ref c, .ref q] /\ DObj cs H p d i /\ ClAt H c C /\ ClOk C /\ H q = some (.tup s.vs) /\ s.ok C /\ i < C.num d /\ ∀ H', Same H H' -> Q (.bl (canB C s i d)) H'
def spCan (cs : Cs) (d : Wd) : Sp := fun vs H Q _ => ∃ (p c q : Addr) (C : Cl) (s : Sd) (n : Int), vs = [.ref p, .ref c, .ref q] /\ DObj cs H p d n /\ ClAt H c C /\ ClOk C /\ H q = some (.tup s.vs) /\ s.ok C /\ ∀ H', Same H H' -> Q (.bl (canD C s d n)) H'
def spDone (cs : Cs) (d : Wd) : Sp := fun vs H Q _ => ∃ (p c q : Addr) (C : Cl) (s : Sd) (n : Int), vs = [.ref p, .ref c, .ref q] /\ DObj cs H p d n /\ ClAt H c C /\ ClOk C /\ H q = some (.tup s.vs) /\ s.ok C /\ canD C s d n = true /\ ∀ (r : Addr) (H' : Hp), Same H H' -> H' r = some (.tup (doneD C s d n).vs) -> Q (.ref r) H'
def spDTold (cs : Cs) (d : Wd) : Sp := fun vs H Q _ => ∃ (p : Addr) (n : Int), vs = [.ref p] /\ DObj cs H p d n /\ ∀ (r : Addr) (H' : Hp), Same H H' -> H' r = some (.tup [.str d.str, .int n]) -> Q (.ref r) H'
def spDof (cs : Cs) : Sp := fun vs H Q _ => ∃ (t : Addr) (d : Wd) (n : Int), vs = [.ref t] /\ H t = some (.tup [.str d.str, .int n]) /\ ∀ (x : Addr) (H' : Hp), Same H H' -> H x = none -> DObj cs H' x d n -> Q (.ref x) H'
section
variable {P : Program} {w : World} {K : W.Frag} {mg : Str -> Option Value} {base : Heap} {cs : Cs}
theorem ok_within (T : Txt mg cs) (L : Laid K mg "within" s_within ["number", "least", "most"]) : Cal P w K mg base 1 "within" ["number", "least", "most"] spWithin := by
  refine L.cal (k := 0) sc_within (fun vs H Q E h => ?_) (fun f cdv A outer s H vs Q E hr h => ?_)
  · obtain ⟨n, a, b, rfl, _⟩ := h
    rfl
  · obtain ⟨n, a, b, rfl, k⟩ := h
    refine ⟨_, (pss_cons (ps_if (PW.pt (pw_or (pt_val (pe_callB call_isiS rfl T.n_isinstance bt_isinstance (pa_cons (pv 0) (pa_cons (pe_bltn (v := .ty "bool") rfl T.n_bool bt_bool rfl) pa_nil)))) (pw_or1 (pt_not (pt_val (pe_callB call_isiS rfl T.n_isinstance bt_isinstance (pa_cons (pv 0) (pa_cons (pe_bltn (v := .ty "int") rfl T.n_int bt_int rfl) pa_nil)))))))) (pss_one (ps_ret pe_bl)) pss_nil)
      (pss_one (ps_ret (pe_chain op_le op_le (pv 1) (pv 0) (pv 2))))), ?_⟩
    walk_at "rd"
    refine ifd (fun h => ?_) (fun h => ?_)
    · walk_at "rd"
      rw [decide_eq_true h, Bool.true_and] at k
      exact k
    · rw [decide_eq_false h, Bool.false_and] at k
      exact k
theorem ok_enter (T : Txt mg cs) (L : Laid K mg "can_enter" s_can_enter ["way", "room"]) : Cal P w K mg base 1 "can_enter" ["way", "room"] spEnter := by
  obtain ⟨t1, e_WAY_A⟩ := T.e_WAY_A
  obtain ⟨t2, e_WAY_B⟩ := T.e_WAY_B
  obtain ⟨t3, e_WAY_BACK⟩ := T.e_WAY_BACK
  refine L.cal (k := 0) sc_can_enter (fun vs H Q E h => ?_) (fun f cdv A outer s H vs Q E hr h => ?_)
  · obtain ⟨r, x, rm, rfl, _⟩ := h
    rfl
  · obtain ⟨r, x, rm, rfl, hW, k⟩ := h
    obtain ⟨g, hr1, hg⟩ := hW
    unfold enterB at k
    refine ⟨_, (pss_one (ps_ret (pe_or (pe_cmpR op_eq (pv 1) (pe_ix (ix_tupK K) (pv 0) (pe_glob (v := .int 0) rfl e_WAY_A ⟨_, rfl⟩) (fun _ _ => rfl)) (nomark _)) (pe_one (pe_and (pe_cmpR op_eq (pv 1) (pe_ix (ix_tupK K) (pv 0) (pe_glob (v := .int 1) rfl e_WAY_B ⟨_, rfl⟩) (fun _ _ => rfl)) (nomark _)) (pe_one (pe_ix (ix_tupK K) (pv 0) (pe_glob (v := .int 3) rfl e_WAY_BACK ⟨_, rfl⟩) (fun _ _ => rfl)))))))), ?_⟩
    walk_at "rd"
    refine ifd (fun h => ?_) (fun h => ?_)
    · rw [decide_eq_true h, Bool.true_or] at k
      exact k
    · rw [decide_eq_false h, Bool.false_or] at k
      walk_at "rd"
      refine ifd (fun h => ?_) (fun h => ?_)
      · rw [decide_eq_true h, Bool.true_and] at k
        walk_at "rd"
        exact k
      · rw [decide_eq_false h, Bool.false_and] at k
        exact k
theorem ok_changed (T : Txt mg cs) (L : Laid K mg "changed" s_changed ["parts", "place", "part"]) : Cal P w K mg base 1 "changed" ["parts", "place", "part"] spChg := by
  refine L.cal (k := 0) sc_changed (fun vs H Q E h => ?_) (fun f cdv A outer s H vs Q E hr h => ?_)
  · obtain ⟨q, s, j, n, rfl, _⟩ := h
    rfl
  · obtain ⟨q, st, j, n, rfl, hj, hq, k⟩ := h
    have big := line_big
    refine ⟨_, (pss_one (ps_ret (pe_op (op_catTA K) (pe_op (op_catTA K) (pe_slice (sl_tupAK K) (pv 0) po_none (po_some (pv 1))) (pe_tup (pa_cons (pv 2) pa_nil))) (pe_slice (sl_tupAK K) (pv 0) (po_some (pe_op op_add (pv 1) pe_int)) po_none)))), ?_⟩
    obtain rfl | rfl | rfl | rfl | rfl : j = 0 \/ j = 1 \/ j = 2 \/ j = 3 \/ j = 4 := by omega
    · walk_at "rd"
      refine ⟨q, _, rfl, SqT.of hq, fun e => absurd (show (0 : Nat) = 5 from congrArg List.length e) (by decide), fun t1 ht1 => ?_⟩
      have s1 := Same.upd (o := .tup (cutV st.vs none (some ((0 : Nat) : Int)))) ht1
      have h1 : (upd H t1 (.tup (cutV st.vs none (some ((0 : Nat) : Int))))) t1 = some (.tup []) := upd_same
      generalize upd H t1 (.tup (cutV st.vs none (some ((0 : Nat) : Int)))) = H1 at s1 h1 ⊢
      walk_at "rd"
      intro t2 ht2
      have s2 := Same.upd (o := .tup [.int n]) ht2
      have h2 := upd_same (H := H1) (a := t2) (o := .tup [.int n])
      have h12 := s2 _ _ h1
      generalize upd H1 t2 (.tup [.int n]) = H2 at s2 h2 h12 ⊢
      refine r_catA0 (SqT.of h12) (SqT.of h2) (by show 1 <= sizeLine; omega) ?_
      have hq2 := s2 _ _ (s1 _ _ hq)
      walk_at "rd"
      refine ⟨q, _, rfl, SqT.of hq2, fun e => absurd (show (4 : Nat) = 5 from congrArg List.length e) (by decide), fun t3 ht3 => ?_⟩
      have s3 := Same.upd (o := .tup (cutV st.vs (some (((0 : Nat) : Int) + 1)) none)) ht3
      have h3 : (upd H2 t3 (.tup (cutV st.vs (some (((0 : Nat) : Int) + 1)) none))) t3 = some (.tup [.int st.tk, .int st.op, .int st.b, .int st.wt]) := upd_same
      generalize upd H2 t3 (.tup (cutV st.vs (some (((0 : Nat) : Int) + 1)) none)) = H3 at s3 h3 ⊢
      refine r_catA2 (SqT.of (s3 _ _ h2)) (SqT.of h3) rfl fun t4 ht4 => ?_
      exact k t4 _ (((s1.trans s2).trans s3).trans (Same.upd ht4)) upd_same
    · walk_at "rd"
      refine ⟨q, _, rfl, SqT.of hq, fun e => absurd (show (1 : Nat) = 5 from congrArg List.length e) (by decide), fun t1 ht1 => ?_⟩
      have s1 := Same.upd (o := .tup (cutV st.vs none (some ((1 : Nat) : Int)))) ht1
      have h1 : (upd H t1 (.tup (cutV st.vs none (some ((1 : Nat) : Int))))) t1 = some (.tup [.int st.rm]) := upd_same
      generalize upd H t1 (.tup (cutV st.vs none (some ((1 : Nat) : Int)))) = H1 at s1 h1 ⊢
      walk_at "rd"
      intro t2 ht2
      have s2 := Same.upd (o := .tup [.int n]) ht2
      have h2 := upd_same (H := H1) (a := t2) (o := .tup [.int n])
      have h12 := s2 _ _ h1
      generalize upd H1 t2 (.tup [.int n]) = H2 at s2 h2 h12 ⊢
      refine r_catA2 (SqT.of h12) (SqT.of h2) rfl fun t5 ht5 => ?_
      have s5 := Same.upd (o := .tup [.int st.rm, .int n]) ht5
      have h5 := upd_same (H := H2) (a := t5) (o := .tup [.int st.rm, .int n])
      have hq2 := s5 _ _ (s2 _ _ (s1 _ _ hq))
      show (tSl _ _ _ _) _ (upd H2 t5 (.tup [.int st.rm, .int n])) _
      generalize upd H2 t5 (.tup [.int st.rm, .int n]) = H5 at s5 h5 hq2 ⊢
      walk_at "rd"
      refine ⟨q, _, rfl, SqT.of hq2, fun e => absurd (show (3 : Nat) = 5 from congrArg List.length e) (by decide), fun t3 ht3 => ?_⟩
      have s3 := Same.upd (o := .tup (cutV st.vs (some (((1 : Nat) : Int) + 1)) none)) ht3
      have h3 : (upd H5 t3 (.tup (cutV st.vs (some (((1 : Nat) : Int) + 1)) none))) t3 = some (.tup [.int st.op, .int st.b, .int st.wt]) := upd_same
      generalize upd H5 t3 (.tup (cutV st.vs (some (((1 : Nat) : Int) + 1)) none)) = H3 at s3 h3 ⊢
      refine r_catA2 (SqT.of (s3 _ _ h5)) (SqT.of h3) rfl fun t4 ht4 => ?_
      exact k t4 _ ((((s1.trans s2).trans s5).trans s3).trans (Same.upd ht4)) upd_same
    · walk_at "rd"
      refine ⟨q, _, rfl, SqT.of hq, fun e => absurd (show (2 : Nat) = 5 from congrArg List.length e) (by decide), fun t1 ht1 => ?_⟩
      have s1 := Same.upd (o := .tup (cutV st.vs none (some ((2 : Nat) : Int)))) ht1
      have h1 : (upd H t1 (.tup (cutV st.vs none (some ((2 : Nat) : Int))))) t1 = some (.tup [.int st.rm, .int st.tk]) := upd_same
      generalize upd H t1 (.tup (cutV st.vs none (some ((2 : Nat) : Int)))) = H1 at s1 h1 ⊢
      walk_at "rd"
      intro t2 ht2
      have s2 := Same.upd (o := .tup [.int n]) ht2
      have h2 := upd_same (H := H1) (a := t2) (o := .tup [.int n])
      have h12 := s2 _ _ h1
      generalize upd H1 t2 (.tup [.int n]) = H2 at s2 h2 h12 ⊢
      refine r_catA2 (SqT.of h12) (SqT.of h2) rfl fun t5 ht5 => ?_
      have s5 := Same.upd (o := .tup [.int st.rm, .int st.tk, .int n]) ht5
      have h5 := upd_same (H := H2) (a := t5) (o := .tup [.int st.rm, .int st.tk, .int n])
      have hq2 := s5 _ _ (s2 _ _ (s1 _ _ hq))
      show (tSl _ _ _ _) _ (upd H2 t5 (.tup [.int st.rm, .int st.tk, .int n])) _
      generalize upd H2 t5 (.tup [.int st.rm, .int st.tk, .int n]) = H5 at s5 h5 hq2 ⊢
      walk_at "rd"
      refine ⟨q, _, rfl, SqT.of hq2, fun e => absurd (show (2 : Nat) = 5 from congrArg List.length e) (by decide), fun t3 ht3 => ?_⟩
      have s3 := Same.upd (o := .tup (cutV st.vs (some (((2 : Nat) : Int) + 1)) none)) ht3
      have h3 : (upd H5 t3 (.tup (cutV st.vs (some (((2 : Nat) : Int) + 1)) none))) t3 = some (.tup [.int st.b, .int st.wt]) := upd_same
      generalize upd H5 t3 (.tup (cutV st.vs (some (((2 : Nat) : Int) + 1)) none)) = H3 at s3 h3 ⊢
      refine r_catA2 (SqT.of (s3 _ _ h5)) (SqT.of h3) rfl fun t4 ht4 => ?_
      exact k t4 _ ((((s1.trans s2).trans s5).trans s3).trans (Same.upd ht4)) upd_same
    · walk_at "rd"
      refine ⟨q, _, rfl, SqT.of hq, fun e => absurd (show (3 : Nat) = 5 from congrArg List.length e) (by decide), fun t1 ht1 => ?_⟩
      have s1 := Same.upd (o := .tup (cutV st.vs none (some ((3 : Nat) : Int)))) ht1
      have h1 : (upd H t1 (.tup (cutV st.vs none (some ((3 : Nat) : Int))))) t1 = some (.tup [.int st.rm, .int st.tk, .int st.op]) := upd_same
      generalize upd H t1 (.tup (cutV st.vs none (some ((3 : Nat) : Int)))) = H1 at s1 h1 ⊢
      walk_at "rd"
      intro t2 ht2
      have s2 := Same.upd (o := .tup [.int n]) ht2
      have h2 := upd_same (H := H1) (a := t2) (o := .tup [.int n])
      have h12 := s2 _ _ h1
      generalize upd H1 t2 (.tup [.int n]) = H2 at s2 h2 h12 ⊢
      refine r_catA2 (SqT.of h12) (SqT.of h2) rfl fun t5 ht5 => ?_
      have s5 := Same.upd (o := .tup [.int st.rm, .int st.tk, .int st.op, .int n]) ht5
      have h5 := upd_same (H := H2) (a := t5) (o := .tup [.int st.rm, .int st.tk, .int st.op, .int n])
      have hq2 := s5 _ _ (s2 _ _ (s1 _ _ hq))
      show (tSl _ _ _ _) _ (upd H2 t5 (.tup [.int st.rm, .int st.tk, .int st.op, .int n])) _
      generalize upd H2 t5 (.tup [.int st.rm, .int st.tk, .int st.op, .int n]) = H5 at s5 h5 hq2 ⊢
      walk_at "rd"
      refine ⟨q, _, rfl, SqT.of hq2, fun e => absurd (show (1 : Nat) = 5 from congrArg List.length e) (by decide), fun t3 ht3 => ?_⟩
      have s3 := Same.upd (o := .tup (cutV st.vs (some (((3 : Nat) : Int) + 1)) none)) ht3
      have h3 : (upd H5 t3 (.tup (cutV st.vs (some (((3 : Nat) : Int) + 1)) none))) t3 = some (.tup [.int st.wt]) := upd_same
      generalize upd H5 t3 (.tup (cutV st.vs (some (((3 : Nat) : Int) + 1)) none)) = H3 at s3 h3 ⊢
      refine r_catA2 (SqT.of (s3 _ _ h5)) (SqT.of h3) rfl fun t4 ht4 => ?_
      exact k t4 _ ((((s1.trans s2).trans s5).trans s3).trans (Same.upd ht4)) upd_same
    · walk_at "rd"
      refine ⟨q, _, rfl, SqT.of hq, fun e => absurd (show (4 : Nat) = 5 from congrArg List.length e) (by decide), fun t1 ht1 => ?_⟩
      have s1 := Same.upd (o := .tup (cutV st.vs none (some ((4 : Nat) : Int)))) ht1
      have h1 : (upd H t1 (.tup (cutV st.vs none (some ((4 : Nat) : Int))))) t1 = some (.tup [.int st.rm, .int st.tk, .int st.op, .int st.b]) := upd_same
      generalize upd H t1 (.tup (cutV st.vs none (some ((4 : Nat) : Int)))) = H1 at s1 h1 ⊢
      walk_at "rd"
      intro t2 ht2
      have s2 := Same.upd (o := .tup [.int n]) ht2
      have h2 := upd_same (H := H1) (a := t2) (o := .tup [.int n])
      have h12 := s2 _ _ h1
      generalize upd H1 t2 (.tup [.int n]) = H2 at s2 h2 h12 ⊢
      refine r_catA2 (SqT.of h12) (SqT.of h2) rfl fun t5 ht5 => ?_
      have s5 := Same.upd (o := .tup [.int st.rm, .int st.tk, .int st.op, .int st.b, .int n]) ht5
      have h5 := upd_same (H := H2) (a := t5) (o := .tup [.int st.rm, .int st.tk, .int st.op, .int st.b, .int n])
      have hq2 := s5 _ _ (s2 _ _ (s1 _ _ hq))
      show (tSl _ _ _ _) _ (upd H2 t5 (.tup [.int st.rm, .int st.tk, .int st.op, .int st.b, .int n])) _
      generalize upd H2 t5 (.tup [.int st.rm, .int st.tk, .int st.op, .int st.b, .int n]) = H5 at s5 h5 hq2 ⊢
      walk_at "rd"
      refine ⟨q, _, rfl, SqT.of hq2, fun e => absurd (show (0 : Nat) = 5 from congrArg List.length e) (by decide), fun t3 ht3 => ?_⟩
      have s3 := Same.upd (o := .tup (cutV st.vs (some (((4 : Nat) : Int) + 1)) none)) ht3
      have h3 : (upd H5 t3 (.tup (cutV st.vs (some (((4 : Nat) : Int) + 1)) none))) t3 = some (.tup []) := upd_same
      generalize upd H5 t3 (.tup (cutV st.vs (some (((4 : Nat) : Int) + 1)) none)) = H3 at s3 h3 ⊢
      refine r_catA1 (SqT.of (s3 _ _ h5)) (SqT.of h3) (by show 5 <= sizeLine; omega) ?_
      exact k t5 _ (((s1.trans s2).trans s5).trans s3) (s3 _ _ h5)
theorem ok_dinit (T : Txt mg cs) (L : LaidC K mg "Deed" "__init__" "Deed.__init__" s_Deed_init ["self", "word", "number", "part"]) : CCal P w K mg base 1 "Deed" "__init__" ["self", "word", "number", "part"] (spDInit K) := by
  refine L.cc (k := 0) sc_Deed_init (fun vs H Q E h => ?_) (fun f cdv A outer s H vs Q E hr h => ?_)
  · obtain ⟨p, C, dx, z, n, t, rfl, _⟩ := h
    rfl
  · obtain ⟨p, C, dx, z, n, t, rfl, hp, cl, nw, nn, np, k⟩ := h
    refine ⟨_, (pss_cons (ps_fldK K (pv 0) (pv 1) rfl)
      (pss_cons (ps_fldK K (pv 0) (pv 2) rfl)
      (pss_one (ps_fldK K (pv 0) (pv 3) rfl)))), ?_⟩
    walk_at "rd"
    refine r_setf hp cl nw (by decide) ?_
    walk_at "rd"
    refine r_setf upd_same cl nn (by show 1 < 1000; decide) ?_
    walk_at "rd"
    refine r_setf upd_same cl np (by show 2 < 1000; decide) ?_
    rw [upd_upd, upd_upd]
    exact k
theorem mk_fin {H : Hp} {Q : VK} {p dx : Addr} {d : Wd} {n : Int} (k : ∀ H', (∀ b o, H b = some o -> b ≠ p -> H' b = some o) -> DObj cs H' p d n -> Q .non H') : Q .non (upd H p (.ins (dcls cs d) dx (putF "part" (.int d.part) (putF "number" (.int n) (putF "word" (.str d.str) []))))) :=
  k _ (fun b o hb hbp => by rw [upd_ne hbp]; exact hb) ⟨dx, upd_same⟩
theorem mk_go (T : Txt mg cs) (TC : Tcl K cs) (L : LaidI K mg "Go" cs.Go "Go.__init__" s_Go_init ["self", "number"]) (C_Deed_init : CCal P w K mg base 1 "Deed" "__init__" ["self", "word", "number", "part"] (spDInit K)) : Makes P w K mg base 2 "Go" cs.Go ["self", "number"] (spMkD cs .go) := by
  obtain ⟨t1, e_WAYS⟩ := T.e_WAYS
  have D := dcl_of TC .go
  refine L.makes (k := 1) sc_Go_init (fun vs H Q E h => ?_) (fun f cdv A outer s H vs Q E hr h => ?_)
  · obtain ⟨p, dx, n, rfl, _⟩ := h
    rfl
  · obtain ⟨p, dx, n, rfl, hp, k⟩ := h
    refine ⟨_, (pss_one (ps_expr (pe_cc C_Deed_init hr (by decide) rfl (pa_cons (pv 0) (pa_cons pe_str (pa_cons (pv 1) (pa_cons (pe_glob (v := .int 3) rfl e_WAYS ⟨_, rfl⟩) pa_nil))))))), ?_⟩
    walk_at "rd"
    refine ⟨p, _, dx, _, n, _, rfl, hp, D.cl, D.nw, D.nn, D.np, ?_⟩
    walk_at "rd"
    exact mk_fin k
theorem mk_pull (T : Txt mg cs) (TC : Tcl K cs) (L : LaidI K mg "Pull" cs.Pull "Pull.__init__" s_Pull_init ["self", "number"]) (C_Deed_init : CCal P w K mg base 1 "Deed" "__init__" ["self", "word", "number", "part"] (spDInit K)) : Makes P w K mg base 2 "Pull" cs.Pull ["self", "number"] (spMkD cs .pull) := by
  obtain ⟨t1, e_LEVERS⟩ := T.e_LEVERS
  have D := dcl_of TC .pull
  refine L.makes (k := 1) sc_Pull_init (fun vs H Q E h => ?_) (fun f cdv A outer s H vs Q E hr h => ?_)
  · obtain ⟨p, dx, n, rfl, _⟩ := h
    rfl
  · obtain ⟨p, dx, n, rfl, hp, k⟩ := h
    refine ⟨_, (pss_one (ps_expr (pe_cc C_Deed_init hr (by decide) rfl (pa_cons (pv 0) (pa_cons pe_str (pa_cons (pv 1) (pa_cons (pe_glob (v := .int 5) rfl e_LEVERS ⟨_, rfl⟩) pa_nil))))))), ?_⟩
    walk_at "rd"
    refine ⟨p, _, dx, _, n, _, rfl, hp, D.cl, D.nw, D.nn, D.np, ?_⟩
    walk_at "rd"
    exact mk_fin k
theorem mk_take (T : Txt mg cs) (TC : Tcl K cs) (L : LaidI K mg "Take" cs.Take "Take.__init__" s_Take_init ["self", "number"]) (C_Deed_init : CCal P w K mg base 1 "Deed" "__init__" ["self", "word", "number", "part"] (spDInit K)) : Makes P w K mg base 2 "Take" cs.Take ["self", "number"] (spMkD cs .take) := by
  obtain ⟨t1, e_THINGS⟩ := T.e_THINGS
  have D := dcl_of TC .take
  refine L.makes (k := 1) sc_Take_init (fun vs H Q E h => ?_) (fun f cdv A outer s H vs Q E hr h => ?_)
  · obtain ⟨p, dx, n, rfl, _⟩ := h
    rfl
  · obtain ⟨p, dx, n, rfl, hp, k⟩ := h
    refine ⟨_, (pss_one (ps_expr (pe_cc C_Deed_init hr (by decide) rfl (pa_cons (pv 0) (pa_cons pe_str (pa_cons (pv 1) (pa_cons (pe_glob (v := .int 4) rfl e_THINGS ⟨_, rfl⟩) pa_nil))))))), ?_⟩
    walk_at "rd"
    refine ⟨p, _, dx, _, n, _, rfl, hp, D.cl, D.nw, D.nn, D.np, ?_⟩
    walk_at "rd"
    exact mk_fin k
theorem mk_turn (T : Txt mg cs) (TC : Tcl K cs) (L : LaidI K mg "Turn" cs.Turn "Turn.__init__" s_Turn_init ["self", "number"]) (C_Deed_init : CCal P w K mg base 1 "Deed" "__init__" ["self", "word", "number", "part"] (spDInit K)) : Makes P w K mg base 2 "Turn" cs.Turn ["self", "number"] (spMkD cs .turn) := by
  obtain ⟨t1, e_WHEELS⟩ := T.e_WHEELS
  have D := dcl_of TC .turn
  refine L.makes (k := 1) sc_Turn_init (fun vs H Q E h => ?_) (fun f cdv A outer s H vs Q E hr h => ?_)
  · obtain ⟨p, dx, n, rfl, _⟩ := h
    rfl
  · obtain ⟨p, dx, n, rfl, hp, k⟩ := h
    refine ⟨_, (pss_one (ps_expr (pe_cc C_Deed_init hr (by decide) rfl (pa_cons (pv 0) (pa_cons pe_str (pa_cons (pv 1) (pa_cons (pe_glob (v := .int 6) rfl e_WHEELS ⟨_, rfl⟩) pa_nil))))))), ?_⟩
    walk_at "rd"
    refine ⟨p, _, dx, _, n, _, rfl, hp, D.cl, D.nw, D.nn, D.np, ?_⟩
    walk_at "rd"
    exact mk_fin k
theorem mk_unlock (T : Txt mg cs) (TC : Tcl K cs) (L : LaidI K mg "Unlock" cs.Unlock "Unlock.__init__" s_Unlock_init ["self", "number"]) (C_Deed_init : CCal P w K mg base 1 "Deed" "__init__" ["self", "word", "number", "part"] (spDInit K)) : Makes P w K mg base 2 "Unlock" cs.Unlock ["self", "number"] (spMkD cs .unlock) := by
  obtain ⟨t1, e_WAYS⟩ := T.e_WAYS
  have D := dcl_of TC .unlock
  refine L.makes (k := 1) sc_Unlock_init (fun vs H Q E h => ?_) (fun f cdv A outer s H vs Q E hr h => ?_)
  · obtain ⟨p, dx, n, rfl, _⟩ := h
    rfl
  · obtain ⟨p, dx, n, rfl, hp, k⟩ := h
    refine ⟨_, (pss_one (ps_expr (pe_cc C_Deed_init hr (by decide) rfl (pa_cons (pv 0) (pa_cons pe_str (pa_cons (pv 1) (pa_cons (pe_glob (v := .int 3) rfl e_WAYS ⟨_, rfl⟩) pa_nil))))))), ?_⟩
    walk_at "rd"
    refine ⟨p, _, dx, _, n, _, rfl, hp, D.cl, D.nw, D.nn, D.np, ?_⟩
    walk_at "rd"
    exact mk_fin k
theorem made_deed {H : Hp} {Q : VK} {d : Wd} {n : Int} {x dx : Addr} (hx : H x = none) (hdx : H dx = none) (ne : dx ≠ x) (k : ∀ (x : Addr) (H' : Hp), Same H H' -> H x = none -> DObj cs H' x d n -> Q (.ref x) H') : spMkD cs d (.ref x :: ([.int n] ++ [])) (upd (upd H dx (.own x)) x (.ins (dcls cs d) dx [])) (fun v H2 => v = .non /\ Q (.ref x) H2) E0 := by
  refine ⟨x, dx, n, rfl, upd_same, fun H' hk ho => ⟨rfl, k x H' (fun b o hb => ?_) hx ho⟩⟩
  refine hk b o ?_ (ne_of_none hb hx)
  rw [upd_ne (ne_of_none hb hx), upd_ne (ne_of_none hb hdx)]
  exact hb
theorem ok_deed_of (T : Txt mg cs) (L : Laid K mg "deed_of" s_deed_of ["deed"]) (C_Go : Makes P w K mg base 2 "Go" cs.Go ["self", "number"] (spMkD cs .go)) (C_Pull : Makes P w K mg base 2 "Pull" cs.Pull ["self", "number"] (spMkD cs .pull)) (C_Take : Makes P w K mg base 2 "Take" cs.Take ["self", "number"] (spMkD cs .take))
    (C_Turn : Makes P w K mg base 2 "Turn" cs.Turn ["self", "number"] (spMkD cs .turn)) (C_Unlock : Makes P w K mg base 2 "Unlock" cs.Unlock ["self", "number"] (spMkD cs .unlock)) : Cal P w K mg base 4 "deed_of" ["deed"] (spDof cs) := by
  refine L.cal (k := 3) sc_deed_of (fun vs H Q E h => ?_) (fun f cdv A outer s H vs Q E hr h => ?_)
  · obtain ⟨t, d, n, rfl, _⟩ := h
    rfl
  · obtain ⟨t, d, n, rfl, ht, k⟩ := h
    refine ⟨_, (pss_cons (ps_set (i := 1) sc_deed_of.nd rfl (Or.inl rfl) (pe_ix (ix_tupK K) (pv 0) pe_int (fun _ _ => rfl)))
      (pss_cons (ps_if (pt_cmpR op_eq (pv 1) pe_str (nomark _)) (pss_one (ps_ret (pe_mak C_Go hr (by decide) rfl (pa_cons (pe_ix (ix_tupK K) (pv 0) pe_int (fun _ _ => rfl)) pa_nil)))) pss_nil)
      (pss_cons (ps_if (pt_cmpR op_eq (pv 1) pe_str (nomark _)) (pss_one (ps_ret (pe_mak C_Pull hr (by decide) rfl (pa_cons (pe_ix (ix_tupK K) (pv 0) pe_int (fun _ _ => rfl)) pa_nil)))) pss_nil)
      (pss_cons (ps_if (pt_cmpR op_eq (pv 1) pe_str (nomark _)) (pss_one (ps_ret (pe_mak C_Take hr (by decide) rfl (pa_cons (pe_ix (ix_tupK K) (pv 0) pe_int (fun _ _ => rfl)) pa_nil)))) pss_nil)
      (pss_cons (ps_if (pt_cmpR op_eq (pv 1) pe_str (nomark _)) (pss_one (ps_ret (pe_mak C_Turn hr (by decide) rfl (pa_cons (pe_ix (ix_tupK K) (pv 0) pe_int (fun _ _ => rfl)) pa_nil)))) pss_nil)
      (pss_cons (ps_if (pt_cmpR op_eq (pv 1) pe_str (nomark _)) (pss_one (ps_ret (pe_mak C_Unlock hr (by decide) rfl (pa_cons (pe_ix (ix_tupK K) (pv 0) pe_int (fun _ _ => rfl)) pa_nil)))) pss_nil)
      (pss_one ps_never))))))), ?_⟩
    walk_at "rd"
    refine ifd (fun h1 => ?_) (fun h1 => ?_)
    · cases d <;> first | exact absurd h1 (by decide +kernel) | skip
      walk_at "rd"
      exact fun x dx hx hdx ne => made_deed hx hdx ne k
    walk_at "rd"
    refine ifd (fun h2 => ?_) (fun h2 => ?_)
    · cases d <;> first | exact absurd h2 (by decide +kernel) | skip
      walk_at "rd"
      exact fun x dx hx hdx ne => made_deed hx hdx ne k
    walk_at "rd"
    refine ifd (fun h3 => ?_) (fun h3 => ?_)
    · cases d <;> first | exact absurd h3 (by decide +kernel) | skip
      walk_at "rd"
      exact fun x dx hx hdx ne => made_deed hx hdx ne k
    walk_at "rd"
    refine ifd (fun h4 => ?_) (fun h4 => ?_)
    · cases d <;> first | exact absurd h4 (by decide +kernel) | skip
      walk_at "rd"
      exact fun x dx hx hdx ne => made_deed hx hdx ne k
    walk_at "rd"
    refine ifd (fun h5 => ?_) (fun h5 => ?_)
    · cases d <;> first | exact absurd h5 (by decide +kernel) | skip
      walk_at "rd"
      exact fun x dx hx hdx ne => made_deed hx hdx ne k
    cases d
    · exact absurd rfl h1
    · exact absurd rfl h2
    · exact absurd rfl h3
    · exact absurd rfl h4
    · exact absurd rfl h5
theorem vm_own {d : Wd} (L : LaidM K (dcls cs d) "own_part" "Deed.own_part" s_Deed_own_part ["self", "cellar"]) (D : DCl K cs d) : VMeth P w K mg base 1 (dcls cs d) "own_part" ["self", "cellar"] (spOwn cs d) := by
  refine L.vm (k := 0) D.cl sc_Deed_own_part (fun vs H Q E h => ?_) (fun f cdv A outer s H vs Q E hr h => ?_)
  · obtain ⟨p, c, C, i, rfl, _⟩ := h
    rfl
  · obtain ⟨p, c, C, i, rfl, ho, hC, hi, k⟩ := h
    obtain ⟨dx, hp⟩ := ho.ex
    obtain ⟨pw, pt, pl, pv', h0, hw, ht, hl, hv⟩ := hC.ex
    refine ⟨_, (pss_one (ps_ret (pe_ix (ix_tupK K) (pe_ix (ix_tupK K) (pv 1) (pe_fldK K (pv 0) rfl) (fun _ _ => rfl)) (pe_fldK K (pv 0) rfl) (fun _ _ => rfl)))), ?_⟩
    walk_at "rd"
    refine r_fld hp D.cl D.np (df_part d i) ?_
    cases d
    · obtain ⟨xs, hx, hxl, hxg⟩ := hw.get
      obtain ⟨r, e, hr1⟩ := hxg i hi
      refine r_ixT (SqT.of h0) (v := .ref pw) rfl ?_
      walk_at "rd"
      refine r_fld hp D.cl D.nn (df_number _ i) ?_
      refine r_ixT (SqT.of hx) (atI_nat e) ?_
      exact k r ⟨_, List.getElem?_eq_getElem hi, hr1⟩
    · obtain ⟨xs, hx, hxl, hxg⟩ := hl.get
      obtain ⟨r, e, hr1⟩ := hxg i hi
      refine r_ixT (SqT.of h0) (v := .ref pl) rfl ?_
      walk_at "rd"
      refine r_fld hp D.cl D.nn (df_number _ i) ?_
      refine r_ixT (SqT.of hx) (atI_nat e) ?_
      exact k r ⟨_, List.getElem?_eq_getElem hi, hr1⟩
    · obtain ⟨xs, hx, hxl, hxg⟩ := ht.get
      obtain ⟨r, e, hr1⟩ := hxg i hi
      refine r_ixT (SqT.of h0) (v := .ref pt) rfl ?_
      walk_at "rd"
      refine r_fld hp D.cl D.nn (df_number _ i) ?_
      refine r_ixT (SqT.of hx) (atI_nat e) ?_
      exact k r ⟨_, List.getElem?_eq_getElem hi, hr1⟩
    · obtain ⟨xs, hx, hxl, hxg⟩ := hv.get
      obtain ⟨r, e, hr1⟩ := hxg i hi
      refine r_ixT (SqT.of h0) (v := .ref pv') rfl ?_
      walk_at "rd"
      refine r_fld hp D.cl D.nn (df_number _ i) ?_
      refine r_ixT (SqT.of hx) (atI_nat e) ?_
      exact k r ⟨_, List.getElem?_eq_getElem hi, hr1⟩
    · obtain ⟨xs, hx, hxl, hxg⟩ := hw.get
      obtain ⟨r, e, hr1⟩ := hxg i hi
      refine r_ixT (SqT.of h0) (v := .ref pw) rfl ?_
      walk_at "rd"
      refine r_fld hp D.cl D.nn (df_number _ i) ?_
      refine r_ixT (SqT.of hx) (atI_nat e) ?_
      exact k r ⟨_, List.getElem?_eq_getElem hi, hr1⟩
theorem num_at {H : Hp} {c : Addr} {C : Cl} (hC : ClAt H c C) (d : Wd) : ∃ (vs : List V) (p : Addr) (xs : List V), H c = some (.tup vs) /\ atI vs d.part = some (.ref p) /\ H p = some (.tup xs) /\ xs.length = C.num d /\ atI vs 2 = some (.int C.lst) := by
  obtain ⟨pw, pt, pl, pv', h0, hw, ht, hl, hv⟩ := hC.ex
  cases d
  · obtain ⟨xs, hx, hxl, _⟩ := hw.get
    exact ⟨_, pw, xs, h0, rfl, hx, hxl, rfl⟩
  · obtain ⟨xs, hx, hxl, _⟩ := hl.get
    exact ⟨_, pl, xs, h0, rfl, hx, hxl, rfl⟩
  · obtain ⟨xs, hx, hxl, _⟩ := ht.get
    exact ⟨_, pt, xs, h0, rfl, hx, hxl, rfl⟩
  · obtain ⟨xs, hx, hxl, _⟩ := hv.get
    exact ⟨_, pv', xs, h0, rfl, hx, hxl, rfl⟩
  · obtain ⟨xs, hx, hxl, _⟩ := hw.get
    exact ⟨_, pw, xs, h0, rfl, hx, hxl, rfl⟩
theorem vm_can {d : Wd} (T : Txt mg cs) (L : LaidM K (dcls cs d) "can" "Deed.can" s_Deed_can ["self", "cellar", "stand"]) (D : DCl K cs d) (C_within : Cal P w K mg base 1 "within" ["number", "least", "most"] spWithin) (vf : VMeth P w K mg base 5 (dcls cs d) "fits" ["self", "cellar", "stand"] (spFits cs d)) : VMeth P w K mg base 6 (dcls cs d) "can" ["self", "cellar", "stand"] (spCan cs d) := by
  obtain ⟨t1, e_ROOM⟩ := T.e_ROOM
  obtain ⟨t2, e_LAST⟩ := T.e_LAST
  refine L.vm (k := 5) D.cl sc_Deed_can (fun vs H Q E h => ?_) (fun f cdv A outer s H vs Q E hr h => ?_)
  · obtain ⟨p, c, q, C, st, n, rfl, _⟩ := h
    rfl
  · obtain ⟨p, c, q, C, st, n, rfl, ho, hC, ok, hq, sok, k⟩ := h
    obtain ⟨dx, hp⟩ := ho.ex
    obtain ⟨vs, pp, xs, h0, hpp, hx, hxl, hlast⟩ := num_at hC d
    have hq' : H q = some (.tup [.int st.rm, .int st.tk, .int st.op, .int st.b, .int st.wt]) := hq
    refine ⟨_, (pss_cons (ps_if (PW.pt (pw_or (pt_cmpR op_eq (pe_ix (ix_tupK K) (pv 2) (pe_glob (v := .int 0) rfl e_ROOM ⟨_, rfl⟩) (fun _ _ => rfl)) (pe_ix (ix_tupK K) (pv 1) (pe_glob (v := .int 2) rfl e_LAST ⟨_, rfl⟩) (fun _ _ => rfl)) (nomark _)) (pw_or1 (pt_not (pt_val (pe_cal C_within hr (by decide) rfl (pa_cons (pe_fldK K (pv 0) rfl) (pa_cons pe_int (pa_cons (pe_op op_sub (pe_callB (lenK K) rfl T.n_len bt_len (pa_cons (pe_ix (ix_tupK K) (pv 1) (pe_fldK K (pv 0) rfl) (fun _ _ => rfl)) pa_nil)) pe_int) pa_nil))))))))) (pss_one (ps_ret pe_bl)) pss_nil)
      (pss_one (ps_ret (pe_vm (k := 5) (hr.mono (by decide)) (pv 0) (pa_cons (pv 1) (pa_cons (pv 2) pa_nil)))))), ?_⟩
    walk_at "rd"
    refine ifd (fun h1 => ?_) (fun h1 => ?_)
    · walk_at "rd"
      have := k H (Same.refl _)
      rw [canD_last h1] at this
      exact this
    walk_at "rd"
    refine r_fld hp D.cl D.nn (df_number d n) ?_
    walk_at "rd"
    refine r_fld hp D.cl D.np (df_part d n) ?_
    refine r_ixT (SqT.of h0) hpp ?_
    walk_at "rd"
    refine ⟨n, 0, _, rfl, ?_⟩
    walk_at "rd"
    by_cases hin : 0 <= n /\ n < (C.num d : Int)
    · have e : (decide (0 <= n) && decide (n <= (xs.length : Int) - 1)) = true := by
        rw [decide_eq_true (p := 0 <= n) hin.1, decide_eq_true (p := n <= (xs.length : Int) - 1) (by rw [hxl]; omega)]
        rfl
      rw [e]
      walk_at "rd"
      obtain ⟨i, rfl⟩ : ∃ i : Nat, n = (i : Int) := ⟨n.toNat, by omega⟩
      refine r_vm hp vf (df_fits d _) ?_
      walk_at "rd"
      refine ⟨p, c, q, C, st, i, rfl, ho, hC, ok, hq, sok, by omega, fun H' s' => ?_⟩
      have := k H' s'
      rw [canD_in h1] at this
      exact this
    · have e : (decide (0 <= n) && decide (n <= (xs.length : Int) - 1)) = false := by
        rw [Bool.and_eq_false_iff]
        by_cases h3 : 0 <= n
        · right; rw [hxl]; exact decide_eq_false (by omega)
        · left; exact decide_eq_false h3
      rw [e]
      walk_at "rd"
      have := k H (Same.refl _)
      rw [show canD C st d n = false from by
        by_cases h3 : 0 <= n
        · exact canD_beyond (by omega)
        · exact canD_neg (by omega)] at this
      exact this
theorem vm_dtold {d : Wd} (L : LaidM K (dcls cs d) "told" "Deed.told" s_Deed_told ["self"]) (D : DCl K cs d) : VMeth P w K mg base 1 (dcls cs d) "told" ["self"] (spDTold cs d) := by
  refine L.vm (k := 0) D.cl sc_Deed_told (fun vs H Q E h => ?_) (fun f cdv A outer s H vs Q E hr h => ?_)
  · obtain ⟨p, n, rfl, _⟩ := h
    rfl
  · obtain ⟨p, n, rfl, ho, k⟩ := h
    obtain ⟨dx, hp⟩ := ho.ex
    refine ⟨_, (pss_one (ps_ret (pe_tup (pa_cons (pe_fldK K (pv 0) rfl) (pa_cons (pe_fldK K (pv 0) rfl) pa_nil))))), ?_⟩
    walk_at "rd"
    refine r_fld hp D.cl D.nw (df_word d n) ?_
    walk_at "rd"
    refine r_fld hp D.cl D.nn (df_number d n) ?_
    walk_at "rd"
    intro r hr1
    exact k r _ (Same.upd hr1) upd_same
theorem vm_fits_go (T : Txt mg cs) (D : DCl K cs .go) (L : LaidM K cs.Go "fits" "Go.fits" s_Go_fits ["self", "cellar", "stand"]) (vo : VMeth P w K mg base 1 (dcls cs .go) "own_part" ["self", "cellar"] (spOwn cs .go)) (C_can_enter : Cal P w K mg base 1 "can_enter" ["way", "room"] spEnter) (C_has_bit : Cal P w K mg base 1 "has_bit" ["bits", "place"] spBit)
    (C_gate_of : Cal P w K mg base 4 "gate_of" ["gate"] (spObj cs)) (vl : ∀ g : Gt, VMeth P w K mg base 2 (clsOf cs g) "lets" ["self", "held", "opened", "bars", "water"] (spLets cs g.word)) (C_held : Cal P w K mg base 2 "held" ["cellar", "stand"] spHeld) : VMeth P w K mg base 5 (dcls cs .go) "fits" ["self", "cellar", "stand"] (spFits cs .go) := by
  obtain ⟨t1, e_ROOM⟩ := T.e_ROOM
  obtain ⟨t2, e_OPENED⟩ := T.e_OPENED
  obtain ⟨t3, e_WAY_GATE⟩ := T.e_WAY_GATE
  obtain ⟨t4, e_BARS⟩ := T.e_BARS
  obtain ⟨t5, e_WATER⟩ := T.e_WATER
  refine LaidM.vm (k := 4) L D.cl sc_Go_fits (fun vs H Q E h => ?_) (fun f cdv A outer s H vs Q E hr h => ?_)
  · obtain ⟨p, c, q, C, st, i, rfl, _⟩ := h
    rfl
  · obtain ⟨p, c, q, C, st, i, rfl, ho, hC, ok, hq, sok, hi, k⟩ := h
    obtain ⟨dx, hp⟩ := ho.ex
    replace hq : H q = some (.tup [.int st.rm, .int st.tk, .int st.op, .int st.b, .int st.wt]) := hq
    refine ⟨_, (pss_cons (ps_set (i := 3) sc_Go_fits.nd rfl (Or.inl rfl) (pe_vm (k := 1) (hr.mono (by decide)) (pv 0) (pa_cons (pv 1) pa_nil)))
      (pss_cons (ps_if (pt_not (pt_val (pe_cal C_can_enter hr (by decide) rfl (pa_cons (pv 3) (pa_cons (pe_ix (ix_tupK K) (pv 2) (pe_glob (v := .int 0) rfl e_ROOM ⟨_, rfl⟩) (fun _ _ => rfl)) pa_nil))))) (pss_one (ps_ret pe_bl)) pss_nil)
      (pss_cons (ps_set (i := 4) sc_Go_fits.nd rfl (Or.inl rfl) (pe_cal C_has_bit hr (by decide) rfl (pa_cons (pe_ix (ix_tupK K) (pv 2) (pe_glob (v := .int 2) rfl e_OPENED ⟨_, rfl⟩) (fun _ _ => rfl)) (pa_cons (pe_fldK K (pv 0) rfl) pa_nil))))
      (pss_one (ps_ret (pe_vm (k := 2) (hr.mono (by decide)) (pe_cal C_gate_of hr (by decide) rfl (pa_cons (pe_ix (ix_tupK K) (pv 3) (pe_glob (v := .int 2) rfl e_WAY_GATE ⟨_, rfl⟩) (fun _ _ => rfl)) pa_nil)) (pa_cons (pe_cal C_held hr (by decide) rfl (pa_cons (pv 1) (pa_cons (pv 2) pa_nil))) (pa_cons (pv 4) (pa_cons (pe_ix (ix_tupK K) (pv 2) (pe_glob (v := .int 3) rfl e_BARS ⟨_, rfl⟩) (fun _ _ => rfl)) (pa_cons (pe_ix (ix_tupK K) (pv 2) (pe_glob (v := .int 4) rfl e_WATER ⟨_, rfl⟩) (fun _ _ => rfl)) pa_nil)))))))))), ?_⟩
    walk_at "rd"
    refine r_vm hp vo (df_own _ _) ?_
    walk_at "rd"
    refine ⟨p, c, C, i, rfl, ho, hC, hi, fun r hrow => ?_⟩
    obtain ⟨x, hx, hW⟩ := hrow
    have xok := ok.w x (List.mem_of_getElem? hx)
    have ecan : canB C st i .go = (enterB x st.rm && letsG x.g (hold C st.tk st.op) (bit st.op i) st.b st.wt) := by simp [canB, hx]
    obtain ⟨g, hr1, hg⟩ := id hW
    walk_at "rd"
    refine ⟨r, x, st.rm, rfl, hW, ?_⟩
    walk_at "rd"
    cases he : enterB x st.rm with
    | false =>
      walk_at "rd"
      have := k H (Same.refl _)
      rw [ecan, he] at this
      exact this
    | true =>
      walk_at "rd"
      refine r_fld hp D.cl D.nn (df_number _ _) ?_
      walk_at "rd"
      refine ⟨st.op, i, rfl, by omega, ?_⟩
      rw [Int.toNat_natCast]
      walk_at "rd"
      refine ⟨g, x.g, rfl, hg, fun o H1 s1 ho0 hob => ?_⟩
      obtain ⟨dxo, qo, hpo, hqo⟩ := hob.ex
      have hq1 := s1 _ _ hq
      refine r_vm hpo (vl x.g) (fl_lets qo x.g) ?_
      walk_at "rd"
      refine ⟨c, q, C, st.rm, st.tk, st.op, st.b, st.wt, rfl, hC.mono s1.ts, ok, hq1, sok.dr, fun hl H2 s2 hl0 hl2 => ?_⟩
      have hq2 := s2 _ _ hq1
      walk_at "rd"
      refine ⟨o, hl, x.g, hold C st.tk st.op, _, _, _, rfl, rfl, hob.mono s2, xok.2.2.2, hl2, ?_⟩
      have := k H2 (s1.trans s2)
      rw [ecan, he, Bool.true_and] at this
      exact this
theorem vm_fits_pull (T : Txt mg cs) (D : DCl K cs .pull) (L : LaidM K cs.Pull "fits" "Pull.fits" s_Pull_fits ["self", "cellar", "stand"]) (vo : VMeth P w K mg base 1 (dcls cs .pull) "own_part" ["self", "cellar"] (spOwn cs .pull)) : VMeth P w K mg base 5 (dcls cs .pull) "fits" ["self", "cellar", "stand"] (spFits cs .pull) := by
  obtain ⟨t1, e_ROOM⟩ := T.e_ROOM
  obtain ⟨t2, e_PAIR_ROOM⟩ := T.e_PAIR_ROOM
  refine LaidM.vm (k := 4) L D.cl sc_Pull_fits (fun vs H Q E h => ?_) (fun f cdv A outer s H vs Q E hr h => ?_)
  · obtain ⟨p, c, q, C, st, i, rfl, _⟩ := h
    rfl
  · obtain ⟨p, c, q, C, st, i, rfl, ho, hC, ok, hq, sok, hi, k⟩ := h
    obtain ⟨dx, hp⟩ := ho.ex
    replace hq : H q = some (.tup [.int st.rm, .int st.tk, .int st.op, .int st.b, .int st.wt]) := hq
    refine ⟨_, (pss_one (ps_ret (pe_cmpR op_eq (pe_ix (ix_tupK K) (pv 2) (pe_glob (v := .int 0) rfl e_ROOM ⟨_, rfl⟩) (fun _ _ => rfl)) (pe_ix (ix_tupK K) (pe_vm (k := 1) (hr.mono (by decide)) (pv 0) (pa_cons (pv 1) pa_nil)) (pe_glob (v := .int 0) rfl e_PAIR_ROOM ⟨_, rfl⟩) (fun _ _ => rfl)) (nomark _)))), ?_⟩
    walk_at "rd"
    refine r_vm hp vo (df_own _ _) ?_
    walk_at "rd"
    refine ⟨p, c, C, i, rfl, ho, hC, hi, fun r hrow => ?_⟩
    obtain ⟨x, hx, hP⟩ := hrow
    have ecan : canB C st i .pull = decide (st.rm = x.1) := by simp [canB, hx]
    replace hP : H r = some (.tup [.int x.1, .int x.2]) := hP
    walk_at "rd"
    have := k H (Same.refl _)
    rw [ecan] at this
    exact this
theorem vm_fits_take (T : Txt mg cs) (D : DCl K cs .take) (L : LaidM K cs.Take "fits" "Take.fits" s_Take_fits ["self", "cellar", "stand"]) (vo : VMeth P w K mg base 1 (dcls cs .take) "own_part" ["self", "cellar"] (spOwn cs .take)) (C_has_bit : Cal P w K mg base 1 "has_bit" ["bits", "place"] spBit) : VMeth P w K mg base 5 (dcls cs .take) "fits" ["self", "cellar", "stand"] (spFits cs .take) := by
  obtain ⟨t1, e_ROOM⟩ := T.e_ROOM
  obtain ⟨t2, e_PAIR_ROOM⟩ := T.e_PAIR_ROOM
  obtain ⟨t3, e_TAKEN⟩ := T.e_TAKEN
  refine LaidM.vm (k := 4) L D.cl sc_Take_fits (fun vs H Q E h => ?_) (fun f cdv A outer s H vs Q E hr h => ?_)
  · obtain ⟨p, c, q, C, st, i, rfl, _⟩ := h
    rfl
  · obtain ⟨p, c, q, C, st, i, rfl, ho, hC, ok, hq, sok, hi, k⟩ := h
    obtain ⟨dx, hp⟩ := ho.ex
    replace hq : H q = some (.tup [.int st.rm, .int st.tk, .int st.op, .int st.b, .int st.wt]) := hq
    refine ⟨_, (pss_one (ps_ret (pe_and (pe_cmpR op_eq (pe_ix (ix_tupK K) (pv 2) (pe_glob (v := .int 0) rfl e_ROOM ⟨_, rfl⟩) (fun _ _ => rfl)) (pe_ix (ix_tupK K) (pe_vm (k := 1) (hr.mono (by decide)) (pv 0) (pa_cons (pv 1) pa_nil)) (pe_glob (v := .int 0) rfl e_PAIR_ROOM ⟨_, rfl⟩) (fun _ _ => rfl)) (nomark _)) (pe_one (pe_not (pe_cal C_has_bit hr (by decide) rfl (pa_cons (pe_ix (ix_tupK K) (pv 2) (pe_glob (v := .int 1) rfl e_TAKEN ⟨_, rfl⟩) (fun _ _ => rfl)) (pa_cons (pe_fldK K (pv 0) rfl) pa_nil)))))))), ?_⟩
    walk_at "rd"
    refine r_vm hp vo (df_own _ _) ?_
    walk_at "rd"
    refine ⟨p, c, C, i, rfl, ho, hC, hi, fun r hrow => ?_⟩
    obtain ⟨x, hx, hP⟩ := hrow
    have ecan : canB C st i .take = (decide (st.rm = x.1) && !bit st.tk i) := by simp [canB, hx]
    replace hP : H r = some (.tup [.int x.1, .int x.2]) := hP
    have k' := k H (Same.refl _)
    rw [ecan] at k'
    walk_at "rd"
    refine ifd (fun h1 => ?_) (fun h1 => ?_)
    · rw [decide_eq_true h1, Bool.true_and] at k'
      walk_at "rd"
      refine r_fld hp D.cl D.nn (df_number _ _) ?_
      walk_at "rd"
      refine ⟨st.tk, i, rfl, by omega, ?_⟩
      rw [Int.toNat_natCast]
      walk_at "rd"
      exact k'
    · rw [decide_eq_false h1, Bool.false_and] at k'
      exact k'
theorem vm_fits_turn (T : Txt mg cs) (D : DCl K cs .turn) (L : LaidM K cs.Turn "fits" "Turn.fits" s_Turn_fits ["self", "cellar", "stand"]) (vo : VMeth P w K mg base 1 (dcls cs .turn) "own_part" ["self", "cellar"] (spOwn cs .turn)) : VMeth P w K mg base 5 (dcls cs .turn) "fits" ["self", "cellar", "stand"] (spFits cs .turn) := by
  obtain ⟨t1, e_ROOM⟩ := T.e_ROOM
  obtain ⟨t2, e_PAIR_ROOM⟩ := T.e_PAIR_ROOM
  obtain ⟨t3, e_WATER⟩ := T.e_WATER
  obtain ⟨t4, e_PAIR_NUMBER⟩ := T.e_PAIR_NUMBER
  refine LaidM.vm (k := 4) L D.cl sc_Turn_fits (fun vs H Q E h => ?_) (fun f cdv A outer s H vs Q E hr h => ?_)
  · obtain ⟨p, c, q, C, st, i, rfl, _⟩ := h
    rfl
  · obtain ⟨p, c, q, C, st, i, rfl, ho, hC, ok, hq, sok, hi, k⟩ := h
    obtain ⟨dx, hp⟩ := ho.ex
    replace hq : H q = some (.tup [.int st.rm, .int st.tk, .int st.op, .int st.b, .int st.wt]) := hq
    refine ⟨_, (pss_cons (ps_set (i := 3) sc_Turn_fits.nd rfl (Or.inl rfl) (pe_vm (k := 1) (hr.mono (by decide)) (pv 0) (pa_cons (pv 1) pa_nil)))
      (pss_one (ps_ret (pe_and (pe_cmpR op_eq (pe_ix (ix_tupK K) (pv 2) (pe_glob (v := .int 0) rfl e_ROOM ⟨_, rfl⟩) (fun _ _ => rfl)) (pe_ix (ix_tupK K) (pv 3) (pe_glob (v := .int 0) rfl e_PAIR_ROOM ⟨_, rfl⟩) (fun _ _ => rfl)) (nomark _)) (pe_one (pe_cmpR op_ne (pe_ix (ix_tupK K) (pv 2) (pe_glob (v := .int 4) rfl e_WATER ⟨_, rfl⟩) (fun _ _ => rfl)) (pe_ix (ix_tupK K) (pv 3) (pe_glob (v := .int 1) rfl e_PAIR_NUMBER ⟨_, rfl⟩) (fun _ _ => rfl)) (nomark _))))))), ?_⟩
    walk_at "rd"
    refine r_vm hp vo (df_own _ _) ?_
    walk_at "rd"
    refine ⟨p, c, C, i, rfl, ho, hC, hi, fun r hrow => ?_⟩
    obtain ⟨x, hx, hP⟩ := hrow
    have ecan : canB C st i .turn = (decide (st.rm = x.1) && !decide (st.wt = x.2)) := by simp [canB, hx]
    replace hP : H r = some (.tup [.int x.1, .int x.2]) := hP
    have k' := k H (Same.refl _)
    rw [ecan] at k'
    walk_at "rd"
    refine ifd (fun h1 => ?_) (fun h1 => ?_)
    · rw [decide_eq_true h1, Bool.true_and] at k'
      walk_at "rd"
      exact k'
    · rw [decide_eq_false h1, Bool.false_and] at k'
      exact k'
theorem vm_fits_unlock (T : Txt mg cs) (D : DCl K cs .unlock) (L : LaidM K cs.Unlock "fits" "Unlock.fits" s_Unlock_fits ["self", "cellar", "stand"]) (vo : VMeth P w K mg base 1 (dcls cs .unlock) "own_part" ["self", "cellar"] (spOwn cs .unlock)) (C_can_enter : Cal P w K mg base 1 "can_enter" ["way", "room"] spEnter) (C_has_bit : Cal P w K mg base 1 "has_bit" ["bits", "place"] spBit)
    (C_held : Cal P w K mg base 2 "held" ["cellar", "stand"] spHeld) : VMeth P w K mg base 5 (dcls cs .unlock) "fits" ["self", "cellar", "stand"] (spFits cs .unlock) := by
  obtain ⟨t1, e_ROOM⟩ := T.e_ROOM
  obtain ⟨t2, e_OPENED⟩ := T.e_OPENED
  obtain ⟨t3, e_WAY_GATE⟩ := T.e_WAY_GATE
  refine LaidM.vm (k := 4) L D.cl sc_Unlock_fits (fun vs H Q E h => ?_) (fun f cdv A outer s H vs Q E hr h => ?_)
  · obtain ⟨p, c, q, C, st, i, rfl, _⟩ := h
    rfl
  · obtain ⟨p, c, q, C, st, i, rfl, ho, hC, ok, hq, sok, hi, k⟩ := h
    obtain ⟨dx, hp⟩ := ho.ex
    replace hq : H q = some (.tup [.int st.rm, .int st.tk, .int st.op, .int st.b, .int st.wt]) := hq
    refine ⟨_, (pss_cons (ps_set (i := 3) sc_Unlock_fits.nd rfl (Or.inl rfl) (pe_vm (k := 1) (hr.mono (by decide)) (pv 0) (pa_cons (pv 1) pa_nil)))
      (pss_cons (ps_set (i := 4) sc_Unlock_fits.nd rfl (Or.inl rfl) (pe_ix (ix_tupK K) (pv 3) (pe_glob (v := .int 2) rfl e_WAY_GATE ⟨_, rfl⟩) (fun _ _ => rfl)))
      (pss_cons (ps_if (PW.pt (pw_or (pt_cmpR op_ne (pe_ix (ix_tupK K) (pv 4) pe_int (fun _ _ => rfl)) pe_str (nomark _)) (pw_or (pt_not (pt_val (pe_cal C_can_enter hr (by decide) rfl (pa_cons (pv 3) (pa_cons (pe_ix (ix_tupK K) (pv 2) (pe_glob (v := .int 0) rfl e_ROOM ⟨_, rfl⟩) (fun _ _ => rfl)) pa_nil))))) (pw_or1 (pt_val (pe_cal C_has_bit hr (by decide) rfl (pa_cons (pe_ix (ix_tupK K) (pv 2) (pe_glob (v := .int 2) rfl e_OPENED ⟨_, rfl⟩) (fun _ _ => rfl)) (pa_cons (pe_fldK K (pv 0) rfl) pa_nil)))))))) (pss_one (ps_ret pe_bl)) pss_nil)
      (pss_one (ps_ret (pe_cmpR op_gt (pe_ix (ix_listK K) (pe_cal C_held hr (by decide) rfl (pa_cons (pv 1) (pa_cons (pv 2) pa_nil))) (pe_ix (ix_tupK K) (pv 4) pe_int (fun _ _ => rfl)) (fun _ _ => rfl)) pe_int (nomark _))))))), ?_⟩
    walk_at "rd"
    refine r_vm hp vo (df_own _ _) ?_
    walk_at "rd"
    refine ⟨p, c, C, i, rfl, ho, hC, hi, fun r hrow => ?_⟩
    obtain ⟨x, hx, hW⟩ := hrow
    have xok := ok.w x (List.mem_of_getElem? hx)
    obtain ⟨g, hr1, hg⟩ := id hW
    have hg' := hg
    rw [Gt.vs_eq] at hg'
    walk_at "rd"
    refine ifn (fun hn => ?_) (fun hn => ?_)
    · walk_at "rd"
      have hdk : x.g.dk = none := by
        have := word_door x.g
        rw [decide_eq_false hn] at this
        cases e : x.g.dk with
        | none => rfl
        | some k => rw [e] at this; cases this
      have := k H (Same.refl _)
      rw [show canB C st i .unlock = false by simp [canB, hx, hdk]] at this
      exact this
    obtain ⟨kd, ekd⟩ := door_of hn
    have hk : 0 <= kd /\ kd < 12 := by have := xok.2.2.2; rw [ekd] at this; exact this
    have edk : x.g.dk = some kd := by rw [ekd]; rfl
    have ecan : canB C st i .unlock = ((enterB x st.rm && !bit st.op i) && decide (0 < hold C st.tk st.op kd)) := by simp [canB, hx, edk]
    have hg2 : H g = some (.tup [.str "door", .int kd]) := by rw [ekd] at hg; exact hg
    walk_at "rd"
    refine ⟨r, x, st.rm, rfl, hW, ?_⟩
    walk_at "rd"
    cases he : enterB x st.rm with
    | false =>
      walk_at "rd"
      have := k H (Same.refl _)
      rw [ecan, he] at this
      exact this
    | true =>
      walk_at "rd"
      refine r_fld hp D.cl D.nn (df_number _ _) ?_
      walk_at "rd"
      refine ⟨st.op, i, rfl, by omega, ?_⟩
      rw [Int.toNat_natCast]
      walk_at "rd"
      cases hb : bit st.op i with
      | true =>
        walk_at "rd"
        have := k H (Same.refl _)
        rw [ecan, he, hb] at this
        exact this
      | false =>
        walk_at "rd"
        refine ⟨c, q, C, st.rm, st.tk, st.op, st.b, st.wt, rfl, hC, ok, hq, sok.dr, fun hl H2 s2 hl0 hl2 => ?_⟩
        have hg3 := s2 _ _ hg2
        walk_at "rd"
        refine r_ixL (SqL.of hl2) (cl_at hk.1 hk.2) ?_
        walk_at "rd"
        have := k H2 s2
        rw [ecan, he, hb] at this
        exact this
theorem vm_done_go (T : Txt mg cs) (D : DCl K cs .go) (L : LaidM K cs.Go "done" "Go.done" s_Go_done ["self", "cellar", "stand"]) (vo : VMeth P w K mg base 1 (dcls cs .go) "own_part" ["self", "cellar"] (spOwn cs .go)) (C_changed : Cal P w K mg base 1 "changed" ["parts", "place", "part"] spChg) : VMeth P w K mg base 2 (dcls cs .go) "done" ["self", "cellar", "stand"] (spDone cs .go) := by
  obtain ⟨t1, e_ROOM⟩ := T.e_ROOM
  obtain ⟨t2, e_WAY_A⟩ := T.e_WAY_A
  obtain ⟨t3, e_WAY_B⟩ := T.e_WAY_B
  refine LaidM.vm (k := 1) L D.cl sc_Go_done (fun vs H Q E h => ?_) (fun f cdv A outer s H vs Q E hr h => ?_)
  · obtain ⟨p, c, q, C, st, n, rfl, _⟩ := h
    rfl
  · obtain ⟨p, c, q, C, st, n, rfl, ho, hC, ok, hq, sok, hcan, k⟩ := h
    obtain ⟨hl, i, rfl, hi, hcb⟩ := canD_of hcan
    obtain ⟨dx, hp⟩ := ho.ex
    have hq' : H q = some (.tup [.int st.rm, .int st.tk, .int st.op, .int st.b, .int st.wt]) := hq
    refine ⟨_, (pss_cons (ps_set (i := 3) sc_Go_done.nd rfl (Or.inl rfl) (pe_vm (k := 1) (hr.mono (by decide)) (pv 0) (pa_cons (pv 1) pa_nil)))
      (pss_cons (ps_set (i := 4) sc_Go_done.nd rfl (Or.inl rfl) (pe_ifExp (pt_cmpR op_eq (pe_ix (ix_tupK K) (pv 2) (pe_glob (v := .int 0) rfl e_ROOM ⟨_, rfl⟩) (fun _ _ => rfl)) (pe_ix (ix_tupK K) (pv 3) (pe_glob (v := .int 0) rfl e_WAY_A ⟨_, rfl⟩) (fun _ _ => rfl)) (nomark _)) (pe_ix (ix_tupK K) (pv 3) (pe_glob (v := .int 1) rfl e_WAY_B ⟨_, rfl⟩) (fun _ _ => rfl)) (pe_ix (ix_tupK K) (pv 3) (pe_glob (v := .int 0) rfl e_WAY_A ⟨_, rfl⟩) (fun _ _ => rfl))))
      (pss_one (ps_ret (pe_cal C_changed hr (by decide) rfl (pa_cons (pv 2) (pa_cons (pe_glob (v := .int 0) rfl e_ROOM ⟨_, rfl⟩) (pa_cons (pv 4) pa_nil)))))))), ?_⟩
    walk_at "rd"
    refine r_vm hp vo (df_own _ _) ?_
    walk_at "rd"
    refine ⟨p, c, C, i, rfl, ho, hC, hi, fun r hrow => ?_⟩
    obtain ⟨x, hx, hW⟩ := hrow
    obtain ⟨g, hr1, hg⟩ := id hW
    have edone : doneD C st .go (i : Int) = { st with rm := if st.rm = x.a then x.b else x.a } := by
      show doneB C st ((i : Int)).toNat .go = _
      rw [Int.toNat_natCast]; simp [doneB, hx]
    rw [edone] at k
    walk_at "rd"
    refine ifd (fun h1 => ?_) (fun h1 => ?_)
    · rw [if_pos h1] at k
      walk_at "rd"
      exact ⟨q, st, 0, _, rfl, by decide, hq, fun r H' s' hr' => k r H' s' hr'⟩
    · rw [if_neg h1] at k
      walk_at "rd"
      exact ⟨q, st, 0, _, rfl, by decide, hq, fun r H' s' hr' => k r H' s' hr'⟩
theorem vm_done_pull (T : Txt mg cs) (D : DCl K cs .pull) (L : LaidM K cs.Pull "done" "Pull.done" s_Pull_done ["self", "cellar", "stand"]) (vo : VMeth P w K mg base 1 (dcls cs .pull) "own_part" ["self", "cellar"] (spOwn cs .pull)) (C_changed : Cal P w K mg base 1 "changed" ["parts", "place", "part"] spChg) : VMeth P w K mg base 2 (dcls cs .pull) "done" ["self", "cellar", "stand"] (spDone cs .pull) := by
  obtain ⟨t1, e_BARS⟩ := T.e_BARS
  obtain ⟨t2, e_PAIR_NUMBER⟩ := T.e_PAIR_NUMBER
  refine LaidM.vm (k := 1) L D.cl sc_Pull_done (fun vs H Q E h => ?_) (fun f cdv A outer s H vs Q E hr h => ?_)
  · obtain ⟨p, c, q, C, st, n, rfl, _⟩ := h
    rfl
  · obtain ⟨p, c, q, C, st, n, rfl, ho, hC, ok, hq, sok, hcan, k⟩ := h
    obtain ⟨hl, i, rfl, hi, hcb⟩ := canD_of hcan
    obtain ⟨dx, hp⟩ := ho.ex
    have hq' : H q = some (.tup [.int st.rm, .int st.tk, .int st.op, .int st.b, .int st.wt]) := hq
    refine ⟨_, (pss_one (ps_ret (pe_cal C_changed hr (by decide) rfl (pa_cons (pv 2) (pa_cons (pe_glob (v := .int 3) rfl e_BARS ⟨_, rfl⟩) (pa_cons (pe_op op_xor (pe_ix (ix_tupK K) (pv 2) (pe_glob (v := .int 3) rfl e_BARS ⟨_, rfl⟩) (fun _ _ => rfl)) (pe_ix (ix_tupK K) (pe_vm (k := 1) (hr.mono (by decide)) (pv 0) (pa_cons (pv 1) pa_nil)) (pe_glob (v := .int 1) rfl e_PAIR_NUMBER ⟨_, rfl⟩) (fun _ _ => rfl))) pa_nil)))))), ?_⟩
    walk_at "rd"
    refine r_vm hp vo (df_own _ _) ?_
    walk_at "rd"
    refine ⟨p, c, C, i, rfl, ho, hC, hi, fun r hrow => ?_⟩
    obtain ⟨x, hx, hP⟩ := hrow
    replace hP : H r = some (.tup [.int x.1, .int x.2]) := hP
    have edone : doneD C st .pull (i : Int) = { st with b := Builtin.bitXor st.b x.2 } := by
      show doneB C st ((i : Int)).toNat .pull = _
      rw [Int.toNat_natCast]; simp [doneB, hx]
    rw [edone] at k
    walk_at "rd"
    exact ⟨q, st, 3, _, rfl, by decide, hq, fun r H' s' hr' => k r H' s' hr'⟩
theorem vm_done_take (T : Txt mg cs) (D : DCl K cs .take) (L : LaidM K cs.Take "done" "Take.done" s_Take_done ["self", "cellar", "stand"]) (C_changed : Cal P w K mg base 1 "changed" ["parts", "place", "part"] spChg) : VMeth P w K mg base 2 (dcls cs .take) "done" ["self", "cellar", "stand"] (spDone cs .take) := by
  obtain ⟨t1, e_TAKEN⟩ := T.e_TAKEN
  refine LaidM.vm (k := 1) L D.cl sc_Take_done (fun vs H Q E h => ?_) (fun f cdv A outer s H vs Q E hr h => ?_)
  · obtain ⟨p, c, q, C, st, n, rfl, _⟩ := h
    rfl
  · obtain ⟨p, c, q, C, st, n, rfl, ho, hC, ok, hq, sok, hcan, k⟩ := h
    obtain ⟨hl, i, rfl, hi, hcb⟩ := canD_of hcan
    obtain ⟨dx, hp⟩ := ho.ex
    have hq' : H q = some (.tup [.int st.rm, .int st.tk, .int st.op, .int st.b, .int st.wt]) := hq
    have hi8 : (i : Int) < 8 := by have h2 : i < C.things.length := hi; have := ok.tl; omega
    have hb : bit st.tk i = false := by
      have h2 : i < C.things.length := hi
      simp only [canB, List.getElem?_eq_getElem h2, Bool.and_eq_true, Bool.not_eq_true'] at hcb
      exact hcb.2
    have edone : doneD C st .take (i : Int) = { st with tk := st.tk + 2 ^ i } := by
      show doneB C st ((i : Int)).toNat .take = _
      rw [Int.toNat_natCast]; rfl
    rw [edone] at k
    refine ⟨_, (pss_one (ps_ret (pe_cal C_changed hr (by decide) rfl (pa_cons (pv 2) (pa_cons (pe_glob (v := .int 1) rfl e_TAKEN ⟨_, rfl⟩) (pa_cons (pe_op op_or (pe_ix (ix_tupK K) (pv 2) (pe_glob (v := .int 1) rfl e_TAKEN ⟨_, rfl⟩) (fun _ _ => rfl)) (pe_op op_shl pe_int (pe_fldK K (pv 0) rfl))) pa_nil)))))), ?_⟩
    walk_at "rd"
    refine r_fld hp D.cl D.nn (df_number _ _) ?_
    walk_at "rd"
    rw [Int.toNat_natCast, Int.one_mul, bit_off hb]
    exact ⟨q, st, 1, _, rfl, by decide, hq, fun r H' s' hr' => k r H' s' hr'⟩
theorem vm_done_turn (T : Txt mg cs) (D : DCl K cs .turn) (L : LaidM K cs.Turn "done" "Turn.done" s_Turn_done ["self", "cellar", "stand"]) (vo : VMeth P w K mg base 1 (dcls cs .turn) "own_part" ["self", "cellar"] (spOwn cs .turn)) (C_changed : Cal P w K mg base 1 "changed" ["parts", "place", "part"] spChg) : VMeth P w K mg base 2 (dcls cs .turn) "done" ["self", "cellar", "stand"] (spDone cs .turn) := by
  obtain ⟨t1, e_WATER⟩ := T.e_WATER
  obtain ⟨t2, e_PAIR_NUMBER⟩ := T.e_PAIR_NUMBER
  refine LaidM.vm (k := 1) L D.cl sc_Turn_done (fun vs H Q E h => ?_) (fun f cdv A outer s H vs Q E hr h => ?_)
  · obtain ⟨p, c, q, C, st, n, rfl, _⟩ := h
    rfl
  · obtain ⟨p, c, q, C, st, n, rfl, ho, hC, ok, hq, sok, hcan, k⟩ := h
    obtain ⟨hl, i, rfl, hi, hcb⟩ := canD_of hcan
    obtain ⟨dx, hp⟩ := ho.ex
    refine ⟨_, (pss_one (ps_ret (pe_cal C_changed hr (by decide) rfl (pa_cons (pv 2) (pa_cons (pe_glob (v := .int 4) rfl e_WATER ⟨_, rfl⟩) (pa_cons (pe_ix (ix_tupK K) (pe_vm (k := 1) (hr.mono (by decide)) (pv 0) (pa_cons (pv 1) pa_nil)) (pe_glob (v := .int 1) rfl e_PAIR_NUMBER ⟨_, rfl⟩) (fun _ _ => rfl)) pa_nil)))))), ?_⟩
    walk_at "rd"
    refine r_vm hp vo (df_own _ _) ?_
    walk_at "rd"
    refine ⟨p, c, C, i, rfl, ho, hC, hi, fun r hrow => ?_⟩
    obtain ⟨x, hx, hP⟩ := hrow
    replace hP : H r = some (.tup [.int x.1, .int x.2]) := hP
    have edone : doneD C st .turn (i : Int) = { st with wt := x.2 } := by
      show doneB C st ((i : Int)).toNat .turn = _
      rw [Int.toNat_natCast]; simp [doneB, hx]
    rw [edone] at k
    walk_at "rd"
    exact ⟨q, st, 4, _, rfl, by decide, hq, fun r H' s' hr' => k r H' s' hr'⟩
theorem vm_done_unlock (T : Txt mg cs) (D : DCl K cs .unlock) (L : LaidM K cs.Unlock "done" "Unlock.done" s_Unlock_done ["self", "cellar", "stand"]) (C_changed : Cal P w K mg base 1 "changed" ["parts", "place", "part"] spChg) : VMeth P w K mg base 2 (dcls cs .unlock) "done" ["self", "cellar", "stand"] (spDone cs .unlock) := by
  obtain ⟨t1, e_OPENED⟩ := T.e_OPENED
  refine LaidM.vm (k := 1) L D.cl sc_Unlock_done (fun vs H Q E h => ?_) (fun f cdv A outer s H vs Q E hr h => ?_)
  · obtain ⟨p, c, q, C, st, n, rfl, _⟩ := h
    rfl
  · obtain ⟨p, c, q, C, st, n, rfl, ho, hC, ok, hq, sok, hcan, k⟩ := h
    obtain ⟨hl, i, rfl, hi, hcb⟩ := canD_of hcan
    obtain ⟨dx, hp⟩ := ho.ex
    have hq' : H q = some (.tup [.int st.rm, .int st.tk, .int st.op, .int st.b, .int st.wt]) := hq
    have hi20 : (i : Int) < 20 := by have h2 : i < C.ways.length := hi; have := ok.wl; omega
    have hb : bit st.op i = false := by
      have h2 : i < C.ways.length := hi
      cases hk : C.ways[i].g.dk with
      | none => simp [canB, h2, hk] at hcb
      | some kd =>
        simp only [canB, List.getElem?_eq_getElem h2, hk, Bool.and_eq_true, Bool.not_eq_true'] at hcb
        exact hcb.1.2
    have edone : doneD C st .unlock (i : Int) = { st with op := st.op + 2 ^ i } := by
      show doneB C st ((i : Int)).toNat .unlock = _
      rw [Int.toNat_natCast]; rfl
    rw [edone] at k
    refine ⟨_, (pss_one (ps_ret (pe_cal C_changed hr (by decide) rfl (pa_cons (pv 2) (pa_cons (pe_glob (v := .int 2) rfl e_OPENED ⟨_, rfl⟩) (pa_cons (pe_op op_or (pe_ix (ix_tupK K) (pv 2) (pe_glob (v := .int 2) rfl e_OPENED ⟨_, rfl⟩) (fun _ _ => rfl)) (pe_op op_shl pe_int (pe_fldK K (pv 0) rfl))) pa_nil)))))), ?_⟩
    walk_at "rd"
    refine r_fld hp D.cl D.nn (df_number _ _) ?_
    walk_at "rd"
    rw [Int.toNat_natCast, Int.one_mul, bit_off hb]
    exact ⟨q, st, 2, _, rfl, by decide, hq, fun r H' s' hr' => k r H' s' hr'⟩
end
def DAt (cs : Cs) (H : Hp) (p : Addr) (x : Wd × Nat) : Prop := DObj cs H p x.1 ((x.2 : Nat) : Int)
def TAt (H : Hp) (p : Addr) (x : Wd × Nat) : Prop := H p = some (.tup [.str x.1.str, .int ((x.2 : Nat) : Int)])
theorem DAt.mono {cs : Cs} {H H' : Hp} (s : Same H H') {p : Addr} {x : Wd × Nat} (h : DAt cs H p x) : DAt cs H' p x := DObj.mono s h
theorem TAt.mono {H H' : Hp} (s : TSame H H') {p : Addr} {x : Wd × Nat} (h : TAt H p x) : TAt H' p x := s _ _ h
theorem DAt.put {cs : Cs} {H : Hp} {D : Addr} {xs : List V} {o : HO} (hD : H D = some (.lst xs)) {p : Addr} {x : Wd × Nat} (h : DAt cs H p x) : DAt cs (upd H D o) p x := by
  obtain ⟨dx, hp⟩ := h.ex
  exact ⟨dx, by rw [upd_ne (ne_of hp hD (by intro z; cases z))]; exact hp⟩
theorem TAt.put {H : Hp} {D : Addr} {xs : List V} {o : HO} (hD : H D = some (.lst xs)) {p : Addr} {x : Wd × Nat} (h : TAt H p x) : TAt (upd H D o) p x := TSame.lst hD _ _ h
theorem lst_snoc {α : Type} {At : Hp -> Addr -> α -> Prop} {H : Hp} {D x : Addr} {ps : List Addr} {xs : List α} {y : α} (mo : ∀ q z, At H q z -> At (upd H D (.lst (ps.map V.ref ++ [.ref x]))) q z) (hr : Rows At H ps xs) (hx : At H x y) : LstOf At (upd H D (.lst (ps.map V.ref ++ [.ref x]))) D (xs ++ [y]) :=
  ⟨ps ++ [x], by rw [upd_same, List.map_append]; rfl, (hr.mono mo).snoc (mo _ _ hx)⟩
theorem rows_cat {α : Type} {At : Hp -> Addr -> α -> Prop} {H : Hp} {ps qs : List Addr} {xs ys : List α} (a : Rows At H ps xs) (b : Rows At H qs ys) : Rows At H (ps ++ qs) (xs ++ ys) := by
  refine ⟨by rw [List.length_append, List.length_append, a.1, b.1], fun i p x h1 h2 => ?_⟩
  by_cases hi : i < ps.length
  · rw [List.getElem?_append_left hi] at h1
    rw [List.getElem?_append_left (by rw [<- a.1]; exact hi)] at h2
    exact a.2 i p x h1 h2
  · rw [List.getElem?_append_right (by omega)] at h1
    rw [List.getElem?_append_right (by rw [<- a.1]; omega), <- a.1] at h2
    exact b.2 _ p x h1 h2
def spGoes (cs : Cs) : Sp := fun vs H Q _ => ∃ (c : Addr) (C : Cl), vs = [.ref c] /\ ClAt H c C /\ ClOk C /\ ∀ (l : Addr) (H' : Hp), Same H H' -> H l = none -> LstOf (DAt cs) H' l (rowD .go C.ways.length) -> Q (.ref l) H'
def spAllD (cs : Cs) : Sp := fun vs H Q _ => ∃ (c : Addr) (C : Cl), vs = [.ref c] /\ ClAt H c C /\ ClOk C /\ ∀ (l : Addr) (H' : Hp), Same H H' -> H l = none -> LstOf (DAt cs) H' l (allD C) -> Q (.ref l) H'
def spFitD (cs : Cs) : Sp := fun vs H Q _ => ∃ (c q : Addr) (C : Cl) (s : Sd), vs = [.ref c, .ref q] /\ ClAt H c C /\ ClOk C /\ H q = some (.tup s.vs) /\ s.ok C /\ ∀ (l : Addr) (H' : Hp), Same H H' -> H l = none -> LstOf (DAt cs) H' l (fitD C s) -> Q (.ref l) H'
def spDeedsAt : Sp := fun vs H Q _ => ∃ (c q : Addr) (C : Cl) (s : Sd), vs = [.ref c, .ref q] /\ ClAt H c C /\ ClOk C /\ H q = some (.tup s.vs) /\ s.ok C /\ ∀ (l : Addr) (H' : Hp), Same H H' -> H l = none -> LstOf TAt H' l (fitD C s) -> Q (.ref l) H'
def spBehind : Sp := fun vs H Q _ => ∃ (c q t : Addr) (C : Cl) (s : Sd) (d : Wd) (n : Int), vs = [.ref c, .ref q, .ref t] /\ ClAt H c C /\ ClOk C /\ H q = some (.tup s.vs) /\ s.ok C /\ H t = some (.tup [.str d.str, .int n]) /\ canD C s d n = true /\
  ∀ (r : Addr) (H' : Hp), Same H H' -> H' r = some (.tup (doneD C s d n).vs) -> Q (.ref r) H'
section
variable {P : Program} {w : World} {K : W.Frag} {mg : Str -> Option Value} {base : Heap} {cs : Cs}
theorem row_turn {H0 H' : Hp} {D : Addr} {d : Wd} {i : Nat} {v : Option V} {ps : List Addr} {x dx : Addr} (hD : H0 D = none) (s2 : Same H0 H') (hi : i < 100) (hps : H' D = some (.lst (ps.map V.ref))) (hrw : Rows (DAt cs) H' ps (rowD d i)) (hx : H' x = none) (hdx : H' dx = none) (ne : dx ≠ x) :
    spMkD cs d (.ref x :: ([.int (0 + ((i : Nat) : Int))] ++ [])) (upd (upd H' dx (.own x)) x (.ins (dcls cs d) dx [])) (fun w H2 => w = .non /\ ∃ ys, H2 D = some (.lst ys) /\ ys.length < sizeLine /\ ∃ v0, ([v] : St) = [v0] /\ Same H0 (upd H2 D (.lst (ys ++ [.ref x]))) /\ LstOf (DAt cs) (upd H2 D (.lst (ys ++ [.ref x]))) D (rowD d (i + 1))) E0 := by
  have big := line_big
  rw [Int.zero_add]
  refine made_deed (Q := fun y H2 => ∃ ys, H2 D = some (.lst ys) /\ ys.length < sizeLine /\ ∃ v0, ([v] : St) = [v0] /\ Same H0 (upd H2 D (.lst (ys ++ [y]))) /\ LstOf (DAt cs) (upd H2 D (.lst (ys ++ [y]))) D (rowD d (i + 1))) hx hdx ne fun x H3 s3 hx0 hob => ?_
  have hp3 := s3 _ _ hps
  refine ⟨_, hp3, by rw [List.length_map, hrw.1, rowD_len]; omega, _, rfl, (s2.trans s3).put hD, ?_⟩
  rw [rowD_succ]
  exact lst_snoc (fun _ _ => DAt.put hp3) (hrw.mono fun _ _ => DAt.mono s3) hob
theorem ok_goes (T : Txt mg cs) (L : Laid K mg "all_goes" s_all_goes ["cellar"]) (C_Go : Makes P w K mg base 2 "Go" cs.Go ["self", "number"] (spMkD cs .go)) : Cal P w K mg base 4 "all_goes" ["cellar"] (spGoes cs) := by
  obtain ⟨t1, e_WAYS⟩ := T.e_WAYS
  refine L.cal (k := 3) sc_all_goes (fun vs H Q E h => ?_) (fun f cdv A outer s H vs Q E hr h => ?_)
  · obtain ⟨c, C, rfl, _⟩ := h
    rfl
  · obtain ⟨c, C, rfl, hC, ok, k⟩ := h
    obtain ⟨pw, pt, pl, pv', h0, hw, ht, hl, hv⟩ := hC.ex
    obtain ⟨wv, hwv, hwl, hwg⟩ := hw.get
    have okw := ok.wl
    have hwl2 : (wv.length : Int) <= 20 := by omega
    refine ⟨_, (pss_one (ps_ret (pe_comp (compOk (N := ["number"]) (own := 1) (caps := []) ["cellar"] (defScope s_all_goes) (by decide +kernel)) rfl (pi_range1 rfl T.n_range (pa_cons (pe_callB (lenK K) rfl T.n_len bt_len (pa_cons (pe_ix (ix_tupK K) (pv 0) (pe_glob (v := .int 3) rfl e_WAYS ⟨_, rfl⟩) (fun _ _ => rfl)) pa_nil)) pa_nil)) (fun _ _ _ _ => (pg_name (i := 0) (show List.Nodup (["number"] : List Str) by decide +kernel) rfl (Or.inl rfl))) (fun _ _ _ _ => pf_nil) (fun _ _ _ _ => (pe_mak C_Go hr (by decide) rfl (pa_cons (pv 0) pa_nil)))))), ?_⟩
    walk_at "rd"
    intro D hD
    refine comp_rng (fun i σ H' => ∃ v0, σ = [v0] /\ Same H H' /\ LstOf (DAt cs) H' D (rowD .go i)) ⟨none, rfl, Same.upd hD, ⟨[], upd_same, Rows.nil⟩⟩ ?_ ?_
    · rintro i σ H' hi ⟨v0, rfl, s2, ps, hps, hrw⟩
      walk_at "rd"
      exact fun x dx hx hdx ne => row_turn hD s2 (by have : i < wv.length := by simpa using hi
                                                     omega) hps hrw hx hdx ne
    · rintro σ H' ⟨v0, rfl, s2, hlst⟩
      rw [Int.toNat_natCast, hwl] at hlst
      exact k D H' s2 hD hlst
theorem ok_allD (T : Txt mg cs) (L : Laid K mg "all_deeds" s_all_deeds ["cellar"]) (C_all_goes : Cal P w K mg base 4 "all_goes" ["cellar"] (spGoes cs)) (C_Pull : Makes P w K mg base 2 "Pull" cs.Pull ["self", "number"] (spMkD cs .pull)) (C_Take : Makes P w K mg base 2 "Take" cs.Take ["self", "number"] (spMkD cs .take))
    (C_Turn : Makes P w K mg base 2 "Turn" cs.Turn ["self", "number"] (spMkD cs .turn)) (C_Unlock : Makes P w K mg base 2 "Unlock" cs.Unlock ["self", "number"] (spMkD cs .unlock)) : Cal P w K mg base 5 "all_deeds" ["cellar"] (spAllD cs) := by
  obtain ⟨t1, e_WAYS⟩ := T.e_WAYS
  obtain ⟨t2, e_LEVERS⟩ := T.e_LEVERS
  obtain ⟨t3, e_THINGS⟩ := T.e_THINGS
  obtain ⟨t4, e_WHEELS⟩ := T.e_WHEELS
  refine L.cal (k := 4) sc_all_deeds (fun vs H Q E h => ?_) (fun f cdv A outer s H vs Q E hr h => ?_)
  · obtain ⟨c, C, rfl, _⟩ := h
    rfl
  · obtain ⟨c, C, rfl, hC, ok, k⟩ := h
    have big := line_big
    obtain ⟨pw, pt, pl, pv', h0, hw, ht, hl, hv⟩ := hC.ex
    obtain ⟨wv, hwv, hwl, hwg⟩ := hw.get
    obtain ⟨tv, htv, htl, htg⟩ := ht.get
    obtain ⟨lv, hlv, hll, hlg⟩ := hl.get
    obtain ⟨vv, hvv, hvl, hvg⟩ := hv.get
    have okw := ok.wl
    have okt := ok.tl
    have okl := ok.ll
    have okv := ok.vl
    have hwl2 : (wv.length : Int) <= 20 := by omega
    have htl2 : (tv.length : Int) <= 8 := by omega
    have hll2 : (lv.length : Int) <= 4 := by omega
    have hvl2 : (vv.length : Int) <= 4 := by omega
    refine ⟨_, (pss_cons (ps_comp (i := 1) sc_all_deeds.nd rfl rfl (compOk (N := ["number"]) (own := 1) (caps := []) ["cellar", "pulls", "takes", "turns", "unlocks"] (defScope s_all_deeds) (by decide +kernel)) rfl (pi_range1 rfl T.n_range (pa_cons (pe_callB (lenK K) rfl T.n_len bt_len (pa_cons (pe_ix (ix_tupK K) (pv 0) (pe_glob (v := .int 5) rfl e_LEVERS ⟨_, rfl⟩) (fun _ _ => rfl)) pa_nil)) pa_nil)) (fun _ _ _ _ => (pg_name (i := 0) (show List.Nodup (["number"] : List Str) by decide +kernel) rfl (Or.inl rfl))) (fun _ _ _ _ => pf_nil) (fun _ _ _ _ => (pe_mak C_Pull hr (by decide) rfl (pa_cons (pv 0) pa_nil))))
      (pss_cons (ps_comp (i := 2) sc_all_deeds.nd rfl rfl (compOk (N := ["number"]) (own := 1) (caps := []) ["cellar", "pulls", "takes", "turns", "unlocks"] (defScope s_all_deeds) (by decide +kernel)) rfl (pi_range1 rfl T.n_range (pa_cons (pe_callB (lenK K) rfl T.n_len bt_len (pa_cons (pe_ix (ix_tupK K) (pv 0) (pe_glob (v := .int 4) rfl e_THINGS ⟨_, rfl⟩) (fun _ _ => rfl)) pa_nil)) pa_nil)) (fun _ _ _ _ => (pg_name (i := 0) (show List.Nodup (["number"] : List Str) by decide +kernel) rfl (Or.inl rfl))) (fun _ _ _ _ => pf_nil) (fun _ _ _ _ => (pe_mak C_Take hr (by decide) rfl (pa_cons (pv 0) pa_nil))))
      (pss_cons (ps_comp (i := 3) sc_all_deeds.nd rfl rfl (compOk (N := ["number"]) (own := 1) (caps := []) ["cellar", "pulls", "takes", "turns", "unlocks"] (defScope s_all_deeds) (by decide +kernel)) rfl (pi_range1 rfl T.n_range (pa_cons (pe_callB (lenK K) rfl T.n_len bt_len (pa_cons (pe_ix (ix_tupK K) (pv 0) (pe_glob (v := .int 6) rfl e_WHEELS ⟨_, rfl⟩) (fun _ _ => rfl)) pa_nil)) pa_nil)) (fun _ _ _ _ => (pg_name (i := 0) (show List.Nodup (["number"] : List Str) by decide +kernel) rfl (Or.inl rfl))) (fun _ _ _ _ => pf_nil) (fun _ _ _ _ => (pe_mak C_Turn hr (by decide) rfl (pa_cons (pv 0) pa_nil))))
      (pss_cons (ps_comp (i := 4) sc_all_deeds.nd rfl rfl (compOk (N := ["number"]) (own := 1) (caps := []) ["cellar", "pulls", "takes", "turns", "unlocks"] (defScope s_all_deeds) (by decide +kernel)) rfl (pi_range1 rfl T.n_range (pa_cons (pe_callB (lenK K) rfl T.n_len bt_len (pa_cons (pe_ix (ix_tupK K) (pv 0) (pe_glob (v := .int 3) rfl e_WAYS ⟨_, rfl⟩) (fun _ _ => rfl)) pa_nil)) pa_nil)) (fun _ _ _ _ => (pg_name (i := 0) (show List.Nodup (["number"] : List Str) by decide +kernel) rfl (Or.inl rfl))) (fun _ _ _ _ => pf_nil) (fun _ _ _ _ => (pe_mak C_Unlock hr (by decide) rfl (pa_cons (pv 0) pa_nil))))
      (pss_one (ps_ret (pe_op op_cat (pe_op op_cat (pe_op op_cat (pe_op op_cat (pe_cal C_all_goes hr (by decide) rfl (pa_cons (pv 0) pa_nil)) (pv 1)) (pv 2)) (pv 3)) (pv 4)))))))), ?_⟩
    walk_at "rd"
    intro D1 hD1
    refine comp_rng (fun i σ H' => ∃ v0, σ = [v0] /\ Same H H' /\ LstOf (DAt cs) H' D1 (rowD .pull i)) ⟨none, rfl, Same.upd hD1, ⟨[], upd_same, Rows.nil⟩⟩ ?_ ?_
    · rintro i σ H' hi ⟨v0, rfl, s2, ps, hps, hrw⟩
      walk_at "rd"
      exact fun x dx hx hdx ne => row_turn hD1 s2 (by have : i < lv.length := by simpa using hi
                                                      omega) hps hrw hx hdx ne
    rintro σ H1 ⟨v0, rfl, s1, m1⟩
    rw [Int.toNat_natCast, hll] at m1
    have h01 := s1 _ _ h0
    have htv1 := s1 _ _ htv
    walk_at "rd"
    intro D2 hD2
    refine comp_rng (fun i σ H' => ∃ v0, σ = [v0] /\ Same H1 H' /\ LstOf (DAt cs) H' D2 (rowD .take i)) ⟨none, rfl, Same.upd hD2, ⟨[], upd_same, Rows.nil⟩⟩ ?_ ?_
    · rintro i σ H' hi ⟨v0, rfl, s2, ps, hps, hrw⟩
      walk_at "rd"
      exact fun x dx hx hdx ne => row_turn hD2 s2 (by have : i < tv.length := by simpa using hi
                                                      omega) hps hrw hx hdx ne
    rintro σ H2 ⟨v0, rfl, s2, m2⟩
    rw [Int.toNat_natCast, htl] at m2
    have s02 := s1.trans s2
    have h02 := s02 _ _ h0
    have hvv2 := s02 _ _ hvv
    walk_at "rd"
    intro D3 hD3
    refine comp_rng (fun i σ H' => ∃ v0, σ = [v0] /\ Same H2 H' /\ LstOf (DAt cs) H' D3 (rowD .turn i)) ⟨none, rfl, Same.upd hD3, ⟨[], upd_same, Rows.nil⟩⟩ ?_ ?_
    · rintro i σ H' hi ⟨v0, rfl, s2, ps, hps, hrw⟩
      walk_at "rd"
      exact fun x dx hx hdx ne => row_turn hD3 s2 (by have : i < vv.length := by simpa using hi
                                                      omega) hps hrw hx hdx ne
    rintro σ H3 ⟨v0, rfl, s3, m3⟩
    rw [Int.toNat_natCast, hvl] at m3
    have s03 := s02.trans s3
    have h03 := s03 _ _ h0
    have hwv3 := s03 _ _ hwv
    walk_at "rd"
    intro D4 hD4
    refine comp_rng (fun i σ H' => ∃ v0, σ = [v0] /\ Same H3 H' /\ LstOf (DAt cs) H' D4 (rowD .unlock i)) ⟨none, rfl, Same.upd hD4, ⟨[], upd_same, Rows.nil⟩⟩ ?_ ?_
    · rintro i σ H' hi ⟨v0, rfl, s2, ps, hps, hrw⟩
      walk_at "rd"
      exact fun x dx hx hdx ne => row_turn hD4 s2 (by have : i < wv.length := by simpa using hi
                                                      omega) hps hrw hx hdx ne
    rintro σ H4 ⟨v0, rfl, s4, m4⟩
    rw [Int.toNat_natCast, hwl] at m4
    have s04 := s03.trans s4
    walk_at "rd"
    refine ⟨c, C, rfl, hC.mono s04.ts, ok, fun l5 H5 s5 hl5 m5 => ?_⟩
    obtain ⟨p1, e1, r1⟩ := m1
    obtain ⟨p2, e2, r2⟩ := m2
    obtain ⟨p3, e3, r3⟩ := m3
    obtain ⟨p4, e4, r4⟩ := m4
    obtain ⟨p5, e5, r5⟩ := m5
    have n1 := r1.1
    have n2 := r2.1
    have n3 := r3.1
    have n4 := r4.1
    have n5 := r5.1
    rw [rowD_len] at n1 n2 n3 n4 n5
    have s45 := s4.trans s5
    have s35 := s3.trans s45
    have s25 := s2.trans s35
    walk_at "rd"
    refine ⟨l5, D1, _, _, rfl, rfl, e5, s25 _ _ e1, by simp; omega, fun l6 hl6 => ?_⟩
    rw [<- List.map_append]
    have s6 := Same.upd (o := .lst ((p5 ++ p1).map V.ref)) hl6
    have e6 := upd_same (H := H5) (a := l6) (o := .lst ((p5 ++ p1).map V.ref))
    generalize upd H5 l6 (.lst ((p5 ++ p1).map V.ref)) = H6 at s6 e6 ⊢
    walk_at "rd"
    refine ⟨l6, D2, _, _, rfl, rfl, e6, s6 _ _ (s35 _ _ e2), by simp; omega, fun l7 hl7 => ?_⟩
    rw [<- List.map_append]
    have s7 := Same.upd (o := .lst ((p5 ++ p1 ++ p2).map V.ref)) hl7
    have e7 := upd_same (H := H6) (a := l7) (o := .lst ((p5 ++ p1 ++ p2).map V.ref))
    generalize upd H6 l7 (.lst ((p5 ++ p1 ++ p2).map V.ref)) = H7 at s7 e7 ⊢
    have s67 := s6.trans s7
    walk_at "rd"
    refine ⟨l7, D3, _, _, rfl, rfl, e7, s67 _ _ (s45 _ _ e3), by simp; omega, fun l8 hl8 => ?_⟩
    rw [<- List.map_append]
    have s8 := Same.upd (o := .lst ((p5 ++ p1 ++ p2 ++ p3).map V.ref)) hl8
    have e8 := upd_same (H := H7) (a := l8) (o := .lst ((p5 ++ p1 ++ p2 ++ p3).map V.ref))
    generalize upd H7 l8 (.lst ((p5 ++ p1 ++ p2 ++ p3).map V.ref)) = H8 at s8 e8 ⊢
    have s68 := s67.trans s8
    walk_at "rd"
    refine ⟨l8, D4, _, _, rfl, rfl, e8, s68 _ _ (s5 _ _ e4), by simp; omega, fun l9 hl9 => ?_⟩
    rw [<- List.map_append]
    have s9 := Same.upd (o := .lst ((p5 ++ p1 ++ p2 ++ p3 ++ p4).map V.ref)) hl9
    have e9 := upd_same (H := H8) (a := l9) (o := .lst ((p5 ++ p1 ++ p2 ++ p3 ++ p4).map V.ref))
    generalize upd H8 l9 (.lst ((p5 ++ p1 ++ p2 ++ p3 ++ p4).map V.ref)) = H9 at s9 e9 ⊢
    have s69 := s68.trans s9
    have s09 := (s04.trans s5).trans s69
    refine k l9 H9 s09 ?_ ⟨_, e9, ?_⟩
    · exact (((s04.trans s5).trans s68).free hl9)
    · exact rows_cat (rows_cat (rows_cat (rows_cat (r5.mono fun _ _ => DAt.mono s69) (r1.mono fun _ _ => DAt.mono (s25.trans s69))) (r2.mono fun _ _ => DAt.mono (s35.trans s69))) (r3.mono fun _ _ => DAt.mono (s45.trans s69))) (r4.mono fun _ _ => DAt.mono (s5.trans s69))
theorem ok_fitD (T : Txt mg cs) (L : Laid K mg "fit_deeds" s_fit_deeds ["cellar", "stand"]) (C_all_deeds : Cal P w K mg base 5 "all_deeds" ["cellar"] (spAllD cs)) (vc : ∀ d, VMeth P w K mg base 6 (dcls cs d) "can" ["self", "cellar", "stand"] (spCan cs d)) : Cal P w K mg base 7 "fit_deeds" ["cellar", "stand"] (spFitD cs) := by
  refine L.cal (k := 6) sc_fit_deeds (fun vs H Q E h => ?_) (fun f cdv A outer s H vs Q E hr h => ?_)
  · obtain ⟨c, q, C, st, rfl, _⟩ := h
    rfl
  · obtain ⟨c, q, C, st, rfl, hC, ok, hq, sok, k⟩ := h
    have big := line_big
    have hal := allD_len ok
    refine ⟨_, (pss_one (ps_ret (pe_comp (compOk (N := ["deed", "cellar", "stand"]) (own := 1) (caps := [0, 1]) ["cellar", "stand"] (defScope s_fit_deeds) (by decide +kernel)) rfl (pi_listK K (pe_cal C_all_deeds hr (by decide) rfl (pa_cons (pv 0) pa_nil))) (fun _ _ _ _ => (pg_name (i := 0) (show List.Nodup (["deed", "cellar", "stand"] : List Str) by decide +kernel) rfl (Or.inl rfl))) (fun _ _ _ _ => (pf_one (pt_val (pe_vmK (k := 6) P w K mg base hr (by decide) (pv 0) (pa_cons (pv 1) (pa_cons (pv 2) pa_nil)))))) (fun _ _ _ _ => (pv 0))))), ?_⟩
    walk_at "rd"
    refine ⟨c, C, rfl, hC, ok, fun l H1 s1 hl0 m1 => ?_⟩
    obtain ⟨ps, e1, r1⟩ := m1
    walk_at "rd"
    intro D hD
    refine comp_lst (ps.map V.ref) (fun i σ H' => ∃ v0, σ = [v0, some (.ref c), some (.ref q)] /\ Same H1 H' /\ LstOf (DAt cs) H' D (((allD C).take i).filter fun x => canD C st x.1 (x.2 : Int))) ⟨none, rfl, Same.upd hD, ⟨[], upd_same, Rows.nil⟩⟩ ?_ ?_ ?_
    · rintro i σ H' ⟨_, rfl, s2, _⟩
      exact SqL.of (s2 _ _ e1)
    · rintro i x σ H' hx ⟨v0, rfl, s2, qs, hqs, hrw⟩
      have hi : i < (allD C).length := by have := (List.getElem?_eq_some_iff.mp hx).1; rw [List.length_map, r1.1] at this; exact this
      obtain ⟨p, ep, hob⟩ := r1.get hi
      rw [hx] at ep
      cases ep
      have hob2 := DAt.mono s2 hob
      obtain ⟨dx, hp⟩ := hob2.ex
      have s12 := s1.trans s2
      have hqlen : qs.length <= 100 := by
        rw [hrw.1]
        refine Nat.le_trans (List.length_filter_le _ _) ?_
        rw [List.length_take]; omega
      walk_at "rd"
      refine r_vm hp (vc _) (df_can _ _) ?_
      walk_at "rd"
      refine ⟨p, c, q, C, st, _, rfl, hob2, hC.mono s12.ts, ok, s12 _ _ hq, sok, fun H3 s3 => ?_⟩
      have hq3 := s3 _ _ hqs
      walk_at "rd"
      rw [List.take_succ_eq_append_getElem hi, List.filter_append]
      refine ite2 (fun hc => ?_) (fun hc => ?_)
      · walk_at "rd"
        refine ⟨_, hq3, by rw [List.length_map]; omega, _, rfl, (s2.trans s3).put hD, ?_⟩
        rw [show ([(allD C)[i]].filter fun x => canD C st x.1 (x.2 : Int)) = [(allD C)[i]] by simp [hc]]
        exact lst_snoc (fun _ _ => DAt.put hq3) (hrw.mono fun _ _ => DAt.mono s3) (DAt.mono s3 hob2)
      · refine ⟨_, rfl, s2.trans s3, qs, hq3, ?_⟩
        rw [show ([(allD C)[i]].filter fun x => canD C st x.1 (x.2 : Int)) = [] by simp [hc], List.append_nil]
        exact hrw.mono fun _ _ => DAt.mono s3
    · rintro σ H' ⟨v0, rfl, s2, m2⟩
      rw [List.length_map, r1.1, List.take_length] at m2
      exact k D H' (s1.trans s2) (s1.free hD) m2
theorem ok_deedsAt (T : Txt mg cs) (L : Laid K mg "deeds_at" s_deeds_at ["cellar", "stand"]) (C_fit_deeds : Cal P w K mg base 7 "fit_deeds" ["cellar", "stand"] (spFitD cs)) (vt : ∀ d, VMeth P w K mg base 1 (dcls cs d) "told" ["self"] (spDTold cs d)) : Cal P w K mg base 8 "deeds_at" ["cellar", "stand"] spDeedsAt := by
  refine L.cal (k := 7) sc_deeds_at (fun vs H Q E h => ?_) (fun f cdv A outer s H vs Q E hr h => ?_)
  · obtain ⟨c, q, C, st, rfl, _⟩ := h
    rfl
  · obtain ⟨c, q, C, st, rfl, hC, ok, hq, sok, k⟩ := h
    have big := line_big
    have hal := fitD_len ok st
    refine ⟨_, (pss_one (ps_ret (pe_comp (compOk (N := ["deed"]) (own := 1) (caps := []) ["cellar", "stand"] (defScope s_deeds_at) (by decide +kernel)) rfl (pi_listK K (pe_cal C_fit_deeds hr (by decide) rfl (pa_cons (pv 0) (pa_cons (pv 1) pa_nil)))) (fun _ _ _ _ => (pg_name (i := 0) (show List.Nodup (["deed"] : List Str) by decide +kernel) rfl (Or.inl rfl))) (fun _ _ _ _ => pf_nil) (fun _ _ _ _ => (pe_vm0K (k := 1) P w K mg base hr (by decide) (pv 0)))))), ?_⟩
    walk_at "rd"
    refine ⟨c, q, C, st, rfl, hC, ok, hq, sok, fun l H1 s1 hl0 m1 => ?_⟩
    obtain ⟨ps, e1, r1⟩ := m1
    walk_at "rd"
    intro D hD
    refine comp_lst (ps.map V.ref) (fun i σ H' => ∃ v0, σ = [v0] /\ Same H1 H' /\ LstOf TAt H' D ((fitD C st).take i)) ⟨none, rfl, Same.upd hD, ⟨[], upd_same, Rows.nil⟩⟩ ?_ ?_ ?_
    · rintro i σ H' ⟨_, rfl, s2, _⟩
      exact SqL.of (s2 _ _ e1)
    · rintro i x σ H' hx ⟨v0, rfl, s2, qs, hqs, hrw⟩
      have hi : i < (fitD C st).length := by have := (List.getElem?_eq_some_iff.mp hx).1; rw [List.length_map, r1.1] at this; exact this
      obtain ⟨p, ep, hob⟩ := r1.get hi
      rw [hx] at ep
      cases ep
      have hob2 := DAt.mono s2 hob
      obtain ⟨dx, hp⟩ := hob2.ex
      have hqlen : qs.length <= 100 := by
        rw [hrw.1, List.length_take]; omega
      walk_at "rd"
      refine r_vm hp (vt _) (df_told _ _) ?_
      refine ⟨p, _, rfl, hob2, fun t H3 s3 ht3 => ?_⟩
      have hq3 := s3 _ _ hqs
      refine ⟨_, hq3, by rw [List.length_map]; omega, _, rfl, (s2.trans s3).put hD, ?_⟩
      rw [List.take_succ_eq_append_getElem hi]
      exact lst_snoc (fun _ _ => TAt.put hq3) (hrw.mono fun _ _ => TAt.mono s3.ts) ht3
    · rintro σ H' ⟨v0, rfl, s2, m2⟩
      rw [List.length_map, r1.1, List.take_length] at m2
      exact k D H' (s1.trans s2) (s1.free hD) m2
theorem ok_behind (T : Txt mg cs) (L : Laid K mg "behind" s_behind ["cellar", "stand", "deed"]) (C_deed_of : Cal P w K mg base 4 "deed_of" ["deed"] (spDof cs)) (vc : ∀ d, VMeth P w K mg base 6 (dcls cs d) "can" ["self", "cellar", "stand"] (spCan cs d)) (vd : ∀ d, VMeth P w K mg base 2 (dcls cs d) "done" ["self", "cellar", "stand"] (spDone cs d)) : Cal P w K mg base 7 "behind" ["cellar", "stand", "deed"] spBehind := by
  refine L.cal (k := 6) sc_behind (fun vs H Q E h => ?_) (fun f cdv A outer s H vs Q E hr h => ?_)
  · obtain ⟨c, q, t, C, st, d, n, rfl, _⟩ := h
    rfl
  · obtain ⟨c, q, t, C, st, d, n, rfl, hC, ok, hq, sok, ht, hc, k⟩ := h
    refine ⟨_, (pss_cons (ps_set (i := 3) sc_behind.nd rfl (Or.inl rfl) (pe_cal C_deed_of hr (by decide) rfl (pa_cons (pv 2) pa_nil)))
      (pss_cons (ps_if (pt_not (pt_val (pe_vm (k := 6) (hr.mono (by decide)) (pv 3) (pa_cons (pv 0) (pa_cons (pv 1) pa_nil))))) (pss_one ps_never) pss_nil)
      (pss_one (ps_ret (pe_vm (k := 2) (hr.mono (by decide)) (pv 3) (pa_cons (pv 0) (pa_cons (pv 1) pa_nil))))))), ?_⟩
    walk_at "rd"
    refine ⟨t, d, n, rfl, ht, fun x H1 s1 hx0 hob => ?_⟩
    obtain ⟨dx, hp⟩ := hob.ex
    walk_at "rd"
    refine r_vm hp (vc _) (df_can _ _) ?_
    walk_at "rd"
    refine ⟨x, c, q, C, st, n, rfl, hob, hC.mono s1.ts, ok, s1 _ _ hq, sok, fun H2 s2 => ?_⟩
    rw [hc]
    have s12 := s1.trans s2
    walk_at "rd"
    refine r_vm (s2 _ _ hp) (vd _) (df_done _ _) ?_
    walk_at "rd"
    exact ⟨x, c, q, C, st, n, rfl, hob.mono s2, hC.mono s12.ts, ok, s12 _ _ hq, sok, hc, fun r H3 s3 hr3 => k r H3 (s12.trans s3) hr3⟩
end
seal L2.PA L2.PE L2.PI L2.PS L2.PSs L2.PG L2.PT
def topsOf (z : Str) : Option (List Int) :=
  if z = "plain" then some [] else if z = "door" then some [11] else if z = "need" then some [11] else if z = "bar" then some [7] else if z = "wade" then some [9, 11] else if z = "float" then some [9] else none
theorem topsOf_plain : topsOf "plain" = some [] := by decide +kernel
theorem topsOf_door : topsOf "door" = some [11] := by decide +kernel
theorem topsOf_need : topsOf "need" = some [11] := by decide +kernel
theorem topsOf_bar : topsOf "bar" = some [7] := by decide +kernel
theorem topsOf_wade : topsOf "wade" = some [9, 11] := by decide +kernel
theorem topsOf_float : topsOf "float" = some [9] := by decide +kernel
theorem topsOf_none {z : Str} (h1 : ¬ z = "plain") (h2 : ¬ z = "door") (h3 : ¬ z = "need") (h4 : ¬ z = "bar") (h5 : ¬ z = "wade") (h6 : ¬ z = "float") : topsOf z = none := by
  unfold topsOf
  rw [if_neg h1, if_neg h2, if_neg h3, if_neg h4, if_neg h5, if_neg h6]
def chk (n t : Int) : Bool := decide (0 <= n) && decide (n <= t)
def gateOk (z : Str) (ns : List Int) : Bool := match topsOf z with
  | none => false
  | some ts => decide (ns.length = ts.length) && (List.zipWith chk ns ts).all id
theorem gateOk_none {z : Str} {ns : List Int} (h : topsOf z = none) : gateOk z ns = false := by unfold gateOk; rw [h]
theorem gateOk_len {z : Str} {ns ts : List Int} (h : topsOf z = some ts) (hl : ¬ ns.length = ts.length) : gateOk z ns = false := by unfold gateOk; rw [h]; simp [hl]
theorem gateOk_all {z : Str} {ns ts : List Int} (h : topsOf z = some ts) (hl : ns.length = ts.length) : gateOk z ns = (List.zipWith chk ns ts).all id := by unfold gateOk; rw [h]; simp [hl]
theorem subS_tt : subS "tuple" "tuple" = true := by decide +kernel
theorem cutV_tail (x : V) (l : List V) : cutV (x :: l) (some 1) none = l := by
  unfold cutV
  have e1 : HT.sIx (x :: l).length 0 (some 1) = 1 := by rw [show (1 : Int) = ((1 : Nat) : Int) from rfl, HT.sIx_nat]; simp
  have e2 : HT.sIx (x :: l).length (x :: l).length none = l.length + 1 := by rw [HT.sIx_none]; rfl
  rw [e1, e2]
  simp
theorem gateOk_ok {g : Gt} (h : g.ok) : gateOk g.word g.ns = true := by
  cases g with
  | plain => rw [gateOk_all (z := Gt.plain.word) (ns := Gt.plain.ns) topsOf_plain rfl]; rfl
  | door k => have h' : 0 <= k /\ k < 12 := h; rw [gateOk_all (z := (Gt.door k).word) (ns := (Gt.door k).ns) topsOf_door rfl]; simp [Gt.ns, chk]; omega
  | need k => have h' : 0 <= k /\ k < 12 := h; rw [gateOk_all (z := (Gt.need k).word) (ns := (Gt.need k).ns) topsOf_need rfl]; simp [Gt.ns, chk]; omega
  | bar k => have h' : 0 <= k /\ k < 8 := h; rw [gateOk_all (z := (Gt.bar k).word) (ns := (Gt.bar k).ns) topsOf_bar rfl]; simp [Gt.ns, chk]; omega
  | wade a k => have h' : (0 <= a /\ a < 10) /\ 0 <= k /\ k < 12 := h; rw [gateOk_all (z := (Gt.wade a k).word) (ns := (Gt.wade a k).ns) topsOf_wade rfl]; simp [Gt.ns, chk]; omega
  | float k => have h' : 0 <= k /\ k < 10 := h; rw [gateOk_all (z := (Gt.float k).word) (ns := (Gt.float k).ns) topsOf_float rfl]; simp [Gt.ns, chk]; omega
def RowIn (H : Hp) (v : V) (xs : List V) : Prop := (v = .non /\ xs = []) \/ (∃ p, v = .ref p /\ H p = some (.lst xs)) \/ ∃ p, v = .ref p /\ H p = some (.tup xs)
theorem RowIn.mono {H H' : Hp} {v : V} {xs : List V} (s : Same H H') (h : RowIn H v xs) : RowIn H' v xs := by
  rcases h with h | ⟨p, e, h⟩ | ⟨p, e, h⟩
  · exact .inl h
  · exact .inr (.inl ⟨p, e, s _ _ h⟩)
  · exact .inr (.inr ⟨p, e, s _ _ h⟩)
def RowOk (H : Hp) (x : V) : Prop := ∃ p ys, x = .ref p /\ H p = some (.tup ys)
def WayOk (r : Int) (H : Hp) (x : V) : Prop := ∃ (p g : Addr) (a b : Int) (bk : Bool) (gt : Gt), x = .ref p /\ H p = some (.tup [.int a, .int b, .ref g, .bl bk]) /\ H g = some (.tup gt.vs) /\ gt.ok /\ (0 <= a /\ a < r) /\ (0 <= b /\ b < r) /\ a ≠ b
def PairOk (r lo hi : Int) (H : Hp) (x : V) : Prop := ∃ (p : Addr) (a n : Int), x = .ref p /\ H p = some (.tup [.int a, .int n]) /\ (0 <= a /\ a < r) /\ lo <= n /\ n <= hi
theorem WayOk.mono {r : Int} {H H' : Hp} {x : V} (s : TSame H H') (h : WayOk r H x) : WayOk r H' x := by
  obtain ⟨p, g, a, b, bk, gt, e, h1, h2, h3⟩ := h
  exact ⟨p, g, a, b, bk, gt, e, s _ _ h1, s _ _ h2, h3⟩
theorem PairOk.mono {r lo hi : Int} {H H' : Hp} {x : V} (s : TSame H H') (h : PairOk r lo hi H x) : PairOk r lo hi H' x := by
  obtain ⟨p, a, n, e, h1, h3⟩ := h
  exact ⟨p, a, n, e, s _ _ h1, h3⟩
theorem WayOk.row {r : Int} {H : Hp} {x : V} (h : WayOk r H x) : RowOk H x := by
  obtain ⟨p, g, a, b, bk, gt, e, h1, h2, h3⟩ := h
  exact ⟨p, _, e, h1⟩
theorem PairOk.row {r lo hi : Int} {H : Hp} {x : V} (h : PairOk r lo hi H x) : RowOk H x := by
  obtain ⟨p, a, n, e, h1, h3⟩ := h
  exact ⟨p, _, e, h1⟩
def TupO (H : Hp) (v : V) : Option (List Int) -> Prop
  | none => v = .non
  | some l => ∃ p, v = .ref p /\ H p = some (.tup (l.map V.int))
def spTops : Sp := fun vs H Q _ => ∃ z, vs = [.str z] /\ ∀ v H', Same H H' -> TupO H' v (topsOf z) -> Q v H'
def spIsGate : Sp := fun vs H Q _ => ∃ (p : Addr) (z : Str) (ns : List Int), vs = [.ref p] /\ H p = some (.tup (.str z :: ns.map V.int)) /\ ns.length <= 10 /\ ∀ H', Same H H' -> Q (.bl (gateOk z ns)) H'
def spCheck : Sp := fun vs H Q _ => ∃ (z : Str) (n a b : Int), vs = [.str z, .int n, .int a, .int b] /\ a <= n /\ n <= b /\ Q .non H
def spRows : Sp := fun vs H Q _ => ∃ (z : Str) (v : V) (m : Int) (xs : List V), vs = [.str z, v, .int m] /\ RowIn H v xs /\ (∀ x ∈ xs, RowOk H x) /\ xs.length <= m /\ m <= 20 /\ ∀ (p : Addr) (H' : Hp), Same H H' -> H' p = some (.tup xs) -> Q (.ref p) H'
def spMW : Sp := fun vs H Q _ => ∃ (r : Int) (v : V) (xs : List V), vs = [.int r, v] /\ RowIn H v xs /\ (∀ x ∈ xs, WayOk r H x) /\ xs.length <= 20 /\ ∀ (p : Addr) (H' : Hp), Same H H' -> H' p = some (.tup xs) -> Q (.ref p) H'
def spMP : Sp := fun vs H Q _ => ∃ (z : Str) (r : Int) (v : V) (m lo hi : Int) (xs : List V), vs = [.str z, .int r, v, .int m, .int lo, .int hi] /\ z.length <= 100 /\ RowIn H v xs /\ (∀ x ∈ xs, PairOk r lo hi H x) /\ xs.length <= m /\ m <= 20 /\ ∀ (p : Addr) (H' : Hp), Same H H' -> H' p = some (.tup xs) -> Q (.ref p) H'
def spMkC : Sp := fun vs H Q _ => ∃ (r f l b wt : Int) (v1 v2 v3 v4 : V) (x1 x2 x3 x4 : List V), vs = [.int r, .int f, .int l, v1, v2, v3, v4, .int b, .int wt] /\ (1 <= r /\ r <= 14) /\ (0 <= f /\ f < r) /\ (0 <= l /\ l < r) /\ (0 <= b /\ b < 256) /\ (0 <= wt /\ wt < 10) /\
  RowIn H v1 x1 /\ RowIn H v2 x2 /\ RowIn H v3 x3 /\ RowIn H v4 x4 /\ (∀ x ∈ x1, WayOk r H x) /\ (∀ x ∈ x2, PairOk r 0 11 H x) /\ (∀ x ∈ x3, PairOk r 1 255 H x) /\ (∀ x ∈ x4, PairOk r 0 9 H x) /\ x1.length <= 20 /\ x2.length <= 8 /\ x3.length <= 4 /\ x4.length <= 4 /\
  ∀ (p p1 p2 p3 p4 : Addr) (H' : Hp), Same H H' -> H' p = some (.tup [.int r, .int f, .int l, .ref p1, .ref p2, .ref p3, .ref p4, .int b, .int wt]) -> H' p1 = some (.tup x1) -> H' p2 = some (.tup x2) -> H' p3 = some (.tup x3) -> H' p4 = some (.tup x4) -> Q (.ref p) H'
def spCellA (K : W.Frag) : Sp := fun vs H Q _ => ∃ (a : Addr) (ns : List Int) (i : Int), vs = [.ref a, .int i] /\ SqL K H a (ns.map V.int) /\ ns.length <= 63 /\ 0 <= i /\ Q (.int (ns.getD i.toNat 0)) H
section
variable {P : Program} {w : World} {K : W.Frag} {mg : Str -> Option Value} {base : Heap} {cs : Cs}
theorem ok_tops_of (T : Txt mg cs) (L : Laid K mg "tops_of" s_tops_of ["word"]) : Cal P w K mg base 1 "tops_of" ["word"] spTops := by
  obtain ⟨t1, e_LAST_KIND⟩ := T.e_LAST_KIND
  obtain ⟨t2, e_LAST_BAR⟩ := T.e_LAST_BAR
  obtain ⟨t3, e_TOP_HEIGHT⟩ := T.e_TOP_HEIGHT
  refine L.cal (k := 0) sc_tops_of (fun vs H Q E h => ?_) (fun f cdv A outer s H vs Q E hr h => ?_)
  · obtain ⟨z, rfl, _⟩ := h
    rfl
  · obtain ⟨z, rfl, k⟩ := h
    refine ⟨_, (pss_cons (ps_if (pt_cmpR op_eq (pv 0) pe_str (nomark _)) (pss_one (ps_ret (pe_tup pa_nil))) pss_nil)
      (pss_cons (ps_if (PW.pt (pw_or (pt_cmpR op_eq (pv 0) pe_str (nomark _)) (pw_or1 (pt_cmpR op_eq (pv 0) pe_str (nomark _))))) (pss_one (ps_ret (pe_tup (pa_cons (pe_glob (v := .int 11) rfl e_LAST_KIND ⟨_, rfl⟩) pa_nil)))) pss_nil)
      (pss_cons (ps_if (pt_cmpR op_eq (pv 0) pe_str (nomark _)) (pss_one (ps_ret (pe_tup (pa_cons (pe_glob (v := .int 7) rfl e_LAST_BAR ⟨_, rfl⟩) pa_nil)))) pss_nil)
      (pss_cons (ps_if (pt_cmpR op_eq (pv 0) pe_str (nomark _)) (pss_one (ps_ret (pe_tup (pa_cons (pe_glob (v := .int 9) rfl e_TOP_HEIGHT ⟨_, rfl⟩) (pa_cons (pe_glob (v := .int 11) rfl e_LAST_KIND ⟨_, rfl⟩) pa_nil))))) pss_nil)
      (pss_cons (ps_if (pt_cmpR op_eq (pv 0) pe_str (nomark _)) (pss_one (ps_ret (pe_tup (pa_cons (pe_glob (v := .int 9) rfl e_TOP_HEIGHT ⟨_, rfl⟩) pa_nil)))) pss_nil)
      (pss_one (ps_ret pe_non))))))), ?_⟩
    have fin : ∀ l : List Int, topsOf z = some l -> ∀ p, H p = none -> Q (.ref p) (upd H p (.tup (l.map V.int))) := fun l e p hp => k _ _ (Same.upd hp) (by rw [e]; exact ⟨p, rfl, upd_same⟩)
    have S : ∀ {y : Str}, decide (V.str z = V.str y) = true -> z = y := fun h => by have := of_decide_eq_true h; cases this; rfl
    have N : ∀ {y : Str}, ¬ decide (V.str z = V.str y) = true -> ¬ z = y := fun h e => h (by rw [e]; exact decide_eq_true rfl)
    refine ⟨_, rfl, rfl, _, rfl, ite2 (fun h1 => ?_) (fun h1 => ?_)⟩
    · exact ⟨by decide, fun p hp => fin [] (by rw [S h1]; exact topsOf_plain) p hp⟩
    refine ⟨_, rfl, rfl, _, rfl, ?_⟩
    refine ite2 (fun h2 => ?_) (fun h2 => ?_)
    · refine iteT ?_
      exact ⟨by decide, fun p hp => fin [11] (by rw [S h2]; exact topsOf_door) p hp⟩
    refine ⟨_, rfl, rfl, _, rfl, ite2 (fun h3 => ?_) (fun h3 => ?_)⟩
    · exact ⟨by decide, fun p hp => fin [11] (by rw [S h3]; exact topsOf_need) p hp⟩
    refine ⟨_, rfl, rfl, _, rfl, ite2 (fun h4 => ?_) (fun h4 => ?_)⟩
    · exact ⟨by decide, fun p hp => fin [7] (by rw [S h4]; exact topsOf_bar) p hp⟩
    refine ⟨_, rfl, rfl, _, rfl, ite2 (fun h5 => ?_) (fun h5 => ?_)⟩
    · exact ⟨by decide, fun p hp => fin [9, 11] (by rw [S h5]; exact topsOf_wade) p hp⟩
    refine ⟨_, rfl, rfl, _, rfl, ite2 (fun h6 => ?_) (fun h6 => ?_)⟩
    · exact ⟨by decide, fun p hp => fin [9] (by rw [S h6]; exact topsOf_float) p hp⟩
    exact k _ _ (Same.refl _) (by rw [topsOf_none (N h1) (N h2) (N h3) (N h4) (N h5) (N h6)]; rfl)
theorem ok_is_gate (T : Txt mg cs) (L : Laid K mg "is_gate" s_is_gate ["thing"]) (C_tops_of : Cal P w K mg base 1 "tops_of" ["word"] spTops) (C_within : Cal P w K mg base 1 "within" ["number", "least", "most"] spWithin) : Cal P w K mg base 2 "is_gate" ["thing"] spIsGate := by
  refine L.cal (k := 1) sc_is_gate (fun vs H Q E h => ?_) (fun f cdv A outer s H vs Q E hr h => ?_)
  · obtain ⟨p, z, ns, rfl, _⟩ := h
    rfl
  · obtain ⟨p, z, ns, rfl, hp, hl, k⟩ := h
    refine ⟨_, (pss_cons (ps_if (PW.pt (pw_or (pt_not (pt_val (pe_callB call_isiS rfl T.n_isinstance bt_isinstance (pa_cons (pv 0) (pa_cons (pe_bltn (v := .ty "tuple") rfl T.n_tuple bt_tuple rfl) pa_nil))))) (pw_or1 (pt_cmpR op_eq (pe_callB (lenK K) rfl T.n_len bt_len (pa_cons (pv 0) pa_nil)) pe_int (nomark _))))) (pss_one (ps_ret pe_bl)) pss_nil)
      (pss_cons (ps_set (i := 1) sc_is_gate.nd rfl (Or.inl rfl) (pe_cal C_tops_of hr (by decide) rfl (pa_cons (pe_ix (ix_tupK K) (pv 0) pe_int (fun _ _ => rfl)) pa_nil)))
      (pss_cons (ps_set (i := 2) sc_is_gate.nd rfl (Or.inl rfl) (pe_slice (sl_tupAK K) (pv 0) (po_some pe_int) po_none))
      (pss_cons (ps_if (PW.pt (pw_or (pt_cmp (pc_isN (pv 1))) (pw_or1 (pt_cmpR op_ne (pe_callB (lenK K) rfl T.n_len bt_len (pa_cons (pv 2) pa_nil)) (pe_callB (lenK K) rfl T.n_len bt_len (pa_cons (pv 1) pa_nil)) (nomark _))))) (pss_one (ps_ret pe_bl)) pss_nil)
      (pss_one (ps_ret (pe_callB (call_allK K rfl) rfl T.n_all bt_all (pa_cons (pe_comp (compOk (N := ["number", "top"]) (own := 2) (caps := []) ["thing", "tops", "numbers"] (defScope s_is_gate) (by decide +kernel)) rfl (pi_zipTK K rfl T.n_zip (pa_cons (pv 2) (pa_cons (pv 1) pa_nil))) (fun _ _ _ _ => (pg_tupK (n := 2) K rfl (pgs_cons (pg_name (i := 0) (show List.Nodup (["number", "top"] : List Str) by decide +kernel) rfl (Or.inl rfl)) (pgs_cons (pg_name (i := 1) (show List.Nodup (["number", "top"] : List Str) by decide +kernel) rfl (Or.inl rfl)) pgs_nil)))) (fun _ _ _ _ => pf_nil) (fun _ _ _ _ => (pe_cal C_within hr (by decide) rfl (pa_cons (pv 0) (pa_cons pe_int (pa_cons (pv 1) pa_nil)))))) pa_nil)))))))), ?_⟩
    refine ⟨_, rfl, _, "tuple", "tuple", rfl, tyS_tup hp, by decide, _, rfl, ?_⟩
    rw [subS_tt]
    refine iteF ?_
    refine ⟨_, rfl, p, _, rfl, .inr (SqT.of hp), rfl, _, rfl, ite2 (fun h1 => ?_) (fun _ => ?_)⟩
    · have := of_decide_eq_true h1
      simp at this
      omega
    refine ⟨_, rfl, p, _, _, _, rfl, rfl, SqT.of hp, atI_nat (j := 0) rfl, z, rfl, fun v H1 s1 tv => ?_⟩
    have hp1 := s1 _ _ hp
    refine ⟨_, rfl, _, rfl, p, _, rfl, SqT.of hp1, fun e => ?_, fun q hq => ?_⟩
    · rw [cutV_tail] at e
      have := congrArg List.length e
      simp at this
    rw [cutV_tail]
    have s2 : Same H (upd H1 q (.tup (ns.map V.int))) := s1.trans (Same.upd hq)
    cases ht : topsOf z with
    | none =>
      rw [ht] at tv
      obtain rfl : v = .non := tv
      refine ⟨_, rfl, _, rfl, iteT (iteT ?_)⟩
      have := k _ s2
      rw [gateOk_none ht] at this
      exact this
    | some ts =>
      rw [ht] at tv
      obtain ⟨r, rfl, hr0⟩ := tv
      have hr1 : (upd H1 q (.tup (ns.map V.int))) r = some (.tup (ts.map V.int)) := by rw [upd_ne (ne_of_none hr0 hq)]; exact hr0
      refine ⟨_, rfl, _, rfl, iteF ?_⟩
      refine ⟨_, rfl, q, _, rfl, .inr (SqT.of upd_same), _, rfl, r, _, rfl, .inr (SqT.of hr1), rfl, _, rfl, ite2 (fun h1 => ?_) (fun h1 => ?_)⟩
      · have hne : ¬ ns.length = ts.length := fun e => by simp [e] at h1
        have := k _ s2
        rw [gateOk_len ht hne] at this
        exact this
      · have hlen : ns.length = ts.length := by
          simp at h1
          omega
        refine ⟨_, rfl, _, rfl, q, r, rfl, ⟨_, SqT.of upd_same⟩, ⟨_, SqT.of hr1⟩, fun D hD => ?_⟩
        refine comp_by ns.length (fun i σ H' => ∃ v0 v1, σ = [v0, v1] /\ Same (upd H1 q (.tup (ns.map V.int))) H' /\ H' D = some (.lst (((List.zipWith chk ns ts).take i).map V.bl))) ⟨none, none, rfl, Same.upd hD, upd_same⟩ ?_ ?_
        · rintro i σ H' hi ⟨v0, v1, rfl, s3, hD3⟩
          have hq3 := s3 _ _ (upd_same (H := H1) (a := q) (o := .tup (ns.map V.int)))
          have hr3 := s3 _ _ hr1
          refine ⟨⟨_, _, V.int (ns.getD i 0), V.int (ts.getD i 0), SqT.of hq3, SqT.of hr3, by simp [List.getD, hi], by simp [List.getD, show i < ts.length by omega]⟩, ?_⟩
          rintro x H4 ⟨t, ht0, rfl, hy⟩
          have e4 := hy _ _ (V.int (ns.getD i 0)) (V.int (ts.getD i 0)) (SqT.of hq3) (SqT.of hr3) (by simp [List.getD, hi]) (by simp [List.getD, show i < ts.length by omega])
          subst e4
          refine ⟨t, _, rfl, SqT.of upd_same, rfl, _, _, rfl, _, _, rfl, rfl, ?_⟩
          have nD : D ≠ t := ne_of_none hD3 ht0
          refine ⟨_, rfl, _, rfl, _, _, _, rfl, _, (by rw [upd_ne nD]; exact hD3), ?_, _, _, rfl, ?_, ?_⟩
          · rw [List.length_map, List.length_take]
            exact Nat.lt_of_le_of_lt (Nat.min_le_left _ _) (Nat.lt_trans hi (Nat.lt_of_le_of_lt hl (by decide)))
          · intro b o e
            have nb : b ≠ D := ne_of_none e hD
            rw [upd_ne nb, upd_ne (ne_of_none (s3 b o e) ht0)]
            exact s3 b o e
          · rw [upd_same, List.take_add_one]
            have e5 : (List.zipWith chk ns ts)[i]? = some (chk (ns.getD i 0) (ts.getD i 0)) := by
              rw [List.getElem?_zipWith]
              simp [List.getD, hi, show i < ts.length by omega]
            rw [e5]
            simp [chk]
        · rintro σ H' ⟨v0, v1, rfl, s3, hD3⟩
          have hq3 := s3 _ _ (upd_same (H := H1) (a := q) (o := .tup (ns.map V.int)))
          have hr3 := s3 _ _ hr1
          refine ⟨⟨_, _, SqT.of hq3, SqT.of hr3, .inl (by simp)⟩, D, List.zipWith chk ns ts, rfl, SqL.of ?_, ?_⟩
          · rw [hD3, List.take_of_length_le (by rw [List.length_zipWith]; omega)]
          · have := k _ (s2.trans s3)
            rw [gateOk_all ht hlen] at this
            exact this
theorem ok_cellA (T : Txt mg cs) (L : Laid K mg "_law_cell_at" s__law_cell_at ["_law_script", "_law_k"]) : Cal P w K mg base 1 "_law_cell_at" ["_law_script", "_law_k"] (spCellA K) := by
  refine L.cal (k := 0) sc__law_cell_at (fun vs H Q E h => ?_) (fun f cdv A outer s H vs Q E hr h => ?_)
  · obtain ⟨a, ns, i, rfl, _⟩ := h
    rfl
  · obtain ⟨a, ns, i, rfl, hS, hl, h0, k⟩ := h
    refine ⟨_, (pss_cons (ps_if (pt_cmpR op_lt (pv 1) (pe_callB (lenK K) rfl T.n_len bt_len (pa_cons (pv 0) pa_nil)) (nomark _)) (pss_one (ps_ret (pe_ix (ix_listK K) (pv 0) (pv 1) (fun _ _ => rfl)))) pss_nil)
      (pss_one (ps_ret pe_int))), ?_⟩
    walk_at "rd"
    refine ifd (fun h => ?_) (fun h => ?_)
    · rw [List.length_map] at h
      obtain ⟨j, rfl⟩ : ∃ j : Nat, i = (j : Int) := ⟨i.toNat, by omega⟩
      walk_at "rd"
      refine r_ixL hS (atI_ints (by omega)) ?_
      rw [Int.toNat_natCast] at k
      exact k
    · rw [List.length_map] at h
      walk_at "rd"
      rw [show ns.getD i.toNat 0 = 0 by simp [List.getD, show ns.length <= i.toNat by omega]] at k
      exact k
theorem ok_check (T : Txt mg cs) (L : Laid K mg "check_number" s_check_number ["name", "number", "least", "most"]) (C_within : Cal P w K mg base 1 "within" ["number", "least", "most"] spWithin) : Cal P w K mg base 2 "check_number" ["name", "number", "least", "most"] spCheck := by
  refine L.cal (k := 1) sc_check_number (fun vs H Q E h => ?_) (fun f cdv A outer s H vs Q E hr h => ?_)
  · obtain ⟨z, n, a, b, rfl, _⟩ := h
    rfl
  · obtain ⟨z, n, a, b, rfl, h1, h2, k⟩ := h
    refine ⟨_, (pss_one (ps_if (pt_not (pt_val (pe_cal C_within hr (by decide) rfl (pa_cons (pv 1) (pa_cons (pv 2) (pa_cons (pv 3) pa_nil)))))) (pss_one ps_never) pss_nil)), ?_⟩
    walk_at "rd"
    refine ⟨n, a, b, rfl, ?_⟩
    rw [show (decide (a <= n) && decide (n <= b)) = true by simp [h1, h2]]
    walk_at "rd"
    exact k
theorem ok_rows (T : Txt mg cs) (L : Laid K mg "made_rows" s_made_rows ["name", "rows", "most"]) : Cal P w K mg base 1 "made_rows" ["name", "rows", "most"] spRows := by
  refine L.cal (k := 0) sc_made_rows (fun vs H Q E h => ?_) (fun f cdv A outer s H vs Q E hr h => ?_)
  · obtain ⟨z, v, m, xs, rfl, _⟩ := h
    rfl
  · obtain ⟨z, v, m, xs, rfl, hv, ok, h1, h2, k⟩ := h
    have big := line_big
    have step : ∀ (D : Addr) (H' : Hp) (i : Nat) (x : V), H D = none -> xs[i]? = some x -> Same H H' -> H' D = some (.lst (xs.take i)) -> ∃ ys, H' D = some (.lst ys) /\ ys.length < sizeLine /\ ∃ v0, ([some x] : St) = [v0] /\ Same H (upd H' D (.lst (ys ++ [x]))) /\ (upd H' D (.lst (ys ++ [x]))) D = some (.lst (xs.take (i + 1))) := by
      intro D H' i x hD hx s1 hd
      refine ⟨_, hd, by rw [List.length_take]; omega, _, rfl, s1.put hD, ?_⟩
      rw [upd_same, List.take_add_one, hx]
      rfl
    have gt : ∀ n : Nat, n = xs.length -> ((n : Int) > m) -> False := fun n e h => by omega
    rcases hv with ⟨rfl, rfl⟩ | ⟨p, rfl, hp⟩ | ⟨p, rfl, hp⟩
    · refine ⟨_, (pss_cons (ps_set (i := 3) sc_made_rows.nd rfl (Or.inl rfl) (pe_ifExp (pt_cmp (pc_isN (pv 1))) (pe_tup pa_nil) (pe_callTy (tupOfK K) rfl T.n_tuple bt_tuple (pa_cons (pe_comp (compOk (N := ["row"]) (own := 1) (caps := []) ["name", "rows", "most", "made"] (defScope s_made_rows) (by decide +kernel)) rfl (pi_listK K (pv 1)) (fun _ _ _ _ => (pg_name (i := 0) (show List.Nodup (["row"] : List Str) by decide +kernel) rfl (Or.inl rfl))) (fun _ _ _ _ => pf_nil) (fun _ _ _ _ => (pe_callTy (tupOfK K) rfl T.n_tuple bt_tuple (pa_cons (pv 0) pa_nil)))) pa_nil))))
      (pss_cons (ps_if (pt_cmpR op_gt (pe_callB (lenK K) rfl T.n_len bt_len (pa_cons (pv 3) pa_nil)) (pv 2) (nomark _)) (pss_one ps_never) pss_nil)
      (pss_one (ps_ret (pv 3))))), ?_⟩
      walk_at "rd"
      walk_at "eq"
      walk_at "rd"
      intro q hq
      walk_at "rd"
      refine ifd (fun h => (gt 0 rfl h).elim) (fun _ => ?_)
      walk_at "rd"
      exact k q _ (Same.upd hq) upd_same
    · refine ⟨_, (pss_cons (ps_set (i := 3) sc_made_rows.nd rfl (Or.inl rfl) (pe_ifExp (pt_cmp (pc_isN (pv 1))) (pe_tup pa_nil) (pe_callTy (tupOfK K) rfl T.n_tuple bt_tuple (pa_cons (pe_comp (compOk (N := ["row"]) (own := 1) (caps := []) ["name", "rows", "most", "made"] (defScope s_made_rows) (by decide +kernel)) rfl (pi_listK K (pv 1)) (fun _ _ _ _ => (pg_name (i := 0) (show List.Nodup (["row"] : List Str) by decide +kernel) rfl (Or.inl rfl))) (fun _ _ _ _ => pf_nil) (fun _ _ _ _ => (pe_callTy (tupOfK K) rfl T.n_tuple bt_tuple (pa_cons (pv 0) pa_nil)))) pa_nil))))
      (pss_cons (ps_if (pt_cmpR op_gt (pe_callB (lenK K) rfl T.n_len bt_len (pa_cons (pv 3) pa_nil)) (pv 2) (nomark _)) (pss_one ps_never) pss_nil)
      (pss_one (ps_ret (pv 3))))), ?_⟩
      walk_at "rd"
      refine ifd (fun h => nomatch h) (fun _ => ?_)
      walk_at "rd"
      intro D hD
      refine comp_lst xs (fun i σ H' => ∃ v0, σ = [v0] /\ Same H H' /\ H' D = some (.lst (xs.take i))) ⟨none, rfl, Same.upd hD, by rw [upd_same]; rfl⟩ ?_ ?_ ?_
      · rintro i σ H' ⟨_, rfl, s1, _⟩
        exact SqL.of (s1 _ _ hp)
      · rintro i x σ H' hx ⟨v0, rfl, s1, hd⟩
        obtain ⟨a, ys, rfl, ha⟩ := ok x (List.mem_of_getElem? hx)
        have ha1 := s1 _ _ ha
        walk_at "rd"
        exact r_tot (SqT.of ha1) (step D H' i _ hD hx s1 hd)
      · rintro σ H' ⟨v0, rfl, s1, hd⟩
        rw [List.take_length] at hd
        walk_at "rd"
        refine r_tol (SqL.of hd) fun q hq => ?_
        walk_at "rd"
        refine ifd (fun h => (gt _ rfl h).elim) (fun _ => ?_)
        walk_at "rd"
        exact k q _ (s1.trans (Same.upd hq)) upd_same
    · refine ⟨_, (pss_cons (ps_set (i := 3) sc_made_rows.nd rfl (Or.inl rfl) (pe_ifExp (pt_cmp (pc_isN (pv 1))) (pe_tup pa_nil) (pe_callTy (tupOfK K) rfl T.n_tuple bt_tuple (pa_cons (pe_comp (compOk (N := ["row"]) (own := 1) (caps := []) ["name", "rows", "most", "made"] (defScope s_made_rows) (by decide +kernel)) rfl (pi_tupK K (pv 1)) (fun _ _ _ _ => (pg_name (i := 0) (show List.Nodup (["row"] : List Str) by decide +kernel) rfl (Or.inl rfl))) (fun _ _ _ _ => pf_nil) (fun _ _ _ _ => (pe_callTy (tupOfK K) rfl T.n_tuple bt_tuple (pa_cons (pv 0) pa_nil)))) pa_nil))))
      (pss_cons (ps_if (pt_cmpR op_gt (pe_callB (lenK K) rfl T.n_len bt_len (pa_cons (pv 3) pa_nil)) (pv 2) (nomark _)) (pss_one ps_never) pss_nil)
      (pss_one (ps_ret (pv 3))))), ?_⟩
      walk_at "rd"
      refine ifd (fun h => nomatch h) (fun _ => ?_)
      walk_at "rd"
      intro D hD
      refine comp_tpl xs (fun i σ H' => ∃ v0, σ = [v0] /\ Same H H' /\ H' D = some (.lst (xs.take i))) ⟨none, rfl, Same.upd hD, by rw [upd_same]; rfl⟩ ?_ ?_ ?_
      · rintro i σ H' ⟨_, rfl, s1, _⟩
        exact SqT.of (s1 _ _ hp)
      · rintro i x σ H' hx ⟨v0, rfl, s1, hd⟩
        obtain ⟨a, ys, rfl, ha⟩ := ok x (List.mem_of_getElem? hx)
        have ha1 := s1 _ _ ha
        walk_at "rd"
        exact r_tot (SqT.of ha1) (step D H' i _ hD hx s1 hd)
      · rintro σ H' ⟨v0, rfl, s1, hd⟩
        rw [List.take_length] at hd
        walk_at "rd"
        refine r_tol (SqL.of hd) fun q hq => ?_
        walk_at "rd"
        refine ifd (fun h => (gt _ rfl h).elim) (fun _ => ?_)
        walk_at "rd"
        exact k q _ (s1.trans (Same.upd hq)) upd_same
theorem ok_mw (T : Txt mg cs) (L : Laid K mg "made_ways" s_made_ways ["rooms", "ways"]) (C_check_number : Cal P w K mg base 2 "check_number" ["name", "number", "least", "most"] spCheck) (C_made_rows : Cal P w K mg base 1 "made_rows" ["name", "rows", "most"] spRows) (C_is_gate : Cal P w K mg base 2 "is_gate" ["thing"] spIsGate) : Cal P w K mg base 3 "made_ways" ["rooms", "ways"] spMW := by
  obtain ⟨t1, e_MOST_WAYS⟩ := T.e_MOST_WAYS
  refine L.cal (k := 2) sc_made_ways (fun vs H Q E h => ?_) (fun f cdv A outer s H vs Q E hr h => ?_)
  · obtain ⟨r, v, xs, rfl, _⟩ := h
    rfl
  · obtain ⟨r, v, xs, rfl, hv, ok, h1, k⟩ := h
    refine ⟨_, (pss_cons (ps_set (i := 2) sc_made_ways.nd rfl (Or.inl rfl) (pe_cal C_made_rows hr (by decide) rfl (pa_cons pe_str (pa_cons (pv 1) (pa_cons (pe_glob (v := .int 20) rfl e_MOST_WAYS ⟨_, rfl⟩) pa_nil)))))
      (pss_cons (ps_for PassesOwn.never rfl (pi_tupK K (pv 2)) (pg_tupK (n := 4) K rfl (pgs_cons (pg_name (i := 3) sc_made_ways.nd rfl (Or.inl rfl)) (pgs_cons (pg_name (i := 4) sc_made_ways.nd rfl (Or.inl rfl)) (pgs_cons (pg_name (i := 5) sc_made_ways.nd rfl (Or.inl rfl)) (pgs_cons (pg_name (i := 6) sc_made_ways.nd rfl (Or.inl rfl)) pgs_nil))))) (pss_cons (ps_expr (pe_cal C_check_number hr (by decide) rfl (pa_cons pe_str (pa_cons (pv 3) (pa_cons pe_int (pa_cons (pe_op op_sub (pv 0) pe_int) pa_nil))))))
      (pss_cons (ps_expr (pe_cal C_check_number hr (by decide) rfl (pa_cons pe_str (pa_cons (pv 4) (pa_cons pe_int (pa_cons (pe_op op_sub (pv 0) pe_int) pa_nil))))))
      (pss_cons (ps_if (pt_cmpR op_eq (pv 3) (pv 4) (nomark _)) (pss_one ps_never) pss_nil)
      (pss_one (ps_if (pt_not (pt_val (pe_cal C_is_gate hr (by decide) rfl (pa_cons (pv 5) pa_nil)))) (pss_one ps_never) pss_nil))))))
      (pss_one (ps_ret (pv 2))))), ?_⟩
    walk_at "rd"
    refine ⟨_, v, 20, xs, rfl, hv, fun x hx => (ok x hx).row, by omega, by omega, fun p H1 s1 hp => ?_⟩
    walk_at "rd"
    refine for_tpl xs (fun i σ H' => ∃ v3 v4 v5 v6, σ = [some (.int r), some v, some (.ref p), v3, v4, v5, v6] /\ Same H1 H') ⟨none, none, none, none, rfl, Same.refl _⟩ ?_ ?_ ?_
    · rintro i σ H' ⟨_, _, _, _, rfl, s2⟩
      exact SqT.of (s2 _ _ hp)
    · rintro i x σ H' hx ⟨v3, v4, v5, v6, rfl, s2⟩
      obtain ⟨p1, g, a, b, bk, gt, rfl, hp1, hg, gok, ha, hb, hab⟩ := (ok x (List.mem_of_getElem? hx)).mono (s1.trans s2).ts
      walk_at "rd"
      refine ⟨_, a, 0, r - 1, rfl, by omega, by omega, ?_⟩
      walk_at "rd"
      refine ⟨_, b, 0, r - 1, rfl, by omega, by omega, ?_⟩
      walk_at "rd"
      refine ifd (fun h => absurd h hab) (fun _ => ?_)
      walk_at "rd"
      refine ⟨g, gt.word, gt.ns, rfl, by rw [<- Gt.vs_eq]; exact hg, by have := gt.ns_len; omega, fun H2 s3 => ?_⟩
      rw [gateOk_ok gok]
      walk_at "rd"
      exact ⟨_, _, _, _, rfl, s2.trans s3⟩
    · rintro σ H' ⟨v3, v4, v5, v6, rfl, s2⟩
      walk_at "rd"
      exact k p H' (s1.trans s2) (s2 _ _ hp)
theorem ok_mp (T : Txt mg cs) (L : Laid K mg "made_pairs" s_made_pairs ["name", "rooms", "pairs", "most_pairs", "least", "most"]) (C_check_number : Cal P w K mg base 2 "check_number" ["name", "number", "least", "most"] spCheck) (C_made_rows : Cal P w K mg base 1 "made_rows" ["name", "rows", "most"] spRows) : Cal P w K mg base 3 "made_pairs" ["name", "rooms", "pairs", "most_pairs", "least", "most"] spMP := by
  refine L.cal (k := 2) sc_made_pairs (fun vs H Q E h => ?_) (fun f cdv A outer s H vs Q E hr h => ?_)
  · obtain ⟨z, r, v, m, lo, hi, xs, rfl, _⟩ := h
    rfl
  · obtain ⟨z, r, v, m, lo, hi, xs, rfl, hz, hv, ok, h1, h2, k⟩ := h
    have big := line_big
    have l1 : (", a room" : Str).length = 8 := by decide +kernel
    have l2 : (", a number" : Str).length = 10 := by decide +kernel
    have lz : z.length <= sizeLine := by omega
    refine ⟨_, (pss_cons (ps_set (i := 6) sc_made_pairs.nd rfl (Or.inl rfl) (pe_cal C_made_rows hr (by decide) rfl (pa_cons (pv 0) (pa_cons (pv 2) (pa_cons (pv 3) pa_nil)))))
      (pss_cons (ps_for PassesOwn.never rfl (pi_tupK K (pv 6)) (pg_tupK (n := 2) K rfl (pgs_cons (pg_name (i := 7) sc_made_pairs.nd rfl (Or.inl rfl)) (pgs_cons (pg_name (i := 8) sc_made_pairs.nd rfl (Or.inl rfl)) pgs_nil))) (pss_cons (ps_expr (pe_cal C_check_number hr (by decide) rfl (pa_cons (pe_fs (pe_fv (pv 0)) pe_str) (pa_cons (pv 7) (pa_cons pe_int (pa_cons (pe_op op_sub (pv 1) pe_int) pa_nil))))))
      (pss_one (ps_expr (pe_cal C_check_number hr (by decide) rfl (pa_cons (pe_fs (pe_fv (pv 0)) pe_str) (pa_cons (pv 8) (pa_cons (pv 4) (pa_cons (pv 5) pa_nil)))))))))
      (pss_one (ps_ret (pv 6))))), ?_⟩
    walk_at "rd"
    refine ⟨z, v, m, xs, rfl, hv, fun x hx => (ok x hx).row, by omega, by omega, fun p H1 s1 hp => ?_⟩
    walk_at "rd"
    refine for_tpl xs (fun i σ H' => ∃ v7 v8, σ = [some (.str z), some (.int r), some v, some (.int m), some (.int lo), some (.int hi), some (.ref p), v7, v8] /\ Same H1 H') ⟨none, none, rfl, Same.refl _⟩ ?_ ?_ ?_
    · rintro i σ H' ⟨_, _, rfl, s2⟩
      exact SqT.of (s2 _ _ hp)
    · rintro i x σ H' hx ⟨v7, v8, rfl, s2⟩
      obtain ⟨p1, a, n, rfl, hp1, ha, hn⟩ := (ok x (List.mem_of_getElem? hx)).mono (s1.trans s2).ts
      walk_at "rd"
      refine ⟨z, rfl, lz, z, rfl, lz, ?_⟩
      walk_at "rd"
      refine ⟨_, rfl, by rw [l1]; omega, fun z1 _ => ?_⟩
      walk_at "rd"
      refine ⟨z1, a, 0, r - 1, rfl, by omega, by omega, ?_⟩
      walk_at "rd"
      refine ⟨z, rfl, lz, z, rfl, lz, ?_⟩
      walk_at "rd"
      refine ⟨_, rfl, by rw [l2]; omega, fun z2 _ => ?_⟩
      walk_at "rd"
      refine ⟨z2, n, lo, hi, rfl, by omega, by omega, ?_⟩
      walk_at "rd"
      exact ⟨_, _, rfl, s2⟩
    · rintro σ H' ⟨v7, v8, rfl, s2⟩
      walk_at "rd"
      exact k p H' (s1.trans s2) (s2 _ _ hp)
theorem ok_mkc {d1 d2 : Tok} (T : Txt mg cs) (L : LaidD K mg "cellar" s_cellar [.none, .none, .none, .int 0 d1, .int 0 d2]) (C_check_number : Cal P w K mg base 2 "check_number" ["name", "number", "least", "most"] spCheck) (C_made_ways : Cal P w K mg base 3 "made_ways" ["rooms", "ways"] spMW)
    (C_made_pairs : Cal P w K mg base 3 "made_pairs" ["name", "rooms", "pairs", "most_pairs", "least", "most"] spMP) : CalD P w K mg base 4 "cellar" ["rooms", "first", "last", "ways", "things", "levers", "wheels", "bars", "water"] spMkC s_cellar [.none, .none, .none, .int 0 d1, .int 0 d2] := by
  obtain ⟨t1, e_MOST_ROOMS⟩ := T.e_MOST_ROOMS
  obtain ⟨t2, e_ALL_BARS⟩ := T.e_ALL_BARS
  obtain ⟨t3, e_TOP_HEIGHT⟩ := T.e_TOP_HEIGHT
  obtain ⟨t4, e_MOST_THINGS⟩ := T.e_MOST_THINGS
  obtain ⟨t5, e_MOST_LEVERS⟩ := T.e_MOST_LEVERS
  obtain ⟨t6, e_MOST_WHEELS⟩ := T.e_MOST_WHEELS
  obtain ⟨t7, e_LAST_KIND⟩ := T.e_LAST_KIND
  refine L.cal (k := 3) sc_cellar (fun vs H Q E h => ?_) (fun f cdv A outer s H vs Q E hr h => ?_)
  · obtain ⟨r, f, l, b, wt, v1, v2, v3, v4, x1, x2, x3, x4, rfl, _⟩ := h
    rfl
  · obtain ⟨r, f, l, b, wt, v1, v2, v3, v4, x1, x2, x3, x4, rfl, hr0, hf, hl, hb, hw, i1, i2, i3, i4, o1, o2, o3, o4, l1, l2, l3, l4, k⟩ := h
    have n1 : ("things" : Str).length <= 100 := by decide +kernel
    have n2 : ("levers" : Str).length <= 100 := by decide +kernel
    have n3 : ("wheels" : Str).length <= 100 := by decide +kernel
    refine ⟨_, (pss_cons (ps_expr (pe_cal C_check_number hr (by decide) rfl (pa_cons pe_str (pa_cons (pv 0) (pa_cons pe_int (pa_cons (pe_glob (v := .int 14) rfl e_MOST_ROOMS ⟨_, rfl⟩) pa_nil))))))
      (pss_cons (ps_expr (pe_cal C_check_number hr (by decide) rfl (pa_cons pe_str (pa_cons (pv 1) (pa_cons pe_int (pa_cons (pe_op op_sub (pv 0) pe_int) pa_nil))))))
      (pss_cons (ps_expr (pe_cal C_check_number hr (by decide) rfl (pa_cons pe_str (pa_cons (pv 2) (pa_cons pe_int (pa_cons (pe_op op_sub (pv 0) pe_int) pa_nil))))))
      (pss_cons (ps_expr (pe_cal C_check_number hr (by decide) rfl (pa_cons pe_str (pa_cons (pv 7) (pa_cons pe_int (pa_cons (pe_glob (v := .int 255) rfl e_ALL_BARS ⟨_, rfl⟩) pa_nil))))))
      (pss_cons (ps_expr (pe_cal C_check_number hr (by decide) rfl (pa_cons pe_str (pa_cons (pv 8) (pa_cons pe_int (pa_cons (pe_glob (v := .int 9) rfl e_TOP_HEIGHT ⟨_, rfl⟩) pa_nil))))))
      (pss_one (ps_ret (pe_tup (pa_cons (pv 0) (pa_cons (pv 1) (pa_cons (pv 2) (pa_cons (pe_cal C_made_ways hr (by decide) rfl (pa_cons (pv 0) (pa_cons (pv 3) pa_nil))) (pa_cons (pe_cal C_made_pairs hr (by decide) rfl (pa_cons pe_str (pa_cons (pv 0) (pa_cons (pv 4) (pa_cons (pe_glob (v := .int 8) rfl e_MOST_THINGS ⟨_, rfl⟩) (pa_cons pe_int (pa_cons (pe_glob (v := .int 11) rfl e_LAST_KIND ⟨_, rfl⟩) pa_nil))))))) (pa_cons (pe_cal C_made_pairs hr (by decide) rfl (pa_cons pe_str (pa_cons (pv 0) (pa_cons (pv 5) (pa_cons (pe_glob (v := .int 4) rfl e_MOST_LEVERS ⟨_, rfl⟩) (pa_cons pe_int (pa_cons (pe_glob (v := .int 255) rfl e_ALL_BARS ⟨_, rfl⟩) pa_nil))))))) (pa_cons (pe_cal C_made_pairs hr (by decide) rfl (pa_cons pe_str (pa_cons (pv 0) (pa_cons (pv 6) (pa_cons (pe_glob (v := .int 4) rfl e_MOST_WHEELS ⟨_, rfl⟩) (pa_cons pe_int (pa_cons (pe_glob (v := .int 9) rfl e_TOP_HEIGHT ⟨_, rfl⟩) pa_nil))))))) (pa_cons (pv 7) (pa_cons (pv 8) pa_nil))))))))))))))))), ?_⟩
    walk_at "rd"
    refine ⟨_, r, 1, 14, rfl, by omega, by omega, ?_⟩
    walk_at "rd"
    refine ⟨_, f, 0, r - 1, rfl, by omega, by omega, ?_⟩
    walk_at "rd"
    refine ⟨_, l, 0, r - 1, rfl, by omega, by omega, ?_⟩
    walk_at "rd"
    refine ⟨_, b, 0, 255, rfl, by omega, by omega, ?_⟩
    walk_at "rd"
    refine ⟨_, wt, 0, 9, rfl, by omega, by omega, ?_⟩
    walk_at "rd"
    refine ⟨r, v1, x1, rfl, i1, o1, l1, fun p1 H1 s1 h1 => ?_⟩
    walk_at "rd"
    refine ⟨_, r, v2, 8, 0, 11, x2, rfl, n1, i2.mono s1, fun x hx => (o2 x hx).mono s1.ts, by omega, by omega, fun p2 H2 s2 h2 => ?_⟩
    have s12 := s1.trans s2
    walk_at "rd"
    refine ⟨_, r, v3, 4, 1, 255, x3, rfl, n2, i3.mono s12, fun x hx => (o3 x hx).mono s12.ts, by omega, by omega, fun p3 H3 s3 h3 => ?_⟩
    have s13 := s12.trans s3
    walk_at "rd"
    refine ⟨_, r, v4, 4, 0, 9, x4, rfl, n3, i4.mono s13, fun x hx => (o4 x hx).mono s13.ts, by omega, by omega, fun p4 H4 s4 h4 => ?_⟩
    have s14 := s13.trans s4
    walk_at "rd"
    intro p hp
    have s5 := Same.upd (o := .tup [.int r, .int f, .int l, .ref p1, .ref p2, .ref p3, .ref p4, .int b, .int wt]) hp
    exact k p p1 p2 p3 p4 _ (s14.trans s5) upd_same (s5 _ _ (s4 _ _ (s3 _ _ (s2 _ _ h1)))) (s5 _ _ (s4 _ _ (s3 _ _ h2))) (s5 _ _ (s4 _ _ h3)) (s5 _ _ h4)
abbrev psC : List Str := ["rooms", "first", "last", "ways", "things", "levers", "wheels", "bars", "water"]
abbrev dsC (d1 d2 : Tok) : List Value := [.none, .none, .none, .int 0 d1, .int 0 d2]
theorem bd_cellar_9 (d1 d2 : Tok) (us : List Value) (hl : (us ++ []).length = psC.length) : BnD "cellar" s_cellar (dsC d1 d2) ⟨us, []⟩ (psC.zip (us ++ [])) := by
  have hl2 : us.length = 9 := by simpa using hl
  match us, hl2 with
  | [_, _, _, _, _, _, _, _, _], _ => exact fun _ _ _ _ _ _ _ => ⟨_, rfl, rfl⟩
theorem dv_cellar_9 (d1 d2 : Tok) : Vals [] [] := .nil
theorem off_ne {a d r : Int} (h0 : 0 <= a) (h1 : a < r) (d0 : 1 <= d) (d1 : d < r) : (a + d) % r ≠ a := by
  by_cases h : a + d < r
  · rw [Int.emod_eq_of_lt (by omega) h]; omega
  · have e : a + d = (a + d - r) + r * 1 := by omega
    rw [e, Int.add_mul_emod_self_left, Int.emod_eq_of_lt (by omega) (by omega)]
    omega
end
def goL (C : Cl) (s : Sd) : List Sd := ((rowD .go C.ways.length).filter fun x => canD C s x.1 (x.2 : Int)).map fun x => doneD C s x.1 (x.2 : Int)
def GoR (C : Cl) (s t : Sd) : Prop := t ∈ goL C s
def spBG : Sp := fun vs H Q _ => ∃ (c q : Addr) (C : Cl) (s : Sd), vs = [.ref c, .ref q] /\ ClAt H c C /\ ClOk C /\ SAt H q s /\ s.ok C /\ ∀ (l : Addr) (H' : Hp), Same H H' -> H l = none -> LstOf SAt H' l (goL C s) -> Q (.ref l) H'
theorem hu3_of {A : Around} {k : Nat} (hr : Room k A) : A.units + 1 + 1 < cLine := by have := hr.un; omega
section
variable {P : Program} {w : World} {K : W.Frag} {mg : Str -> Option Value} {base : Heap} {cs : Cs}
theorem ok_bygo (T : Txt mg cs) (L : Laid K mg "stands_by_go" s_stands_by_go ["cellar", "stand"]) (C_all_goes : Cal P w K mg base 4 "all_goes" ["cellar"] (spGoes cs)) (vc : ∀ d, VMeth P w K mg base 6 (dcls cs d) "can" ["self", "cellar", "stand"] (spCan cs d)) (vd : ∀ d, VMeth P w K mg base 2 (dcls cs d) "done" ["self", "cellar", "stand"] (spDone cs d)) : Cal P w K mg base 7 "stands_by_go" ["cellar", "stand"] spBG := by
  refine L.cal (k := 6) sc_stands_by_go (fun vs H Q E h => ?_) (fun f cdv A outer s H vs Q E hr h => ?_)
  · obtain ⟨c, q, C, st, rfl, _⟩ := h
    rfl
  · obtain ⟨c, q, C, st, rfl, hC, ok, hq, sok, k⟩ := h
    have big := line_big
    have okw := ok.wl
    refine ⟨_, (pss_one (ps_ret (pe_comp (compOk (N := ["go", "cellar", "stand"]) (own := 1) (caps := [0, 1]) ["cellar", "stand"] (defScope s_stands_by_go) (by decide +kernel)) rfl (pi_listK K (pe_cal C_all_goes hr (by decide) rfl (pa_cons (pv 0) pa_nil))) (fun _ _ _ _ => (pg_name (i := 0) (show List.Nodup (["go", "cellar", "stand"] : List Str) by decide +kernel) rfl (Or.inl rfl))) (fun _ _ _ _ => (pf_one (pt_val (pe_vmK (k := 6) P w K mg base hr (by decide) (pv 0) (pa_cons (pv 1) (pa_cons (pv 2) pa_nil)))))) (fun _ _ _ _ => (pe_vmK (k := 2) P w K mg base hr (by decide) (pv 0) (pa_cons (pv 1) (pa_cons (pv 2) pa_nil))))))), ?_⟩
    walk_at "rd"
    refine ⟨c, C, rfl, hC, ok, fun l H1 s1 hl0 m1 => ?_⟩
    obtain ⟨ps, e1, r1⟩ := m1
    walk_at "rd"
    intro D hD
    refine comp_lst (ps.map V.ref) (fun i σ H' => ∃ v0, σ = [v0, some (.ref c), some (.ref q)] /\ Same H1 H' /\ LstOf SAt H' D ((((rowD .go C.ways.length).take i).filter fun x => canD C st x.1 (x.2 : Int)).map fun x => doneD C st x.1 (x.2 : Int))) ⟨none, rfl, Same.upd hD, ⟨[], upd_same, Rows.nil⟩⟩ ?_ ?_ ?_
    · rintro i σ H' ⟨_, rfl, s2, _⟩
      exact SqL.of (s2 _ _ e1)
    · rintro i x σ H' hx ⟨v0, rfl, s2, qs, hqs, hrw⟩
      have hi : i < (rowD .go C.ways.length).length := by have := (List.getElem?_eq_some_iff.mp hx).1; rw [List.length_map, r1.1] at this; exact this
      obtain ⟨p, ep, hob⟩ := r1.get hi
      rw [hx] at ep
      cases ep
      have hob2 := DAt.mono s2 hob
      obtain ⟨dx, hp⟩ := hob2.ex
      have s12 := s1.trans s2
      have hqlen : qs.length <= 100 := by
        rw [hrw.1, List.length_map]
        refine Nat.le_trans (List.length_filter_le _ _) ?_
        rw [List.length_take, rowD_len]; omega
      walk_at "rd"
      refine r_vm hp (vc _) (df_can _ _) ?_
      walk_at "rd"
      refine ⟨p, c, q, C, st, _, rfl, hob2, hC.mono s12.ts, ok, s12 _ _ hq, sok, fun H3 s3 => ?_⟩
      have hq3 := s3 _ _ hqs
      walk_at "rd"
      rw [List.take_succ_eq_append_getElem hi, List.filter_append, List.map_append]
      refine ite2 (fun hc => ?_) (fun hc => ?_)
      · have hob3 := DAt.mono s3 hob2
        obtain ⟨dx3, hp3⟩ := hob3.ex
        have s13 := s12.trans s3
        walk_at "rd"
        refine r_vm hp3 (vd _) (df_done _ _) ?_
        walk_at "rd"
        refine ⟨p, c, q, C, st, _, rfl, hob3, hC.mono s13.ts, ok, s13 _ _ hq, sok, hc, fun r H4 s4 hr4 => ?_⟩
        have hq4 := s4 _ _ hq3
        refine ⟨_, hq4, by rw [List.length_map]; omega, _, rfl, ((s2.trans s3).trans s4).put hD, ?_⟩
        rw [show (([(rowD .go C.ways.length)[i]].filter fun x => canD C st x.1 (x.2 : Int)).map fun x => doneD C st x.1 (x.2 : Int)) = [doneD C st (rowD .go C.ways.length)[i].1 ((rowD .go C.ways.length)[i].2 : Int)] by simp [hc]]
        exact lst_snoc (fun _ _ => SAt.put hq4) (hrw.mono fun _ _ => SAt.mono (s3.trans s4).ts) hr4
      · refine ⟨_, rfl, s2.trans s3, qs, hq3, ?_⟩
        rw [show (([(rowD .go C.ways.length)[i]].filter fun x => canD C st x.1 (x.2 : Int)).map fun x => doneD C st x.1 (x.2 : Int)) = [] by simp [hc], List.append_nil]
        exact hrw.mono fun _ _ => SAt.mono s3.ts
    · rintro σ H' ⟨v0, rfl, s2, m2⟩
      rw [List.length_map, r1.1, List.take_length] at m2
      exact k D H' (s1.trans s2) (s1.free hD) m2
end
def setRm (s : Sd) (r : Int) : Sd := { s with rm := r }
def domS (C : Cl) (s : Sd) : List Sd := (List.range C.rooms.toNat).map fun r : Nat => setRm s r
def LAt (f : Sd -> List Sd) (H : Hp) (p : Addr) (x : Sd) : Prop := LstOf SAt H p (f x)
theorem LAt.mono {f : Sd -> List Sd} {H H' : Hp} (s : Same H H') {p : Addr} {x : Sd} (h : LAt f H p x) : LAt f H' p x := by
  obtain ⟨ps, h1, h2⟩ := h
  exact ⟨ps, s _ _ h1, h2.mono fun _ _ => SAt.mono s.ts⟩
theorem dT_ts {H : Hp} {D : Addr} {kvs : List (List Key × V)} {o : HO} (hD : H D = some (.dT kvs)) : TSame H (upd H D o) := fun p xs h => by rw [upd_ne (ne_of h hD (by intro z; cases z))]; exact h
theorem LAt.dput {f : Sd -> List Sd} {H : Hp} {D : Addr} {kvs : List (List Key × V)} {o : HO} (hD : H D = some (.dT kvs)) {p : Addr} {x : Sd} (h : LAt f H p x) : LAt f (upd H D o) p x := by
  obtain ⟨ps, h1, h2⟩ := h
  exact ⟨ps, by rw [upd_ne (ne_of h1 hD (by intro z; cases z))]; exact h1, h2.mono fun _ _ => SAt.mono (dT_ts hD)⟩
def lkD (ss : List Sd) (ls : List Addr) : Dk := List.zipWith (fun s l => (s, V.ref l)) ss ls
theorem lkD_keys : ∀ {ss : List Sd} {ls : List Addr}, ls.length = ss.length -> (lkD ss ls).map (·.1) = ss
  | [], [], _ => rfl
  | [], _ :: _, h => by simp at h
  | _ :: _, [], h => by simp at h
  | s :: ss, l :: ls, h => by
    show s :: (lkD ss ls).map (·.1) = _
    rw [lkD_keys (by simpa using h)]
theorem lkD_len {ss : List Sd} {ls : List Addr} (h : ls.length = ss.length) : (lkD ss ls).length = ss.length := by have := congrArg List.length (lkD_keys h); simpa using this
theorem lkD_snoc {ss : List Sd} {ls : List Addr} {s : Sd} {l : Addr} (h : ls.length = ss.length) : lkD (ss ++ [s]) (ls ++ [l]) = lkD ss ls ++ [(s, .ref l)] := by
  unfold lkD
  rw [List.zipWith_append h.symm]
  rfl
theorem lkD_at {ss : List Sd} {ls : List Addr} {i : Nat} {s : Sd} {l : Addr} (h : ls.length = ss.length) (hn : ss.Nodup) (hs : ss[i]? = some s) (hl : ls[i]? = some l) : dat (lkD ss ls) s = some (.ref l) := by
  refine dat_some (by rw [lkD_keys h]; exact hn) ?_
  have : (lkD ss ls)[i]? = some (s, .ref l) := by unfold lkD; rw [List.getElem?_zipWith, hs, hl]
  exact List.mem_of_getElem? this
theorem dom_nodup (C : Cl) (s : Sd) : (domS C s).Nodup := by
  unfold domS
  refine List.Pairwise.map _ (fun a b h e => h ?_) List.nodup_range
  have : ((a : Nat) : Int) = b := congrArg Sd.rm e
  omega
theorem dom_take {C : Cl} {s : Sd} {i : Nat} (hi : i < C.rooms.toNat) : (domS C s).take (i + 1) = (domS C s).take i ++ [setRm s i] := by
  rw [List.take_succ_eq_append_getElem (by simpa [domS] using hi)]
  simp [domS]
theorem dom_new {C : Cl} {s : Sd} {i : Nat} (hi : i < C.rooms.toNat) : setRm s i ∉ (domS C s).take i := fun h => by
  have nd := dom_nodup C s
  have e := dom_take (s := s) hi
  have : ((domS C s).take (i + 1)).Nodup := nd.sublist (List.take_sublist _ _)
  rw [e, List.nodup_append] at this
  exact this.2.2 _ h _ (by simp) rfl
theorem mem_dom {C : Cl} {s t : Sd} : t ∈ domS C s ↔ ∃ r : Int, (0 <= r /\ r < C.rooms) /\ t = setRm s r := by
  unfold domS
  simp only [List.mem_map, List.mem_range]
  constructor
  · rintro ⟨r, h, rfl⟩
    exact ⟨r, ⟨by omega, by omega⟩, rfl⟩
  · rintro ⟨r, h, rfl⟩
    exact ⟨r.toNat, by omega, by rw [Int.toNat_of_nonneg h.1]⟩
theorem set_ok {C : Cl} {s : Sd} {r : Int} (h : s.ok C) (h0 : 0 <= r) (h1 : r < C.rooms) : (setRm s r).ok C := ⟨⟨h0, h1⟩, h.htk, h.hop, h.dr, h.hb, h.hwt, h.held⟩
def spGL : Sp := fun vs H Q _ => ∃ (c q : Addr) (C : Cl) (s : Sd), vs = [.ref c, .ref q] /\ ClAt H c C /\ ClOk C /\ SAt H q s /\ s.ok C /\ ∀ (a : Addr) (ls : List Addr) (H' : Hp), Same H H' -> H a = none -> DAtS H' a (lkD (domS C s) ls) -> Rows (LAt (goL C)) H' ls (domS C s) -> Q (.ref a) H'
section
variable {P : Program} {w : World} {K : W.Frag} {mg : Str -> Option Value} {base : Heap} {cs : Cs}
theorem ok_glinks (T : Txt mg cs) (L : Laid K mg "go_links" s_go_links ["cellar", "stand"]) (C_changed : Cal P w K mg base 1 "changed" ["parts", "place", "part"] spChg) (C_stands_by_go : Cal P w K mg base 7 "stands_by_go" ["cellar", "stand"] spBG) : Cal P w K mg base 8 "go_links" ["cellar", "stand"] spGL := by
  obtain ⟨t1, e_ROOMS⟩ := T.e_ROOMS
  obtain ⟨t2, e_ROOM⟩ := T.e_ROOM
  refine L.cal (k := 7) sc_go_links (fun vs H Q E h => ?_) (fun f cdv A outer s H vs Q E hr h => ?_)
  · obtain ⟨c, q, C, st, rfl, _⟩ := h
    rfl
  · obtain ⟨c, q, C, st, rfl, hC, ok, hq, sok, k⟩ := h
    have big := line_big
    have ok1 := ok.r1
    have ok2 := ok.r2
    obtain ⟨pw, pt, pl, pv', h0, hw, ht, hl, hv⟩ := hC.ex
    refine ⟨_, (pss_cons (ps_set (i := 2) sc_go_links.nd rfl (Or.inl rfl) pe_dnewT)
      (pss_cons (ps_for PassesOwn.never rfl (pi_range1 rfl T.n_range (pa_cons (pe_ix (ix_tupK K) (pv 0) (pe_glob (v := .int 0) rfl e_ROOMS ⟨_, rfl⟩) (fun _ _ => rfl)) pa_nil)) (pg_name (i := 3) sc_go_links.nd rfl (Or.inl rfl)) (pss_cons (ps_set (i := 4) sc_go_links.nd rfl (Or.inl rfl) (pe_cal C_changed hr (by decide) rfl (pa_cons (pv 1) (pa_cons (pe_glob (v := .int 0) rfl e_ROOM ⟨_, rfl⟩) (pa_cons (pv 3) pa_nil)))))
      (pss_one (ps_dput (hu1_of hr) (pv 2) (pv 4) (pe_cal C_stands_by_go hr (by decide) rfl (pa_cons (pv 0) (pa_cons (pv 4) pa_nil))) rfl))))
      (pss_one (ps_ret (pv 2))))), ?_⟩
    walk_at "rd"
    intro D hD
    have h01 := (Same.upd (o := .dT []) hD) _ _ h0
    walk_at "rd"
    refine for_rng (fun i σ H' => ∃ v3 v4 ls, σ = [some (.ref c), some (.ref q), some (.ref D), v3, v4] /\ Same H H' /\ DAtS H' D (lkD ((domS C st).take i) ls) /\ Rows (LAt (goL C)) H' ls ((domS C st).take i)) ⟨none, none, [], rfl, Same.upd hD, upd_same, Rows.nil⟩ ?_ ?_
    · rintro i σ H' hi ⟨v3, v4, ls, rfl, s1, hd, hrw⟩
      have hi' : i < C.rooms.toNat := by simpa using hi
      have hq1 := s1 _ _ hq
      walk_at "rd"
      refine ⟨q, st, 0, _, rfl, by omega, hq1, fun r H2 s2 hr2 => ?_⟩
      have hr2' : SAt H2 r (setRm st i) := by
        have e : (st.vs.set 0 (.int (0 + (i : Nat)))) = (setRm st i).vs := by rw [Int.zero_add]; rfl
        rw [e] at hr2
        exact hr2
      have s12 := s1.trans s2
      walk_at "rd"
      refine ⟨c, r, C, setRm st i, rfl, hC.mono s12.ts, ok, hr2', set_ok sok (by omega) (by omega), fun l H3 s3 hl3 m3 => ?_⟩
      have hd3 : DAtS H3 D _ := s3 _ _ (s2 _ _ hd)
      have hlen : ls.length = ((domS C st).take i).length := hrw.1
      walk_at "rd"
      refine ⟨D, _, rfl, dput_s hd3 (s3 _ _ hr2') ?_ ?_, ?_⟩
      · rw [lkD_len hlen, List.length_take]; omega
      · rw [lkD_keys hlen]; exact dom_new hi'
      · refine ⟨_, _, ls ++ [l], rfl, (s12.trans s3).put hD, ?_, ?_⟩
        · rw [dom_take hi', lkD_snoc hlen]
          exact upd_same
        · rw [dom_take hi']
          exact (hrw.mono fun _ _ x => LAt.dput hd3 (LAt.mono (s2.trans s3) x)).snoc (LAt.dput hd3 m3)
    · rintro σ H' ⟨v3, v4, ls, rfl, s1, hd, hrw⟩
      have e : (domS C st).take C.rooms.toNat = domS C st := List.take_of_length_le (by simp [domS])
      have hd' : DAtS H' D (lkD ((domS C st).take C.rooms.toNat) ls) := hd
      have hrw' : Rows (LAt (goL C)) H' ls ((domS C st).take C.rooms.toNat) := hrw
      rw [e] at hd' hrw'
      walk_at "rd"
      exact k D ls H' s1 hD hd' hrw'
end
def cnD (ss : List Sd) (ns : List Int) : Dk := List.zipWith (fun s n => (s, V.int n)) ss ns
theorem cnD_keys : ∀ {ss : List Sd} {ns : List Int}, ns.length = ss.length -> (cnD ss ns).map (·.1) = ss
  | [], [], _ => rfl
  | [], _ :: _, h => by simp at h
  | _ :: _, [], h => by simp at h
  | s :: ss, l :: ls, h => by
    show s :: (cnD ss ls).map (·.1) = _
    rw [cnD_keys (by simpa using h)]
theorem cnD_len {ss : List Sd} {ns : List Int} (h : ns.length = ss.length) : (cnD ss ns).length = ss.length := by have := congrArg List.length (cnD_keys h); simpa using this
theorem cnD_snoc {ss : List Sd} {ns : List Int} {s : Sd} {n : Int} (h : ns.length = ss.length) : cnD (ss ++ [s]) (ns ++ [n]) = cnD ss ns ++ [(s, .int n)] := by
  unfold cnD
  rw [List.zipWith_append h.symm]
  rfl
theorem cnD_at {ss : List Sd} {ns : List Int} {s : Sd} (h : ns.length = ss.length) (hn : ss.Nodup) (hs : s ∈ ss) : ∃ n, dat (cnD ss ns) s = some (.int n) := by
  obtain ⟨i, hi, e⟩ := List.getElem_of_mem hs
  refine ⟨ns[i]'(by omega), dat_some (by rw [cnD_keys h]; exact hn) ?_⟩
  have : (cnD ss ns)[i]? = some (s, .int (ns[i]'(by omega))) := by
    unfold cnD
    rw [List.getElem?_zipWith, List.getElem?_eq_getElem hi, List.getElem?_eq_getElem (by omega), e]
  exact List.mem_of_getElem? this
theorem sub_len : ∀ {l m : List Sd}, l.Nodup -> (∀ x ∈ l, x ∈ m) -> l.length <= m.length
  | [], _, _, _ => Nat.zero_le _
  | x :: l, m, hn, h => by
    rw [List.nodup_cons] at hn
    have hx := h x (.head _)
    have := sub_len (m := m.erase x) hn.2 fun y hy => (List.mem_erase_of_ne fun e => hn.1 (by rw [<- e]; exact hy)).mpr (h y (List.mem_cons_of_mem _ hy))
    rw [List.length_erase_of_mem hx] at this
    have : 0 < m.length := List.length_pos_of_mem hx
    rw [List.length_cons]
    omega
def spCF : Sp := fun vs H Q _ => ∃ (b a : Addr) (s0 : Sd) (ss : List Sd) (f : Sd -> List Sd) (ls : List Addr), vs = [.ref b, .ref a] /\ LstOf SAt H b [s0] /\ Rd H a (.dT (dkv (lkD ss ls))) /\ Rows (LAt f) H ls ss /\ ss.Nodup /\ s0 ∈ ss /\ (∀ x ∈ ss, ∀ y ∈ f x, y ∈ ss) /\ ss.length <= 1000 /\
  ∀ (d : Addr) (row : List Sd) (ns : List Int) (H' : Hp), Same H H' -> H d = none -> DAtS H' d (cnD row ns) -> ns.length = row.length -> row.Nodup -> (∀ x ∈ row, x ∈ ss) -> (∀ x, x ∈ row ↔ Rch (fun x y => y ∈ f x) s0 x) -> Q (.ref d) H'
theorem DAtS.lput {H : Hp} {R D : Addr} {l : Dk} {xs : List V} {o : HO} (hR : H R = some (.lst xs)) (h : DAtS H D l) : DAtS (upd H R o) D l := by
  show upd H R o D = _
  rw [upd_ne (ne_of h hR (by intro z; cases z))]
  exact h
theorem Rd.same {H H' : Hp} (s : Same H H') {a : Addr} {u : HO} (h : Rd H a u) : Rd H' a u := by
  rcases h with h | ⟨o, h⟩
  · exact .inl (s _ _ h)
  · exact .inr ⟨o, s _ _ h⟩
section
variable {P : Program} {w : World} {K : W.Frag} {mg : Str -> Option Value} {base : Heap} {cs : Cs}
theorem ok_cfrom (T : Txt mg cs) (L : Laid K mg "counts_from" s_counts_from ["begins", "links"]) : Cal P w K mg base 1 "counts_from" ["begins", "links"] spCF := by
  refine L.cal (k := 0) sc_counts_from (fun vs H Q E h => ?_) (fun f cdv A outer s H vs Q E hr h => ?_)
  · obtain ⟨b, a, s0, ss, f, ls, rfl, _⟩ := h
    rfl
  · obtain ⟨b, a, s0, ss, g, ls, rfl, ⟨bs, hb, rb⟩, ha, hrw, nd, hs0, hcl, hln, k⟩ := h
    have big := line_big
    obtain ⟨p0, rfl⟩ : ∃ p0, bs = [p0] := List.length_eq_one_iff.mp rb.1
    have hp0 : SAt H p0 s0 := rb.2 0 p0 s0 rfl rfl
    refine ⟨_, (pss_cons (ps_set (i := 2) sc_counts_from.nd rfl (Or.inl rfl) (pe_callTy (lstOfK K) rfl T.n_list bt_list (pa_cons (pv 0) pa_nil)))
      (pss_cons (ps_set (i := 3) sc_counts_from.nd rfl (Or.inl rfl) pe_dnewT)
      (pss_cons (ps_for PassesOwn.never rfl (pi_listK K (pv 0)) (pg_name (i := 4) sc_counts_from.nd rfl (Or.inl rfl)) (pss_one (ps_dput (hu1_of hr) (pv 3) (pv 4) pe_int rfl)))
      (pss_cons (ps_set (i := 5) sc_counts_from.nd rfl (Or.inl rfl) pe_int)
      (pss_cons (ps_while PassesOwn.never (pt_cmpR op_lt (pv 5) (pe_callB (lenK K) rfl T.n_len bt_len (pa_cons (pv 2) pa_nil)) (nomark _)) (pss_cons (ps_set (i := 6) sc_counts_from.nd rfl (Or.inl rfl) (pe_ix (ix_listK K) (pv 2) (pv 5) (fun _ _ => rfl)))
      (pss_cons (ps_aug (i := 5) sc_counts_from.nd rfl (Or.inl rfl) pe_int ip_add)
      (pss_one (ps_for PassesOwn.never rfl (pi_listK K (pe_dget (hu1_of hr) (pv 1) (pv 6) (fun _ _ => rfl))) (pg_name (i := 7) sc_counts_from.nd rfl (Or.inl rfl)) (pss_one (ps_if (pt_cmp (pc_dnotin (hu1_of hr) (pv 7) (pv 3))) (pss_cons (ps_dput (hu1_of hr) (pv 3) (pv 7) (pe_op op_add (pe_dget (hu1_of hr) (pv 3) (pv 6) (fun _ _ => rfl)) pe_int) rfl)
      (pss_one (ps_expr (pe_bm PySem.F.plainAttrs_list PySem.F.slot_list_append PySem.F.type_list_append mt_append (pv 2) (pa_cons (pv 7) pa_nil))))) pss_nil)))))))
      (pss_one (ps_ret (pv 3)))))))), ?_⟩
    walk_at "rd"
    refine ⟨b, _, rfl, .inl (SqL.of hb), fun R hR => ?_⟩
    have s1 := Same.upd (o := .lst ([p0].map V.ref)) hR
    have h1 := upd_same (H := H) (a := R) (o := .lst ([p0].map V.ref))
    generalize upd H R (.lst ([p0].map V.ref)) = H1 at s1 h1 ⊢
    have hb1 := s1 _ _ hb
    walk_at "rd"
    intro D hD1
    have hD : H D = none := s1.free hD1
    have s2 := s1.trans (Same.upd (o := .dT []) hD1)
    have h2 := (Same.upd (o := .dT []) hD1) _ _ h1
    have hb2 := (Same.upd (o := .dT []) hD1) _ _ hb1
    have d2 : DAtS (upd H1 D (.dT [])) D [] := upd_same
    generalize upd H1 D (.dT []) = H2 at s2 h2 hb2 d2 ⊢
    walk_at "rd"
    refine for_lst ([p0].map V.ref) (fun i σ H' => ∃ v4, σ = [some (.ref b), some (.ref a), some (.ref R), some (.ref D), v4, none, none, none] /\ Same H H' /\ H' R = some (.lst ([p0].map V.ref)) /\ H' b = some (.lst ([p0].map V.ref)) /\ (i = 0 -> DAtS H' D []) /\ (i = 1 -> DAtS H' D (cnD [s0] [0]))) ⟨none, rfl, s2, h2, hb2, fun _ => d2, fun z => absurd z (by decide)⟩ ?_ ?_ ?_
    · rintro i σ H' ⟨v4, rfl, _, _, e, _⟩
      exact SqL.of e
    · rintro i x σ H' hx ⟨v4, rfl, s3, hR3, hb3, hz, _⟩
      have hi : i = 0 := by have := (List.getElem?_eq_some_iff.mp hx).1; simpa using this
      subst hi
      cases hx
      have hd := hz rfl
      walk_at "rd"
      refine ⟨D, _, rfl, dput_s hd (s3 _ _ hp0) (by show 0 < sizeLine; omega) (by simp), ?_⟩
      have ne1 : R ≠ D := ne_of hR3 hd (by intro z; cases z)
      have ne2 : b ≠ D := ne_of hb3 hd (by intro z; cases z)
      exact ⟨_, rfl, s3.put hD, by rw [upd_ne ne1]; exact hR3, by rw [upd_ne ne2]; exact hb3, fun z => absurd z (by decide), fun _ => upd_same⟩
    · rintro σ H3 ⟨v4, rfl, s3, hR3, hb3, _, hd3⟩
      have hd3 := hd3 rfl
      walk_at "rd"
      refine r_while (fun m σ H' => ∃ (row : List Sd) (ns : List Int) (pl : Nat) (v6 v7 : Option V), σ = [some (.ref b), some (.ref a), some (.ref R), some (.ref D), v4, some (.int pl), v6, v7] /\ Same H H' /\ LstOf SAt H' R row /\ DAtS H' D (cnD row ns) /\ ns.length = row.length /\ Srch (fun x y => y ∈ g x) s0 row pl /\ (∀ x ∈ row, x ∈ ss) /\ pl <= row.length /\ m = 2000 - pl) (2000 - 0)
        ⟨[s0], [0], 0, none, none, rfl, s3, ⟨[p0], hR3, Rows.nil.snoc (s3 _ _ hp0)⟩, hd3, rfl, Srch.start, fun x hx => by rw [List.mem_singleton.mp hx]; exact hs0, by simp, rfl⟩ ?_
      rintro m σ H4 ⟨row, ns, pl, v6, v7, rfl, s4, ⟨qs, hqs, rqs⟩, hd4, hns, sr, hsub, hpl, hm⟩
      have hql : qs.length = row.length := rqs.1
      have hrl : row.length <= ss.length := sub_len sr.nd hsub
      walk_at "rd"
      rw [List.length_map, hql]
      refine ifd (fun hlt => ?_) (fun hge => ?_)
      · have hlt' : pl < row.length := by omega
        obtain ⟨q, eq, hq4⟩ := rqs.get hlt'
        generalize hx : row[pl] = x at hq4
        have hrx : row[pl]? = some x := by rw [List.getElem?_eq_getElem hlt', hx]
        have hxr : x ∈ row := List.mem_of_getElem? hrx
        have hq4 : SAt H4 q x := hq4
        have hxs := hsub x hxr
        refine ⟨fun σ' H' => ∃ (row : List Sd) (ns : List Int) (v7 : Option V), σ' = [some (.ref b), some (.ref a), some (.ref R), some (.ref D), v4, some (.int ((pl : Int) + 1)), some (.ref q), v7] /\ Same H H' /\ LstOf SAt H' R row /\ DAtS H' D (cnD row ns) /\ ns.length = row.length /\ Srch (fun x y => y ∈ g x) s0 row (pl + 1) /\ (∀ x ∈ row, x ∈ ss) /\ pl + 1 <= row.length, ?_, ?_⟩
        · rintro σ' H' ⟨row, ns, v7, rfl, z1, z2, z3, z4, z5, z6, z7⟩
          exact ⟨2000 - (pl + 1), by omega, row, ns, pl + 1, some (.ref q), v7, rfl, z1, z2, z3, z4, z5, z6, z7, rfl⟩
        · walk_at "rd"
          obtain ⟨j, hj, ej⟩ := List.getElem_of_mem (hsub x hxr)
          have hll : ls.length = ss.length := hrw.1
          have hsj : ss[j]? = some x := by rw [List.getElem?_eq_getElem hj, ej]
          have hlj : ls[j]? = some (ls[j]'(by omega)) := List.getElem?_eq_getElem _
          generalize ls[j]'(by omega) = l at hlj
          obtain ⟨os, hos, ros⟩ := hrw.2 j l x hlj hsj
          have dg := dget_s (Rd.same s4 ha) hq4
          rw [lkD_at hll nd hsj hlj] at dg
          refine ⟨a, .ref l, rfl, dg, ?_⟩
          have hos4 := s4 _ _ hos
          walk_at "rd"
          refine for_lst (os.map V.ref) (fun i σ' H' => ∃ (row : List Sd) (ns : List Int) (v7 : Option V), σ' = [some (.ref b), some (.ref a), some (.ref R), some (.ref D), v4, some (.int ((pl : Int) + 1)), some (.ref q), v7] /\ Same H H' /\ LstOf SAt H' R row /\ DAtS H' D (cnD row ns) /\ ns.length = row.length /\ Mid (fun x y => y ∈ g x) s0 x row pl ((g x).take i) /\ (∀ x ∈ row, x ∈ ss) /\ SAt H' q x)
            ⟨row, ns, v7, rfl, s4, ⟨qs, hqs, rqs⟩, hd4, hns, sr.mid hrx, hsub, hq4⟩ ?_ ?_ ?_
          · rintro i σ' H' ⟨_, _, _, rfl, s5, _⟩
            exact SqL.of (s5 _ _ hos)
          · rintro i z σ' H5 hz ⟨row, ns, v7, rfl, s5, ⟨qs, hqs, rqs⟩, hd5, hns, md, hsub, hx5⟩
            have hi : i < (g x).length := by have := (List.getElem?_eq_some_iff.mp hz).1; rw [List.length_map, ros.1] at this; exact this
            obtain ⟨p, ep, hp⟩ := ros.get hi
            rw [hz] at ep
            cases ep
            have hp5 : SAt H5 p (g x)[i] := SAt.mono s5.ts hp
            have hy : (g x)[i] ∈ g x := List.getElem_mem hi
            rw [List.take_succ_eq_append_getElem hi]
            generalize (g x)[i] = y at hp5 hy ⊢
            have hrl : row.length <= ss.length := sub_len md.nd hsub
            walk_at "rd"
            refine ⟨D, _, rfl, dget_s (.inl hd5) hp5, ?_⟩
            rw [dat_isSome, cnD_keys hns]
            walk_at "rd"
            by_cases hin : y ∈ row
            · rw [decide_eq_true hin]
              walk_at "rd"
              exact ⟨row, ns, _, rfl, s5, ⟨qs, hqs, rqs⟩, hd5, hns, md.old hin, hsub, hx5⟩
            · rw [decide_eq_false hin]
              walk_at "rd"
              obtain ⟨n, hn⟩ := cnD_at hns md.nd (List.mem_of_getElem? md.at')
              have dg5 := dget_s (.inl hd5) hx5
              rw [hn] at dg5
              refine ⟨D, _, rfl, dg5, ?_⟩
              walk_at "rd"
              have ne1 : R ≠ D := ne_of hqs hd5 (by intro z; cases z)
              refine ⟨D, _, rfl, dput_s hd5 hp5 (by rw [cnD_len hns]; omega) (by rw [cnD_keys hns]; exact hin), ?_⟩
              rw [<- cnD_snoc hns]
              have hR6 : upd H5 D (.dT (dkv (cnD (row ++ [y]) (ns ++ [n + 1])))) R = some (.lst (qs.map V.ref)) := by rw [upd_ne ne1]; exact hqs
              have hd6 : DAtS (upd H5 D (.dT (dkv (cnD (row ++ [y]) (ns ++ [n + 1]))))) D (cnD (row ++ [y]) (ns ++ [n + 1])) := upd_same
              walk_at "rd"
              refine ⟨R, _, _, rfl, rfl, hR6, by rw [List.length_map, rqs.1]; omega, ?_⟩
              refine ⟨row ++ [y], ns ++ [n + 1], _, rfl, (s5.put hD).put hR, ?_, DAtS.lput hR6 hd6, by simp [hns], md.new hin hy, ?_, SAt.put hR6 (SAt.mono (dT_ts hd5) hx5)⟩
              · exact lst_snoc (fun _ _ => SAt.put hR6) (rqs.mono fun _ _ => SAt.mono (dT_ts hd5)) (SAt.mono (dT_ts hd5) hp5)
              · intro z hz'
                rcases List.mem_append.mp hz' with z1 | z1
                · exact hsub z z1
                · rw [List.mem_singleton.mp z1]; exact hcl x hxs y hy
          · rintro σ' H5 ⟨row, ns, v7, rfl, s5, hR5, hd5, hns, md, hsub, _⟩
            rw [List.length_map, ros.1, List.take_length] at md
            exact ⟨row, ns, v7, rfl, s5, hR5, hd5, hns, md.next fun y hy => hy, hsub, (List.getElem?_eq_some_iff.mp md.at').1⟩
      · walk_at "rd"
        exact k D row ns H4 s4 hD hd4 hns sr.nd hsub (sr.end (by omega))
end
def gE (es : List (Sd × Sd)) (y : Sd) : List Sd := (es.filter fun e => decide (e.2 = y)).map (·.1)
theorem gE_same {es : List (Sd × Sd)} {x y : Sd} : gE (es ++ [(x, y)]) y = gE es y ++ [x] := by simp [gE]
theorem gE_other {es : List (Sd × Sd)} {x y z : Sd} (h : z ≠ y) : gE (es ++ [(x, y)]) z = gE es z := by simp [gE, Ne.symm h]
theorem gE_len (es : List (Sd × Sd)) (y : Sd) : (gE es y).length <= es.length := by rw [gE, List.length_map]; exact List.length_filter_le _ _
theorem mem_gE {es : List (Sd × Sd)} {x y : Sd} : x ∈ gE es y ↔ (x, y) ∈ es := by
  simp only [gE, List.mem_map, List.mem_filter, decide_eq_true_eq]
  constructor
  · rintro ⟨⟨a, b⟩, ⟨h1, h2⟩, h3⟩
    have h2' : b = y := h2
    have h3' : a = x := h3
    subst h2' h3'
    exact h1
  · exact fun h => ⟨(x, y), ⟨h, rfl⟩, rfl⟩
def eds (f : Sd -> List Sd) (ss : List Sd) : List (Sd × Sd) := ss.flatMap fun x => (f x).map fun y => (x, y)
theorem eds_snoc (f : Sd -> List Sd) (ss : List Sd) (x : Sd) : eds f (ss ++ [x]) = eds f ss ++ (f x).map fun y => (x, y) := by simp [eds]
theorem mem_eds {f : Sd -> List Sd} {ss : List Sd} {x y : Sd} : (x, y) ∈ eds f ss ↔ x ∈ ss /\ y ∈ f x := by
  simp only [eds, List.mem_flatMap, List.mem_map, Prod.mk.injEq]
  constructor
  · rintro ⟨a, h1, b, h2, h3, h4⟩
    subst h3 h4
    exact ⟨h1, h2⟩
  · exact fun ⟨h1, h2⟩ => ⟨x, h1, y, h2, rfl, rfl⟩
theorem eds_len {f : Sd -> List Sd} : ∀ {ss : List Sd}, (∀ x ∈ ss, (f x).length <= 500) -> (eds f ss).length <= 500 * ss.length
  | [], _ => Nat.zero_le _
  | x :: ss, h => by
    have := eds_len (ss := ss) fun y hy => h y (List.mem_cons_of_mem _ hy)
    have h1 := h x (.head _)
    have e : (eds f (x :: ss)).length = (f x).length + (eds f ss).length := by simp [eds]
    rw [e, List.length_cons]
    omega
theorem dkv_get {ss : List Sd} {ls : List Addr} {i : Nat} {p : List Key × V} (hl : ls.length = ss.length) (h : (dkv (lkD ss ls))[i]? = some p) : ∃ s l, ss[i]? = some s /\ ls[i]? = some l /\ p = (s.key, .ref l) := by
  have hi : i < ss.length := by
    have := (List.getElem?_eq_some_iff.mp h).1
    rw [show (dkv (lkD ss ls)).length = (lkD ss ls).length by simp [dkv], lkD_len hl] at this
    exact this
  refine ⟨ss[i], ls[i]'(by omega), List.getElem?_eq_getElem hi, List.getElem?_eq_getElem (by omega), ?_⟩
  have e : (lkD ss ls)[i]? = some (ss[i], .ref (ls[i]'(by omega))) := by unfold lkD; rw [List.getElem?_zipWith, List.getElem?_eq_getElem hi, List.getElem?_eq_getElem (by omega)]
  rw [dkv, List.getElem?_map, e] at h
  exact (Option.some.inj h).symm
theorem nodup_at {α : Type} {l : List α} (h : l.Nodup) {i j : Nat} {x : α} (hi : l[i]? = some x) (hj : l[j]? = some x) : i = j := by
  obtain ⟨h1, e1⟩ := List.getElem?_eq_some_iff.mp hi
  obtain ⟨h2, e2⟩ := List.getElem?_eq_some_iff.mp hj
  exact (List.getElem_inj h).mp (e1.trans e2.symm)
theorem rows_push {es : List (Sd × Sd)} {H : Hp} {ls qs : List Addr} {ss : List Sd} {j : Nat} {l p : Addr} {x y : Sd} (hr : Rows (LAt (gE es)) H ls ss) (hn : ls.Nodup) (hs : ss.Nodup) (hj : ls[j]? = some l) (hy : ss[j]? = some y) (hqs : H l = some (.lst (qs.map V.ref))) (rq : Rows SAt H qs (gE es y)) (hp : SAt H p x) :
    Rows (LAt (gE (es ++ [(x, y)]))) (upd H l (.lst (qs.map V.ref ++ [.ref p]))) ls ss := by
  refine ⟨hr.1, fun k q z hk hz => ?_⟩
  by_cases e : k = j
  · subst e
    rw [hj] at hk
    cases hk
    rw [hy] at hz
    cases hz
    show LstOf SAt _ _ _
    rw [gE_same]
    exact lst_snoc (fun _ _ => SAt.put hqs) rq hp
  · have nq : q ≠ l := fun z => e (nodup_at hn (z ▸ hk) hj)
    have nz : z ≠ y := fun w => e (nodup_at hs (w ▸ hz) hy)
    obtain ⟨rs, h1, h2⟩ := hr.2 k q z hk hz
    show LstOf SAt _ _ _
    rw [gE_other nz]
    exact ⟨rs, by rw [upd_ne nq]; exact h1, h2.mono fun _ _ => SAt.put hqs⟩
def spTL : Sp := fun vs H Q _ => ∃ (a : Addr) (o : Obj) (ss : List Sd) (f : Sd -> List Sd) (ls : List Addr), vs = [.ref a] /\ H a = some (.frz o (.dT (dkv (lkD ss ls)))) /\ Rows (LAt f) H ls ss /\ ss.Nodup /\ (∀ x ∈ ss, ∀ y ∈ f x, y ∈ ss) /\ ss.length <= 1000 /\ (∀ x ∈ ss, (f x).length <= 500) /\
  ∀ (t : Addr) (ls' : List Addr) (H' : Hp), Same H H' -> H t = none -> DAtS H' t (lkD ss ls') -> Rows (LAt (gE (eds f ss))) H' ls' ss -> Q (.ref t) H'
section
variable {P : Program} {w : World} {K : W.Frag} {mg : Str -> Option Value} {base : Heap} {cs : Cs}
theorem ok_turned (T : Txt mg cs) (L : Laid K mg "turned_links" s_turned_links ["links"]) : Cal P w K mg base 1 "turned_links" ["links"] spTL := by
  refine L.cal (k := 0) sc_turned_links (fun vs H Q E h => ?_) (fun f cdv A outer s H vs Q E hr h => ?_)
  · obtain ⟨a, o, ss, f, ls, rfl, _⟩ := h
    rfl
  · obtain ⟨a, o, ss, g, ls, rfl, ha, hrw, nd, hcl, hln, hfl, k⟩ := h
    have big := line_big
    have hll : ls.length = ss.length := hrw.1
    have hkl : (dkv (lkD ss ls)).length = ss.length := by rw [show (dkv (lkD ss ls)).length = (lkD ss ls).length by simp [dkv], lkD_len hll]
    have hel := eds_len hfl
    refine ⟨_, (pss_cons (ps_set (i := 1) sc_turned_links.nd rfl (Or.inl rfl) pe_dnewT)
      (pss_cons (ps_for PassesOwn.never rfl (pi_dkK K (pv 0)) (pg_name (i := 2) sc_turned_links.nd rfl (Or.inl rfl)) (pss_one (ps_dput (hu1_of hr) (pv 1) (pv 2) (pe_lst pa_nil) rfl)))
      (pss_cons (ps_for PassesOwn.never rfl (pi_dpK K (pv 0)) (pg_tupK (n := 2) K rfl (pgs_cons (pg_name (i := 2) sc_turned_links.nd rfl (Or.inl rfl)) (pgs_cons (pg_name (i := 3) sc_turned_links.nd rfl (Or.inl rfl)) pgs_nil))) (pss_one (ps_for PassesOwn.never rfl (pi_listK K (pv 3)) (pg_name (i := 4) sc_turned_links.nd rfl (Or.inl rfl)) (pss_one (ps_expr (pe_bm PySem.F.plainAttrs_list PySem.F.slot_list_append PySem.F.type_list_append mt_append (pe_dget (hu1_of hr) (pv 1) (pv 4) (fun _ _ => rfl)) (pa_cons (pv 2) pa_nil)))))))
      (pss_one (ps_ret (pv 1)))))), ?_⟩
    walk_at "rd"
    intro D hD
    have s1 := Same.upd (o := .dT []) hD
    have d1 : DAtS (upd H D (.dT [])) D [] := upd_same
    generalize upd H D (.dT []) = H1 at s1 d1 ⊢
    walk_at "rd"
    refine ⟨a, o, _, rfl, s1 _ _ ha, ?_⟩
    refine for_dk (fun i σ H' => ∃ v2 ls', σ = [some (.ref a), some (.ref D), v2, none, none] /\ Same H H' /\ DAtS H' D (lkD (ss.take i) ls') /\ Rows (LAt (gE [])) H' ls' (ss.take i) /\ ls'.Nodup /\ ∀ l ∈ ls', H l = none) ⟨none, [], rfl, s1, d1, Rows.nil, List.nodup_nil, fun l h => nomatch h⟩ ?_ ?_ ?_
    · rintro i σ H' ⟨v2, ls', rfl, s2, _⟩
      exact s2 _ _ ha
    · rintro i b p σ H' hp hb ⟨v2, ls', rfl, s2, hd, hrw', hn', hfr⟩
      obtain ⟨x, l, hx, hl, rfl⟩ := dkv_get hll hp
      have hb' : SAt H' b x := hb
      have hi : i < ss.length := (List.getElem?_eq_some_iff.mp hx).1
      have ex : ss[i] = x := (List.getElem?_eq_some_iff.mp hx).2
      have hlen : ls'.length = (ss.take i).length := hrw'.1
      walk_at "rd"
      intro q hq
      have s3 := Same.upd (o := .lst []) hq
      have h3 := upd_same (H := H') (a := q) (o := .lst [])
      generalize upd H' q (.lst []) = H3 at s3 h3 ⊢
      have hd3 : DAtS H3 D _ := s3 _ _ hd
      have et : ss.take (i + 1) = ss.take i ++ [x] := by rw [List.take_succ_eq_append_getElem hi, ex]
      have hnx : x ∉ ss.take i := fun h => by
        have := nd.sublist (List.take_sublist (i + 1) ss)
        rw [et, List.nodup_append] at this
        exact this.2.2 _ h _ (by simp) rfl
      walk_at "rd"
      refine ⟨D, _, rfl, dput_s hd3 (s3 _ _ hb') (by rw [lkD_len hlen, List.length_take]; omega) (by rw [lkD_keys hlen]; exact hnx), ?_⟩
      refine ⟨_, ls' ++ [q], rfl, (s2.trans s3).put hD, ?_, ?_, ?_, ?_⟩
      · rw [et, lkD_snoc hlen]
        exact upd_same
      · rw [et]
        exact (hrw'.mono fun _ _ z => LAt.dput hd3 (LAt.mono s3 z)).snoc (LAt.dput hd3 ⟨[], h3, Rows.nil⟩)
      · refine List.nodup_append.mpr ⟨hn', by simp, fun a' h1 b' h2 e => ?_⟩
        rw [List.mem_singleton.mp h2] at e
        subst e
        obtain ⟨y, _, rs, hy, _⟩ := Rows.mem hrw' h1
        rw [hq] at hy
        cases hy
      · intro l h
        rcases List.mem_append.mp h with h | h
        · exact hfr l h
        · rw [List.mem_singleton.mp h]; exact s2.free hq
    · rintro σ H2 ⟨v2, ls', rfl, s2, hd2, hrw2, hn2, hfr⟩
      rw [hkl, List.take_length] at hd2 hrw2
      have hlen : ls'.length = ss.length := hrw2.1
      walk_at "rd"
      refine ⟨a, o, _, rfl, s2 _ _ ha, ?_⟩
      refine for_dp (fun i σ H' => ∃ v2 v3 v4, σ = [some (.ref a), some (.ref D), v2, v3, v4] /\ Same H H' /\ DAtS H' D (lkD ss ls') /\ Rows (LAt (gE (eds g (ss.take i)))) H' ls' ss) ⟨_, _, _, rfl, s2, hd2, hrw2⟩ ?_ ?_ ?_
      · rintro i σ H' ⟨v2, v3, v4, rfl, s3, _⟩
        exact s3 _ _ ha
      · rintro i b T' p σ H' hp hb hT ⟨v2, v3, v4, rfl, s3, hd, hr3⟩
        obtain ⟨x, l, hx, hl, rfl⟩ := dkv_get hll hp
        have hi : i < ss.length := (List.getElem?_eq_some_iff.mp hx).1
        have ex : ss[i] = x := (List.getElem?_eq_some_iff.mp hx).2
        have hxs : x ∈ ss := List.mem_of_getElem? hx
        have hb' : SAt H' b x := hb
        have s4 := Same.upd (o := .tup [.ref b, .ref l]) hT
        have h4 := upd_same (H := H') (a := T') (o := .tup [.ref b, .ref l])
        show _
        generalize upd H' T' (.tup [.ref b, .ref l]) = H4 at s4 h4 ⊢
        have s34 := s3.trans s4
        have hb4 : SAt H4 b x := s4 _ _ hb'
        obtain ⟨os, hos, ros⟩ := hrw.2 i l x hl hx
        have hos4 := s34 _ _ hos
        have et : eds g (ss.take (i + 1)) = eds g (ss.take i) ++ (g x).map fun y => (x, y) := by rw [List.take_succ_eq_append_getElem hi, ex, eds_snoc]
        have hel4 : (eds g (ss.take i)).length <= 500 * ss.length := Nat.le_trans (eds_len fun y hy => hfl y (List.mem_of_mem_take hy)) (by rw [List.length_take]; omega)
        have hgx := hfl x hxs
        walk_at "rd"
        refine for_lst (os.map V.ref) (fun j σ H' => ∃ v4, σ = [some (.ref a), some (.ref D), some (.ref b), some (.ref l), v4] /\ Same H H' /\ SAt H' b x /\ DAtS H' D (lkD ss ls') /\ Rows (LAt (gE (eds g (ss.take i) ++ ((g x).take j).map fun y => (x, y)))) H' ls' ss) ⟨v4, rfl, s34, hb4, s4 _ _ hd, by simpa using hr3.mono fun _ _ => LAt.mono s4⟩ ?_ ?_ ?_
        · rintro j σ H' ⟨_, rfl, s5, _⟩
          exact SqL.of (s5 _ _ hos)
        · rintro j z σ H5 hz ⟨v4, rfl, s5, hb5, hd5, hr5⟩
          have hj : j < (g x).length := by have := (List.getElem?_eq_some_iff.mp hz).1; rw [List.length_map, ros.1] at this; exact this
          obtain ⟨p, ep, hp⟩ := ros.get hj
          rw [hz] at ep
          cases ep
          have hp5 : SAt H5 p (g x)[j] := SAt.mono s5.ts hp
          have hy : (g x)[j] ∈ g x := List.getElem_mem hj
          rw [List.take_succ_eq_append_getElem hj, List.map_append, <- List.append_assoc]
          have hbd : (eds g (ss.take i) ++ ((g x).take j).map fun y => (x, y)).length <= 501000 := by rw [List.length_append, List.length_map, List.length_take]; omega
          generalize eds g (ss.take i) ++ ((g x).take j).map (fun y => (x, y)) = es at hr5 hbd ⊢
          generalize (g x)[j] = y at hp5 hy ⊢
          obtain ⟨m, hm, em⟩ := List.getElem_of_mem (hcl x hxs y hy)
          have hsm : ss[m]? = some y := by rw [List.getElem?_eq_getElem hm, em]
          have hlm : ls'[m]? = some (ls'[m]'(by omega)) := List.getElem?_eq_getElem _
          generalize ls'[m]'(by omega) = lm at hlm
          obtain ⟨qs, hqs, rqs⟩ := hr5.2 m lm y hlm hsm
          have hl5 := gE_len es y
          have hfm := hfr lm (List.mem_of_getElem? hlm)
          have dg := dget_s (.inl hd5) hp5
          rw [lkD_at hlen nd hsm hlm] at dg
          walk_at "rd"
          refine ⟨D, _, rfl, dg, ?_⟩
          walk_at "rd"
          refine ⟨lm, _, _, rfl, rfl, hqs, by rw [List.length_map, rqs.1]; omega, ?_⟩
          refine ⟨_, rfl, s5.put hfm, SAt.put hqs hb5, DAtS.lput hqs hd5, ?_⟩
          exact rows_push hr5 hn2 nd hlm hsm hqs rqs hb5
        · rintro σ H5 ⟨v4, rfl, s5, hb5, hd5, hr5⟩
          rw [List.length_map, ros.1, List.take_length] at hr5
          exact ⟨_, _, _, rfl, s5, hd5, by rw [et]; exact hr5⟩
      · rintro σ H3 ⟨v2, v3, v4, rfl, s3, hd3, hr3⟩
        rw [hkl, List.take_length] at hr3
        walk_at "rd"
        exact k D ls' H3 s3 hD hd3 hr3
end
theorem goL_dom {C : Cl} {s t x y : Sd} (ok : ClOk C) (hx : x ∈ domS C s) (hy : y ∈ goL C x) : y ∈ domS C s := by
  obtain ⟨r, hr, rfl⟩ := mem_dom.mp hx
  unfold goL at hy
  obtain ⟨⟨d, i⟩, hi, rfl⟩ := List.mem_map.mp hy
  obtain ⟨h1, hc⟩ := List.mem_filter.mp hi
  obtain rfl : d = .go := by
    simp only [rowD, List.mem_map] at h1
    obtain ⟨_, _, e⟩ := h1
    exact (congrArg Prod.fst e).symm
  obtain ⟨z, hz, _, _, _, ed⟩ := go_of hc
  have hw := ok.w z (List.mem_of_getElem? hz)
  refine mem_dom.mpr ⟨if (setRm s r).rm = z.a then z.b else z.a, ?_, ?_⟩
  · split
    · exact hw.2.1
    · exact hw.1
  · rw [show doneD C (setRm s r) Wd.go (i : Int) = _ from ed]
    rfl
theorem dom_self {C : Cl} {s : Sd} (h : s.ok C) : s ∈ domS C s := mem_dom.mpr ⟨s.rm, h.hrm, rfl⟩
theorem goL_len {C : Cl} (ok : ClOk C) (x : Sd) : (goL C x).length <= 500 := by
  unfold goL
  rw [List.length_map]
  refine Nat.le_trans (List.length_filter_le _ _) ?_
  rw [rowD_len]
  have := ok.wl
  omega
theorem dom_len (C : Cl) (s : Sd) : (domS C s).length = C.rooms.toNat := by simp [domS]
theorem rch_dom {C : Cl} {s x : Sd} (ok : ClOk C) (h : s.ok C) (r : Rch (GoR C) s x) : x ∈ domS C s := by
  induction r with
  | refl => exact dom_self h
  | step _ r ih => exact goL_dom (t := s) ok ih r
theorem rch_turn {C : Cl} {s x : Sd} (ok : ClOk C) (h : s.ok C) : Rch (fun x y => y ∈ gE (eds (goL C) (domS C s)) x) s x ↔ x ∈ domS C s /\ Rch (GoR C) x s := by
  constructor
  · intro r
    induction r with
    | refl => exact ⟨dom_self h, .refl⟩
    | step _ r ih =>
      obtain ⟨h1, h2⟩ := mem_eds.mp (mem_gE.mp r)
      exact ⟨h1, Rch.head h2 ih.2⟩
  · rintro ⟨hd, r⟩
    have key : ∀ {y : Sd}, Rch (GoR C) x y -> y ∈ domS C s /\ Rch (fun x y => y ∈ gE (eds (goL C) (domS C s)) x) y x := by
      intro y r
      induction r with
      | refl => exact ⟨hd, .refl⟩
      | step _ r ih => exact ⟨goL_dom (t := s) ok ih.1 r, Rch.head (mem_gE.mpr (mem_eds.mpr ⟨ih.1, r⟩)) ih.2⟩
    exact (key r).2
def spRound : Sp := fun vs H Q _ => ∃ (c q : Addr) (C : Cl) (s : Sd), vs = [.ref c, .ref q] /\ ClAt H c C /\ ClOk C /\ SAt H q s /\ s.ok C /\ ∀ (l : Addr) (R : List Sd) (H' : Hp), Same H H' -> H l = none -> LstOf SAt H' l R -> IsR (GoR C) s R -> Q (.ref l) H'
theorem LstOf.pairs {H : Hp} {ps : List Addr} {R : List Sd} (h : Rows SAt H ps R) : ∃ l : List (Addr × List Int), l.map (·.1) = ps /\ l.map (·.2) = R.map Sd.ns /\ ∀ x ∈ l, H x.1 = some (.tup (x.2.map V.int)) /\ x.2.length = 5 := by
  refine ⟨List.zip ps (R.map Sd.ns), ?_, ?_, fun x hx => ?_⟩
  · exact List.map_fst_zip (by rw [List.length_map, h.1]; exact Nat.le_refl _)
  · exact List.map_snd_zip (by rw [List.length_map, h.1]; exact Nat.le_refl _)
  · obtain ⟨i, hi, e⟩ := List.getElem_of_mem hx
    rw [List.length_zip, List.length_map] at hi
    have hi1 : i < ps.length := by omega
    have hi2 : i < R.length := by omega
    have := h.2 i ps[i] R[i] (List.getElem?_eq_getElem hi1) (List.getElem?_eq_getElem hi2)
    rw [List.getElem_zip] at e
    subst e
    simp only [List.getElem_map]
    exact ⟨this, rfl⟩
theorem sorted_sds {H : Hp} {ps : List Addr} {R : List Sd} {l l' : List (Addr × List Int)} (h2 : l.map (·.2) = R.map Sd.ns) (h3 : ∀ x ∈ l, H x.1 = some (.tup (x.2.map V.int)) /\ x.2.length = 5) (hp : l'.Perm l) (hs : l'.Pairwise fun a b => ¬ b.2 < a.2) :
    ∃ R', R'.Perm R /\ Ord R' /\ Rows SAt H (l'.map (·.1)) R' := by
  have ex : ∀ x ∈ l', ∃ s : Sd, x.2 = s.ns := fun x hx => by
    have : x.2 ∈ l.map (·.2) := List.mem_map.mpr ⟨x, hp.mem_iff.mp hx, rfl⟩
    rw [h2] at this
    obtain ⟨s, _, e⟩ := List.mem_map.mp this
    exact ⟨s, e.symm⟩
  obtain ⟨R', hR⟩ : ∃ R' : List Sd, l'.map (·.2) = R'.map Sd.ns := by
    clear hp hs
    induction l' with
    | nil => exact ⟨[], rfl⟩
    | cons x l' ih =>
      obtain ⟨R', e⟩ := ih fun y hy => ex y (List.mem_cons_of_mem _ hy)
      obtain ⟨s, es⟩ := ex x (.head _)
      exact ⟨s :: R', by simp [e, es]⟩
  have pm : (R'.map Sd.ns).Perm (R.map Sd.ns) := by rw [<- hR, <- h2]; exact hp.map _
  refine ⟨R', ?_, ?_, ?_⟩
  · have inv : ∀ l : List Sd, (l.map Sd.ns).map (fun k : List Int => (⟨k.getD 0 0, k.getD 1 0, k.getD 2 0, k.getD 3 0, k.getD 4 0⟩ : Sd)) = l := fun l => by
      rw [List.map_map]
      exact (List.map_congr_left fun a _ => rfl).trans (List.map_id l)
    have := pm.map fun k : List Int => (⟨k.getD 0 0, k.getD 1 0, k.getD 2 0, k.getD 3 0, k.getD 4 0⟩ : Sd)
    rwa [inv, inv] at this
  · have : (l'.map (·.2)).Pairwise fun a b => ¬ b < a := List.pairwise_map.mpr hs
    rw [hR] at this
    exact List.pairwise_map.mp this
  · have hl : l'.length = R'.length := by have := congrArg List.length hR; simpa using this
    refine ⟨by simpa using hl, fun i p x hp' hx => ?_⟩
    have hi : i < R'.length := (List.getElem?_eq_some_iff.mp hx).1
    have e1 : l'[i]'(by omega) ∈ l' := List.getElem_mem _
    have e2 := (h3 _ (hp.mem_iff.mp e1)).1
    have e3 : (l'[i]'(by omega)).1 = p := by simpa [show i < l'.length by omega] using hp'
    have e4 : (l'[i]'(by omega)).2 = x.ns := by
      have := congrArg (fun z => z[i]?) hR
      simp only [List.getElem?_map, hx, List.getElem?_eq_getElem (show i < l'.length by omega), Option.map_some] at this
      exact Option.some.inj this
    rw [e3, e4] at e2
    exact e2
section
variable {P : Program} {w : World} {K : W.Frag} {mg : Str -> Option Value} {base : Heap} {cs : Cs}
theorem ok_round (T : Txt mg cs) (L : Laid K mg "round_of" s_round_of ["cellar", "stand"]) (C_go_links : Cal P w K mg base 8 "go_links" ["cellar", "stand"] spGL) (C_counts_from : Cal P w K mg base 1 "counts_from" ["begins", "links"] spCF) (C_turned_links : Cal P w K mg base 1 "turned_links" ["links"] spTL) : Cal P w K mg base 9 "round_of" ["cellar", "stand"] spRound := by
  refine L.cal (k := 8) sc_round_of (fun vs H Q E h => ?_) (fun f cdv A outer s H vs Q E hr h => ?_)
  · obtain ⟨c, q, C, st, rfl, _⟩ := h
    rfl
  · obtain ⟨c, q, C, st, rfl, hC, ok, hq, sok, k⟩ := h
    have big := line_big
    have ok1 := ok.r1
    have ok2 := ok.r2
    have hdl := dom_len C st
    have nd := dom_nodup C st
    refine ⟨_, (pss_cons (ps_set (i := 2) sc_round_of.nd rfl (Or.inl rfl) (pe_cal C_go_links hr (by decide) rfl (pa_cons (pv 0) (pa_cons (pv 1) pa_nil))))
      (pss_cons (ps_hold (ps_set (i := 3) sc_round_of.nd rfl (Or.inl rfl) (pe_cal C_counts_from hr (by decide) rfl (pa_cons (pe_lst (pa_cons (pv 1) pa_nil)) (pa_cons (pv 2) pa_nil)))))
      (pss_cons (ps_set (i := 4) sc_round_of.nd rfl (Or.inr rfl) (pe_cal C_counts_from hr (by decide) rfl (pa_cons (pe_lst (pa_cons (pv 1) pa_nil)) (pa_cons (pe_cal C_turned_links hr (by decide) rfl (pa_cons (pv 2) pa_nil)) pa_nil))))
      (pss_one (ps_hold (ps_ret (pe_callB (sortTK K) rfl T.n_sorted bt_sorted (pa_cons (pe_comp (compOk (N := ["other", "gone_from"]) (own := 1) (caps := [4]) ["cellar", "stand", "links", "gone_to", "gone_from"] (defScope s_round_of) (by decide +kernel)) rfl (pi_dkK K (pv 3)) (fun _ _ _ _ => (pg_name (i := 0) (show List.Nodup (["other", "gone_from"] : List Str) by decide +kernel) rfl (Or.inl rfl))) (fun _ _ _ _ => (pf_one (pt_cmp (pc_din (hu1_of hr) (pv 0) (pv 1))))) (fun _ _ _ _ => (pv 0))) pa_nil)))))))), ?_⟩
    walk_at "rd"
    refine ⟨c, q, C, st, rfl, hC, ok, hq, sok, fun a ls H1 s1 ha0 ha hrw => ?_⟩
    walk_at "rd"
    refine ⟨a, _, ha, fun o => ?_⟩
    have s2 : Same H (upd H1 a (.frz o (.dT (dkv (lkD (domS C st) ls))))) := s1.put ha0
    have ha2 := upd_same (H := H1) (a := a) (o := .frz o (.dT (dkv (lkD (domS C st) ls))))
    have hrw2 : Rows (LAt (goL C)) (upd H1 a (.frz o (.dT (dkv (lkD (domS C st) ls))))) ls (domS C st) := hrw.mono fun _ _ => LAt.dput ha
    generalize upd H1 a (.frz o (.dT (dkv (lkD (domS C st) ls)))) = H2 at s2 ha2 hrw2 ⊢
    walk_at "rd"
    intro b1 hb1
    have s3 := Same.upd (o := .lst [.ref q]) hb1
    have h3 := upd_same (H := H2) (a := b1) (o := .lst [.ref q])
    generalize upd H2 b1 (.lst [.ref q]) = H3 at s3 h3 ⊢
    have s03 := s2.trans s3
    walk_at "rd"
    refine ⟨b1, a, st, domS C st, goL C, ls, rfl, ⟨[q], h3, Rows.nil.snoc (s03 _ _ hq)⟩, .inr ⟨o, s3 _ _ ha2⟩, hrw2.mono fun _ _ => LAt.mono s3, nd, dom_self sok, fun x hx y hy => goL_dom (t := st) ok hx hy, by omega, fun d1 row1 ns1 H4 s4 hd1f hd1 hns1 nd1 sub1 mem1 => ?_⟩
    have s04 := s03.trans s4
    walk_at "rd"
    intro b2 hb2
    have s5 := Same.upd (o := .lst [.ref q]) hb2
    have h5 := upd_same (H := H4) (a := b2) (o := .lst [.ref q])
    generalize upd H4 b2 (.lst [.ref q]) = H5 at s5 h5 ⊢
    have s35 := s3.trans (s4.trans s5)
    have s05 := s2.trans s35
    walk_at "rd"
    refine ⟨a, o, domS C st, goL C, ls, rfl, s35 _ _ ha2, hrw2.mono fun _ _ => LAt.mono s35, nd, fun x hx y hy => goL_dom (t := st) ok hx hy, by omega, fun x _ => goL_len ok x, fun t ls' H6 s6 ht0 ht hrt => ?_⟩
    have s06 := s05.trans s6
    walk_at "rd"
    refine ⟨b2, t, st, domS C st, gE (eds (goL C) (domS C st)), ls', rfl, ⟨[q], s6 _ _ h5, Rows.nil.snoc (s06 _ _ hq)⟩, .inl ht, hrt, nd, dom_self sok, fun x hx y hy => (mem_eds.mp (mem_gE.mp hy)).1, by omega, fun d2 row2 ns2 H7 s7 hd2f hd2 hns2 nd2 sub2 mem2 => ?_⟩
    have s07 := s06.trans s7
    have hd1' : DAtS H7 d1 (cnD row1 ns1) := s7 _ _ (s6 _ _ (s5 _ _ hd1))
    have hd10 : H d1 = none := s03.free hd1f
    have ne12 : d2 ≠ d1 := fun z => by subst z; have := s6 _ _ (s5 _ _ hd1); rw [hd2f] at this; cases this
    walk_at "rd"
    refine ⟨d1, _, hd1', fun o1 => ?_⟩
    have s8 : Same H (upd H7 d1 (.frz o1 (.dT (dkv (cnD row1 ns1))))) := s07.put hd10
    have h8 := upd_same (H := H7) (a := d1) (o := .frz o1 (.dT (dkv (cnD row1 ns1))))
    have hd8 : DAtS (upd H7 d1 (.frz o1 (.dT (dkv (cnD row1 ns1))))) d2 (cnD row2 ns2) := by
      show upd H7 d1 _ d2 = _
      rw [upd_ne ne12]; exact hd2
    generalize upd H7 d1 (.frz o1 (.dT (dkv (cnD row1 ns1)))) = H8 at s8 h8 hd8 ⊢
    have hl1 : row1.length <= 14 := by have := sub_len nd1 sub1; omega
    have hkl : (dkv (cnD row1 ns1)).length = row1.length := by rw [show (dkv (cnD row1 ns1)).length = (cnD row1 ns1).length by simp [dkv], cnD_len hns1]
    walk_at "rd"
    refine ⟨d1, o1, _, rfl, h8, fun D hD => ?_⟩
    refine comp_dk (fun i σ H' => ∃ v0, σ = [v0, some (.ref d2)] /\ Same H8 H' /\ LstOf SAt H' D ((row1.take i).filter fun x => decide (x ∈ row2))) ⟨none, rfl, Same.upd hD, ⟨[], upd_same, Rows.nil⟩⟩ ?_ ?_ ?_
    · rintro i σ H' ⟨v0, rfl, s9, _⟩
      exact s9 _ _ h8
    · rintro i b p σ H' hp hb ⟨v0, rfl, s9, qs, hqs, rqs⟩
      have hi : i < row1.length := by have := (List.getElem?_eq_some_iff.mp hp).1; omega
      have hp' : p.1 = row1[i].key := by
        have e : (cnD row1 ns1)[i]? = some (row1[i], .int (ns1[i]'(by omega))) := by unfold cnD; rw [List.getElem?_zipWith, List.getElem?_eq_getElem hi, List.getElem?_eq_getElem (by omega)]
        rw [dkv, List.getElem?_map, e] at hp
        rw [<- Option.some.inj hp]
      have hb' : SAt H' b row1[i] := by rw [hp'] at hb; exact hb
      have hd9 : DAtS H' d2 (cnD row2 ns2) := s9 _ _ hd8
      have hql : qs.length <= 14 := by rw [rqs.1]; refine Nat.le_trans (List.length_filter_le _ _) ?_; rw [List.length_take]; omega
      rw [List.take_succ_eq_append_getElem hi, List.filter_append]
      walk_at "rd"
      refine ⟨d2, _, rfl, dget_s (.inl hd9) hb', ?_⟩
      rw [dat_isSome, cnD_keys hns2]
      walk_at "rd"
      by_cases hin : row1[i] ∈ row2
      · rw [decide_eq_true hin]
        walk_at "rd"
        refine ⟨_, hqs, by rw [List.length_map]; omega, _, rfl, s9.put hD, ?_⟩
        rw [show ([row1[i]].filter fun x => decide (x ∈ row2)) = [row1[i]] by simp [hin]]
        exact lst_snoc (fun _ _ => SAt.put hqs) rqs hb'
      · rw [decide_eq_false hin]
        walk_at "rd"
        refine ⟨_, rfl, s9, qs, hqs, ?_⟩
        rw [show ([row1[i]].filter fun x => decide (x ∈ row2)) = [] by simp [hin], List.append_nil]
        exact rqs
    · rintro σ H9 ⟨v0, rfl, s9, ps, hps, rps⟩
      rw [hkl, List.take_length] at rps
      have hpl : ps.length <= 14 := by rw [rps.1]; exact Nat.le_trans (List.length_filter_le _ _) hl1
      obtain ⟨l, e1, e2, e3⟩ := LstOf.pairs rps
      walk_at "rd"
      refine ⟨D, l, 5, rfl, SqL.of (by rw [hps, <- e1, List.map_map]; rfl), ?_, by decide, e3, fun r l' hr0 hp hs => ?_⟩
      · have := congrArg List.length e1
        rw [List.length_map] at this
        omega
      · obtain ⟨R', pm, od, rr⟩ := sorted_sds (ps := ps) e2 e3 hp hs
        have s10 := Same.upd (o := .lst (l'.map fun x => V.ref x.1)) hr0
        have s0x := s8.trans s9
        refine k r R' _ (s0x.trans s10) (s0x.free hr0) ⟨l'.map (·.1), by rw [upd_same, List.map_map]; rfl, rr.mono fun _ _ => SAt.mono s10.ts⟩ ⟨?_, od, fun t => ?_⟩
        · exact pm.nodup_iff.mpr (nd1.filter _)
        · rw [pm.mem_iff, List.mem_filter, decide_eq_true_eq, mem1, mem2, rch_turn ok sok]
          exact ⟨fun ⟨a, _, b⟩ => ⟨a, b⟩, fun ⟨a, b⟩ => ⟨a, rch_dom ok sok a, b⟩⟩
end
theorem ways_of {r : Int} {H : Hp} : ∀ {xs : List V}, (∀ x ∈ xs, WayOk r H x) -> ∃ (ps : List Addr) (ws : List Way), xs = ps.map V.ref /\ Rows WayAt H ps ws /\ ∀ x ∈ ws, (0 <= x.a /\ x.a < r) /\ (0 <= x.b /\ x.b < r) /\ x.a ≠ x.b /\ x.g.ok
  | [], _ => ⟨[], [], rfl, Rows.nil, fun x h => nomatch h⟩
  | x :: xs, h => by
    obtain ⟨ps, ws, e, hr, hw⟩ := ways_of fun y hy => h y (List.mem_cons_of_mem _ hy)
    obtain ⟨p, g, a, b, bk, gt, ex, h1, h2, h3, h4, h5, h6⟩ := h x (.head _)
    refine ⟨p :: ps, ⟨a, b, gt, bk⟩ :: ws, by rw [ex, e]; rfl, ⟨by simp [hr.1], fun i q y hq hy => ?_⟩, fun y hy => ?_⟩
    · cases i with
      | zero => cases hq; cases hy; exact ⟨g, h1, h2⟩
      | succ i => exact hr.2 i q y hq hy
    · rcases List.mem_cons.mp hy with rfl | hy
      · exact ⟨h4, h5, h6, h3⟩
      · exact hw y hy
theorem pairs_of {r lo hi : Int} {H : Hp} : ∀ {xs : List V}, (∀ x ∈ xs, PairOk r lo hi H x) -> ∃ (ps : List Addr) (ws : List (Int × Int)), xs = ps.map V.ref /\ Rows PairAt H ps ws /\ ∀ x ∈ ws, (0 <= x.1 /\ x.1 < r) /\ lo <= x.2 /\ x.2 <= hi
  | [], _ => ⟨[], [], rfl, Rows.nil, fun x h => nomatch h⟩
  | x :: xs, h => by
    obtain ⟨ps, ws, e, hr, hw⟩ := pairs_of fun y hy => h y (List.mem_cons_of_mem _ hy)
    obtain ⟨p, a, n, ex, h1, h2, h3⟩ := h x (.head _)
    refine ⟨p :: ps, (a, n) :: ws, by rw [ex, e]; rfl, ⟨by simp [hr.1], fun i q y hq hy => ?_⟩, fun y hy => ?_⟩
    · cases i with
      | zero => cases hq; cases hy; exact h1
      | succ i => exact hr.2 i q y hq hy
    · rcases List.mem_cons.mp hy with rfl | hy
      · exact ⟨h2, h3⟩
      · exact hw y hy
theorem cl_made {H : Hp} {p p1 p2 p3 p4 : Addr} {r f l b wt : Int} {x1 x2 x3 x4 : List V} (h0 : 1 <= r /\ r <= 14) (hf : 0 <= f /\ f < r) (hl : 0 <= l /\ l < r) (hb : 0 <= b /\ b < 256) (hw : 0 <= wt /\ wt < 10) (hp : H p = some (.tup [.int r, .int f, .int l, .ref p1, .ref p2, .ref p3, .ref p4, .int b, .int wt])) (e1 : H p1 = some (.tup x1)) (e2 : H p2 = some (.tup x2)) (e3 : H p3 = some (.tup x3)) (e4 : H p4 = some (.tup x4))
    (w1 : ∀ x ∈ x1, WayOk r H x) (w2 : ∀ x ∈ x2, PairOk r 0 11 H x) (w3 : ∀ x ∈ x3, PairOk r 1 255 H x) (w4 : ∀ x ∈ x4, PairOk r 0 9 H x) (l1 : x1.length <= 20) (l2 : x2.length <= 8) (l3 : x3.length <= 4) (l4 : x4.length <= 4) : ∃ C, ClAt H p C /\ ClOk C := by
  obtain ⟨q1, ws, rfl, r1, k1⟩ := ways_of w1
  obtain ⟨q2, ts, rfl, r2, k2⟩ := pairs_of w2
  obtain ⟨q3, vs, rfl, r3, k3⟩ := pairs_of w3
  obtain ⟨q4, us, rfl, r4, k4⟩ := pairs_of w4
  rw [List.length_map] at l1 l2 l3 l4
  have n1 := r1.1
  have n2 := r2.1
  have n3 := r3.1
  have n4 := r4.1
  exact ⟨⟨r, f, l, ws, ts, vs, us, b, wt⟩, ⟨p1, p2, p3, p4, hp, ⟨q1, e1, r1⟩, ⟨q2, e2, r2⟩, ⟨q3, e3, r3⟩, ⟨q4, e4, r4⟩⟩,
    { r1 := h0.1, r2 := h0.2, f := hf, l := hl, wl := by show ws.length <= 20; omega, tl := by show ts.length <= 8; omega, ll := by show vs.length <= 4; omega, vl := by show us.length <= 4; omega, w := k1, t := fun x hx => ⟨(k2 x hx).1, by have := (k2 x hx).2; omega, by have := (k2 x hx).2; omega⟩, lv := fun x hx => ⟨(k3 x hx).1, by have := (k3 x hx).2; omega, by have := (k3 x hx).2; omega⟩, wh := fun x hx => ⟨(k4 x hx).1, by have := (k4 x hx).2; omega, by have := (k4 x hx).2; omega⟩, b := by show 0 <= b /\ b <= 255; omega, wa := by show 0 <= wt /\ wt <= 9; omega }⟩
section
variable {P : Program} {w : World} {K : W.Frag} {mg : Str -> Option Value} {base : Heap} {cs : Cs}
theorem ok_gateL (T : Txt mg cs) (L : Laid K mg "_law_gate" s__law_gate ["_law_cell"]) : Cal P w K mg base 1 "_law_gate" ["_law_cell"] spGate := by
  refine L.cal (k := 0) sc__law_gate (fun vs H Q E h => ?_) (fun f cdv A outer s H vs Q E hr h => ?_)
  · obtain ⟨c, rfl, _⟩ := h
    rfl
  · obtain ⟨c, rfl, k⟩ := h
    have a2 := mod_lo (c / 10) (n := 2) (by decide)
    have a2' := mod_hi (c / 10) (n := 2) (by decide)
    have a3 := mod_lo (c / 10) (n := 3) (by decide)
    have a3' := mod_hi (c / 10) (n := 3) (by decide)
    have b2 := mod_lo (c / 10 / 3) (n := 2) (by decide)
    have b2' := mod_hi (c / 10 / 3) (n := 2) (by decide)
    have door : ∀ p, H p = none -> Q (.ref p) (upd H p (.tup [.str "door", .int (c / 10 % 2)])) := fun p hp => k p (.door (c / 10 % 2)) _ (Same.upd hp) (show 0 <= c / 10 % 2 /\ c / 10 % 2 < 12 by omega) upd_same
    refine ⟨_, (pss_cons (ps_set (i := 1) sc__law_gate.nd rfl (Or.inl rfl) (pe_op op_mod (pv 0) pe_int))
      (pss_cons (ps_set (i := 0) sc__law_gate.nd rfl (Or.inl rfl) (pe_op op_fdiv (pv 0) pe_int))
      (pss_cons (ps_if (PW.pt (pw_or (pt_cmpR op_eq (pv 1) pe_int (nomark _)) (pw_or1 (pt_cmpR op_eq (pv 1) pe_int (nomark _))))) (pss_one (ps_ret (pe_tup (pa_cons pe_str (pa_cons (pe_op op_mod (pv 0) pe_int) pa_nil))))) pss_nil)
      (pss_cons (ps_if (pt_cmpR op_eq (pv 1) pe_int (nomark _)) (pss_one (ps_ret (pe_tup (pa_cons pe_str (pa_cons (pe_op op_mod (pv 0) pe_int) pa_nil))))) pss_nil)
      (pss_cons (ps_if (pt_cmpR op_eq (pv 1) pe_int (nomark _)) (pss_one (ps_ret (pe_tup (pa_cons pe_str (pa_cons (pe_op op_mod (pv 0) pe_int) pa_nil))))) pss_nil)
      (pss_cons (ps_if (pt_cmpR op_eq (pv 1) pe_int (nomark _)) (pss_one (ps_ret (pe_tup (pa_cons pe_str (pa_cons (pe_op op_add (pe_op op_mod (pv 0) pe_int) pe_int) (pa_cons (pe_op op_mod (pe_op op_fdiv (pv 0) pe_int) pe_int) pa_nil)))))) pss_nil)
      (pss_cons (ps_if (pt_cmpR op_eq (pv 1) pe_int (nomark _)) (pss_one (ps_ret (pe_tup (pa_cons pe_str (pa_cons (pe_op op_add (pe_op op_mod (pv 0) pe_int) pe_int) pa_nil))))) pss_nil)
      (pss_one (ps_ret (pe_tup (pa_cons pe_str pa_nil))))))))))), ?_⟩
    walk_at "rd"
    refine ifd (fun h1 => ?_) (fun h1 => ?_)
    · walk_at "rd"
      exact door
    walk_at "rd"
    refine ifd (fun h2 => ?_) (fun h2 => ?_)
    · walk_at "rd"
      exact door
    walk_at "rd"
    refine ifd (fun h3 => ?_) (fun h3 => ?_)
    · walk_at "rd"
      exact fun p hp => k p (.need (c / 10 % 2)) _ (Same.upd hp) (show 0 <= c / 10 % 2 /\ c / 10 % 2 < 12 by omega) upd_same
    walk_at "rd"
    refine ifd (fun h4 => ?_) (fun h4 => ?_)
    · walk_at "rd"
      exact fun p hp => k p (.bar (c / 10 % 2)) _ (Same.upd hp) (show 0 <= c / 10 % 2 /\ c / 10 % 2 < 8 by omega) upd_same
    walk_at "rd"
    refine ifd (fun h5 => ?_) (fun h5 => ?_)
    · walk_at "rd"
      exact fun p hp => k p (.wade (c / 10 % 3 + 2) (c / 10 / 3 % 2)) _ (Same.upd hp) (show (0 <= c / 10 % 3 + 2 /\ c / 10 % 3 + 2 < 10) /\ 0 <= c / 10 / 3 % 2 /\ c / 10 / 3 % 2 < 12 by omega) upd_same
    walk_at "rd"
    refine ifd (fun h6 => ?_) (fun h6 => ?_)
    · walk_at "rd"
      exact fun p hp => k p (.float (c / 10 % 3 + 2)) _ (Same.upd hp) (show 0 <= c / 10 % 3 + 2 /\ c / 10 % 3 + 2 < 10 by omega) upd_same
    walk_at "rd"
    exact fun p hp => k p .plain _ (Same.upd hp) trivial upd_same
def spCelL (K : W.Frag) : Sp := fun vs H Q _ => ∃ (a : Addr) (ns : List Int), vs = [.ref a] /\ SqL K H a (ns.map V.int) /\ ns.length <= 63 /\ ∀ (p : Addr) (C : Cl) (H' : Hp), Same H H' -> ClAt H' p C -> ClOk C -> Q (.ref p) H'
theorem ok_celL {d1 d2 : Tok} (T : Txt mg cs) (L : Laid K mg "_law_cellar" s__law_cellar ["_law_script"]) (C__law_cell_at : Cal P w K mg base 1 "_law_cell_at" ["_law_script", "_law_k"] (spCellA K)) (C__law_gate : Cal P w K mg base 1 "_law_gate" ["_law_cell"] spGate) (C_cellar : CalD P w K mg base 4 "cellar" ["rooms", "first", "last", "ways", "things", "levers", "wheels", "bars", "water"] spMkC s_cellar [.none, .none, .none, .int 0 d1, .int 0 d2]) : Cal P w K mg base 5 "_law_cellar" ["_law_script"] (spCelL K) := by
  refine L.cal (k := 4) sc__law_cellar (fun vs H Q E h => ?_) (fun f cdv A outer s H vs Q E hr h => ?_)
  · obtain ⟨a, ns, rfl, _⟩ := h
    rfl
  · obtain ⟨a, ns, rfl, hS, hl, k⟩ := h
    have big := line_big
    refine ⟨_, (pss_cons (ps_set (i := 1) sc__law_cellar.nd rfl (Or.inl rfl) (pe_cal C__law_cell_at hr (by decide) rfl (pa_cons (pv 0) (pa_cons pe_int pa_nil))))
      (pss_cons (ps_set (i := 2) sc__law_cellar.nd rfl (Or.inr rfl) (pe_op op_add pe_int (pe_op op_mod (pv 1) pe_int)))
      (pss_cons (ps_set (i := 3) sc__law_cellar.nd rfl (Or.inl rfl) (pe_lst pa_nil))
      (pss_cons (ps_for PassesOwn.never rfl (pi_range1 rfl T.n_range (pa_cons (pe_op op_mul (pe_op op_mod (pe_op op_fdiv (pv 1) pe_int) pe_int) (pe_callTy int1 rfl T.n_int bt_int (pa_cons (pe_cmpR op_gt (pv 2) pe_int (nomark _)) pa_nil))) pa_nil)) (pg_name (i := 4) sc__law_cellar.nd rfl (Or.inl rfl)) (pss_cons (ps_set (i := 5) sc__law_cellar.nd rfl (Or.inl rfl) (pe_cal C__law_cell_at hr (by decide) rfl (pa_cons (pv 0) (pa_cons (pe_op op_add pe_int (pv 4)) pa_nil))))
      (pss_cons (ps_set (i := 6) sc__law_cellar.nd rfl (Or.inl rfl) (pe_op op_mod (pv 5) (pv 2)))
      (pss_cons (ps_set (i := 7) sc__law_cellar.nd rfl (Or.inl rfl) (pe_op op_mod (pe_op op_add (pe_op op_add (pv 6) pe_int) (pe_op op_mod (pe_op op_fdiv (pv 5) pe_int) (pe_op op_sub (pv 2) pe_int))) (pv 2)))
      (pss_one (ps_expr (pe_bm PySem.F.plainAttrs_list PySem.F.slot_list_append PySem.F.type_list_append mt_append (pv 3) (pa_cons (pe_tup (pa_cons (pv 6) (pa_cons (pv 7) (pa_cons (pe_cal C__law_gate hr (by decide) rfl (pa_cons (pe_op op_fdiv (pv 5) pe_int) pa_nil)) (pa_cons (pe_cmpR op_gt (pe_op op_mod (pe_op op_fdiv (pv 5) pe_int) pe_int) pe_int (nomark _)) pa_nil))))) pa_nil))))))))
      (pss_cons (ps_set (i := 8) sc__law_cellar.nd rfl (Or.inr rfl) (pe_comp (compOk (N := ["_law_k", "_law_script"]) (own := 1) (caps := [0]) ["_law_script", "_law_first", "_law_rooms", "_law_ways", "_law_k", "_law_cell", "_law_a", "_law_b", "_law_some", "_law_things", "_law_levers", "_law_wheels", "_law_last", "_law_more"] (defScope s__law_cellar) (by decide +kernel)) rfl (pi_range1 rfl T.n_range (pa_cons pe_int pa_nil)) (fun _ _ _ _ => (pg_name (i := 0) (show List.Nodup (["_law_k", "_law_script"] : List Str) by decide +kernel) rfl (Or.inl rfl))) (fun _ _ _ _ => pf_nil) (fun _ _ _ _ => (pe_cal C__law_cell_at hr (by decide) rfl (pa_cons (pv 1) (pa_cons (pe_op op_add pe_int (pv 0)) pa_nil))))))
      (pss_cons (ps_comp (i := 9) sc__law_cellar.nd rfl rfl (compOk (N := ["_law_k", "_law_some", "_law_rooms"]) (own := 1) (caps := [8, 2]) ["_law_script", "_law_first", "_law_rooms", "_law_ways", "_law_k", "_law_cell", "_law_a", "_law_b", "_law_some", "_law_things", "_law_levers", "_law_wheels", "_law_last", "_law_more"] (defScope s__law_cellar) (by decide +kernel)) rfl (pi_range1 rfl T.n_range (pa_cons (pe_op op_mod (pe_op op_fdiv (pv 1) pe_int) pe_int) pa_nil)) (fun _ _ _ _ => (pg_name (i := 0) (show List.Nodup (["_law_k", "_law_some", "_law_rooms"] : List Str) by decide +kernel) rfl (Or.inl rfl))) (fun _ _ _ _ => pf_nil) (fun _ _ _ _ => (pe_tup (pa_cons (pe_op op_mod (pe_ix (ix_listK K) (pv 1) (pv 0) (fun _ _ => rfl)) (pv 2)) (pa_cons (pe_op op_mod (pe_op op_fdiv (pe_ix (ix_listK K) (pv 1) (pv 0) (fun _ _ => rfl)) pe_int) pe_int) pa_nil)))))
      (pss_cons (ps_comp (i := 10) sc__law_cellar.nd rfl rfl (compOk (N := ["_law_k", "_law_some", "_law_rooms"]) (own := 1) (caps := [8, 2]) ["_law_script", "_law_first", "_law_rooms", "_law_ways", "_law_k", "_law_cell", "_law_a", "_law_b", "_law_some", "_law_things", "_law_levers", "_law_wheels", "_law_last", "_law_more"] (defScope s__law_cellar) (by decide +kernel)) rfl (pi_range1 rfl T.n_range (pa_cons (pe_op op_mod (pe_op op_fdiv (pv 1) pe_int) pe_int) pa_nil)) (fun _ _ _ _ => (pg_name (i := 0) (show List.Nodup (["_law_k", "_law_some", "_law_rooms"] : List Str) by decide +kernel) rfl (Or.inl rfl))) (fun _ _ _ _ => pf_nil) (fun _ _ _ _ => (pe_tup (pa_cons (pe_op op_mod (pe_op op_fdiv (pe_ix (ix_listK K) (pv 1) (pv 0) (fun _ _ => rfl)) pe_int) (pv 2)) (pa_cons (pe_op op_add pe_int (pe_op op_mod (pe_op op_fdiv (pe_ix (ix_listK K) (pv 1) (pv 0) (fun _ _ => rfl)) pe_int) pe_int)) pa_nil)))))
      (pss_cons (ps_comp (i := 11) sc__law_cellar.nd rfl rfl (compOk (N := ["_law_k", "_law_some", "_law_rooms"]) (own := 1) (caps := [8, 2]) ["_law_script", "_law_first", "_law_rooms", "_law_ways", "_law_k", "_law_cell", "_law_a", "_law_b", "_law_some", "_law_things", "_law_levers", "_law_wheels", "_law_last", "_law_more"] (defScope s__law_cellar) (by decide +kernel)) rfl (pi_range1 rfl T.n_range (pa_cons (pe_op op_fdiv (pe_op op_mod (pe_op op_fdiv (pv 1) pe_int) pe_int) pe_int) pa_nil)) (fun _ _ _ _ => (pg_name (i := 0) (show List.Nodup (["_law_k", "_law_some", "_law_rooms"] : List Str) by decide +kernel) rfl (Or.inl rfl))) (fun _ _ _ _ => pf_nil) (fun _ _ _ _ => (pe_tup (pa_cons (pe_op op_mod (pe_op op_fdiv (pe_ix (ix_listK K) (pv 1) (pv 0) (fun _ _ => rfl)) pe_int) (pv 2)) (pa_cons (pe_op op_mod (pe_op op_fdiv (pe_ix (ix_listK K) (pv 1) (pv 0) (fun _ _ => rfl)) pe_int) pe_int) pa_nil)))))
      (pss_cons (ps_set (i := 12) sc__law_cellar.nd rfl (Or.inl rfl) (pe_op op_mod (pe_cal C__law_cell_at hr (by decide) rfl (pa_cons (pv 0) (pa_cons pe_int pa_nil))) (pv 2)))
      (pss_cons (ps_set (i := 13) sc__law_cellar.nd rfl (Or.inl rfl) (pe_cal C__law_cell_at hr (by decide) rfl (pa_cons (pv 0) (pa_cons pe_int pa_nil))))
      (pss_one (ps_ret (pe_calD C_cellar (bd_cellar_9 d1 d2) (dv_cellar_9 d1 d2) hr (by decide) rfl (pa_cons (pv 2) (pa_cons (pe_op op_mod (pv 13) (pv 2)) (pa_cons (pv 12) (pa_cons (pv 3) (pa_cons (pv 9) (pa_cons (pv 10) (pa_cons (pv 11) (pa_cons (pe_op op_mod (pe_op op_fdiv (pv 13) pe_int) pe_int) (pa_cons (pe_op op_mod (pe_op op_fdiv (pv 13) pe_int) pe_int) pa_nil)))))))))))))))))))))), ?_⟩
    walk_at "rd"
    refine ⟨a, ns, 0, rfl, hS, hl, by decide, ?_⟩
    generalize ns.getD (0 : Int).toNat 0 = n0
    have r0 := mod_lo n0 (n := 5) (by decide)
    have r1 := mod_hi n0 (n := 5) (by decide)
    have m0 := mod_lo (n0 / 5) (n := 5) (by decide)
    have m1 := mod_hi (n0 / 5) (n := 5) (by decide)
    walk_at "rd"
    intro W hW
    generalize hR : 1 + n0 % 5 = R
    have hSW := (Same.upd (o := .lst []) hW).seq hS
    walk_at "rd"
    obtain ⟨N, eN, hN4, hN1⟩ : ∃ N : Nat, (n0 / 5 % 5 * if decide (1 < R) = true then 1 else 0) = (N : Int) /\ N <= 4 /\ (0 < N -> 1 < R) := by
      by_cases h : 1 < R
      · rw [decide_eq_true h, if_pos rfl, Int.mul_one]
        exact ⟨(n0 / 5 % 5).toNat, by omega, by omega, fun _ => h⟩
      · rw [decide_eq_false h, if_neg (by decide), Int.mul_zero]
        exact ⟨0, rfl, by omega, fun h => absurd h (by decide)⟩
    rw [eN]
    refine r_rg (by omega) ?_
    have hR1 : 1 <= R := by omega
    have hR5 : R <= 5 := by omega
    refine for_rng (fun i σ H' => ∃ v4 v5 v6 v7, σ = [some (.ref a), some (.int n0), some (.int R), some (.ref W), v4, v5, v6, v7, none, none, none, none, none, none] /\ Same H H' /\ ∃ xs, H' W = some (.lst xs) /\ xs.length <= i /\ ∀ x ∈ xs, WayOk R H' x) ⟨none, none, none, none, rfl, Same.upd hW, [], upd_same, Nat.le_refl _, fun x hx => by cases hx⟩ ?_ ?_
    · rintro i σ H' hi ⟨v4, v5, v6, v7, rfl, s1, xs, hx1, hxl, hok⟩
      have hi' : i < N := by simpa using hi
      have hR2 := hN1 (by omega)
      walk_at "rd"
      refine ⟨a, ns, _, rfl, s1.seq hS, hl, by omega, ?_⟩
      generalize ns.getD _ 0 = m
      have a0 := mod_lo m (n := R) (by omega)
      have a1 := mod_hi m (n := R) (by omega)
      have d0 := mod_lo (m / 5) (n := R - 1) (by omega)
      have d1 := mod_hi (m / 5) (n := R - 1) (by omega)
      have b0 := mod_lo (m % R + 1 + m / 5 % (R - 1)) (n := R) (by omega)
      have b1 := mod_hi (m % R + 1 + m / 5 % (R - 1)) (n := R) (by omega)
      have hab : m % R ≠ (m % R + 1 + m / 5 % (R - 1)) % R := by
        rw [Int.add_assoc]
        exact fun z => off_ne a0 a1 (by omega) (by omega) z.symm
      walk_at "rd"
      refine ⟨_, rfl, fun g gt H2 s2 gok hg => ?_⟩
      walk_at "rd"
      intro p hp
      have hD2 := up_keep (o := .tup [.int (m % R), .int ((m % R + 1 + m / 5 % (R - 1)) % R), .ref g, .bl (decide (0 < m / 7 % 4))]) (s2 _ _ hx1) hp
      walk_at "rd"
      refine r_app hD2 (by omega) ?_
      have ts2 := (s2.ts.trans (TSame.new (o := .tup [.int (m % R), .int ((m % R + 1 + m / 5 % (R - 1)) % R), .ref g, .bl (decide (0 < m / 7 % 4))]) hp)).trans (TSame.lst (o := .lst (xs ++ [.ref p])) hD2)
      refine ⟨_, _, _, _, rfl, ((s1.trans s2).trans (Same.upd hp)).put hW, _, upd_same, by rw [List.length_append]; simp only [List.length_singleton]; omega, fun x hx => ?_⟩
      rcases List.mem_append.mp hx with hx | hx
      · exact WayOk.mono ts2 (hok x hx)
      · obtain rfl := List.mem_singleton.mp hx
        exact ⟨p, g, _, _, _, _, rfl, TSame.lst (o := .lst (xs ++ [.ref p])) hD2 _ _ upd_same, (TSame.lst (o := .lst (xs ++ [.ref p])) hD2) _ _ (up_keep hg hp), gok, ⟨a0, a1⟩, ⟨b0, b1⟩, hab⟩
    · rintro σ H1 ⟨v4, v5, v6, v7, rfl, s1, xw, hxw, hwl, hwok⟩
      have hwl' : xw.length <= N := by simpa using hwl
      walk_at "rd"
      intro S hS0
      refine comp_rng (fun i σ H' => ∃ v0, σ = [v0, some (.ref a)] /\ Same H1 H' /\ ∃ ms : List Int, H' S = some (.lst (ms.map V.int)) /\ ms.length = i) ⟨none, rfl, Same.upd hS0, [], upd_same, rfl⟩ ?_ ?_
      · rintro i σ H' hi ⟨v0, rfl, s2, ms, hms, hml⟩
        have hi' : i < 5 := by simpa using hi
        walk_at "rd"
        refine ⟨a, ns, _, rfl, (s1.trans s2).seq hS, hl, by omega, ?_⟩
        generalize ns.getD _ 0 = m
        refine ⟨_, hms, by rw [List.length_map]; omega, _, rfl, s2.put hS0, ms ++ [m], ?_, by simp [hml]⟩
        rw [upd_same, List.map_append]
        rfl
      rintro σ H2 ⟨v0, rfl, s2, ms, hms, hml⟩
      have hml' : ms.length = 5 := by simpa using hml
      have s02 := s1.trans s2
      have t0 := mod_lo (n0 / 35) (n := 3) (by decide)
      have t1 := mod_hi (n0 / 35) (n := 3) (by decide)
      have u0 := mod_lo (n0 / 105) (n := 2) (by decide)
      have u1 := mod_hi (n0 / 105) (n := 2) (by decide)
      have q0 := mod_lo (n0 / 210) (n := 3) (by decide)
      have q1 := mod_hi (n0 / 210) (n := 3) (by decide)
      walk_at "rd"
      intro D1 hD1
      refine comp_rng (fun i σ H' => ∃ v0, σ = [v0, some (.ref S), some (.int R)] /\ Same H2 H' /\ ∃ xs, H' D1 = some (.lst xs) /\ xs.length = i /\ ∀ x ∈ xs, PairOk R 0 11 H' x) ⟨none, rfl, Same.upd hD1, [], upd_same, rfl, fun x hx => by cases hx⟩ ?_ ?_
      · rintro i σ H' hi ⟨v0, rfl, s3, xs, hx1, hxl, hok⟩
        have hi' : i < 3 := by omega
        have hat : (ms.map V.int)[i]? = some (.int (ms.getD i 0)) := by simp [List.getD_eq_getElem?_getD, show i < ms.length by omega]
        generalize ms.getD i 0 = m at hat
        have hms3 := s3 _ _ hms
        have a0 := mod_lo m (n := R) (by omega)
        have a1 := mod_hi m (n := R) (by omega)
        have b0 := mod_lo (m / 5) (n := 2) (by decide)
        have b1 := mod_hi (m / 5) (n := 2) (by decide)
        walk_at "rd"
        intro p hp
        have hD2 := up_keep (o := .tup [.int (m % R), .int (m / 5 % 2)]) hx1 hp
        have ts2 := (TSame.new (o := .tup [.int (m % R), .int (m / 5 % 2)]) hp).trans (TSame.lst (o := .lst (xs ++ [.ref p])) hD2)
        refine ⟨_, hD2, by omega, _, rfl, (s3.trans (Same.upd hp)).put hD1, _, upd_same, by rw [List.length_append]; simp only [List.length_singleton]; omega, fun x hx => ?_⟩
        rcases List.mem_append.mp hx with hx | hx
        · exact PairOk.mono ts2 (hok x hx)
        · obtain rfl := List.mem_singleton.mp hx
          exact ⟨p, _, _, rfl, TSame.lst (o := .lst (xs ++ [.ref p])) hD2 _ _ upd_same, ⟨a0, a1⟩, by omega, by omega⟩
      rintro σ H3 ⟨v0, rfl, s3, x2, hx2, hl2, hok2⟩
      have hms3 := s3 _ _ hms
      walk_at "rd"
      intro D2 hD2'
      refine comp_rng (fun i σ H' => ∃ v0, σ = [v0, some (.ref S), some (.int R)] /\ Same H3 H' /\ ∃ xs, H' D2 = some (.lst xs) /\ xs.length = i /\ ∀ x ∈ xs, PairOk R 1 255 H' x) ⟨none, rfl, Same.upd hD2', [], upd_same, rfl, fun x hx => by cases hx⟩ ?_ ?_
      · rintro i σ H' hi ⟨v0, rfl, s4, xs, hx1, hxl, hok⟩
        have hi' : i < 3 := by omega
        have hat : (ms.map V.int)[i]? = some (.int (ms.getD i 0)) := by simp [List.getD_eq_getElem?_getD, show i < ms.length by omega]
        generalize ms.getD i 0 = m at hat
        have hms4 := s4 _ _ hms3
        have a0 := mod_lo (m / 11) (n := R) (by omega)
        have a1 := mod_hi (m / 11) (n := R) (by omega)
        have b0 := mod_lo (m / 55) (n := 3) (by decide)
        have b1 := mod_hi (m / 55) (n := 3) (by decide)
        walk_at "rd"
        intro p hp
        have hD2 := up_keep (o := .tup [.int (m / 11 % R), .int (1 + m / 55 % 3)]) hx1 hp
        have ts2 := (TSame.new (o := .tup [.int (m / 11 % R), .int (1 + m / 55 % 3)]) hp).trans (TSame.lst (o := .lst (xs ++ [.ref p])) hD2)
        refine ⟨_, hD2, by omega, _, rfl, (s4.trans (Same.upd hp)).put hD2', _, upd_same, by rw [List.length_append]; simp only [List.length_singleton]; omega, fun x hx => ?_⟩
        rcases List.mem_append.mp hx with hx | hx
        · exact PairOk.mono ts2 (hok x hx)
        · obtain rfl := List.mem_singleton.mp hx
          exact ⟨p, _, _, rfl, TSame.lst (o := .lst (xs ++ [.ref p])) hD2 _ _ upd_same, ⟨a0, a1⟩, by omega, by omega⟩
      rintro σ H4 ⟨v0, rfl, s4, x3, hx3, hl3, hok3⟩
      have hms4 := s4 _ _ hms3
      walk_at "rd"
      intro D3 hD3
      refine comp_rng (fun i σ H' => ∃ v0, σ = [v0, some (.ref S), some (.int R)] /\ Same H4 H' /\ ∃ xs, H' D3 = some (.lst xs) /\ xs.length = i /\ ∀ x ∈ xs, PairOk R 0 9 H' x) ⟨none, rfl, Same.upd hD3, [], upd_same, rfl, fun x hx => by cases hx⟩ ?_ ?_
      · rintro i σ H' hi ⟨v0, rfl, s5, xs, hx1, hxl, hok⟩
        have hi' : i < 3 := by omega
        have hat : (ms.map V.int)[i]? = some (.int (ms.getD i 0)) := by simp [List.getD_eq_getElem?_getD, show i < ms.length by omega]
        generalize ms.getD i 0 = m at hat
        have hms5 := s5 _ _ hms4
        have a0 := mod_lo (m / 13) (n := R) (by omega)
        have a1 := mod_hi (m / 13) (n := R) (by omega)
        have b0 := mod_lo (m / 65) (n := 6) (by decide)
        have b1 := mod_hi (m / 65) (n := 6) (by decide)
        walk_at "rd"
        intro p hp
        have hD2 := up_keep (o := .tup [.int (m / 13 % R), .int (m / 65 % 6)]) hx1 hp
        have ts2 := (TSame.new (o := .tup [.int (m / 13 % R), .int (m / 65 % 6)]) hp).trans (TSame.lst (o := .lst (xs ++ [.ref p])) hD2)
        refine ⟨_, hD2, by omega, _, rfl, (s5.trans (Same.upd hp)).put hD3, _, upd_same, by rw [List.length_append]; simp only [List.length_singleton]; omega, fun x hx => ?_⟩
        rcases List.mem_append.mp hx with hx | hx
        · exact PairOk.mono ts2 (hok x hx)
        · obtain rfl := List.mem_singleton.mp hx
          exact ⟨p, _, _, rfl, TSame.lst (o := .lst (xs ++ [.ref p])) hD2 _ _ upd_same, ⟨a0, a1⟩, by omega, by omega⟩
      rintro σ H5 ⟨v0, rfl, s5, x4, hx4, hl4, hok4⟩
      have s25 := s3.trans (s4.trans s5)
      have s15 := s2.trans s25
      have s05 := s1.trans s15
      walk_at "rd"
      refine ⟨a, ns, 1, rfl, s05.seq hS, hl, by decide, ?_⟩
      generalize ns.getD (1 : Int).toNat 0 = n1
      have la := mod_lo n1 (n := R) (by omega)
      have lb := mod_hi n1 (n := R) (by omega)
      walk_at "rd"
      refine ⟨a, ns, 2, rfl, s05.seq hS, hl, by decide, ?_⟩
      generalize ns.getD (2 : Int).toNat 0 = n2
      have fa := mod_lo n2 (n := R) (by omega)
      have fb := mod_hi n2 (n := R) (by omega)
      have ba := mod_lo (n2 / 5) (n := 4) (by decide)
      have bb := mod_hi (n2 / 5) (n := 4) (by decide)
      have wa := mod_lo (n2 / 20) (n := 6) (by decide)
      have wb := mod_hi (n2 / 20) (n := 6) (by decide)
      walk_at "rd"
      have w1 : ∀ x ∈ xw, WayOk R H5 x := fun x hx => WayOk.mono s15.ts (hwok x hx)
      have w2 : ∀ x ∈ x2, PairOk R 0 11 H5 x := fun x hx => PairOk.mono (s4.trans s5).ts (hok2 x hx)
      have w3 : ∀ x ∈ x3, PairOk R 1 255 H5 x := fun x hx => PairOk.mono s5.ts (hok3 x hx)
      refine ⟨R, n2 % R, n1 % R, n2 / 5 % 4, n2 / 20 % 6, .ref W, .ref D1, .ref D2, .ref D3, xw, x2, x3, x4, rfl, by omega, by omega, by omega, by omega, by omega, .inr (.inl ⟨W, rfl, s15 _ _ hxw⟩), .inr (.inl ⟨D1, rfl, (s4.trans s5) _ _ hx2⟩), .inr (.inl ⟨D2, rfl, s5 _ _ hx3⟩), .inr (.inl ⟨D3, rfl, hx4⟩), w1, w2, w3, hok4, by omega, by omega, by omega, by omega, fun p p1 p2 p3 p4 H6 s6 hp e1 e2 e3 e4 => ?_⟩
      obtain ⟨C, hC, ok⟩ := cl_made (by omega) (by omega) (by omega) (by omega) (by omega) hp e1 e2 e3 e4 (fun x hx => WayOk.mono s6.ts (w1 x hx)) (fun x hx => PairOk.mono s6.ts (w2 x hx)) (fun x hx => PairOk.mono s6.ts (w3 x hx)) (fun x hx => PairOk.mono s6.ts (hok4 x hx)) (by omega) (by omega) (by omega) (by omega)
      exact k p C H6 (s05.trans s6) hC ok
end
def spCome : Sp := fun vs H Q _ => ∃ (c q : Addr) (C : Cl) (s : Sd), vs = [.ref c, .ref q] /\ ClAt H c C /\ ClOk C /\ SAt H q s /\ s.ok C /\ ∀ (l : Addr) (sts : List Sd) (H' : Hp), Same H H' -> H l = none -> LstOf SAt H' l sts -> sts ≠ [] -> sts.length <= 1000 -> (∀ x ∈ sts, x.ok C) -> Q (.ref l) H'
def spGoesL : Sp := fun vs H Q _ => ∃ (c q : Addr) (C : Cl) (s : Sd), vs = [.ref c, .ref q] /\ ClAt H c C /\ ClOk C /\ SAt H q s /\ s.ok C /\ ∀ (l : Addr) (row : List Sd) (H' : Hp), Same H H' -> H l = none -> LstOf SAt H' l row -> row.Nodup -> (∀ t, t ∈ row ↔ Rch (GoR C) s t) -> Q (.ref l) H'
theorem mem_goL {C : Cl} {x y : Sd} : y ∈ goL C x ↔ ∃ i : Nat, canD C x .go (i : Int) = true /\ y = doneD C x .go (i : Int) := by
  unfold goL
  simp only [List.mem_map, List.mem_filter]
  constructor
  · rintro ⟨⟨d, i⟩, ⟨h1, hc⟩, rfl⟩
    obtain rfl : d = .go := by
      simp only [rowD, List.mem_map] at h1
      obtain ⟨_, _, e⟩ := h1
      exact (congrArg Prod.fst e).symm
    exact ⟨i, hc, rfl⟩
  · rintro ⟨i, hc, rfl⟩
    refine ⟨(.go, i), ⟨?_, hc⟩, rfl⟩
    obtain ⟨_, j, e, hj, _⟩ := canD_of hc
    have : i = j := by omega
    subst this
    simp only [rowD, List.mem_map, List.mem_range]
    exact ⟨i, hj, rfl⟩
theorem goL_ok {C : Cl} {x y : Sd} (ok : ClOk C) (h : x.ok C) (r : GoR C x y) : y.ok C := by
  obtain ⟨i, hc, rfl⟩ := mem_goL.mp r
  exact done_ok ok h hc
theorem rch_ok {C : Cl} {x y : Sd} (ok : ClOk C) (h : x.ok C) (r : Rch (GoR C) x y) : y.ok C := by
  induction r with
  | refl => exact h
  | step _ r ih => exact goL_ok ok ih r
def gos (C : Cl) (x : Sd) (l : List (Wd × Nat)) : List Sd := (l.filter fun e => decide (e.1.str = ("go" : Str))).map fun e => doneD C x e.1 (e.2 : Int)
section
variable {P : Program} {w : World} {K : W.Frag} {mg : Str -> Option Value} {base : Heap} {cs : Cs}
theorem ok_come (T : Txt mg cs) (L : Laid K mg "_law_come" s__law_come ["_law_place", "_law_stand"]) (C_deeds_at : Cal P w K mg base 8 "deeds_at" ["cellar", "stand"] spDeedsAt) (C_behind : Cal P w K mg base 7 "behind" ["cellar", "stand", "deed"] spBehind) : Cal P w K mg base 9 "_law_come" ["_law_place", "_law_stand"] spCome := by
  refine L.cal (k := 8) sc__law_come (fun vs H Q E h => ?_) (fun f cdv A outer s H vs Q E hr h => ?_)
  · obtain ⟨c, q, C, st, rfl, _⟩ := h
    rfl
  · obtain ⟨c, q, C, st, rfl, hC, ok, hq, sok, k⟩ := h
    have big := line_big
    refine ⟨_, (pss_cons (ps_set (i := 2) sc__law_come.nd rfl (Or.inl rfl) (pe_lst (pa_cons (pv 1) pa_nil)))
      (pss_cons (ps_set (i := 3) sc__law_come.nd rfl (Or.inl rfl) pe_int)
      (pss_cons (ps_while PassesOwn.never (PW.pt (pw_and (pt_cmpR op_lt (pv 3) (pe_callB (lenK K) rfl T.n_len bt_len (pa_cons (pv 2) pa_nil)) (nomark _)) (pw_and1 (pt_cmpR op_le (pe_callB (lenK K) rfl T.n_len bt_len (pa_cons (pv 2) pa_nil)) pe_int (nomark _))))) (pss_cons (ps_for PassesOwn.never rfl (pi_listK K (pe_cal C_deeds_at hr (by decide) rfl (pa_cons (pv 0) (pa_cons (pe_ix (ix_listK K) (pv 2) (pv 3) (fun _ _ => rfl)) pa_nil)))) (pg_name (i := 4) sc__law_come.nd rfl (Or.inl rfl)) (pss_cons (ps_set (i := 5) sc__law_come.nd rfl (Or.inl rfl) (pe_cal C_behind hr (by decide) rfl (pa_cons (pv 0) (pa_cons (pe_ix (ix_listK K) (pv 2) (pv 3) (fun _ _ => rfl)) (pa_cons (pv 4) pa_nil)))))
      (pss_one (ps_if (pt_cmpR (op_notInD K 1 (hu3_of hr)) (pv 5) (pv 2) (by with_unfolding_all rfl)) (pss_one (ps_expr (pe_bm PySem.F.plainAttrs_list PySem.F.slot_list_append PySem.F.type_list_append mt_append (pv 2) (pa_cons (pv 5) pa_nil)))) pss_nil))))
      (pss_one (ps_set (i := 3) sc__law_come.nd rfl (Or.inl rfl) (pe_op op_add (pv 3) pe_int)))))
      (pss_one (ps_ret (pv 2)))))), ?_⟩
    walk_at "rd"
    intro F hF
    have s1 := Same.upd (o := .lst [.ref q]) hF
    have h1 := upd_same (H := H) (a := F) (o := .lst [.ref q])
    generalize upd H F (.lst [.ref q]) = H1 at s1 h1 ⊢
    walk_at "rd"
    refine r_while (fun m σ H' => ∃ (sts : List Sd) (pl : Nat) (v4 v5 : Option V), σ = [some (.ref c), some (.ref q), some (.ref F), some (.int pl), v4, v5] /\ Same H H' /\ LstOf SAt H' F sts /\ (∀ x ∈ sts, x.ok C) /\ sts ≠ [] /\ sts.length <= 400 /\ pl <= sts.length /\ m = 500 - pl) (500 - 0)
      ⟨[st], 0, none, none, rfl, s1, ⟨[q], h1, Rows.nil.snoc (s1 _ _ hq)⟩, fun x hx => by rw [List.mem_singleton.mp hx]; exact sok, by simp, by simp, by simp, rfl⟩ ?_
    rintro m σ H2 ⟨sts, pl, v4, v5, rfl, s2, ⟨qs, hqs, rqs⟩, hok, hne, hle, hpl, hm⟩
    have hql : qs.length = sts.length := rqs.1
    walk_at "rd"
    rw [List.length_map, hql]
    refine ifd (fun hlt => ?_) (fun hge => ?_)
    · walk_at "rd"
      rw [List.length_map, hql]
      refine ifd (fun h300 => ?_) (fun h300 => ?_)
      · have hlt' : pl < sts.length := by omega
        obtain ⟨p, ep, hp2⟩ := rqs.get hlt'
        generalize hx : sts[pl] = x at hp2
        have hrx : sts[pl]? = some x := by rw [List.getElem?_eq_getElem hlt', hx]
        have xok : x.ok C := hok x (List.mem_of_getElem? hrx)
        have hfl := fitD_len ok x
        refine ⟨fun σ' H' => ∃ m', m' < m /\ ∃ (sts : List Sd) (pl : Nat) (v4 v5 : Option V), σ' = [some (.ref c), some (.ref q), some (.ref F), some (.int pl), v4, v5] /\ Same H H' /\ LstOf SAt H' F sts /\ (∀ x ∈ sts, x.ok C) /\ sts ≠ [] /\ sts.length <= 400 /\ pl <= sts.length /\ m' = 500 - pl, fun _ _ z => z, ?_⟩
        walk_at "rd"
        refine ⟨c, p, C, x, rfl, hC.mono s2.ts, ok, hp2, xok, fun ld H3 s3 hld0 m3 => ?_⟩
        obtain ⟨ds, hds, rds⟩ := m3
        have s23 := s2.trans s3
        have hds0 : H ld = none := s2.free hld0
        have neF : ld ≠ F := fun z => by subst z; rw [hld0] at hqs; cases hqs
        walk_at "rd"
        refine for_lst (ds.map V.ref) (fun j σ H' => ∃ (sts : List Sd) (v4 v5 : Option V), σ = [some (.ref c), some (.ref q), some (.ref F), some (.int pl), v4, v5] /\ Same H H' /\ H' ld = some (.lst (ds.map V.ref)) /\ Rows TAt H' ds (fitD C x) /\ LstOf SAt H' F sts /\ (∀ x ∈ sts, x.ok C) /\ sts.length <= 300 + j /\ sts[pl]? = some x) ⟨sts, v4, v5, rfl, s23, hds, rds, ⟨qs, s3 _ _ hqs, rqs.mono fun _ _ => SAt.mono s3.ts⟩, hok, by omega, hrx⟩ ?_ ?_ ?_
        · rintro j σ H' ⟨_, _, _, rfl, _, e, _⟩
          exact SqL.of e
        · rintro j z σ H4 hz ⟨sts, v4, v5, rfl, s4, hds4, rds4, ⟨qs, hqs, rqs⟩, hok, hlen, hrx⟩
          have hj : j < (fitD C x).length := by have := (List.getElem?_eq_some_iff.mp hz).1; rw [List.length_map, rds.1] at this; exact this
          obtain ⟨t, et, ht⟩ := rds4.get hj
          rw [hz] at et
          cases et
          have hc : canD C x (fitD C x)[j].1 ((fitD C x)[j].2 : Int) = true := mem_fitD.mp (List.getElem_mem hj)
          generalize (fitD C x)[j] = dn at ht hc
          obtain ⟨d, i⟩ := dn
          have ht' : H4 t = some (.tup [.str d.str, .int (i : Int)]) := ht
          have hpl4 : pl < sts.length := (List.getElem?_eq_some_iff.mp hrx).1
          obtain ⟨p, ep, hp4⟩ := rqs.get hpl4
          rw [(List.getElem?_eq_some_iff.mp hrx).2] at hp4
          walk_at "rd"
          refine ⟨c, p, t, C, x, d, _, rfl, hC.mono s4.ts, ok, hp4, xok, ht', hc, fun r H5 s5 hr5 => ?_⟩
          have hr5' : SAt H5 r (doneD C x d (i : Int)) := hr5
          have yok := done_ok ok xok hc
          generalize doneD C x d (i : Int) = y at hr5' yok
          have hqs5 := s5 _ _ hqs
          have rqs5 := rqs.mono fun _ _ => SAt.mono s5.ts
          have s45 := s4.trans s5
          walk_at "rd"
          refine r_notInS ⟨qs, hqs5, rqs5⟩ hr5' ?_
          walk_at "rd"
          by_cases hin : y ∈ sts
          · rw [decide_eq_true hin]
            walk_at "rd"
            exact ⟨sts, _, _, rfl, s45, s5 _ _ hds4, rds4.mono fun _ _ => TAt.mono s5.ts, ⟨qs, hqs5, rqs5⟩, hok, by omega, hrx⟩
          · rw [decide_eq_false hin]
            walk_at "rd"
            refine r_app hqs5 (by rw [List.length_map, rqs.1]; omega) ?_
            refine ⟨sts ++ [y], _, _, rfl, s45.put hF, by rw [upd_ne neF]; exact s5 _ _ hds4, rds4.mono fun _ _ h => TAt.put hqs5 (TAt.mono s5.ts h), lst_snoc (fun _ _ => SAt.put hqs5) rqs5 hr5', ?_, by simp; omega, by rw [List.getElem?_append_left hpl4]; exact hrx⟩
            intro z hz
            rcases List.mem_append.mp hz with z1 | z1
            · exact hok z z1
            · rw [List.mem_singleton.mp z1]; exact yok
        · rintro σ H4 ⟨sts, v4, v5, rfl, s4, hds4, rds4, hL, hok, hlen, hrx⟩
          rw [List.length_map, rds.1] at hlen
          have hpl4 : pl < sts.length := (List.getElem?_eq_some_iff.mp hrx).1
          walk_at "rd"
          exact ⟨500 - (pl + 1), by omega, sts, pl + 1, _, _, rfl, s4, hL, hok, fun z => by rw [z] at hpl4; simp at hpl4, by omega, by omega, rfl⟩
      · walk_at "rd"
        exact k F sts H2 s2 hF ⟨qs, hqs, rqs⟩ hne (by omega) hok
    · walk_at "rd"
      exact k F sts H2 s2 hF ⟨qs, hqs, rqs⟩ hne (by omega) hok
theorem ok_goesL (T : Txt mg cs) (L : Laid K mg "_law_goes" s__law_goes ["_law_place", "_law_stand"]) (C_deeds_at : Cal P w K mg base 8 "deeds_at" ["cellar", "stand"] spDeedsAt) (C_behind : Cal P w K mg base 7 "behind" ["cellar", "stand", "deed"] spBehind) : Cal P w K mg base 9 "_law_goes" ["_law_place", "_law_stand"] spGoesL := by
  refine L.cal (k := 8) sc__law_goes (fun vs H Q E h => ?_) (fun f cdv A outer s H vs Q E hr h => ?_)
  · obtain ⟨c, q, C, st, rfl, _⟩ := h
    rfl
  · obtain ⟨c, q, C, st, rfl, hC, ok, hq, sok, k⟩ := h
    have big := line_big
    have ok2 := ok.r2
    have hdl := dom_len C st
    refine ⟨_, (pss_cons (ps_set (i := 2) sc__law_goes.nd rfl (Or.inl rfl) (pe_lst (pa_cons (pv 1) pa_nil)))
      (pss_cons (ps_set (i := 3) sc__law_goes.nd rfl (Or.inl rfl) pe_int)
      (pss_cons (ps_while PassesOwn.never (pt_cmpR op_lt (pv 3) (pe_callB (lenK K) rfl T.n_len bt_len (pa_cons (pv 2) pa_nil)) (nomark _)) (pss_cons (ps_for PassesOwn.never rfl (pi_listK K (pe_cal C_deeds_at hr (by decide) rfl (pa_cons (pv 0) (pa_cons (pe_ix (ix_listK K) (pv 2) (pv 3) (fun _ _ => rfl)) pa_nil)))) (pg_name (i := 4) sc__law_goes.nd rfl (Or.inl rfl)) (pss_one (ps_if (pt_cmpR op_eq (pe_ix (ix_tupK K) (pv 4) pe_int (fun _ _ => rfl)) pe_str (nomark _)) (pss_cons (ps_set (i := 5) sc__law_goes.nd rfl (Or.inl rfl) (pe_cal C_behind hr (by decide) rfl (pa_cons (pv 0) (pa_cons (pe_ix (ix_listK K) (pv 2) (pv 3) (fun _ _ => rfl)) (pa_cons (pv 4) pa_nil)))))
      (pss_one (ps_if (pt_cmpR (op_notInD K 1 (hu3_of hr)) (pv 5) (pv 2) (by with_unfolding_all rfl)) (pss_one (ps_expr (pe_bm PySem.F.plainAttrs_list PySem.F.slot_list_append PySem.F.type_list_append mt_append (pv 2) (pa_cons (pv 5) pa_nil)))) pss_nil))) pss_nil)))
      (pss_one (ps_set (i := 3) sc__law_goes.nd rfl (Or.inl rfl) (pe_op op_add (pv 3) pe_int)))))
      (pss_one (ps_ret (pv 2)))))), ?_⟩
    walk_at "rd"
    intro F hF
    have s1 := Same.upd (o := .lst [.ref q]) hF
    have h1 := upd_same (H := H) (a := F) (o := .lst [.ref q])
    generalize upd H F (.lst [.ref q]) = H1 at s1 h1 ⊢
    walk_at "rd"
    refine r_while (fun m σ H' => ∃ (row : List Sd) (pl : Nat) (v4 v5 : Option V), σ = [some (.ref c), some (.ref q), some (.ref F), some (.int pl), v4, v5] /\ Same H H' /\ LstOf SAt H' F row /\ Srch (GoR C) st row pl /\ pl <= row.length /\ m = 500 - pl) (500 - 0)
      ⟨[st], 0, none, none, rfl, s1, ⟨[q], h1, Rows.nil.snoc (s1 _ _ hq)⟩, Srch.start, by simp, rfl⟩ ?_
    rintro m σ H2 ⟨sts, pl, v4, v5, rfl, s2, ⟨qs, hqs, rqs⟩, sr, hpl, hm⟩
    have hql : qs.length = sts.length := rqs.1
    have hle : sts.length <= 14 := by have := sub_len sr.nd fun x hx => rch_dom ok sok (sr.rch x hx); omega
    walk_at "rd"
    rw [List.length_map, hql]
    refine ifd (fun hlt => ?_) (fun hge => ?_)
    · have hlt' : pl < sts.length := by omega
      obtain ⟨p, ep, hp2⟩ := rqs.get hlt'
      generalize hx : sts[pl] = x at hp2
      have hrx : sts[pl]? = some x := by rw [List.getElem?_eq_getElem hlt', hx]
      have xok : x.ok C := rch_ok ok sok (sr.rch x (List.mem_of_getElem? hrx))
      have hfl := fitD_len ok x
      refine ⟨fun σ' H' => ∃ m', m' < m /\ ∃ (row : List Sd) (pl : Nat) (v4 v5 : Option V), σ' = [some (.ref c), some (.ref q), some (.ref F), some (.int pl), v4, v5] /\ Same H H' /\ LstOf SAt H' F row /\ Srch (GoR C) st row pl /\ pl <= row.length /\ m' = 500 - pl, fun _ _ z => z, ?_⟩
      walk_at "rd"
      refine ⟨c, p, C, x, rfl, hC.mono s2.ts, ok, hp2, xok, fun ld H3 s3 hld0 m3 => ?_⟩
      obtain ⟨ds, hds, rds⟩ := m3
      have s23 := s2.trans s3
      have neF : ld ≠ F := fun z => by subst z; rw [hld0] at hqs; cases hqs
      walk_at "rd"
      refine for_lst (ds.map V.ref) (fun j σ H' => ∃ (row : List Sd) (v4 v5 : Option V), σ = [some (.ref c), some (.ref q), some (.ref F), some (.int pl), v4, v5] /\ Same H H' /\ H' ld = some (.lst (ds.map V.ref)) /\ Rows TAt H' ds (fitD C x) /\ LstOf SAt H' F row /\ Mid (GoR C) st x row pl (gos C x ((fitD C x).take j))) ⟨sts, v4, v5, rfl, s23, hds, rds, ⟨qs, s3 _ _ hqs, rqs.mono fun _ _ => SAt.mono s3.ts⟩, sr.mid hrx⟩ ?_ ?_ ?_
      · rintro j σ H' ⟨_, _, _, rfl, _, e, _⟩
        exact SqL.of e
      · rintro j z σ H4 hz ⟨row, v4, v5, rfl, s4, hds4, rds4, ⟨qs, hqs, rqs⟩, md⟩
        have hj : j < (fitD C x).length := by have := (List.getElem?_eq_some_iff.mp hz).1; rw [List.length_map, rds.1] at this; exact this
        obtain ⟨t, et, ht⟩ := rds4.get hj
        rw [hz] at et
        cases et
        have hc : canD C x (fitD C x)[j].1 ((fitD C x)[j].2 : Int) = true := mem_fitD.mp (List.getElem_mem hj)
        rw [List.take_succ_eq_append_getElem hj]
        generalize (fitD C x)[j] = dn at ht hc ⊢
        obtain ⟨d, i⟩ := dn
        have ht' : H4 t = some (.tup [.str d.str, .int (i : Int)]) := ht
        have hpl4 : pl < row.length := (List.getElem?_eq_some_iff.mp md.at').1
        have hle : row.length <= 14 := by have := sub_len md.nd fun x hx => rch_dom ok sok (md.rch x hx); omega
        obtain ⟨p, ep, hp4⟩ := rqs.get hpl4
        rw [(List.getElem?_eq_some_iff.mp md.at').2] at hp4
        have egos : gos C x ((fitD C x).take j ++ [(d, i)]) = gos C x ((fitD C x).take j) ++ (if d.str = ("go" : Str) then [doneD C x d (i : Int)] else []) := by
          unfold gos
          rw [List.filter_append, List.map_append]
          by_cases e : d.str = ("go" : Str)
          · simp [e]
          · simp [e]
        rw [egos]
        walk_at "rd"
        refine ifd (fun hgo => ?_) (fun hgo => ?_)
        · rw [if_pos hgo]
          obtain rfl : d = .go := by cases d <;> first | rfl | exact absurd hgo (by decide +kernel)
          walk_at "rd"
          refine ⟨c, p, t, C, x, .go, _, rfl, hC.mono s4.ts, ok, hp4, xok, ht', hc, fun r H5 s5 hr5 => ?_⟩
          have hr5' : SAt H5 r (doneD C x .go (i : Int)) := hr5
          have hgr : GoR C x (doneD C x .go (i : Int)) := mem_goL.mpr ⟨i, hc, rfl⟩
          generalize doneD C x .go (i : Int) = y at hr5' hgr ⊢
          have hqs5 := s5 _ _ hqs
          have rqs5 := rqs.mono fun _ _ => SAt.mono s5.ts
          have s45 := s4.trans s5
          walk_at "rd"
          refine r_notInS ⟨qs, hqs5, rqs5⟩ hr5' ?_
          walk_at "rd"
          by_cases hin : y ∈ row
          · rw [decide_eq_true hin]
            walk_at "rd"
            exact ⟨row, _, _, rfl, s45, s5 _ _ hds4, rds4.mono fun _ _ => TAt.mono s5.ts, ⟨qs, hqs5, rqs5⟩, md.old hin⟩
          · rw [decide_eq_false hin]
            walk_at "rd"
            refine r_app hqs5 (by rw [List.length_map, rqs.1]; omega) ?_
            exact ⟨row ++ [y], _, _, rfl, s45.put hF, by rw [upd_ne neF]; exact s5 _ _ hds4, rds4.mono fun _ _ h => TAt.put hqs5 (TAt.mono s5.ts h), lst_snoc (fun _ _ => SAt.put hqs5) rqs5 hr5', md.new hin hgr⟩
        · rw [if_neg hgo, List.append_nil]
          walk_at "rd"
          exact ⟨row, _, _, rfl, s4, hds4, rds4, ⟨qs, hqs, rqs⟩, md⟩
      · rintro σ H4 ⟨row, v4, v5, rfl, s4, hds4, rds4, hL, md⟩
        rw [List.length_map, rds.1, List.take_length] at md
        have hpl4 : pl < row.length := (List.getElem?_eq_some_iff.mp md.at').1
        walk_at "rd"
        refine ⟨500 - (pl + 1), by omega, row, pl + 1, _, _, rfl, s4, hL, md.next fun y hy => ?_, by omega, rfl⟩
        obtain ⟨i, hc, rfl⟩ := mem_goL.mp hy
        unfold gos
        refine List.mem_map.mpr ⟨(.go, i), List.mem_filter.mpr ⟨mem_fitD.mpr hc, decide_eq_true (rfl : Wd.go.str = ("go" : Str))⟩, rfl⟩
    · walk_at "rd"
      exact k F sts H2 s2 hF ⟨qs, hqs, rqs⟩ sr.nd (sr.end (by omega))
end
theorem all_sd {R1 R2 : List Sd} (hl : R1.length = R2.length) {n : Nat} (hn : n = R1.length) : ((List.range n).all fun j => decide (R1.getD j ⟨0, 0, 0, 0, 0⟩ = R2.getD j ⟨0, 0, 0, 0, 0⟩)) = decide (R1 = R2) := by
  subst hn
  rw [Bool.eq_iff_iff, List.all_eq_true, decide_eq_true_eq]
  constructor
  · intro h
    refine List.ext_getElem hl fun i h1 h2 => ?_
    have := h i (List.mem_range.mpr h1)
    simpa [List.getD_eq_getElem?_getD, h1, h2] using this
  · intro h j _
    rw [h]
    simp
theorem rows_getD {H : Hp} {ps : List Addr} {R : List Sd} (h : Rows SAt H ps R) {j : Nat} (hj : j < R.length) : ∃ p, (ps.map V.ref).getD j .non = .ref p /\ SAt H p (R.getD j ⟨0, 0, 0, 0, 0⟩) := by
  have hp : j < ps.length := by rw [h.1]; exact hj
  refine ⟨ps[j], by simp [List.getD_eq_getElem?_getD, hp], ?_⟩
  have := h.2 j ps[j] R[j] (List.getElem?_eq_getElem hp) (List.getElem?_eq_getElem hj)
  simpa [List.getD_eq_getElem?_getD, hj] using this
theorem r_eqSs {K : W.Frag} {H : Hp} {Q : VK} {p q : Addr} {R1 R2 : List Sd} (h1 : LstOf SAt H p R1) (h2 : LstOf SAt H q R2) (k : Q (.bl (decide (R1 = R2))) H) : rEqD K 1 (.ref p) (.ref q) H Q := by
  obtain ⟨ps, e1, r1⟩ := h1
  obtain ⟨qs, e2, r2⟩ := h2
  by_cases hl : R1.length = R2.length
  · refine .inr (.inl ⟨p, q, _, _, fun j => decide (R1.getD j ⟨0, 0, 0, 0, 0⟩ = R2.getD j ⟨0, 0, 0, 0, 0⟩), rfl, rfl, SqL.of e1, SqL.of e2, by rw [List.length_map, List.length_map, r1.1, r2.1, hl], fun j h1 h2 => ?_, ?_⟩)
    · rw [List.length_map, r1.1] at h1
      rw [List.length_map, r2.1] at h2
      obtain ⟨a, ea, ha⟩ := rows_getD r1 h1
      obtain ⟨b, eb, hb⟩ := rows_getD r2 h2
      rw [ea, eb]
      exact deq_sd ha hb
    · rw [all_sd hl (by rw [List.length_map, r1.1])]
      exact k
  · refine .inr (.inr ⟨p, q, _, _, rfl, rfl, SqL.of e1, SqL.of e2, by rw [List.length_map, List.length_map, r1.1, r2.1]; exact hl, ?_⟩)
    rw [decide_eq_false (fun e => hl (by rw [e]))] at k
    exact k
theorem r_neSs {K : W.Frag} {H : Hp} {Q : VK} {p q : Addr} {R1 R2 : List Sd} (h1 : LstOf SAt H p R1) (h2 : LstOf SAt H q R2) (k : Q (.bl (!decide (R1 = R2))) H) : rNeD K 1 (.ref p) (.ref q) H Q := by
  obtain ⟨ps, e1, r1⟩ := h1
  obtain ⟨qs, e2, r2⟩ := h2
  by_cases hl : R1.length = R2.length
  · refine .inl ⟨p, q, _, _, fun j => decide (R1.getD j ⟨0, 0, 0, 0, 0⟩ = R2.getD j ⟨0, 0, 0, 0, 0⟩), rfl, rfl, SqL.of e1, SqL.of e2, by rw [List.length_map, List.length_map, r1.1, r2.1, hl], fun j h1 h2 => ?_, ?_⟩
    · rw [List.length_map, r1.1] at h1
      rw [List.length_map, r2.1] at h2
      obtain ⟨a, ea, ha⟩ := rows_getD r1 h1
      obtain ⟨b, eb, hb⟩ := rows_getD r2 h2
      rw [ea, eb]
      exact deq_sd ha hb
    · rw [all_sd hl (by rw [List.length_map, r1.1])]
      exact k
  · refine .inr ⟨p, q, _, _, rfl, rfl, SqL.of e1, SqL.of e2, by rw [List.length_map, List.length_map, r1.1, r2.1]; exact hl, ?_⟩
    rw [decide_eq_false (fun e => hl (by rw [e]))] at k
    exact k
theorem LstOf.same {H H' : Hp} (s : Same H H') {p : Addr} {R : List Sd} (h : LstOf SAt H p R) : LstOf SAt H' p R := LAt.mono (f := fun _ => R) (x := ⟨0, 0, 0, 0, 0⟩) s h
noncomputable def backB (C : Cl) (s x : Sd) : Bool := @decide (Rch (GoR C) x s) (Classical.propDecidable _)
theorem backB_iff {C : Cl} {s x : Sd} : backB C s x = true ↔ Rch (GoR C) x s := by unfold backB; exact @decide_eq_true_iff _ (Classical.propDecidable _)
theorem backB_mem {C : Cl} {s x : Sd} {row : List Sd} (h : ∀ t, t ∈ row ↔ Rch (GoR C) x t) : decide (s ∈ row) = backB C s x := by
  rw [Bool.eq_iff_iff, decide_eq_true_eq, backB_iff]
  exact h s
theorem last_one {C : Cl} {s : Sd} {R : List Sd} (h : s.rm = C.lst) (r : IsR (GoR C) s R) : R = [s] := by
  have only : ∀ t, Rch (GoR C) s t -> t = s := fun t ht => by
    induction ht with
    | refl => rfl
    | step _ rr ih =>
      subst ih
      obtain ⟨i, hc, _⟩ := mem_goL.mp rr
      rw [canD_last h] at hc
      cases hc
  have hs := r.self
  match R, r.nd, r.mem, hs with
  | [x], _, m, hs => rw [List.mem_singleton.mp hs]
  | x :: y :: R', nd, m, _ =>
    have e1 := only x ((m x).mp (by simp)).1
    have e2 := only y ((m y).mp (by simp)).1
    rw [e1, e2] at nd
    simp at nd
theorem in_iff {C : Cl} {s1 s2 : Sd} {R R2 : List Sd} (h1 : IsR (GoR C) s1 R) (h2 : IsR (GoR C) s2 R2) : s2 ∈ R ↔ R2 = R := by
  constructor
  · intro h
    have m := (h1.mem s2).mp h
    exact (h1.uniq h2 m).symm
  · intro e
    rw [<- e]
    exact h2.self
theorem no_both {C : Cl} {s1 s2 x : Sd} {R R2 : List Sd} (h1 : IsR (GoR C) s1 R) (h2 : IsR (GoR C) s2 R2) (hn : s2 ∉ R) (hx : x ∈ R2) : x ∉ R := fun hr => by
  have a := (h1.mem x).mp hr
  have b := (h2.mem x).mp hx
  exact hn ((h1.mem s2).mpr ⟨a.1.trans b.2, b.1.trans a.2⟩)
def spLaw (K : W.Frag) : Sp := fun vs H Q _ => ∃ (a : Addr) (ns : List Int), vs = [.ref a] /\ SqL K H a (ns.map V.int) /\ ns.length <= 63 /\ ∀ H', Q (.bl true) H'
def spAny (K : W.Frag) : Sp := fun vs H Q _ => ∃ (a c : Addr) (ns : List Int) (C : Cl), vs = [.ref a, .ref c] /\ SqL K H a (ns.map V.int) /\ ns.length <= 63 /\ ClAt H c C /\ ClOk C /\ ∀ (p : Addr) (s : Sd) (H' : Hp), Same H H' -> SAt H' p s -> s.ok C -> Q (.ref p) H'
abbrev NL : List Str := ["_law_script", "_law_place", "_law_some", "_law_first", "_law_second", "_law_far", "_law_due", "_law_told", "_law_one", "_law_other"]
section
variable {P : Program} {w : World} {K : W.Frag} {mg : Str -> Option Value} {base : Heap} {cs : Cs}
theorem ok_any (T : Txt mg cs) (L : Laid K mg "_law_any" s__law_any ["_law_script", "_law_place"]) (C__law_cell_at : Cal P w K mg base 1 "_law_cell_at" ["_law_script", "_law_k"] (spCellA K)) : Cal P w K mg base 2 "_law_any" ["_law_script", "_law_place"] (spAny K) := by
  refine L.cal (k := 1) sc__law_any (fun vs H Q E h => ?_) (fun f cdv A outer s H vs Q E hr h => ?_)
  · obtain ⟨a, c, ns, C, rfl, _⟩ := h
    rfl
  · obtain ⟨a, c, ns, C, rfl, hS, hl, hC, ok, k⟩ := h
    have big := line_big
    obtain ⟨pw, pt, pl, pv', h0, h1, h2, _⟩ := hC.ex
    obtain ⟨tv, ht, htl, htg⟩ := h2.get
    have okt := ok.tl
    have r1 := ok.r1
    have htl2 : (tv.length : Int) <= 8 := by omega
    have hpow : (0 : Int) < 1 * 2 ^ ((tv.length : Int)).toNat := by rw [Int.one_mul]; exact pow_pos' _
    have epow : (1 : Int) * 2 ^ ((tv.length : Int)).toNat = 2 ^ C.things.length := by rw [Int.one_mul, Int.toNat_natCast, htl]
    refine ⟨_, (pss_cons (ps_set (i := 2) sc__law_any.nd rfl (Or.inl rfl) (pe_cal C__law_cell_at hr (by decide) rfl (pa_cons (pv 0) (pa_cons pe_int pa_nil))))
      (pss_cons (ps_set (i := 3) sc__law_any.nd rfl (Or.inl rfl) (pe_op op_mod (pe_op op_fdiv (pv 2) pe_int) (pe_op op_shl pe_int (pe_callB (lenK K) rfl T.n_len bt_len (pa_cons (pe_ix (ix_tupK K) (pv 1) pe_int (fun _ _ => rfl)) pa_nil)))))
      (pss_one (ps_ret (pe_tup (pa_cons (pe_op op_mod (pv 2) (pe_ix (ix_tupK K) (pv 1) pe_int (fun _ _ => rfl))) (pa_cons (pv 3) (pa_cons pe_int (pa_cons (pe_op op_mod (pe_op op_fdiv (pv 2) pe_int) pe_int) (pa_cons (pe_op op_mod (pe_op op_fdiv (pv 2) pe_int) pe_int) pa_nil)))))))))), ?_⟩
    walk_at "rd"
    refine ⟨a, ns, 9, rfl, hS, hl, by decide, ?_⟩
    generalize ns.getD (9 : Int).toNat 0 = m
    have a0 := mod_lo m (n := C.rooms) (by omega)
    have a1 := mod_hi m (n := C.rooms) (by omega)
    have b0 := mod_lo (m / 20) (n := 256) (by decide)
    have b1 := mod_hi (m / 20) (n := 256) (by decide)
    have w0 := mod_lo (m / 5120) (n := 10) (by decide)
    have w1 := mod_hi (m / 5120) (n := 10) (by decide)
    have t0 := mod_lo (m / 5) hpow
    have t1 := mod_hi (m / 5) hpow
    have hR : (0 : Int) < C.rooms := by omega
    walk_at "rd"
    intro p hp
    refine k p ⟨m % C.rooms, m / 5 % (1 * 2 ^ ((tv.length : Int)).toNat), 0, m / 20 % 256, m / 5120 % 10⟩ _ (Same.upd hp) upd_same ⟨⟨a0, a1⟩, ⟨t0, by rw [<- epow]; exact t1⟩, ⟨by show (0 : Int) <= 0; decide, by show (0 : Int) < _; exact pow_pos' _⟩, fun i _ hb => (by have hb' : bit 0 i = true := hb; rw [bit_zero] at hb'; cases hb'), by show 0 <= m / 20 % 256 /\ m / 20 % 256 <= 255; omega, by show 0 <= m / 5120 % 10 /\ m / 5120 % 10 <= 9; omega, fun k _ _ => ?_⟩
    show 0 <= hold C _ 0 k
    unfold hold
    rw [cnt_no fun i _ => dP_zero _ _ _]
    omega
theorem law_e {f : Addr} {cdv : Value} {A : Around} {outer : List Env} {s : Shared} {H0 : Hp} {E : XK} (T : Txt mg cs) (C_round_of : Cal P w K mg base 9 "round_of" ["cellar", "stand"] spRound)
    (hr : Room 9 (A.deeper (PyProof.Rows.envOfC "law" (defScope s_law) s.heap.objs.size f cdv))) :
    ∃ t, PSs (cxOf CX0 P w K mg base NL "law" (defScope s_law) f cdv A outer s H0 E).nox ((defBody s_law).drop 14) t /\ ∀ (nx bk ct : St -> Hp -> Prop) (rt : VK) (v2 v4 v5 v8 v9 : Option V) (a c p1 du tl : Addr) (C : Cl) (s1 : Sd) (R : List Sd) (H : Hp), ClAt H c C -> ClOk C -> SAt H p1 s1 -> s1.ok C -> R.length <= 14 -> LstOf SAt H du R -> LstOf SAt H tl R -> tl ≠ du -> IsR (GoR C) s1 R -> (∀ H', rt (.bl true) H') ->
      t ⟨nx, rt, bk, ct⟩ [some (.ref a), some (.ref c), v2, some (.ref p1), v4, v5, some (.ref du), some (.ref tl), v8, v9] H := by
  refine ⟨_, (pss_cons (ps_expr (pe_bm PySem.F.plainAttrs_list PySem.F.slot_list_append PySem.F.type_list_append mt_append (pv 7) (pa_cons (pv 3) pa_nil)))
      (pss_one (ps_ret (pe_cmpR (op_eqD K 1 (hu3_of hr)) (pe_cal C_round_of hr (by decide) rfl (pa_cons (pv 1) (pa_cons (pv 3) pa_nil))) (pv 6) (nomark _))))), ?_⟩
  intro nx bk ct rt v2 v4 v5 v8 v9 a c p1 du tl C s1 R H hC ok hp1 ok1 hRl hdu htl ne hR k
  have big := line_big
  obtain ⟨ts, hts, rts⟩ := htl
  obtain ⟨ds, hds, rds⟩ := hdu
  walk_at "rd"
  refine r_app hts (by rw [List.length_map, rts.1]; omega) ?_
  have tsm : TSame H (upd H tl (.lst (ts.map V.ref ++ [.ref p1]))) := TSame.lst hts
  have hdu1 : LstOf SAt (upd H tl (.lst (ts.map V.ref ++ [.ref p1]))) du R := ⟨ds, by rw [upd_ne (Ne.symm ne)]; exact hds, rds.mono fun _ _ => SAt.mono tsm⟩
  generalize upd H tl (.lst (ts.map V.ref ++ [.ref p1])) = H1 at tsm hdu1 ⊢
  walk_at "rd"
  refine ⟨c, p1, C, s1, rfl, hC.mono tsm, ok, SAt.mono tsm hp1, ok1, fun l R' H3 s3 hl0 hl hR' => ?_⟩
  have eR : R' = R := hR'.uniq hR ⟨.refl, .refl⟩
  rw [eR] at hl
  walk_at "rd"
  refine r_eqSs hl (LstOf.same s3 hdu1) ?_
  rw [decide_eq_true (rfl : R = R)]
  exact k H3
theorem law_d {f : Addr} {cdv : Value} {A : Around} {outer : List Env} {s : Shared} {H0 : Hp} {E : XK} (T : Txt mg cs) (C_round_of : Cal P w K mg base 9 "round_of" ["cellar", "stand"] spRound)
    (hr : Room 9 (A.deeper (PyProof.Rows.envOfC "law" (defScope s_law) s.heap.objs.size f cdv))) :
    ∃ t, PSs (cxOf CX0 P w K mg base NL "law" (defScope s_law) f cdv A outer s H0 E).nox ((defBody s_law).drop 10) t /\ ∀ (nx bk ct : St -> Hp -> Prop) (rt : VK) (v2 v5 : Option V) (a c p1 p2 du tl : Addr) (C : Cl) (s1 s2 : Sd) (R : List Sd) (H : Hp), ClAt H c C -> ClOk C -> SAt H p1 s1 -> s1.ok C -> SAt H p2 s2 -> s2.ok C -> LstOf SAt H du R -> LstOf SAt H tl R -> tl ≠ du -> IsR (GoR C) s1 R -> (∀ H', rt (.bl true) H') ->
      t ⟨nx, rt, bk, ct⟩ [some (.ref a), some (.ref c), v2, some (.ref p1), some (.ref p2), v5, some (.ref du), some (.ref tl), none, none] H := by
  obtain ⟨te, he, ke⟩ := law_e (P := P) (w := w) (base := base) (outer := outer) (H0 := H0) (E := E) T C_round_of hr
  refine ⟨_, (pss_cons (ps_for PassesOwn.never rfl (pi_listK K (pv 7)) (pg_name (i := 8) sc_law.nd rfl (Or.inl rfl)) (pss_one (ps_if (PW.pt (pw_or (pt_not (pt_val (pe_callB call_isiS rfl T.n_isinstance bt_isinstance (pa_cons (pv 8) (pa_cons (pe_bltn (v := .ty "tuple") rfl T.n_tuple bt_tuple rfl) pa_nil))))) (pw_or (pt_cmpR op_ne (pe_callB (lenK K) rfl T.n_len bt_len (pa_cons (pv 8) pa_nil)) pe_int (nomark _)) (pw_or1 (pt_cmpR (op_neD K 1 (hu3_of hr)) (pe_cal C_round_of hr (by decide) rfl (pa_cons (pv 1) (pa_cons (pv 8) pa_nil))) (pv 6) (nomark _)))))) (pss_one (ps_ret pe_bl)) pss_nil)))
      (pss_cons (ps_set (i := 9) sc_law.nd rfl (Or.inl rfl) (pe_cal C_round_of hr (by decide) rfl (pa_cons (pv 1) (pa_cons (pv 4) pa_nil))))
      (pss_cons (ps_if (PW.pt (pw_or (pt_cmpR op_ne (pe_cmpR (op_inD K 1 (hu3_of hr)) (pv 4) (pv 6) (by with_unfolding_all rfl)) (pe_cmpR (op_eqD K 1 (hu3_of hr)) (pv 9) (pv 6) (nomark _)) (nomark _)) (pw_or1 (pt_cmpR (op_notInD K 1 (hu3_of hr)) (pv 4) (pv 9) (by with_unfolding_all rfl))))) (pss_one (ps_ret pe_bl)) pss_nil)
      (pss_cons (ps_if (PW.pt (pw_and (pt_cmpR (op_notInD K 1 (hu3_of hr)) (pv 4) (pv 6) (by with_unfolding_all rfl)) (pw_and1 (pt_cmpR op_gt (pe_callB (lenK K) rfl T.n_len bt_len (pa_cons (pe_comp (compOk (N := ["_law_one", "_law_due"]) (own := 1) (caps := [6]) ["_law_script", "_law_place", "_law_some", "_law_first", "_law_second", "_law_far", "_law_due", "_law_told", "_law_one", "_law_other"] (defScope s_law) (by decide +kernel)) rfl (pi_listK K (pv 9)) (fun _ _ _ _ => (pg_name (i := 0) (show List.Nodup (["_law_one", "_law_due"] : List Str) by decide +kernel) rfl (Or.inl rfl))) (fun _ _ _ _ => (pf_one (pt_cmpR (op_inD K 1 (hu3_of hr)) (pv 0) (pv 1) (by with_unfolding_all rfl)))) (fun _ _ _ _ => (pv 0))) pa_nil)) pe_int (nomark _))))) (pss_one (ps_ret pe_bl)) pss_nil)
      he)))), ?_⟩
  intro nx bk ct rt v2 v5 a c p1 p2 du tl C s1 s2 R H hC ok hp1 ok1 hp2 ok2 hdu htl ne hR k
  have big := line_big
  have okr := ok.r2
  have hdl := dom_len C s1
  have hdl2 := dom_len C s2
  have hRl : R.length <= 14 := by have := sub_len hR.nd fun x hx => rch_dom ok ok1 ((hR.mem x).mp hx).1; omega
  obtain ⟨ts, hts, rts⟩ := htl
  walk_at "rd"
  refine for_lst (ts.map V.ref) (fun i σ H' => ∃ v8, σ = [some (.ref a), some (.ref c), v2, some (.ref p1), some (.ref p2), v5, some (.ref du), some (.ref tl), v8, none] /\ Same H H') ⟨none, rfl, Same.refl _⟩ ?_ ?_ ?_
  · rintro i σ H' ⟨_, rfl, sx⟩
    exact SqL.of (sx _ _ hts)
  · rintro i x σ H' hx ⟨v8, rfl, sx⟩
    have hi : i < R.length := by have := (List.getElem?_eq_some_iff.mp hx).1; rw [List.length_map, rts.1] at this; exact this
    obtain ⟨p, ep, hp⟩ := rts.get hi
    rw [hx] at ep
    cases ep
    have hpx : SAt H' p R[i] := SAt.mono sx.ts hp
    have hmi := (hR.mem R[i]).mp (List.getElem_mem hi)
    generalize R[i] = y at hpx hmi
    have hpx' : H' p = some (.tup [.int y.rm, .int y.tk, .int y.op, .int y.b, .int y.wt]) := hpx
    walk_at "rd"
    refine ifn (fun z => absurd rfl z) (fun _ => ?_)
    walk_at "rd"
    refine ⟨c, p, C, y, rfl, hC.mono sx.ts, ok, hpx, rch_ok ok ok1 hmi.1, fun l R' H3 s3 hl0 hl hR' => ?_⟩
    have eR : R' = R := (hR.uniq hR' hmi).symm
    rw [eR] at hl
    walk_at "rd"
    refine r_neSs hl (LstOf.same (sx.trans s3) hdu) ?_
    rw [decide_eq_true (rfl : R = R)]
    walk_at "rd"
    exact ⟨_, rfl, sx.trans s3⟩
  · rintro σ H1 ⟨v8, rfl, s01⟩
    walk_at "rd"
    refine ⟨c, p2, C, s2, rfl, hC.mono s01.ts, ok, s01 _ _ hp2, ok2, fun lo R2 H2 s12 hlo0 hlo hR2 => ?_⟩
    have s02 := s01.trans s12
    have hdu2 := LstOf.same s02 hdu
    have hp22 : SAt H2 p2 s2 := s02 _ _ hp2
    try simp only [List.set_cons_succ, List.set_cons_zero]
    walk_at "rd"
    refine r_inS hdu2 hp22 ?_
    walk_at "rd"
    refine r_eqSs hlo hdu2 ?_
    rw [show decide (s2 ∈ R) = decide (R2 = R) from decide_eq_decide.mpr (in_iff hR hR2)]
    walk_at "rd"
    refine ifn (fun z => absurd rfl z) (fun _ => ?_)
    walk_at "rd"
    refine r_notInS hlo hp22 ?_
    rw [decide_eq_true hR2.self]
    walk_at "rd"
    refine r_notInS hdu2 hp22 ?_
    by_cases hin : s2 ∈ R
    · rw [decide_eq_true hin]
      walk_at "rd"
      exact ke _ _ _ _ _ _ _ _ _ a c p1 du tl C s1 R H2 (hC.mono s02.ts) ok (s02 _ _ hp1) ok1 hRl hdu2 (LstOf.same s02 ⟨ts, hts, rts⟩) ne hR k
    · rw [decide_eq_false hin]
      obtain ⟨os, hos, ros⟩ := hlo
      walk_at "rd"
      intro D hD
      refine comp_lst (os.map V.ref) (fun i σ H' => ∃ v0, σ = [v0, some (.ref du)] /\ Same H2 H' /\ H' D = some (.lst [])) ⟨none, rfl, Same.upd hD, upd_same⟩ ?_ ?_ ?_
      · rintro i σ H' ⟨_, rfl, sx, _⟩
        exact SqL.of (sx _ _ hos)
      · rintro i x σ H' hx ⟨v0, rfl, sx, hD'⟩
        have hi : i < R2.length := by have := (List.getElem?_eq_some_iff.mp hx).1; rw [List.length_map, ros.1] at this; exact this
        obtain ⟨p, ep, hp⟩ := ros.get hi
        rw [hx] at ep
        cases ep
        have hno := no_both hR hR2 hin (List.getElem_mem hi)
        have hpx : SAt H' p R2[i] := SAt.mono sx.ts hp
        walk_at "rd"
        refine r_inS (LstOf.same sx hdu2) hpx ?_
        rw [decide_eq_false hno]
        walk_at "rd"
        exact ⟨_, rfl, sx, hD'⟩
      · rintro σ H3 ⟨v0, rfl, sx, hD'⟩
        have s03 := s02.trans sx
        walk_at "rd"
        refine ifd (fun z => absurd z (by simp)) (fun _ => ?_)
        walk_at "rd"
        exact ke _ _ _ _ _ _ _ _ _ a c p1 du tl C s1 R H3 (hC.mono s03.ts) ok (s03 _ _ hp1) ok1 hRl (LstOf.same sx hdu2) (LstOf.same s03 ⟨ts, hts, rts⟩) ne hR k
theorem law_c {f : Addr} {cdv : Value} {A : Around} {outer : List Env} {s : Shared} {H0 : Hp} {E : XK} (T : Txt mg cs) (C__law_goes : Cal P w K mg base 9 "_law_goes" ["_law_place", "_law_stand"] spGoesL) (C_round_of : Cal P w K mg base 9 "round_of" ["cellar", "stand"] spRound)
    (hr : Room 9 (A.deeper (PyProof.Rows.envOfC "law" (defScope s_law) s.heap.objs.size f cdv))) :
    ∃ t, PSs (cxOf CX0 P w K mg base NL "law" (defScope s_law) f cdv A outer s H0 E).nox ((defBody s_law).drop 7) t /\ ∀ (nx bk ct : St -> Hp -> Prop) (rt : VK) (v2 : Option V) (a c p1 p2 lf : Addr) (C : Cl) (s1 s2 : Sd) (row : List Sd) (H : Hp), ClAt H c C -> ClOk C -> SAt H p1 s1 -> s1.ok C -> SAt H p2 s2 -> s2.ok C -> LstOf SAt H lf row -> row.Nodup -> (∀ t, t ∈ row ↔ Rch (GoR C) s1 t) -> (∀ H', rt (.bl true) H') ->
      t ⟨nx, rt, bk, ct⟩ [some (.ref a), some (.ref c), v2, some (.ref p1), some (.ref p2), some (.ref lf), none, none, none, none] H := by
  obtain ⟨td, hd, kd⟩ := law_d (P := P) (w := w) (base := base) (outer := outer) (H0 := H0) (E := E) T C_round_of hr
  refine ⟨_, (pss_cons (ps_set (i := 6) sc_law.nd rfl (Or.inr rfl) (pe_callB (sortTK K) rfl T.n_sorted bt_sorted (pa_cons (pe_comp (compOk (N := ["_law_other", "_law_first", "_law_place"]) (own := 1) (caps := [3, 1]) ["_law_script", "_law_place", "_law_some", "_law_first", "_law_second", "_law_far", "_law_due", "_law_told", "_law_one", "_law_other"] (defScope s_law) (by decide +kernel)) rfl (pi_listK K (pv 5)) (fun _ _ _ _ => (pg_name (i := 0) (show List.Nodup (["_law_other", "_law_first", "_law_place"] : List Str) by decide +kernel) rfl (Or.inl rfl))) (fun _ _ _ _ => (pf_one (pt_cmpR (op_inD K 1 (hu3_of hr)) (pv 1) (pe_cal C__law_goes hr (by decide) rfl (pa_cons (pv 2) (pa_cons (pv 0) pa_nil))) (by with_unfolding_all rfl)))) (fun _ _ _ _ => (pv 0))) pa_nil)))
      (pss_cons (ps_set (i := 7) sc_law.nd rfl (Or.inl rfl) (pe_cal C_round_of hr (by decide) rfl (pa_cons (pv 1) (pa_cons (pv 3) pa_nil))))
      (pss_cons (ps_if (PW.pt (pw_or (pt_not (pt_val (pe_callB call_isiS rfl T.n_isinstance bt_isinstance (pa_cons (pv 7) (pa_cons (pe_bltn (v := .ty "list") rfl T.n_list bt_list rfl) pa_nil))))) (pw_or (pt_cmpR (op_neD K 1 (hu3_of hr)) (pv 7) (pv 6) (nomark _)) (pw_or1 (PW.pt (pw_and (pt_cmpR op_eq (pe_ix (ix_tupK K) (pv 3) pe_int (fun _ _ => rfl)) (pe_ix (ix_tupK K) (pv 1) pe_int (fun _ _ => rfl)) (nomark _)) (pw_and1 (pt_cmpR (op_neD K 1 (hu3_of hr)) (pv 7) (pe_lst (pa_cons (pv 3) pa_nil)) (nomark _))))))))) (pss_one (ps_ret pe_bl)) pss_nil)
      hd))), ?_⟩
  intro nx bk ct rt v2 a c p1 p2 lf C s1 s2 row H hC ok hp1 ok1 hp2 ok2 hfar nd hmem k
  have big := line_big
  have okr := ok.r2
  have hdl := dom_len C s1
  have hrl : row.length <= 14 := by have := sub_len nd fun x hx => rch_dom ok ok1 ((hmem x).mp hx); omega
  obtain ⟨fs, hfs, rfs⟩ := hfar
  obtain ⟨pw, pt, pl, pv', h0, hw, ht, hl, hv⟩ := hC.ex
  walk_at "rd"
  intro D hD
  refine comp_lst (fs.map V.ref) (fun i σ H' => ∃ v0, σ = [v0, some (.ref p1), some (.ref c)] /\ Same H H' /\ LstOf SAt H' D ((row.take i).filter (backB C s1))) ⟨none, rfl, Same.upd hD, ⟨[], upd_same, Rows.nil⟩⟩ ?_ ?_ ?_
  · rintro i σ H' ⟨_, rfl, s2, _⟩
    exact SqL.of (s2 _ _ hfs)
  · rintro i x σ H' hx ⟨v0, rfl, sx, qs, hqs, rqs⟩
    have hi : i < row.length := by have := (List.getElem?_eq_some_iff.mp hx).1; rw [List.length_map, rfs.1] at this; exact this
    obtain ⟨p, ep, hp⟩ := rfs.get hi
    rw [hx] at ep
    cases ep
    have hpx : SAt H' p row[i] := SAt.mono sx.ts hp
    have hri : Rch (GoR C) s1 row[i] := (hmem _).mp (List.getElem_mem hi)
    rw [List.take_succ_eq_append_getElem hi, List.filter_append]
    generalize row[i] = y at hpx hri ⊢
    have hql : qs.length <= 14 := by rw [rqs.1]; refine Nat.le_trans (List.length_filter_le _ _) ?_; rw [List.length_take]; omega
    walk_at "rd"
    refine ⟨c, p, C, y, rfl, hC.mono sx.ts, ok, hpx, rch_ok ok ok1 hri, fun l rw' H3 s3 hl0 m3 nd3 mem3 => ?_⟩
    have hq3 := s3 _ _ hqs
    have rq3 := rqs.mono fun _ _ => SAt.mono s3.ts
    walk_at "rd"
    refine r_inS m3 ((sx.trans s3) _ _ hp1) ?_
    rw [backB_mem mem3]
    walk_at "rd"
    cases hb : backB C s1 y with
    | true =>
      walk_at "rd"
      refine ⟨_, hq3, by rw [List.length_map]; omega, _, rfl, (sx.trans s3).put hD, ?_⟩
      rw [show ([y].filter (backB C s1)) = [y] by simp [hb]]
      exact lst_snoc (fun _ _ => SAt.put hq3) rq3 (SAt.mono s3.ts hpx)
    | false =>
      walk_at "rd"
      refine ⟨_, rfl, sx.trans s3, qs, hq3, ?_⟩
      rw [show ([y].filter (backB C s1)) = [] by simp [hb], List.append_nil]
      exact rq3
  rintro σ H1 ⟨v0, rfl, s01, ps, hps, rps⟩
  rw [List.length_map, rfs.1, List.take_length] at rps
  have hpl : ps.length <= 14 := by rw [rps.1]; exact Nat.le_trans (List.length_filter_le _ _) hrl
  obtain ⟨l, e1, e2, e3⟩ := LstOf.pairs rps
  walk_at "rd"
  refine ⟨D, l, 5, rfl, SqL.of (by rw [hps, <- e1, List.map_map]; rfl), ?_, by decide, e3, fun du l' hr0 hp hs => ?_⟩
  · have := congrArg List.length e1
    rw [List.length_map] at this
    omega
  obtain ⟨R, pm, od, rr⟩ := sorted_sds (ps := ps) e2 e3 hp hs
  have s12 := Same.upd (o := .lst (l'.map fun x => V.ref x.1)) hr0
  have hdu : LstOf SAt (upd H1 du (.lst (l'.map fun x => V.ref x.1))) du R := ⟨l'.map (·.1), by rw [upd_same, List.map_map]; rfl, rr.mono fun _ _ => SAt.mono s12.ts⟩
  have hR : IsR (GoR C) s1 R := ⟨pm.nodup_iff.mpr (nd.filter _), od, fun t => by rw [pm.mem_iff, List.mem_filter, hmem, backB_iff]⟩
  generalize upd H1 du (.lst (l'.map fun x => V.ref x.1)) = H2 at s12 hdu ⊢
  have s02 := s01.trans s12
  try simp only [List.set_cons_succ, List.set_cons_zero]
  walk_at "rd"
  refine ⟨c, p1, C, s1, rfl, hC.mono s02.ts, ok, s02 _ _ hp1, ok1, fun tl R' H3 s3 htl0 htl hR' => ?_⟩
  have eR : R' = R := hR'.uniq hR ⟨.refl, .refl⟩
  rw [eR] at htl
  have s03 := s02.trans s3
  have hdu3 := LstOf.same s3 hdu
  have h03 := s03 _ _ h0
  have hp13 : H3 p1 = some (.tup [.int s1.rm, .int s1.tk, .int s1.op, .int s1.b, .int s1.wt]) := s03 _ _ hp1
  have ne : tl ≠ du := fun z => by obtain ⟨_, z1, _⟩ := hdu; rw [<- z, htl0] at z1; cases z1
  obtain ⟨ts, hts, rts⟩ := id htl
  try simp only [List.set_cons_succ, List.set_cons_zero]
  walk_at "rd"
  refine r_neSs htl hdu3 ?_
  rw [decide_eq_true (rfl : R = R)]
  walk_at "rd"
  refine ifd (fun hlast => ?_) (fun hlast => ?_)
  · walk_at "rd"
    intro q hq
    have s4 := Same.upd (o := .lst [.ref p1]) hq
    have h4 : LstOf SAt (upd H3 q (.lst [.ref p1])) q [s1] := ⟨[p1], upd_same, Rows.nil.snoc (s4 _ _ (s03 _ _ hp1))⟩
    generalize upd H3 q (.lst [.ref p1]) = H4 at s4 h4 ⊢
    have s04 := s03.trans s4
    refine r_neSs (LstOf.same s4 htl) h4 ?_
    rw [decide_eq_true (last_one hlast hR)]
    walk_at "rd"
    exact kd _ _ _ _ _ _ a c p1 p2 du tl C s1 s2 R H4 (hC.mono s04.ts) ok (s04 _ _ hp1) ok1 (s04 _ _ hp2) ok2 (LstOf.same s4 hdu3) (LstOf.same s4 htl) ne hR k
  · walk_at "rd"
    exact kd _ _ _ _ _ _ a c p1 p2 du tl C s1 s2 R H3 (hC.mono s03.ts) ok (s03 _ _ hp1) ok1 (s03 _ _ hp2) ok2 hdu3 htl ne hR k
end
section
variable {P : Program} {w : World} {K : W.Frag} {mg : Str -> Option Value} {base : Heap} {cs : Cs}
theorem law_b {f : Addr} {cdv : Value} {A : Around} {outer : List Env} {s : Shared} {H0 : Hp} {E : XK} (T : Txt mg cs) (C__law_cell_at : Cal P w K mg base 1 "_law_cell_at" ["_law_script", "_law_k"] (spCellA K)) (C__law_goes : Cal P w K mg base 9 "_law_goes" ["_law_place", "_law_stand"] spGoesL) (C_round_of : Cal P w K mg base 9 "round_of" ["cellar", "stand"] spRound)
    (hr : Room 9 (A.deeper (PyProof.Rows.envOfC "law" (defScope s_law) s.heap.objs.size f cdv))) :
    ∃ t, PSs (cxOf CX0 P w K mg base NL "law" (defScope s_law) f cdv A outer s H0 E).nox ((defBody s_law).drop 4) t /\ ∀ (nx bk ct : St -> Hp -> Prop) (rt : VK) (a c l p1 : Addr) (ns : List Int) (C : Cl) (s1 : Sd) (sts : List Sd) (H : Hp), SqL K H a (ns.map V.int) -> ns.length <= 63 -> ClAt H c C -> ClOk C -> SAt H p1 s1 -> s1.ok C -> LstOf SAt H l sts -> sts ≠ [] -> sts.length <= 1000 -> (∀ x ∈ sts, x.ok C) -> (∀ H', rt (.bl true) H') ->
      t ⟨nx, rt, bk, ct⟩ [some (.ref a), some (.ref c), some (.ref l), some (.ref p1), none, none, none, none, none, none] H := by
  obtain ⟨tc, hc, kc⟩ := law_c (P := P) (w := w) (base := base) (outer := outer) (H0 := H0) (E := E) T C__law_goes C_round_of hr
  refine ⟨_, (pss_cons (ps_set (i := 4) sc_law.nd rfl (Or.inl rfl) (pe_ix (ix_listK K) (pv 2) (pe_op op_mod (pe_cal C__law_cell_at hr (by decide) rfl (pa_cons (pv 0) (pa_cons pe_int pa_nil))) (pe_callB (lenK K) rfl T.n_len bt_len (pa_cons (pv 2) pa_nil))) (fun _ _ => rfl)))
      (pss_cons (ps_set (i := 5) sc_law.nd rfl (Or.inl rfl) (pe_cal C__law_goes hr (by decide) rfl (pa_cons (pv 1) (pa_cons (pv 3) pa_nil))))
      (pss_cons (ps_if (pt_cmpR op_eq (pe_op op_mod (pe_cal C__law_cell_at hr (by decide) rfl (pa_cons (pv 0) (pa_cons pe_int pa_nil))) pe_int) pe_int (nomark _)) (pss_one (ps_set (i := 4) sc_law.nd rfl (Or.inl rfl) (pe_ix (ix_listK K) (pv 5) (pe_op op_mod (pe_op op_fdiv (pe_cal C__law_cell_at hr (by decide) rfl (pa_cons (pv 0) (pa_cons pe_int pa_nil))) pe_int) (pe_callB (lenK K) rfl T.n_len bt_len (pa_cons (pv 5) pa_nil))) (fun _ _ => rfl)))) pss_nil)
      hc))), ?_⟩
  intro nx bk ct rt a c l p1 ns C s1 sts H hS hl hC ok hp1 ok1 hsts hne hlen hok k
  have big := line_big
  obtain ⟨qs, hqs, rqs⟩ := hsts
  have hql : qs.length = sts.length := rqs.1
  have hpos : 0 < sts.length := List.length_pos_iff.mpr hne
  walk_at "rd"
  refine ⟨a, ns, 8, rfl, hS, hl, by decide, ?_⟩
  generalize ns.getD (8 : Int).toNat 0 = m
  have hlpos : (0 : Int) < ((qs.map V.ref).length : Nat) := by rw [List.length_map]; omega
  walk_at "rd"
  obtain ⟨j, hj, ej⟩ := mod_nat m (qs.map V.ref).length (by rw [List.length_map]; omega)
  rw [ej]
  rw [List.length_map] at hj
  obtain ⟨p2, ep2, hp2⟩ := rqs.get (show j < sts.length by omega)
  have ok2 := hok _ (List.getElem_mem (show j < sts.length by omega))
  generalize sts[j]'(by omega) = s2 at hp2 ok2
  refine r_ixL (SqL.of hqs) (atI_nat ep2) ?_
  try simp only [List.set_cons_succ, List.set_cons_zero]
  walk_at "rd"
  refine ⟨c, p1, C, s1, rfl, hC, ok, hp1, ok1, fun lf row H1 s01 hlf0 hlf nd mem => ?_⟩
  try simp only [List.set_cons_succ, List.set_cons_zero]
  walk_at "rd"
  refine ⟨a, ns, 8, rfl, s01.seq hS, hl, by decide, ?_⟩
  generalize ns.getD (8 : Int).toNat 0 = m2
  walk_at "rd"
  refine ifd (fun hodd => ?_) (fun hodd => ?_)
  · obtain ⟨fs, hfs, rfs⟩ := id hlf
    have hfl : fs.length = row.length := rfs.1
    have hrow : 0 < row.length := List.length_pos_of_mem ((mem s1).mpr .refl)
    have hfpos : (0 : Int) < ((fs.map V.ref).length : Nat) := by rw [List.length_map]; omega
    walk_at "rd"
    refine ⟨a, ns, 8, rfl, s01.seq hS, hl, by decide, ?_⟩
    generalize ns.getD (8 : Int).toNat 0 = m3
    walk_at "rd"
    obtain ⟨i, hi, ei⟩ := mod_nat (m3 / 2) (fs.map V.ref).length (by rw [List.length_map]; omega)
    rw [ei]
    rw [List.length_map] at hi
    obtain ⟨p3, ep3, hp3⟩ := rfs.get (show i < row.length by omega)
    have ok3 := rch_ok ok ok1 ((mem _).mp (List.getElem_mem (show i < row.length by omega)))
    generalize row[i]'(by omega) = s3 at hp3 ok3
    refine r_ixL (SqL.of hfs) (atI_nat ep3) ?_
    try simp only [List.set_cons_succ, List.set_cons_zero]
    walk_at "rd"
    exact kc _ _ _ _ _ a c p1 p3 lf C s1 s3 row H1 (hC.mono s01.ts) ok (s01 _ _ hp1) ok1 hp3 ok3 hlf nd mem k
  · walk_at "rd"
    exact kc _ _ _ _ _ a c p1 p2 lf C s1 s2 row H1 (hC.mono s01.ts) ok (s01 _ _ hp1) ok1 (s01 _ _ hp2) ok2 hlf nd mem k
end
section
variable {P : Program} {w : World} {K : W.Frag} {mg : Str -> Option Value} {base : Heap} {cs : Cs}
theorem ok_law {f : Addr} {fd : FuncData} (F : Fun K "law" "law" s_law f fd) (T : Txt mg cs) (TC : Tcl K cs) (L__wall : Laid K mg "_wall" s__wall ["k"]) (L_within : Laid K mg "within" s_within ["number", "least", "most"]) (L_has_bit : Laid K mg "has_bit" s_has_bit ["bits", "place"]) (L_changed : Laid K mg "changed" s_changed ["parts", "place", "part"]) (L_gate_of : Laid K mg "gate_of" s_gate_of ["gate"]) (L_is_gate : Laid K mg "is_gate" s_is_gate ["thing"]) (L_tops_of : Laid K mg "tops_of" s_tops_of ["word"]) (L_cellar : ∃ d1 d2, LaidD K mg "cellar" s_cellar [.none, .none, .none, .int 0 d1, .int 0 d2]) (L_check_number : Laid K mg "check_number" s_check_number ["name", "number", "least", "most"]) (L_made_ways : Laid K mg "made_ways" s_made_ways ["rooms", "ways"]) (L_made_pairs : Laid K mg "made_pairs" s_made_pairs ["name", "rooms", "pairs", "most_pairs", "least", "most"]) (L_made_rows : Laid K mg "made_rows" s_made_rows ["name", "rows", "most"]) (L_start : Laid K mg "start" s_start ["cellar"]) (L_held : Laid K mg "held" s_held ["cellar", "stand"]) (L_door_kinds : Laid K mg "door_kinds" s_door_kinds ["cellar"]) (L_can_enter : Laid K mg "can_enter" s_can_enter ["way", "room"]) (L_deed_of : Laid K mg "deed_of" s_deed_of ["deed"]) (L_deeds_at : Laid K mg "deeds_at" s_deeds_at ["cellar", "stand"]) (L_behind : Laid K mg "behind" s_behind ["cellar", "stand", "deed"]) (L_stands_by_go : Laid K mg "stands_by_go" s_stands_by_go ["cellar", "stand"]) (L_fit_deeds : Laid K mg "fit_deeds" s_fit_deeds ["cellar", "stand"]) (L_all_goes : Laid K mg "all_goes" s_all_goes ["cellar"]) (L_all_deeds : Laid K mg "all_deeds" s_all_deeds ["cellar"]) (L_counts_from : Laid K mg "counts_from" s_counts_from ["begins", "links"]) (L_turned_links : Laid K mg "turned_links" s_turned_links ["links"]) (L_round_of : Laid K mg "round_of" s_round_of ["cellar", "stand"]) (L_go_links : Laid K mg "go_links" s_go_links ["cellar", "stand"]) (L__law_cell_at : Laid K mg "_law_cell_at" s__law_cell_at ["_law_script", "_law_k"]) (L__law_gate : Laid K mg "_law_gate" s__law_gate ["_law_cell"]) (L__law_cellar : Laid K mg "_law_cellar" s__law_cellar ["_law_script"]) (L__law_come : Laid K mg "_law_come" s__law_come ["_law_place", "_law_stand"]) (L__law_goes : Laid K mg "_law_goes" s__law_goes ["_law_place", "_law_stand"]) (L__law_any : Laid K mg "_law_any" s__law_any ["_law_script", "_law_place"]) (LM_Plain_lets : LaidM K cs.Plain "lets" "Plain.lets" s_Plain_lets ["self", "held", "opened", "bars", "water"]) (LM_Plain_told : LaidM K cs.Plain "told" "Gate.told" s_Gate_told ["self"]) (LI_Plain : LaidI K mg "Plain" cs.Plain "Plain.__init__" s_Plain_init ["self"]) (LM_Door_lets : LaidM K cs.Door "lets" "Door.lets" s_Door_lets ["self", "held", "opened", "bars", "water"]) (LM_Door_told : LaidM K cs.Door "told" "Gate.told" s_Gate_told ["self"]) (LI_Door : LaidI K mg "Door" cs.Door "Door.__init__" s_Door_init ["self", "kind"]) (LM_Need_lets : LaidM K cs.Need "lets" "Need.lets" s_Need_lets ["self", "held", "opened", "bars", "water"]) (LM_Need_told : LaidM K cs.Need "told" "Gate.told" s_Gate_told ["self"]) (LI_Need : LaidI K mg "Need" cs.Need "Need.__init__" s_Need_init ["self", "kind"]) (LM_Bar_lets : LaidM K cs.Bar "lets" "Bar.lets" s_Bar_lets ["self", "held", "opened", "bars", "water"]) (LM_Bar_told : LaidM K cs.Bar "told" "Gate.told" s_Gate_told ["self"]) (LI_Bar : LaidI K mg "Bar" cs.Bar "Bar.__init__" s_Bar_init ["self", "bar"]) (LM_Wade_lets : LaidM K cs.Wade "lets" "Wade.lets" s_Wade_lets ["self", "held", "opened", "bars", "water"]) (LM_Wade_told : LaidM K cs.Wade "told" "Gate.told" s_Gate_told ["self"]) (LI_Wade : LaidI K mg "Wade" cs.Wade "Wade.__init__" s_Wade_init ["self", "height", "kind"]) (LM_Float_lets : LaidM K cs.Float "lets" "Float.lets" s_Float_lets ["self", "held", "opened", "bars", "water"]) (LM_Float_told : LaidM K cs.Float "told" "Gate.told" s_Gate_told ["self"]) (LI_Float : LaidI K mg "Float" cs.Float "Float.__init__" s_Float_init ["self", "height"]) (LM_Go_can : LaidM K cs.Go "can" "Deed.can" s_Deed_can ["self", "cellar", "stand"]) (LM_Go_done : LaidM K cs.Go "done" "Go.done" s_Go_done ["self", "cellar", "stand"]) (LM_Go_fits : LaidM K cs.Go "fits" "Go.fits" s_Go_fits ["self", "cellar", "stand"]) (LM_Go_own_part : LaidM K cs.Go "own_part" "Deed.own_part" s_Deed_own_part ["self", "cellar"]) (LM_Go_told : LaidM K cs.Go "told" "Deed.told" s_Deed_told ["self"]) (LI_Go : LaidI K mg "Go" cs.Go "Go.__init__" s_Go_init ["self", "number"]) (LM_Pull_can : LaidM K cs.Pull "can" "Deed.can" s_Deed_can ["self", "cellar", "stand"]) (LM_Pull_done : LaidM K cs.Pull "done" "Pull.done" s_Pull_done ["self", "cellar", "stand"]) (LM_Pull_fits : LaidM K cs.Pull "fits" "Pull.fits" s_Pull_fits ["self", "cellar", "stand"]) (LM_Pull_own_part : LaidM K cs.Pull "own_part" "Deed.own_part" s_Deed_own_part ["self", "cellar"]) (LM_Pull_told : LaidM K cs.Pull "told" "Deed.told" s_Deed_told ["self"]) (LI_Pull : LaidI K mg "Pull" cs.Pull "Pull.__init__" s_Pull_init ["self", "number"]) (LM_Take_can : LaidM K cs.Take "can" "Deed.can" s_Deed_can ["self", "cellar", "stand"]) (LM_Take_done : LaidM K cs.Take "done" "Take.done" s_Take_done ["self", "cellar", "stand"]) (LM_Take_fits : LaidM K cs.Take "fits" "Take.fits" s_Take_fits ["self", "cellar", "stand"]) (LM_Take_own_part : LaidM K cs.Take "own_part" "Deed.own_part" s_Deed_own_part ["self", "cellar"]) (LM_Take_told : LaidM K cs.Take "told" "Deed.told" s_Deed_told ["self"]) (LI_Take : LaidI K mg "Take" cs.Take "Take.__init__" s_Take_init ["self", "number"]) (LM_Turn_can : LaidM K cs.Turn "can" "Deed.can" s_Deed_can ["self", "cellar", "stand"]) (LM_Turn_done : LaidM K cs.Turn "done" "Turn.done" s_Turn_done ["self", "cellar", "stand"]) (LM_Turn_fits : LaidM K cs.Turn "fits" "Turn.fits" s_Turn_fits ["self", "cellar", "stand"]) (LM_Turn_own_part : LaidM K cs.Turn "own_part" "Deed.own_part" s_Deed_own_part ["self", "cellar"]) (LM_Turn_told : LaidM K cs.Turn "told" "Deed.told" s_Deed_told ["self"]) (LI_Turn : LaidI K mg "Turn" cs.Turn "Turn.__init__" s_Turn_init ["self", "number"]) (LM_Unlock_can : LaidM K cs.Unlock "can" "Deed.can" s_Deed_can ["self", "cellar", "stand"]) (LM_Unlock_done : LaidM K cs.Unlock "done" "Unlock.done" s_Unlock_done ["self", "cellar", "stand"]) (LM_Unlock_fits : LaidM K cs.Unlock "fits" "Unlock.fits" s_Unlock_fits ["self", "cellar", "stand"]) (LM_Unlock_own_part : LaidM K cs.Unlock "own_part" "Deed.own_part" s_Deed_own_part ["self", "cellar"]) (LM_Unlock_told : LaidM K cs.Unlock "told" "Deed.told" s_Deed_told ["self"]) (LI_Unlock : LaidI K mg "Unlock" cs.Unlock "Unlock.__init__" s_Unlock_init ["self", "number"]) (LC_Deed_init : LaidC K mg "Deed" "__init__" "Deed.__init__" s_Deed_init ["self", "word", "number", "part"]) (LC_Gate_init : LaidC K mg "Gate" "__init__" "Gate.__init__" s_Gate_init ["self", "word", "numbers"]) : FnOk P w K mg base CX0 10 f fd ["_law_script"] (spLaw K) := by
  obtain ⟨d1, d2, L_cellar⟩ := L_cellar
  have C_has_bit : Cal P w K mg base 1 "has_bit" ["bits", "place"] spBit := ok_has_bit T L_has_bit
  have C_within : Cal P w K mg base 1 "within" ["number", "least", "most"] spWithin := ok_within T L_within
  have C_can_enter : Cal P w K mg base 1 "can_enter" ["way", "room"] spEnter := ok_enter T L_can_enter
  have C_changed : Cal P w K mg base 1 "changed" ["parts", "place", "part"] spChg := ok_changed T L_changed
  have C_door_kinds : Cal P w K mg base 1 "door_kinds" ["cellar"] spDk := ok_dk T L_door_kinds
  have C_held : Cal P w K mg base 2 "held" ["cellar", "stand"] spHeld := ok_held T L_held C_has_bit C_door_kinds
  have C_Gate_init : CCal P w K mg base 1 "Gate" "__init__" ["self", "word", "numbers"] (spGInit K) := ok_ginit T LC_Gate_init
  have C_Plain : Makes P w K mg base 2 "Plain" cs.Plain ["self"] (spMk cs "plain") := mk_plain T TC LI_Plain C_Gate_init
  have C_Door : Makes P w K mg base 2 "Door" cs.Door ["self", "kind"] (spMk cs "door") := mk_door T TC LI_Door C_Gate_init
  have C_Need : Makes P w K mg base 2 "Need" cs.Need ["self", "kind"] (spMk cs "need") := mk_need T TC LI_Need C_Gate_init
  have C_Bar : Makes P w K mg base 2 "Bar" cs.Bar ["self", "bar"] (spMk cs "bar") := mk_bar T TC LI_Bar C_Gate_init
  have C_Wade : Makes P w K mg base 2 "Wade" cs.Wade ["self", "height", "kind"] (spMk cs "wade") := mk_wade T TC LI_Wade C_Gate_init
  have C_Float : Makes P w K mg base 2 "Float" cs.Float ["self", "height"] (spMk cs "float") := mk_float T TC LI_Float C_Gate_init
  have C_gate_of : Cal P w K mg base 4 "gate_of" ["gate"] (spObj cs) := ok_gate_of T L_gate_of C_Plain C_Door C_Need C_Bar C_Wade C_Float
  have vl : ∀ g : Gt, VMeth P w K mg base 2 (clsOf cs g) "lets" ["self", "held", "opened", "bars", "water"] (spLets cs g.word) := fun g => by
    cases g
    · exact vm_lets_Plain T TC LM_Plain_lets
    · exact vm_lets_Door T TC LM_Door_lets
    · exact vm_lets_Need T TC LM_Need_lets
    · exact vm_lets_Bar T TC LM_Bar_lets C_has_bit
    · exact vm_lets_Wade T TC LM_Wade_lets
    · exact vm_lets_Float T TC LM_Float_lets
  have C_Deed_init : CCal P w K mg base 1 "Deed" "__init__" ["self", "word", "number", "part"] (spDInit K) := ok_dinit T LC_Deed_init
  have C_Go : Makes P w K mg base 2 "Go" cs.Go ["self", "number"] (spMkD cs .go) := mk_go T TC LI_Go C_Deed_init
  have C_Pull : Makes P w K mg base 2 "Pull" cs.Pull ["self", "number"] (spMkD cs .pull) := mk_pull T TC LI_Pull C_Deed_init
  have C_Take : Makes P w K mg base 2 "Take" cs.Take ["self", "number"] (spMkD cs .take) := mk_take T TC LI_Take C_Deed_init
  have C_Turn : Makes P w K mg base 2 "Turn" cs.Turn ["self", "number"] (spMkD cs .turn) := mk_turn T TC LI_Turn C_Deed_init
  have C_Unlock : Makes P w K mg base 2 "Unlock" cs.Unlock ["self", "number"] (spMkD cs .unlock) := mk_unlock T TC LI_Unlock C_Deed_init
  have C_deed_of : Cal P w K mg base 4 "deed_of" ["deed"] (spDof cs) := ok_deed_of T L_deed_of C_Go C_Pull C_Take C_Turn C_Unlock
  have vo : ∀ d, VMeth P w K mg base 1 (dcls cs d) "own_part" ["self", "cellar"] (spOwn cs d) := fun d => by
    have D := dcl_of TC d
    cases d
    · exact vm_own LM_Go_own_part D
    · exact vm_own LM_Pull_own_part D
    · exact vm_own LM_Take_own_part D
    · exact vm_own LM_Turn_own_part D
    · exact vm_own LM_Unlock_own_part D
  have vf : ∀ d, VMeth P w K mg base 5 (dcls cs d) "fits" ["self", "cellar", "stand"] (spFits cs d) := fun d => by
    have D := dcl_of TC d
    have v := vo d
    cases d
    · exact vm_fits_go T D LM_Go_fits v C_can_enter C_has_bit C_gate_of vl C_held
    · exact vm_fits_pull T D LM_Pull_fits v
    · exact vm_fits_take T D LM_Take_fits v C_has_bit
    · exact vm_fits_turn T D LM_Turn_fits v
    · exact vm_fits_unlock T D LM_Unlock_fits v C_can_enter C_has_bit C_held
  have vc : ∀ d, VMeth P w K mg base 6 (dcls cs d) "can" ["self", "cellar", "stand"] (spCan cs d) := fun d => by
    have D := dcl_of TC d
    have v := vf d
    cases d
    · exact vm_can T LM_Go_can D C_within v
    · exact vm_can T LM_Pull_can D C_within v
    · exact vm_can T LM_Take_can D C_within v
    · exact vm_can T LM_Turn_can D C_within v
    · exact vm_can T LM_Unlock_can D C_within v
  have vd : ∀ d, VMeth P w K mg base 2 (dcls cs d) "done" ["self", "cellar", "stand"] (spDone cs d) := fun d => by
    have D := dcl_of TC d
    have v := vo d
    cases d
    · exact vm_done_go T D LM_Go_done v C_changed
    · exact vm_done_pull T D LM_Pull_done v C_changed
    · exact vm_done_take T D LM_Take_done C_changed
    · exact vm_done_turn T D LM_Turn_done v C_changed
    · exact vm_done_unlock T D LM_Unlock_done C_changed
  have vt : ∀ d, VMeth P w K mg base 1 (dcls cs d) "told" ["self"] (spDTold cs d) := fun d => by
    have D := dcl_of TC d
    cases d
    · exact vm_dtold LM_Go_told D
    · exact vm_dtold LM_Pull_told D
    · exact vm_dtold LM_Take_told D
    · exact vm_dtold LM_Turn_told D
    · exact vm_dtold LM_Unlock_told D
  have C_start : Cal P w K mg base 1 "start" ["cellar"] spStart := ok_start T L_start
  have C_all_goes : Cal P w K mg base 4 "all_goes" ["cellar"] (spGoes cs) := ok_goes T L_all_goes C_Go
  have C_all_deeds : Cal P w K mg base 5 "all_deeds" ["cellar"] (spAllD cs) := ok_allD T L_all_deeds C_all_goes C_Pull C_Take C_Turn C_Unlock
  have C_fit_deeds : Cal P w K mg base 7 "fit_deeds" ["cellar", "stand"] (spFitD cs) := ok_fitD T L_fit_deeds C_all_deeds vc
  have C_deeds_at : Cal P w K mg base 8 "deeds_at" ["cellar", "stand"] spDeedsAt := ok_deedsAt T L_deeds_at C_fit_deeds vt
  have C_behind : Cal P w K mg base 7 "behind" ["cellar", "stand", "deed"] spBehind := ok_behind T L_behind C_deed_of vc vd
  have C_tops_of := ok_tops_of (P := P) (w := w) (base := base) T L_tops_of
  have C_is_gate := ok_is_gate (P := P) (w := w) (base := base) T L_is_gate C_tops_of C_within
  have C_check_number := ok_check (P := P) (w := w) (base := base) T L_check_number C_within
  have C_made_rows := ok_rows (P := P) (w := w) (base := base) T L_made_rows
  have C_made_ways := ok_mw (P := P) (w := w) (base := base) T L_made_ways C_check_number C_made_rows C_is_gate
  have C_made_pairs := ok_mp (P := P) (w := w) (base := base) T L_made_pairs C_check_number C_made_rows
  have C_cellar : CalD P w K mg base 4 "cellar" psC spMkC s_cellar (dsC d1 d2) := ok_mkc (P := P) (w := w) (base := base) T L_cellar C_check_number C_made_ways C_made_pairs
  have C_stands_by_go := ok_bygo T L_stands_by_go C_all_goes vc vd
  have C_go_links := ok_glinks T L_go_links C_changed C_stands_by_go
  have C_counts_from := ok_cfrom (P := P) (w := w) (base := base) T L_counts_from
  have C_turned_links := ok_turned (P := P) (w := w) (base := base) T L_turned_links
  have C_round_of := ok_round T L_round_of C_go_links C_counts_from C_turned_links
  have C__law_cell_at := ok_cellA (P := P) (w := w) (base := base) T L__law_cell_at
  have C__law_gate := ok_gateL (P := P) (w := w) (base := base) T L__law_gate
  have C__law_cellar := ok_celL T L__law_cellar C__law_cell_at C__law_gate C_cellar
  have C__law_come := ok_come T L__law_come C_deeds_at C_behind
  have C__law_goes := ok_goesL T L__law_goes C_deeds_at C_behind
  have C__law_any := ok_any T L__law_any C__law_cell_at
  refine F.ok (k := 9) sc_law (fun vs H Q E h => ?_) (fun cdv A outer s H vs Q E hr h => ?_)
  · obtain ⟨a, ns, rfl, _⟩ := h
    rfl
  · obtain ⟨a, ns, rfl, hS, hl, k⟩ := h
    have big := line_big
    obtain ⟨tb, hb, kb⟩ := law_b (P := P) (w := w) (base := base) (outer := outer) (H0 := H) (E := E) T C__law_cell_at C__law_goes C_round_of hr
    refine ⟨_, (pss_cons (ps_set (i := 1) sc_law.nd rfl (Or.inr rfl) (pe_cal C__law_cellar hr (by decide) rfl (pa_cons (pv 0) pa_nil)))
      (pss_cons (ps_set (i := 2) sc_law.nd rfl (Or.inl rfl) (pe_cal C__law_come hr (by decide) rfl (pa_cons (pv 1) (pa_cons (pe_cal C_start hr (by decide) rfl (pa_cons (pv 1) pa_nil)) pa_nil))))
      (pss_cons (ps_set (i := 3) sc_law.nd rfl (Or.inr rfl) (pe_ix (ix_listK K) (pv 2) (pe_op op_mod (pe_cal C__law_cell_at hr (by decide) rfl (pa_cons (pv 0) (pa_cons pe_int pa_nil))) (pe_callB (lenK K) rfl T.n_len bt_len (pa_cons (pv 2) pa_nil))) (fun _ _ => rfl)))
      (pss_cons (ps_if (pt_cmpR op_eq (pe_op op_mod (pe_cal C__law_cell_at hr (by decide) rfl (pa_cons (pv 0) (pa_cons pe_int pa_nil))) pe_int) pe_int (nomark _)) (pss_one (ps_set (i := 3) sc_law.nd rfl (Or.inr rfl) (pe_cal C__law_any hr (by decide) rfl (pa_cons (pv 0) (pa_cons (pv 1) pa_nil))))) pss_nil)
      hb)))), ?_⟩
    rw [show L2.start NL [V.ref a] = [some (V.ref a), none, none, none, none, none, none, none, none, none] from rfl]
    walk_at "rd"
    refine ⟨a, ns, rfl, hS, hl, fun c C H1 s1 hC ok => ?_⟩
    try simp only [List.set_cons_succ, List.set_cons_zero]
    walk_at "rd"
    refine ⟨c, C, rfl, hC, fun p0 H2 s2 hp0 => ?_⟩
    have s02 := s1.trans s2
    have hp0' : SAt H2 p0 ⟨C.fst, 0, 0, C.bars, C.water⟩ := hp0
    walk_at "rd"
    refine ⟨c, p0, C, _, rfl, hC.mono s2.ts, ok, hp0', start_ok ok, fun l sts H3 s3 hl0 hsts hne hlen hok => ?_⟩
    have s03 := s02.trans s3
    have hC3 := hC.mono (s2.trans s3).ts
    obtain ⟨qs, hqs, rqs⟩ := id hsts
    have hql : qs.length = sts.length := rqs.1
    have hpos : 0 < sts.length := List.length_pos_iff.mpr hne
    have hlpos : (0 : Int) < ((qs.map V.ref).length : Nat) := by rw [List.length_map]; omega
    try simp only [List.set_cons_succ, List.set_cons_zero]
    walk_at "rd"
    refine ⟨a, ns, 7, rfl, s03.seq hS, hl, by decide, ?_⟩
    generalize ns.getD (7 : Int).toNat 0 = m
    walk_at "rd"
    obtain ⟨j, hj, ej⟩ := mod_nat m (qs.map V.ref).length (by rw [List.length_map]; omega)
    rw [ej]
    rw [List.length_map] at hj
    obtain ⟨p1, ep1, hp1⟩ := rqs.get (show j < sts.length by omega)
    have ok1 := hok _ (List.getElem_mem (show j < sts.length by omega))
    generalize sts[j]'(by omega) = s1' at hp1 ok1
    refine r_ixL (SqL.of hqs) (atI_nat ep1) ?_
    try simp only [List.set_cons_succ, List.set_cons_zero]
    walk_at "rd"
    refine ⟨a, ns, 8, rfl, s03.seq hS, hl, by decide, ?_⟩
    walk_at "rd"
    refine ifd (fun h3 => ?_) (fun h3 => ?_)
    · walk_at "rd"
      refine ⟨a, c, ns, C, rfl, s03.seq hS, hl, hC3, ok, fun p4 s4 H4 s34 hp4 ok4 => ?_⟩
      try simp only [List.set_cons_succ, List.set_cons_zero]
      walk_at "rd"
      exact kb _ _ _ _ a c l p4 ns C s4 sts H4 ((s03.trans s34).seq hS) hl (hC3.mono s34.ts) ok hp4 ok4 (LstOf.same s34 hsts) hne hlen hok k
    · walk_at "rd"
      exact kb _ _ _ _ a c l p1 ns C s1' sts H3 (s03.seq hS) hl hC3 ok hp1 ok1 hsts hne hlen hok k
end
theorem all_mk {l : W.OpenLaw} {w : World} {K : W.Frag} {h : Heap} {mg : Str -> Option Value} {fa : Addr} (X : K.In h) (G : h.Ns mainGlobals mg) (hfa : mg "law" = some (.ref fa))
    {f0 : Addr} {od0 an0 : Option Addr} {sl0 : Array (Option Value)} {oc0 kV0 dc0 pm0 cd0 ct0 : Value}
    {f1 : Addr} {od1 an1 : Option Addr} {sl1 : Array (Option Value)} {oc1 kV1 dc1 pm1 cd1 ct1 : Value}
    {f2 : Addr} {od2 an2 : Option Addr} {sl2 : Array (Option Value)} {oc2 kV2 dc2 pm2 cd2 ct2 : Value}
    {f3 : Addr} {od3 an3 : Option Addr} {sl3 : Array (Option Value)} {oc3 kV3 dc3 pm3 cd3 ct3 : Value}
    {f4 : Addr} {od4 an4 : Option Addr} {sl4 : Array (Option Value)} {oc4 kV4 dc4 pm4 cd4 ct4 : Value}
    {f5 : Addr} {od5 an5 : Option Addr} {sl5 : Array (Option Value)} {oc5 kV5 dc5 pm5 cd5 ct5 : Value}
    {f6 : Addr} {od6 an6 : Option Addr} {sl6 : Array (Option Value)} {oc6 kV6 dc6 pm6 cd6 ct6 : Value}
    {f7 : Addr} {od7 an7 : Option Addr} {sl7 : Array (Option Value)} {oc7 kV7 dc7 pm7 cd7 ct7 : Value}
    {f8 : Addr} {od8 an8 : Option Addr} {sl8 : Array (Option Value)} {oc8 kV8 dc8 pm8 cd8 ct8 : Value}
    {f9 : Addr} {od9 an9 : Option Addr} {sl9 : Array (Option Value)} {oc9 kV9 dc9 pm9 cd9 ct9 : Value}
    {f10 : Addr} {od10 an10 : Option Addr} {sl10 : Array (Option Value)} {oc10 kV10 dc10 pm10 cd10 ct10 : Value}
    {f11 : Addr} {od11 an11 : Option Addr} {sl11 : Array (Option Value)} {oc11 kV11 dc11 pm11 cd11 ct11 : Value}
    {f12 : Addr} {od12 an12 : Option Addr} {sl12 : Array (Option Value)} {oc12 kV12 dc12 pm12 cd12 ct12 : Value}
    {f13 : Addr} {od13 an13 : Option Addr} {sl13 : Array (Option Value)} {oc13 kV13 dc13 pm13 cd13 ct13 : Value}
    {f14 : Addr} {od14 an14 : Option Addr} {sl14 : Array (Option Value)} {oc14 kV14 dc14 pm14 cd14 ct14 : Value}
    {f15 : Addr} {od15 an15 : Option Addr} {sl15 : Array (Option Value)} {oc15 kV15 dc15 pm15 cd15 ct15 : Value}
    {f16 : Addr} {od16 an16 : Option Addr} {sl16 : Array (Option Value)} {oc16 kV16 dc16 pm16 cd16 ct16 : Value}
    {f17 : Addr} {od17 an17 : Option Addr} {sl17 : Array (Option Value)} {oc17 kV17 dc17 pm17 cd17 ct17 : Value}
    {f18 : Addr} {od18 an18 : Option Addr} {sl18 : Array (Option Value)} {oc18 kV18 dc18 pm18 cd18 ct18 : Value}
    {f19 : Addr} {od19 an19 : Option Addr} {sl19 : Array (Option Value)} {oc19 kV19 dc19 pm19 cd19 ct19 : Value}
    {f20 : Addr} {od20 an20 : Option Addr} {sl20 : Array (Option Value)} {oc20 kV20 dc20 pm20 cd20 ct20 : Value}
    {f21 : Addr} {od21 an21 : Option Addr} {sl21 : Array (Option Value)} {oc21 kV21 dc21 pm21 cd21 ct21 : Value}
    {f22 : Addr} {od22 an22 : Option Addr} {sl22 : Array (Option Value)} {oc22 kV22 dc22 pm22 cd22 ct22 : Value}
    {f23 : Addr} {od23 an23 : Option Addr} {sl23 : Array (Option Value)} {oc23 kV23 dc23 pm23 cd23 ct23 : Value}
    {f24 : Addr} {od24 an24 : Option Addr} {sl24 : Array (Option Value)} {oc24 kV24 dc24 pm24 cd24 ct24 : Value}
    {f25 : Addr} {od25 an25 : Option Addr} {sl25 : Array (Option Value)} {oc25 kV25 dc25 pm25 cd25 ct25 : Value}
    {f26 : Addr} {od26 an26 : Option Addr} {sl26 : Array (Option Value)} {oc26 kV26 dc26 pm26 cd26 ct26 : Value}
    {f27 : Addr} {od27 an27 : Option Addr} {sl27 : Array (Option Value)} {oc27 kV27 dc27 pm27 cd27 ct27 : Value}
    {f28 : Addr} {od28 an28 : Option Addr} {sl28 : Array (Option Value)} {oc28 kV28 dc28 pm28 cd28 ct28 : Value}
    {f29 : Addr} {od29 an29 : Option Addr} {sl29 : Array (Option Value)} {oc29 kV29 dc29 pm29 cd29 ct29 : Value}
    {f30 : Addr} {od30 an30 : Option Addr} {sl30 : Array (Option Value)} {oc30 kV30 dc30 pm30 cd30 ct30 : Value}
    {f31 : Addr} {od31 an31 : Option Addr} {sl31 : Array (Option Value)} {oc31 kV31 dc31 pm31 cd31 ct31 : Value}
    {f32 : Addr} {od32 an32 : Option Addr} {sl32 : Array (Option Value)} {oc32 kV32 dc32 pm32 cd32 ct32 : Value}
    {f33 : Addr} {od33 an33 : Option Addr} {sl33 : Array (Option Value)} {oc33 kV33 dc33 pm33 cd33 ct33 : Value}
    {f34 : Addr} {od34 an34 : Option Addr} {sl34 : Array (Option Value)} {oc34 kV34 dc34 pm34 cd34 ct34 : Value}
    {f35 : Addr} {od35 an35 : Option Addr} {sl35 : Array (Option Value)} {oc35 kV35 dc35 pm35 cd35 ct35 : Value}
    {f36 : Addr} {od36 an36 : Option Addr} {sl36 : Array (Option Value)} {oc36 kV36 dc36 pm36 cd36 ct36 : Value}
    {f37 : Addr} {od37 an37 : Option Addr} {sl37 : Array (Option Value)} {oc37 kV37 dc37 pm37 cd37 ct37 : Value}
    {f38 : Addr} {od38 an38 : Option Addr} {sl38 : Array (Option Value)} {oc38 kV38 dc38 pm38 cd38 ct38 : Value}
    {f39 : Addr} {od39 an39 : Option Addr} {sl39 : Array (Option Value)} {oc39 kV39 dc39 pm39 cd39 ct39 : Value}
    {f40 : Addr} {od40 an40 : Option Addr} {sl40 : Array (Option Value)} {oc40 kV40 dc40 pm40 cd40 ct40 : Value}
    {f41 : Addr} {od41 an41 : Option Addr} {sl41 : Array (Option Value)} {oc41 kV41 dc41 pm41 cd41 ct41 : Value}
    {f42 : Addr} {od42 an42 : Option Addr} {sl42 : Array (Option Value)} {oc42 kV42 dc42 pm42 cd42 ct42 : Value}
    {f43 : Addr} {od43 an43 : Option Addr} {sl43 : Array (Option Value)} {oc43 kV43 dc43 pm43 cd43 ct43 : Value}
    {f44 : Addr} {od44 an44 : Option Addr} {sl44 : Array (Option Value)} {oc44 kV44 dc44 pm44 cd44 ct44 : Value}
    {f45 : Addr} {od45 an45 : Option Addr} {sl45 : Array (Option Value)} {oc45 kV45 dc45 pm45 cd45 ct45 : Value}
    {f46 : Addr} {od46 an46 : Option Addr} {sl46 : Array (Option Value)} {oc46 kV46 dc46 pm46 cd46 ct46 : Value}
    {f47 : Addr} {od47 an47 : Option Addr} {sl47 : Array (Option Value)} {oc47 kV47 dc47 pm47 cd47 ct47 : Value}
    {f48 : Addr} {od48 an48 : Option Addr} {sl48 : Array (Option Value)} {oc48 kV48 dc48 pm48 cd48 ct48 : Value}
    {f49 : Addr} {od49 an49 : Option Addr} {sl49 : Array (Option Value)} {oc49 kV49 dc49 pm49 cd49 ct49 : Value}
    {f50 : Addr} {od50 an50 : Option Addr} {sl50 : Array (Option Value)} {oc50 kV50 dc50 pm50 cd50 ct50 : Value}
    {f51 : Addr} {od51 an51 : Option Addr} {sl51 : Array (Option Value)} {oc51 kV51 dc51 pm51 cd51 ct51 : Value}
    {f52 : Addr} {od52 an52 : Option Addr} {sl52 : Array (Option Value)} {oc52 kV52 dc52 pm52 cd52 ct52 : Value}
    {f53 : Addr} {od53 an53 : Option Addr} {sl53 : Array (Option Value)} {oc53 kV53 dc53 pm53 cd53 ct53 : Value}
    {f54 : Addr} {od54 an54 : Option Addr} {sl54 : Array (Option Value)} {oc54 kV54 dc54 pm54 cd54 ct54 : Value}
    {f55 : Addr} {od55 an55 : Option Addr} {sl55 : Array (Option Value)} {oc55 kV55 dc55 pm55 cd55 ct55 : Value}
    {f56 : Addr} {od56 an56 : Option Addr} {sl56 : Array (Option Value)} {oc56 kV56 dc56 pm56 cd56 ct56 : Value}
    {f57 : Addr} {od57 an57 : Option Addr} {sl57 : Array (Option Value)} {oc57 kV57 dc57 pm57 cd57 ct57 : Value}
    {f58 : Addr} {od58 an58 : Option Addr} {sl58 : Array (Option Value)} {oc58 kV58 dc58 pm58 cd58 ct58 : Value}
    {f59 : Addr} {od59 an59 : Option Addr} {sl59 : Array (Option Value)} {oc59 kV59 dc59 pm59 cd59 ct59 : Value}
    {f60 : Addr} {od60 an60 : Option Addr} {sl60 : Array (Option Value)} {oc60 kV60 dc60 pm60 cd60 ct60 : Value}
    {f61 : Addr} {od61 an61 : Option Addr} {sl61 : Array (Option Value)} {oc61 kV61 dc61 pm61 cd61 ct61 : Value}
    {f62 : Addr} {od62 an62 : Option Addr} {sl62 : Array (Option Value)} {oc62 kV62 dc62 pm62 cd62 ct62 : Value}
    {f63 : Addr} {od63 an63 : Option Addr} {sl63 : Array (Option Value)} {oc63 kV63 dc63 pm63 cd63 ct63 : Value}
    {f64 : Addr} {od64 an64 : Option Addr} {sl64 : Array (Option Value)} {oc64 kV64 dc64 pm64 cd64 ct64 : Value}
    {f65 : Addr} {od65 an65 : Option Addr} {sl65 : Array (Option Value)} {oc65 kV65 dc65 pm65 cd65 ct65 : Value}
    {f66 : Addr} {od66 an66 : Option Addr} {sl66 : Array (Option Value)} {oc66 kV66 dc66 pm66 cd66 ct66 : Value}
    {T_cellar : Addr} {oT_cellar : Value} {odT_cellar : Option Addr} {nT_cellar : Nat} {slT_cellar : Array (Option Value)} {d1 d2 : Tok}
    {t_ALL_BARS : Tok}
    {t_BARS : Tok}
    {t_FIRST : Tok}
    {t_FIRST_BARS : Tok}
    {t_FIRST_WATER : Tok}
    {t_LAST : Tok}
    {t_LAST_BAR : Tok}
    {t_LAST_KIND : Tok}
    {t_LEVERS : Tok}
    {t_MOST_LEVERS : Tok}
    {t_MOST_ROOMS : Tok}
    {t_MOST_THINGS : Tok}
    {t_MOST_WAYS : Tok}
    {t_MOST_WHEELS : Tok}
    {t_OPENED : Tok}
    {t_PAIR_NUMBER : Tok}
    {t_PAIR_ROOM : Tok}
    {t_ROOM : Tok}
    {t_ROOMS : Tok}
    {t_TAKEN : Tok}
    {t_THINGS : Tok}
    {t_TOP_HEIGHT : Tok}
    {t_WATER : Tok}
    {t_WAYS : Tok}
    {t_WAY_A : Tok}
    {t_WAY_B : Tok}
    {t_WAY_BACK : Tok}
    {t_WAY_GATE : Tok}
    {t_WHEELS : Tok}
    {C_Gate : Addr}
    {C_Plain : Addr}
    {C_Door : Addr}
    {C_Need : Addr}
    {C_Bar : Addr}
    {C_Wade : Addr}
    {C_Float : Addr}
    {C_Deed : Addr}
    {C_Go : Addr}
    {C_Pull : Addr}
    {C_Take : Addr}
    {C_Turn : Addr}
    {C_Unlock : Addr}
    (z0 : W.nsIn K mainGlobals "Gate" = some (some (.ref C_Gate)))
    (z1 : W.nsIn K mainGlobals "Plain" = some (some (.ref C_Plain)))
    (z2 : W.nsIn K mainGlobals "Door" = some (some (.ref C_Door)))
    (z3 : W.nsIn K mainGlobals "Need" = some (some (.ref C_Need)))
    (z4 : W.nsIn K mainGlobals "Bar" = some (some (.ref C_Bar)))
    (z5 : W.nsIn K mainGlobals "Wade" = some (some (.ref C_Wade)))
    (z6 : W.nsIn K mainGlobals "Float" = some (some (.ref C_Float)))
    (z7 : W.nsIn K mainGlobals "Deed" = some (some (.ref C_Deed)))
    (z8 : W.nsIn K mainGlobals "Go" = some (some (.ref C_Go)))
    (z9 : W.nsIn K mainGlobals "Pull" = some (some (.ref C_Pull)))
    (za : W.nsIn K mainGlobals "Take" = some (some (.ref C_Take)))
    (zb : W.nsIn K mainGlobals "Turn" = some (some (.ref C_Turn)))
    (zc : W.nsIn K mainGlobals "Unlock" = some (some (.ref C_Unlock)))
    (a0 : W.nsIn K mainGlobals "_wall" = some (some (.ref f0)))
    (l0 : K.lookup f0 = some ⟨oc0, od0, .func (W.fnOf "_wall" "_wall" (defArgs s__wall) (defBody s__wall) (defScope s__wall) .none kV0 dc0 pm0 an0 cd0 ct0), sl0⟩)
    (c0 : W.codeIn K cd0 "_wall" = true)
    (k0 : W.keepIn K (.ref f0) = true)
    (a1 : W.nsIn K mainGlobals "within" = some (some (.ref f1)))
    (l1 : K.lookup f1 = some ⟨oc1, od1, .func (W.fnOf "within" "within" (defArgs s_within) (defBody s_within) (defScope s_within) .none kV1 dc1 pm1 an1 cd1 ct1), sl1⟩)
    (c1 : W.codeIn K cd1 "within" = true)
    (k1 : W.keepIn K (.ref f1) = true)
    (a2 : W.nsIn K mainGlobals "has_bit" = some (some (.ref f2)))
    (l2 : K.lookup f2 = some ⟨oc2, od2, .func (W.fnOf "has_bit" "has_bit" (defArgs s_has_bit) (defBody s_has_bit) (defScope s_has_bit) .none kV2 dc2 pm2 an2 cd2 ct2), sl2⟩)
    (c2 : W.codeIn K cd2 "has_bit" = true)
    (k2 : W.keepIn K (.ref f2) = true)
    (a3 : W.nsIn K mainGlobals "changed" = some (some (.ref f3)))
    (l3 : K.lookup f3 = some ⟨oc3, od3, .func (W.fnOf "changed" "changed" (defArgs s_changed) (defBody s_changed) (defScope s_changed) .none kV3 dc3 pm3 an3 cd3 ct3), sl3⟩)
    (c3 : W.codeIn K cd3 "changed" = true)
    (k3 : W.keepIn K (.ref f3) = true)
    (a4 : W.nsIn K mainGlobals "gate_of" = some (some (.ref f4)))
    (l4 : K.lookup f4 = some ⟨oc4, od4, .func (W.fnOf "gate_of" "gate_of" (defArgs s_gate_of) (defBody s_gate_of) (defScope s_gate_of) .none kV4 dc4 pm4 an4 cd4 ct4), sl4⟩)
    (c4 : W.codeIn K cd4 "gate_of" = true)
    (k4 : W.keepIn K (.ref f4) = true)
    (a5 : W.nsIn K mainGlobals "is_gate" = some (some (.ref f5)))
    (l5 : K.lookup f5 = some ⟨oc5, od5, .func (W.fnOf "is_gate" "is_gate" (defArgs s_is_gate) (defBody s_is_gate) (defScope s_is_gate) .none kV5 dc5 pm5 an5 cd5 ct5), sl5⟩)
    (c5 : W.codeIn K cd5 "is_gate" = true)
    (k5 : W.keepIn K (.ref f5) = true)
    (a6 : W.nsIn K mainGlobals "tops_of" = some (some (.ref f6)))
    (l6 : K.lookup f6 = some ⟨oc6, od6, .func (W.fnOf "tops_of" "tops_of" (defArgs s_tops_of) (defBody s_tops_of) (defScope s_tops_of) .none kV6 dc6 pm6 an6 cd6 ct6), sl6⟩)
    (c6 : W.codeIn K cd6 "tops_of" = true)
    (k6 : W.keepIn K (.ref f6) = true)
    (a7 : W.nsIn K mainGlobals "cellar" = some (some (.ref f7)))
    (l7 : K.lookup f7 = some ⟨oc7, od7, .func (W.fnOf "cellar" "cellar" (defArgs s_cellar) (defBody s_cellar) (defScope s_cellar) (.ref T_cellar) kV7 dc7 pm7 an7 cd7 ct7), sl7⟩)
    (d7_ : K.lookup T_cellar = some ⟨oT_cellar, odT_cellar, .seq (List.toArray [.none, .none, .none, .int 0 d1, .int 0 d2]) nT_cellar, slT_cellar⟩)
    (c7 : W.codeIn K cd7 "cellar" = true)
    (k7 : W.keepIn K (.ref f7) = true)
    (a8 : W.nsIn K mainGlobals "check_number" = some (some (.ref f8)))
    (l8 : K.lookup f8 = some ⟨oc8, od8, .func (W.fnOf "check_number" "check_number" (defArgs s_check_number) (defBody s_check_number) (defScope s_check_number) .none kV8 dc8 pm8 an8 cd8 ct8), sl8⟩)
    (c8 : W.codeIn K cd8 "check_number" = true)
    (k8 : W.keepIn K (.ref f8) = true)
    (a9 : W.nsIn K mainGlobals "made_ways" = some (some (.ref f9)))
    (l9 : K.lookup f9 = some ⟨oc9, od9, .func (W.fnOf "made_ways" "made_ways" (defArgs s_made_ways) (defBody s_made_ways) (defScope s_made_ways) .none kV9 dc9 pm9 an9 cd9 ct9), sl9⟩)
    (c9 : W.codeIn K cd9 "made_ways" = true)
    (k9 : W.keepIn K (.ref f9) = true)
    (a10 : W.nsIn K mainGlobals "made_pairs" = some (some (.ref f10)))
    (l10 : K.lookup f10 = some ⟨oc10, od10, .func (W.fnOf "made_pairs" "made_pairs" (defArgs s_made_pairs) (defBody s_made_pairs) (defScope s_made_pairs) .none kV10 dc10 pm10 an10 cd10 ct10), sl10⟩)
    (c10 : W.codeIn K cd10 "made_pairs" = true)
    (k10 : W.keepIn K (.ref f10) = true)
    (a11 : W.nsIn K mainGlobals "made_rows" = some (some (.ref f11)))
    (l11 : K.lookup f11 = some ⟨oc11, od11, .func (W.fnOf "made_rows" "made_rows" (defArgs s_made_rows) (defBody s_made_rows) (defScope s_made_rows) .none kV11 dc11 pm11 an11 cd11 ct11), sl11⟩)
    (c11 : W.codeIn K cd11 "made_rows" = true)
    (k11 : W.keepIn K (.ref f11) = true)
    (a12 : W.nsIn K mainGlobals "start" = some (some (.ref f12)))
    (l12 : K.lookup f12 = some ⟨oc12, od12, .func (W.fnOf "start" "start" (defArgs s_start) (defBody s_start) (defScope s_start) .none kV12 dc12 pm12 an12 cd12 ct12), sl12⟩)
    (c12 : W.codeIn K cd12 "start" = true)
    (k12 : W.keepIn K (.ref f12) = true)
    (a13 : W.nsIn K mainGlobals "held" = some (some (.ref f13)))
    (l13 : K.lookup f13 = some ⟨oc13, od13, .func (W.fnOf "held" "held" (defArgs s_held) (defBody s_held) (defScope s_held) .none kV13 dc13 pm13 an13 cd13 ct13), sl13⟩)
    (c13 : W.codeIn K cd13 "held" = true)
    (k13 : W.keepIn K (.ref f13) = true)
    (a14 : W.nsIn K mainGlobals "door_kinds" = some (some (.ref f14)))
    (l14 : K.lookup f14 = some ⟨oc14, od14, .func (W.fnOf "door_kinds" "door_kinds" (defArgs s_door_kinds) (defBody s_door_kinds) (defScope s_door_kinds) .none kV14 dc14 pm14 an14 cd14 ct14), sl14⟩)
    (c14 : W.codeIn K cd14 "door_kinds" = true)
    (k14 : W.keepIn K (.ref f14) = true)
    (a15 : W.nsIn K mainGlobals "can_enter" = some (some (.ref f15)))
    (l15 : K.lookup f15 = some ⟨oc15, od15, .func (W.fnOf "can_enter" "can_enter" (defArgs s_can_enter) (defBody s_can_enter) (defScope s_can_enter) .none kV15 dc15 pm15 an15 cd15 ct15), sl15⟩)
    (c15 : W.codeIn K cd15 "can_enter" = true)
    (k15 : W.keepIn K (.ref f15) = true)
    (a16 : W.nsIn K mainGlobals "deed_of" = some (some (.ref f16)))
    (l16 : K.lookup f16 = some ⟨oc16, od16, .func (W.fnOf "deed_of" "deed_of" (defArgs s_deed_of) (defBody s_deed_of) (defScope s_deed_of) .none kV16 dc16 pm16 an16 cd16 ct16), sl16⟩)
    (c16 : W.codeIn K cd16 "deed_of" = true)
    (k16 : W.keepIn K (.ref f16) = true)
    (a17 : W.nsIn K mainGlobals "deeds_at" = some (some (.ref f17)))
    (l17 : K.lookup f17 = some ⟨oc17, od17, .func (W.fnOf "deeds_at" "deeds_at" (defArgs s_deeds_at) (defBody s_deeds_at) (defScope s_deeds_at) .none kV17 dc17 pm17 an17 cd17 ct17), sl17⟩)
    (c17 : W.codeIn K cd17 "deeds_at" = true)
    (k17 : W.keepIn K (.ref f17) = true)
    (a18 : W.nsIn K mainGlobals "behind" = some (some (.ref f18)))
    (l18 : K.lookup f18 = some ⟨oc18, od18, .func (W.fnOf "behind" "behind" (defArgs s_behind) (defBody s_behind) (defScope s_behind) .none kV18 dc18 pm18 an18 cd18 ct18), sl18⟩)
    (c18 : W.codeIn K cd18 "behind" = true)
    (k18 : W.keepIn K (.ref f18) = true)
    (a19 : W.nsIn K mainGlobals "stands_by_go" = some (some (.ref f19)))
    (l19 : K.lookup f19 = some ⟨oc19, od19, .func (W.fnOf "stands_by_go" "stands_by_go" (defArgs s_stands_by_go) (defBody s_stands_by_go) (defScope s_stands_by_go) .none kV19 dc19 pm19 an19 cd19 ct19), sl19⟩)
    (c19 : W.codeIn K cd19 "stands_by_go" = true)
    (k19 : W.keepIn K (.ref f19) = true)
    (a20 : W.nsIn K mainGlobals "fit_deeds" = some (some (.ref f20)))
    (l20 : K.lookup f20 = some ⟨oc20, od20, .func (W.fnOf "fit_deeds" "fit_deeds" (defArgs s_fit_deeds) (defBody s_fit_deeds) (defScope s_fit_deeds) .none kV20 dc20 pm20 an20 cd20 ct20), sl20⟩)
    (c20 : W.codeIn K cd20 "fit_deeds" = true)
    (k20 : W.keepIn K (.ref f20) = true)
    (a21 : W.nsIn K mainGlobals "all_goes" = some (some (.ref f21)))
    (l21 : K.lookup f21 = some ⟨oc21, od21, .func (W.fnOf "all_goes" "all_goes" (defArgs s_all_goes) (defBody s_all_goes) (defScope s_all_goes) .none kV21 dc21 pm21 an21 cd21 ct21), sl21⟩)
    (c21 : W.codeIn K cd21 "all_goes" = true)
    (k21 : W.keepIn K (.ref f21) = true)
    (a22 : W.nsIn K mainGlobals "all_deeds" = some (some (.ref f22)))
    (l22 : K.lookup f22 = some ⟨oc22, od22, .func (W.fnOf "all_deeds" "all_deeds" (defArgs s_all_deeds) (defBody s_all_deeds) (defScope s_all_deeds) .none kV22 dc22 pm22 an22 cd22 ct22), sl22⟩)
    (c22 : W.codeIn K cd22 "all_deeds" = true)
    (k22 : W.keepIn K (.ref f22) = true)
    (a23 : W.nsIn K mainGlobals "counts_from" = some (some (.ref f23)))
    (l23 : K.lookup f23 = some ⟨oc23, od23, .func (W.fnOf "counts_from" "counts_from" (defArgs s_counts_from) (defBody s_counts_from) (defScope s_counts_from) .none kV23 dc23 pm23 an23 cd23 ct23), sl23⟩)
    (c23 : W.codeIn K cd23 "counts_from" = true)
    (k23 : W.keepIn K (.ref f23) = true)
    (a24 : W.nsIn K mainGlobals "turned_links" = some (some (.ref f24)))
    (l24 : K.lookup f24 = some ⟨oc24, od24, .func (W.fnOf "turned_links" "turned_links" (defArgs s_turned_links) (defBody s_turned_links) (defScope s_turned_links) .none kV24 dc24 pm24 an24 cd24 ct24), sl24⟩)
    (c24 : W.codeIn K cd24 "turned_links" = true)
    (k24 : W.keepIn K (.ref f24) = true)
    (a25 : W.nsIn K mainGlobals "round_of" = some (some (.ref f25)))
    (l25 : K.lookup f25 = some ⟨oc25, od25, .func (W.fnOf "round_of" "round_of" (defArgs s_round_of) (defBody s_round_of) (defScope s_round_of) .none kV25 dc25 pm25 an25 cd25 ct25), sl25⟩)
    (c25 : W.codeIn K cd25 "round_of" = true)
    (k25 : W.keepIn K (.ref f25) = true)
    (a26 : W.nsIn K mainGlobals "go_links" = some (some (.ref f26)))
    (l26 : K.lookup f26 = some ⟨oc26, od26, .func (W.fnOf "go_links" "go_links" (defArgs s_go_links) (defBody s_go_links) (defScope s_go_links) .none kV26 dc26 pm26 an26 cd26 ct26), sl26⟩)
    (c26 : W.codeIn K cd26 "go_links" = true)
    (k26 : W.keepIn K (.ref f26) = true)
    (a27 : W.nsIn K mainGlobals "_law_cell_at" = some (some (.ref f27)))
    (l27 : K.lookup f27 = some ⟨oc27, od27, .func (W.fnOf "_law_cell_at" "_law_cell_at" (defArgs s__law_cell_at) (defBody s__law_cell_at) (defScope s__law_cell_at) .none kV27 dc27 pm27 an27 cd27 ct27), sl27⟩)
    (c27 : W.codeIn K cd27 "_law_cell_at" = true)
    (k27 : W.keepIn K (.ref f27) = true)
    (a28 : W.nsIn K mainGlobals "_law_gate" = some (some (.ref f28)))
    (l28 : K.lookup f28 = some ⟨oc28, od28, .func (W.fnOf "_law_gate" "_law_gate" (defArgs s__law_gate) (defBody s__law_gate) (defScope s__law_gate) .none kV28 dc28 pm28 an28 cd28 ct28), sl28⟩)
    (c28 : W.codeIn K cd28 "_law_gate" = true)
    (k28 : W.keepIn K (.ref f28) = true)
    (a29 : W.nsIn K mainGlobals "_law_cellar" = some (some (.ref f29)))
    (l29 : K.lookup f29 = some ⟨oc29, od29, .func (W.fnOf "_law_cellar" "_law_cellar" (defArgs s__law_cellar) (defBody s__law_cellar) (defScope s__law_cellar) .none kV29 dc29 pm29 an29 cd29 ct29), sl29⟩)
    (c29 : W.codeIn K cd29 "_law_cellar" = true)
    (k29 : W.keepIn K (.ref f29) = true)
    (a30 : W.nsIn K mainGlobals "_law_come" = some (some (.ref f30)))
    (l30 : K.lookup f30 = some ⟨oc30, od30, .func (W.fnOf "_law_come" "_law_come" (defArgs s__law_come) (defBody s__law_come) (defScope s__law_come) .none kV30 dc30 pm30 an30 cd30 ct30), sl30⟩)
    (c30 : W.codeIn K cd30 "_law_come" = true)
    (k30 : W.keepIn K (.ref f30) = true)
    (a31 : W.nsIn K mainGlobals "_law_goes" = some (some (.ref f31)))
    (l31 : K.lookup f31 = some ⟨oc31, od31, .func (W.fnOf "_law_goes" "_law_goes" (defArgs s__law_goes) (defBody s__law_goes) (defScope s__law_goes) .none kV31 dc31 pm31 an31 cd31 ct31), sl31⟩)
    (c31 : W.codeIn K cd31 "_law_goes" = true)
    (k31 : W.keepIn K (.ref f31) = true)
    (a32 : W.nsIn K mainGlobals "_law_any" = some (some (.ref f32)))
    (l32 : K.lookup f32 = some ⟨oc32, od32, .func (W.fnOf "_law_any" "_law_any" (defArgs s__law_any) (defBody s__law_any) (defScope s__law_any) .none kV32 dc32 pm32 an32 cd32 ct32), sl32⟩)
    (c32 : W.codeIn K cd32 "_law_any" = true)
    (k32 : W.keepIn K (.ref f32) = true)
    (a33 : W.nsIn K mainGlobals "law" = some (some (.ref f33)))
    (l33 : K.lookup f33 = some ⟨oc33, od33, .func (W.fnOf "law" "law" (defArgs s_law) (defBody s_law) (defScope s_law) .none kV33 dc33 pm33 an33 cd33 ct33), sl33⟩)
    (c33 : W.codeIn K cd33 "law" = true)
    (k33 : W.keepIn K (.ref f33) = true)
    (a34 : W.findIn K (.ref C_Gate) "__init__" = some (some (.ref f34)))
    (i34 : W.isFn K (.ref f34) = true)
    (l34 : K.lookup f34 = some ⟨oc34, od34, .func (W.fnOf "__init__" "Gate.__init__" (defArgs s_Gate_init) (defBody s_Gate_init) (defScope s_Gate_init) .none kV34 dc34 pm34 an34 cd34 ct34), sl34⟩)
    (c34 : W.codeIn K cd34 "Gate.__init__" = true)
    (k34 : W.keepIn K (.ref f34) = true)
    (a35 : W.findIn K (.ref C_Gate) "told" = some (some (.ref f35)))
    (i35 : W.isFn K (.ref f35) = true)
    (l35 : K.lookup f35 = some ⟨oc35, od35, .func (W.fnOf "told" "Gate.told" (defArgs s_Gate_told) (defBody s_Gate_told) (defScope s_Gate_told) .none kV35 dc35 pm35 an35 cd35 ct35), sl35⟩)
    (c35 : W.codeIn K cd35 "Gate.told" = true)
    (k35 : W.keepIn K (.ref f35) = true)
    (a36 : W.findIn K (.ref C_Plain) "__init__" = some (some (.ref f36)))
    (i36 : W.isFn K (.ref f36) = true)
    (l36 : K.lookup f36 = some ⟨oc36, od36, .func (W.fnOf "__init__" "Plain.__init__" (defArgs s_Plain_init) (defBody s_Plain_init) (defScope s_Plain_init) .none kV36 dc36 pm36 an36 cd36 ct36), sl36⟩)
    (c36 : W.codeIn K cd36 "Plain.__init__" = true)
    (k36 : W.keepIn K (.ref f36) = true)
    (a37 : W.findIn K (.ref C_Plain) "lets" = some (some (.ref f37)))
    (i37 : W.isFn K (.ref f37) = true)
    (l37 : K.lookup f37 = some ⟨oc37, od37, .func (W.fnOf "lets" "Plain.lets" (defArgs s_Plain_lets) (defBody s_Plain_lets) (defScope s_Plain_lets) .none kV37 dc37 pm37 an37 cd37 ct37), sl37⟩)
    (c37 : W.codeIn K cd37 "Plain.lets" = true)
    (k37 : W.keepIn K (.ref f37) = true)
    (a38 : W.findIn K (.ref C_Door) "__init__" = some (some (.ref f38)))
    (i38 : W.isFn K (.ref f38) = true)
    (l38 : K.lookup f38 = some ⟨oc38, od38, .func (W.fnOf "__init__" "Door.__init__" (defArgs s_Door_init) (defBody s_Door_init) (defScope s_Door_init) .none kV38 dc38 pm38 an38 cd38 ct38), sl38⟩)
    (c38 : W.codeIn K cd38 "Door.__init__" = true)
    (k38 : W.keepIn K (.ref f38) = true)
    (a39 : W.findIn K (.ref C_Door) "lets" = some (some (.ref f39)))
    (i39 : W.isFn K (.ref f39) = true)
    (l39 : K.lookup f39 = some ⟨oc39, od39, .func (W.fnOf "lets" "Door.lets" (defArgs s_Door_lets) (defBody s_Door_lets) (defScope s_Door_lets) .none kV39 dc39 pm39 an39 cd39 ct39), sl39⟩)
    (c39 : W.codeIn K cd39 "Door.lets" = true)
    (k39 : W.keepIn K (.ref f39) = true)
    (a40 : W.findIn K (.ref C_Need) "__init__" = some (some (.ref f40)))
    (i40 : W.isFn K (.ref f40) = true)
    (l40 : K.lookup f40 = some ⟨oc40, od40, .func (W.fnOf "__init__" "Need.__init__" (defArgs s_Need_init) (defBody s_Need_init) (defScope s_Need_init) .none kV40 dc40 pm40 an40 cd40 ct40), sl40⟩)
    (c40 : W.codeIn K cd40 "Need.__init__" = true)
    (k40 : W.keepIn K (.ref f40) = true)
    (a41 : W.findIn K (.ref C_Need) "lets" = some (some (.ref f41)))
    (i41 : W.isFn K (.ref f41) = true)
    (l41 : K.lookup f41 = some ⟨oc41, od41, .func (W.fnOf "lets" "Need.lets" (defArgs s_Need_lets) (defBody s_Need_lets) (defScope s_Need_lets) .none kV41 dc41 pm41 an41 cd41 ct41), sl41⟩)
    (c41 : W.codeIn K cd41 "Need.lets" = true)
    (k41 : W.keepIn K (.ref f41) = true)
    (a42 : W.findIn K (.ref C_Bar) "__init__" = some (some (.ref f42)))
    (i42 : W.isFn K (.ref f42) = true)
    (l42 : K.lookup f42 = some ⟨oc42, od42, .func (W.fnOf "__init__" "Bar.__init__" (defArgs s_Bar_init) (defBody s_Bar_init) (defScope s_Bar_init) .none kV42 dc42 pm42 an42 cd42 ct42), sl42⟩)
    (c42 : W.codeIn K cd42 "Bar.__init__" = true)
    (k42 : W.keepIn K (.ref f42) = true)
    (a43 : W.findIn K (.ref C_Bar) "lets" = some (some (.ref f43)))
    (i43 : W.isFn K (.ref f43) = true)
    (l43 : K.lookup f43 = some ⟨oc43, od43, .func (W.fnOf "lets" "Bar.lets" (defArgs s_Bar_lets) (defBody s_Bar_lets) (defScope s_Bar_lets) .none kV43 dc43 pm43 an43 cd43 ct43), sl43⟩)
    (c43 : W.codeIn K cd43 "Bar.lets" = true)
    (k43 : W.keepIn K (.ref f43) = true)
    (a44 : W.findIn K (.ref C_Wade) "__init__" = some (some (.ref f44)))
    (i44 : W.isFn K (.ref f44) = true)
    (l44 : K.lookup f44 = some ⟨oc44, od44, .func (W.fnOf "__init__" "Wade.__init__" (defArgs s_Wade_init) (defBody s_Wade_init) (defScope s_Wade_init) .none kV44 dc44 pm44 an44 cd44 ct44), sl44⟩)
    (c44 : W.codeIn K cd44 "Wade.__init__" = true)
    (k44 : W.keepIn K (.ref f44) = true)
    (a45 : W.findIn K (.ref C_Wade) "lets" = some (some (.ref f45)))
    (i45 : W.isFn K (.ref f45) = true)
    (l45 : K.lookup f45 = some ⟨oc45, od45, .func (W.fnOf "lets" "Wade.lets" (defArgs s_Wade_lets) (defBody s_Wade_lets) (defScope s_Wade_lets) .none kV45 dc45 pm45 an45 cd45 ct45), sl45⟩)
    (c45 : W.codeIn K cd45 "Wade.lets" = true)
    (k45 : W.keepIn K (.ref f45) = true)
    (a46 : W.findIn K (.ref C_Float) "__init__" = some (some (.ref f46)))
    (i46 : W.isFn K (.ref f46) = true)
    (l46 : K.lookup f46 = some ⟨oc46, od46, .func (W.fnOf "__init__" "Float.__init__" (defArgs s_Float_init) (defBody s_Float_init) (defScope s_Float_init) .none kV46 dc46 pm46 an46 cd46 ct46), sl46⟩)
    (c46 : W.codeIn K cd46 "Float.__init__" = true)
    (k46 : W.keepIn K (.ref f46) = true)
    (a47 : W.findIn K (.ref C_Float) "lets" = some (some (.ref f47)))
    (i47 : W.isFn K (.ref f47) = true)
    (l47 : K.lookup f47 = some ⟨oc47, od47, .func (W.fnOf "lets" "Float.lets" (defArgs s_Float_lets) (defBody s_Float_lets) (defScope s_Float_lets) .none kV47 dc47 pm47 an47 cd47 ct47), sl47⟩)
    (c47 : W.codeIn K cd47 "Float.lets" = true)
    (k47 : W.keepIn K (.ref f47) = true)
    (a48 : W.findIn K (.ref C_Deed) "__init__" = some (some (.ref f48)))
    (i48 : W.isFn K (.ref f48) = true)
    (l48 : K.lookup f48 = some ⟨oc48, od48, .func (W.fnOf "__init__" "Deed.__init__" (defArgs s_Deed_init) (defBody s_Deed_init) (defScope s_Deed_init) .none kV48 dc48 pm48 an48 cd48 ct48), sl48⟩)
    (c48 : W.codeIn K cd48 "Deed.__init__" = true)
    (k48 : W.keepIn K (.ref f48) = true)
    (a49 : W.findIn K (.ref C_Deed) "can" = some (some (.ref f49)))
    (i49 : W.isFn K (.ref f49) = true)
    (l49 : K.lookup f49 = some ⟨oc49, od49, .func (W.fnOf "can" "Deed.can" (defArgs s_Deed_can) (defBody s_Deed_can) (defScope s_Deed_can) .none kV49 dc49 pm49 an49 cd49 ct49), sl49⟩)
    (c49 : W.codeIn K cd49 "Deed.can" = true)
    (k49 : W.keepIn K (.ref f49) = true)
    (a50 : W.findIn K (.ref C_Deed) "told" = some (some (.ref f50)))
    (i50 : W.isFn K (.ref f50) = true)
    (l50 : K.lookup f50 = some ⟨oc50, od50, .func (W.fnOf "told" "Deed.told" (defArgs s_Deed_told) (defBody s_Deed_told) (defScope s_Deed_told) .none kV50 dc50 pm50 an50 cd50 ct50), sl50⟩)
    (c50 : W.codeIn K cd50 "Deed.told" = true)
    (k50 : W.keepIn K (.ref f50) = true)
    (a51 : W.findIn K (.ref C_Deed) "own_part" = some (some (.ref f51)))
    (i51 : W.isFn K (.ref f51) = true)
    (l51 : K.lookup f51 = some ⟨oc51, od51, .func (W.fnOf "own_part" "Deed.own_part" (defArgs s_Deed_own_part) (defBody s_Deed_own_part) (defScope s_Deed_own_part) .none kV51 dc51 pm51 an51 cd51 ct51), sl51⟩)
    (c51 : W.codeIn K cd51 "Deed.own_part" = true)
    (k51 : W.keepIn K (.ref f51) = true)
    (a52 : W.findIn K (.ref C_Go) "__init__" = some (some (.ref f52)))
    (i52 : W.isFn K (.ref f52) = true)
    (l52 : K.lookup f52 = some ⟨oc52, od52, .func (W.fnOf "__init__" "Go.__init__" (defArgs s_Go_init) (defBody s_Go_init) (defScope s_Go_init) .none kV52 dc52 pm52 an52 cd52 ct52), sl52⟩)
    (c52 : W.codeIn K cd52 "Go.__init__" = true)
    (k52 : W.keepIn K (.ref f52) = true)
    (a53 : W.findIn K (.ref C_Go) "fits" = some (some (.ref f53)))
    (i53 : W.isFn K (.ref f53) = true)
    (l53 : K.lookup f53 = some ⟨oc53, od53, .func (W.fnOf "fits" "Go.fits" (defArgs s_Go_fits) (defBody s_Go_fits) (defScope s_Go_fits) .none kV53 dc53 pm53 an53 cd53 ct53), sl53⟩)
    (c53 : W.codeIn K cd53 "Go.fits" = true)
    (k53 : W.keepIn K (.ref f53) = true)
    (a54 : W.findIn K (.ref C_Go) "done" = some (some (.ref f54)))
    (i54 : W.isFn K (.ref f54) = true)
    (l54 : K.lookup f54 = some ⟨oc54, od54, .func (W.fnOf "done" "Go.done" (defArgs s_Go_done) (defBody s_Go_done) (defScope s_Go_done) .none kV54 dc54 pm54 an54 cd54 ct54), sl54⟩)
    (c54 : W.codeIn K cd54 "Go.done" = true)
    (k54 : W.keepIn K (.ref f54) = true)
    (a55 : W.findIn K (.ref C_Pull) "__init__" = some (some (.ref f55)))
    (i55 : W.isFn K (.ref f55) = true)
    (l55 : K.lookup f55 = some ⟨oc55, od55, .func (W.fnOf "__init__" "Pull.__init__" (defArgs s_Pull_init) (defBody s_Pull_init) (defScope s_Pull_init) .none kV55 dc55 pm55 an55 cd55 ct55), sl55⟩)
    (c55 : W.codeIn K cd55 "Pull.__init__" = true)
    (k55 : W.keepIn K (.ref f55) = true)
    (a56 : W.findIn K (.ref C_Pull) "fits" = some (some (.ref f56)))
    (i56 : W.isFn K (.ref f56) = true)
    (l56 : K.lookup f56 = some ⟨oc56, od56, .func (W.fnOf "fits" "Pull.fits" (defArgs s_Pull_fits) (defBody s_Pull_fits) (defScope s_Pull_fits) .none kV56 dc56 pm56 an56 cd56 ct56), sl56⟩)
    (c56 : W.codeIn K cd56 "Pull.fits" = true)
    (k56 : W.keepIn K (.ref f56) = true)
    (a57 : W.findIn K (.ref C_Pull) "done" = some (some (.ref f57)))
    (i57 : W.isFn K (.ref f57) = true)
    (l57 : K.lookup f57 = some ⟨oc57, od57, .func (W.fnOf "done" "Pull.done" (defArgs s_Pull_done) (defBody s_Pull_done) (defScope s_Pull_done) .none kV57 dc57 pm57 an57 cd57 ct57), sl57⟩)
    (c57 : W.codeIn K cd57 "Pull.done" = true)
    (k57 : W.keepIn K (.ref f57) = true)
    (a58 : W.findIn K (.ref C_Take) "__init__" = some (some (.ref f58)))
    (i58 : W.isFn K (.ref f58) = true)
    (l58 : K.lookup f58 = some ⟨oc58, od58, .func (W.fnOf "__init__" "Take.__init__" (defArgs s_Take_init) (defBody s_Take_init) (defScope s_Take_init) .none kV58 dc58 pm58 an58 cd58 ct58), sl58⟩)
    (c58 : W.codeIn K cd58 "Take.__init__" = true)
    (k58 : W.keepIn K (.ref f58) = true)
    (a59 : W.findIn K (.ref C_Take) "fits" = some (some (.ref f59)))
    (i59 : W.isFn K (.ref f59) = true)
    (l59 : K.lookup f59 = some ⟨oc59, od59, .func (W.fnOf "fits" "Take.fits" (defArgs s_Take_fits) (defBody s_Take_fits) (defScope s_Take_fits) .none kV59 dc59 pm59 an59 cd59 ct59), sl59⟩)
    (c59 : W.codeIn K cd59 "Take.fits" = true)
    (k59 : W.keepIn K (.ref f59) = true)
    (a60 : W.findIn K (.ref C_Take) "done" = some (some (.ref f60)))
    (i60 : W.isFn K (.ref f60) = true)
    (l60 : K.lookup f60 = some ⟨oc60, od60, .func (W.fnOf "done" "Take.done" (defArgs s_Take_done) (defBody s_Take_done) (defScope s_Take_done) .none kV60 dc60 pm60 an60 cd60 ct60), sl60⟩)
    (c60 : W.codeIn K cd60 "Take.done" = true)
    (k60 : W.keepIn K (.ref f60) = true)
    (a61 : W.findIn K (.ref C_Turn) "__init__" = some (some (.ref f61)))
    (i61 : W.isFn K (.ref f61) = true)
    (l61 : K.lookup f61 = some ⟨oc61, od61, .func (W.fnOf "__init__" "Turn.__init__" (defArgs s_Turn_init) (defBody s_Turn_init) (defScope s_Turn_init) .none kV61 dc61 pm61 an61 cd61 ct61), sl61⟩)
    (c61 : W.codeIn K cd61 "Turn.__init__" = true)
    (k61 : W.keepIn K (.ref f61) = true)
    (a62 : W.findIn K (.ref C_Turn) "fits" = some (some (.ref f62)))
    (i62 : W.isFn K (.ref f62) = true)
    (l62 : K.lookup f62 = some ⟨oc62, od62, .func (W.fnOf "fits" "Turn.fits" (defArgs s_Turn_fits) (defBody s_Turn_fits) (defScope s_Turn_fits) .none kV62 dc62 pm62 an62 cd62 ct62), sl62⟩)
    (c62 : W.codeIn K cd62 "Turn.fits" = true)
    (k62 : W.keepIn K (.ref f62) = true)
    (a63 : W.findIn K (.ref C_Turn) "done" = some (some (.ref f63)))
    (i63 : W.isFn K (.ref f63) = true)
    (l63 : K.lookup f63 = some ⟨oc63, od63, .func (W.fnOf "done" "Turn.done" (defArgs s_Turn_done) (defBody s_Turn_done) (defScope s_Turn_done) .none kV63 dc63 pm63 an63 cd63 ct63), sl63⟩)
    (c63 : W.codeIn K cd63 "Turn.done" = true)
    (k63 : W.keepIn K (.ref f63) = true)
    (a64 : W.findIn K (.ref C_Unlock) "__init__" = some (some (.ref f64)))
    (i64 : W.isFn K (.ref f64) = true)
    (l64 : K.lookup f64 = some ⟨oc64, od64, .func (W.fnOf "__init__" "Unlock.__init__" (defArgs s_Unlock_init) (defBody s_Unlock_init) (defScope s_Unlock_init) .none kV64 dc64 pm64 an64 cd64 ct64), sl64⟩)
    (c64 : W.codeIn K cd64 "Unlock.__init__" = true)
    (k64 : W.keepIn K (.ref f64) = true)
    (a65 : W.findIn K (.ref C_Unlock) "fits" = some (some (.ref f65)))
    (i65 : W.isFn K (.ref f65) = true)
    (l65 : K.lookup f65 = some ⟨oc65, od65, .func (W.fnOf "fits" "Unlock.fits" (defArgs s_Unlock_fits) (defBody s_Unlock_fits) (defScope s_Unlock_fits) .none kV65 dc65 pm65 an65 cd65 ct65), sl65⟩)
    (c65 : W.codeIn K cd65 "Unlock.fits" = true)
    (k65 : W.keepIn K (.ref f65) = true)
    (a66 : W.findIn K (.ref C_Unlock) "done" = some (some (.ref f66)))
    (i66 : W.isFn K (.ref f66) = true)
    (l66 : K.lookup f66 = some ⟨oc66, od66, .func (W.fnOf "done" "Unlock.done" (defArgs s_Unlock_done) (defBody s_Unlock_done) (defScope s_Unlock_done) .none kV66 dc66 pm66 an66 cd66 ct66), sl66⟩)
    (c66 : W.codeIn K cd66 "Unlock.done" = true)
    (k66 : W.keepIn K (.ref f66) = true)
    (zd : W.plainGet K C_Plain Str.empty = true)
    (ze : W.hasDictIn K C_Plain = true)
    (zf : W.plainOver K C_Plain = true)
    (zg : W.findIn K (.ref C_Plain) "__setattr__" = some (some (.builtin "object.__setattr__")))
    (zh : W.makesIn K C_Plain = true)
    (zi : W.keepIn K (.ref C_Plain) = true)
    (zj : W.findIn K (.ref C_Plain) "numbers" = some none)
    (zk : W.findIn K (.ref C_Plain) "word" = some none)
    (zl : W.findIn K (.ref C_Plain) "told" = some (some (.ref f35)))
    (zm : W.plainGet K C_Door Str.empty = true)
    (zn : W.hasDictIn K C_Door = true)
    (zo : W.plainOver K C_Door = true)
    (zp : W.findIn K (.ref C_Door) "__setattr__" = some (some (.builtin "object.__setattr__")))
    (zq : W.makesIn K C_Door = true)
    (zr : W.keepIn K (.ref C_Door) = true)
    (zs : W.findIn K (.ref C_Door) "numbers" = some none)
    (zt : W.findIn K (.ref C_Door) "word" = some none)
    (zu : W.findIn K (.ref C_Door) "told" = some (some (.ref f35)))
    (zv : W.plainGet K C_Need Str.empty = true)
    (zw : W.hasDictIn K C_Need = true)
    (zx : W.plainOver K C_Need = true)
    (zy : W.findIn K (.ref C_Need) "__setattr__" = some (some (.builtin "object.__setattr__")))
    (zz : W.makesIn K C_Need = true)
    (z10 : W.keepIn K (.ref C_Need) = true)
    (z11 : W.findIn K (.ref C_Need) "kind" = some none)
    (z12 : W.findIn K (.ref C_Need) "numbers" = some none)
    (z13 : W.findIn K (.ref C_Need) "word" = some none)
    (z14 : W.findIn K (.ref C_Need) "told" = some (some (.ref f35)))
    (z15 : W.plainGet K C_Bar Str.empty = true)
    (z16 : W.hasDictIn K C_Bar = true)
    (z17 : W.plainOver K C_Bar = true)
    (z18 : W.findIn K (.ref C_Bar) "__setattr__" = some (some (.builtin "object.__setattr__")))
    (z19 : W.makesIn K C_Bar = true)
    (z1a : W.keepIn K (.ref C_Bar) = true)
    (z1b : W.findIn K (.ref C_Bar) "bar" = some none)
    (z1c : W.findIn K (.ref C_Bar) "numbers" = some none)
    (z1d : W.findIn K (.ref C_Bar) "word" = some none)
    (z1e : W.findIn K (.ref C_Bar) "told" = some (some (.ref f35)))
    (z1f : W.plainGet K C_Wade Str.empty = true)
    (z1g : W.hasDictIn K C_Wade = true)
    (z1h : W.plainOver K C_Wade = true)
    (z1i : W.findIn K (.ref C_Wade) "__setattr__" = some (some (.builtin "object.__setattr__")))
    (z1j : W.makesIn K C_Wade = true)
    (z1k : W.keepIn K (.ref C_Wade) = true)
    (z1l : W.findIn K (.ref C_Wade) "height" = some none)
    (z1m : W.findIn K (.ref C_Wade) "kind" = some none)
    (z1n : W.findIn K (.ref C_Wade) "numbers" = some none)
    (z1o : W.findIn K (.ref C_Wade) "word" = some none)
    (z1p : W.findIn K (.ref C_Wade) "told" = some (some (.ref f35)))
    (z1q : W.plainGet K C_Float Str.empty = true)
    (z1r : W.hasDictIn K C_Float = true)
    (z1s : W.plainOver K C_Float = true)
    (z1t : W.findIn K (.ref C_Float) "__setattr__" = some (some (.builtin "object.__setattr__")))
    (z1u : W.makesIn K C_Float = true)
    (z1v : W.keepIn K (.ref C_Float) = true)
    (z1w : W.findIn K (.ref C_Float) "height" = some none)
    (z1x : W.findIn K (.ref C_Float) "numbers" = some none)
    (z1y : W.findIn K (.ref C_Float) "word" = some none)
    (z1z : W.findIn K (.ref C_Float) "told" = some (some (.ref f35)))
    (z20 : W.plainGet K C_Go Str.empty = true)
    (z21 : W.hasDictIn K C_Go = true)
    (z22 : W.plainOver K C_Go = true)
    (z23 : W.findIn K (.ref C_Go) "__setattr__" = some (some (.builtin "object.__setattr__")))
    (z24 : W.makesIn K C_Go = true)
    (z25 : W.keepIn K (.ref C_Go) = true)
    (z26 : W.findIn K (.ref C_Go) "number" = some none)
    (z27 : W.findIn K (.ref C_Go) "part" = some none)
    (z28 : W.findIn K (.ref C_Go) "word" = some none)
    (z29 : W.findIn K (.ref C_Go) "can" = some (some (.ref f49)))
    (z2a : W.findIn K (.ref C_Go) "own_part" = some (some (.ref f51)))
    (z2b : W.findIn K (.ref C_Go) "told" = some (some (.ref f50)))
    (z2c : W.plainGet K C_Pull Str.empty = true)
    (z2d : W.hasDictIn K C_Pull = true)
    (z2e : W.plainOver K C_Pull = true)
    (z2f : W.findIn K (.ref C_Pull) "__setattr__" = some (some (.builtin "object.__setattr__")))
    (z2g : W.makesIn K C_Pull = true)
    (z2h : W.keepIn K (.ref C_Pull) = true)
    (z2i : W.findIn K (.ref C_Pull) "number" = some none)
    (z2j : W.findIn K (.ref C_Pull) "part" = some none)
    (z2k : W.findIn K (.ref C_Pull) "word" = some none)
    (z2l : W.findIn K (.ref C_Pull) "can" = some (some (.ref f49)))
    (z2m : W.findIn K (.ref C_Pull) "own_part" = some (some (.ref f51)))
    (z2n : W.findIn K (.ref C_Pull) "told" = some (some (.ref f50)))
    (z2o : W.plainGet K C_Take Str.empty = true)
    (z2p : W.hasDictIn K C_Take = true)
    (z2q : W.plainOver K C_Take = true)
    (z2r : W.findIn K (.ref C_Take) "__setattr__" = some (some (.builtin "object.__setattr__")))
    (z2s : W.makesIn K C_Take = true)
    (z2t : W.keepIn K (.ref C_Take) = true)
    (z2u : W.findIn K (.ref C_Take) "number" = some none)
    (z2v : W.findIn K (.ref C_Take) "part" = some none)
    (z2w : W.findIn K (.ref C_Take) "word" = some none)
    (z2x : W.findIn K (.ref C_Take) "can" = some (some (.ref f49)))
    (z2y : W.findIn K (.ref C_Take) "own_part" = some (some (.ref f51)))
    (z2z : W.findIn K (.ref C_Take) "told" = some (some (.ref f50)))
    (z30 : W.plainGet K C_Turn Str.empty = true)
    (z31 : W.hasDictIn K C_Turn = true)
    (z32 : W.plainOver K C_Turn = true)
    (z33 : W.findIn K (.ref C_Turn) "__setattr__" = some (some (.builtin "object.__setattr__")))
    (z34 : W.makesIn K C_Turn = true)
    (z35 : W.keepIn K (.ref C_Turn) = true)
    (z36 : W.findIn K (.ref C_Turn) "number" = some none)
    (z37 : W.findIn K (.ref C_Turn) "part" = some none)
    (z38 : W.findIn K (.ref C_Turn) "word" = some none)
    (z39 : W.findIn K (.ref C_Turn) "can" = some (some (.ref f49)))
    (z3a : W.findIn K (.ref C_Turn) "own_part" = some (some (.ref f51)))
    (z3b : W.findIn K (.ref C_Turn) "told" = some (some (.ref f50)))
    (z3c : W.plainGet K C_Unlock Str.empty = true)
    (z3d : W.hasDictIn K C_Unlock = true)
    (z3e : W.plainOver K C_Unlock = true)
    (z3f : W.findIn K (.ref C_Unlock) "__setattr__" = some (some (.builtin "object.__setattr__")))
    (z3g : W.makesIn K C_Unlock = true)
    (z3h : W.keepIn K (.ref C_Unlock) = true)
    (z3i : W.findIn K (.ref C_Unlock) "number" = some none)
    (z3j : W.findIn K (.ref C_Unlock) "part" = some none)
    (z3k : W.findIn K (.ref C_Unlock) "word" = some none)
    (z3l : W.findIn K (.ref C_Unlock) "can" = some (some (.ref f49)))
    (z3m : W.findIn K (.ref C_Unlock) "own_part" = some (some (.ref f51)))
    (z3n : W.findIn K (.ref C_Unlock) "told" = some (some (.ref f50)))
    (z3o : W.readsIn K C_Deed (.type "type") = true)
    (z3p : W.findCls K (.ref C_Deed) (.type "type") "__init__" = some (.val (.ref f48)))
    (z3q : W.specialIn K (.ref C_Deed) "__getattribute__" = some (some (.builtin "type.__getattribute__")))
    (z3r : W.readsIn K C_Gate (.type "type") = true)
    (z3s : W.findCls K (.ref C_Gate) (.type "type") "__init__" = some (.val (.ref f34)))
    (z3t : W.specialIn K (.ref C_Gate) "__getattribute__" = some (some (.builtin "type.__getattribute__")))
    (z3u : W.nsIn K mainGlobals "all" = some none)
    (z3v : W.nsIn K mainGlobals "bool" = some none)
    (z3w : W.nsIn K mainGlobals "enumerate" = some none)
    (z3x : W.nsIn K mainGlobals "int" = some none)
    (z3y : W.nsIn K mainGlobals "isinstance" = some none)
    (z3z : W.nsIn K mainGlobals "len" = some none)
    (z40 : W.nsIn K mainGlobals "list" = some none)
    (z41 : W.nsIn K mainGlobals "range" = some none)
    (z42 : W.nsIn K mainGlobals "sorted" = some none)
    (z43 : W.nsIn K mainGlobals "tuple" = some none)
    (z44 : W.nsIn K mainGlobals "zip" = some none)
    (z45 : W.nsIn K mainGlobals "ALL_BARS" = some (some (.int 255 t_ALL_BARS)))
    (z46 : W.nsIn K mainGlobals "BARS" = some (some (.int 3 t_BARS)))
    (z47 : W.nsIn K mainGlobals "FIRST" = some (some (.int 1 t_FIRST)))
    (z48 : W.nsIn K mainGlobals "FIRST_BARS" = some (some (.int 7 t_FIRST_BARS)))
    (z49 : W.nsIn K mainGlobals "FIRST_WATER" = some (some (.int 8 t_FIRST_WATER)))
    (z4a : W.nsIn K mainGlobals "LAST" = some (some (.int 2 t_LAST)))
    (z4b : W.nsIn K mainGlobals "LAST_BAR" = some (some (.int 7 t_LAST_BAR)))
    (z4c : W.nsIn K mainGlobals "LAST_KIND" = some (some (.int 11 t_LAST_KIND)))
    (z4d : W.nsIn K mainGlobals "LEVERS" = some (some (.int 5 t_LEVERS)))
    (z4e : W.nsIn K mainGlobals "MOST_LEVERS" = some (some (.int 4 t_MOST_LEVERS)))
    (z4f : W.nsIn K mainGlobals "MOST_ROOMS" = some (some (.int 14 t_MOST_ROOMS)))
    (z4g : W.nsIn K mainGlobals "MOST_THINGS" = some (some (.int 8 t_MOST_THINGS)))
    (z4h : W.nsIn K mainGlobals "MOST_WAYS" = some (some (.int 20 t_MOST_WAYS)))
    (z4i : W.nsIn K mainGlobals "MOST_WHEELS" = some (some (.int 4 t_MOST_WHEELS)))
    (z4j : W.nsIn K mainGlobals "OPENED" = some (some (.int 2 t_OPENED)))
    (z4k : W.nsIn K mainGlobals "PAIR_NUMBER" = some (some (.int 1 t_PAIR_NUMBER)))
    (z4l : W.nsIn K mainGlobals "PAIR_ROOM" = some (some (.int 0 t_PAIR_ROOM)))
    (z4m : W.nsIn K mainGlobals "ROOM" = some (some (.int 0 t_ROOM)))
    (z4n : W.nsIn K mainGlobals "ROOMS" = some (some (.int 0 t_ROOMS)))
    (z4o : W.nsIn K mainGlobals "TAKEN" = some (some (.int 1 t_TAKEN)))
    (z4p : W.nsIn K mainGlobals "THINGS" = some (some (.int 4 t_THINGS)))
    (z4q : W.nsIn K mainGlobals "TOP_HEIGHT" = some (some (.int 9 t_TOP_HEIGHT)))
    (z4r : W.nsIn K mainGlobals "WATER" = some (some (.int 4 t_WATER)))
    (z4s : W.nsIn K mainGlobals "WAYS" = some (some (.int 3 t_WAYS)))
    (z4t : W.nsIn K mainGlobals "WAY_A" = some (some (.int 0 t_WAY_A)))
    (z4u : W.nsIn K mainGlobals "WAY_B" = some (some (.int 1 t_WAY_B)))
    (z4v : W.nsIn K mainGlobals "WAY_BACK" = some (some (.int 3 t_WAY_BACK)))
    (z4w : W.nsIn K mainGlobals "WAY_GATE" = some (some (.int 2 t_WAY_GATE)))
    (z4x : W.nsIn K mainGlobals "WHEELS" = some (some (.int 6 t_WHEELS))) :
    ∃ fd : FuncData, (∀ (s : Shared) (v : Value), BindsTo s fd ⟨[v], []⟩ [("_law_script", v)]) /\ ∀ base : Heap, K.In base -> base.Ns mainGlobals mg -> FnOk l.prog w K mg base CX0 10 fa fd ["_law_script"] (spLaw K) := by
  have e := hfa.symm.trans (W.mg_of X G a33)
  cases e
  let cs : Cs := ⟨C_Gate, C_Plain, C_Door, C_Need, C_Bar, C_Wade, C_Float, C_Deed, C_Go, C_Pull, C_Take, C_Turn, C_Unlock⟩
  have T : Txt mg cs := ⟨W.mg_none_of X G z3u, W.mg_none_of X G z3v, W.mg_none_of X G z3w, W.mg_none_of X G z3x, W.mg_none_of X G z3y, W.mg_none_of X G z3z, W.mg_none_of X G z40, W.mg_none_of X G z41, W.mg_none_of X G z42, W.mg_none_of X G z43, W.mg_none_of X G z44, ⟨_, W.mg_of X G z45⟩, ⟨_, W.mg_of X G z46⟩, ⟨_, W.mg_of X G z47⟩, ⟨_, W.mg_of X G z48⟩, ⟨_, W.mg_of X G z49⟩, ⟨_, W.mg_of X G z4a⟩, ⟨_, W.mg_of X G z4b⟩, ⟨_, W.mg_of X G z4c⟩, ⟨_, W.mg_of X G z4d⟩, ⟨_, W.mg_of X G z4e⟩, ⟨_, W.mg_of X G z4f⟩, ⟨_, W.mg_of X G z4g⟩, ⟨_, W.mg_of X G z4h⟩, ⟨_, W.mg_of X G z4i⟩, ⟨_, W.mg_of X G z4j⟩, ⟨_, W.mg_of X G z4k⟩, ⟨_, W.mg_of X G z4l⟩, ⟨_, W.mg_of X G z4m⟩, ⟨_, W.mg_of X G z4n⟩, ⟨_, W.mg_of X G z4o⟩, ⟨_, W.mg_of X G z4p⟩, ⟨_, W.mg_of X G z4q⟩, ⟨_, W.mg_of X G z4r⟩, ⟨_, W.mg_of X G z4s⟩, ⟨_, W.mg_of X G z4t⟩, ⟨_, W.mg_of X G z4u⟩, ⟨_, W.mg_of X G z4v⟩, ⟨_, W.mg_of X G z4w⟩, ⟨_, W.mg_of X G z4x⟩, W.mg_of X G z0, W.mg_of X G z1, W.mg_of X G z2, W.mg_of X G z3, W.mg_of X G z4, W.mg_of X G z5, W.mg_of X G z6, W.mg_of X G z7, W.mg_of X G z8, W.mg_of X G z9, W.mg_of X G za, W.mg_of X G zb, W.mg_of X G zc⟩
  have TC : Tcl K cs := ⟨⟨zd, ze, zf, zg⟩, zj, zk, ⟨zm, zn, zo, zp⟩, zs, zt, ⟨zv, zw, zx, zy⟩, z11, z12, z13, ⟨z15, z16, z17, z18⟩, z1b, z1c, z1d, ⟨z1f, z1g, z1h, z1i⟩, z1l, z1m, z1n, z1o, ⟨z1q, z1r, z1s, z1t⟩, z1w, z1x, z1y, ⟨z20, z21, z22, z23⟩, z26, z27, z28, ⟨z2c, z2d, z2e, z2f⟩, z2i, z2j, z2k, ⟨z2o, z2p, z2q, z2r⟩, z2u, z2v, z2w, ⟨z30, z31, z32, z33⟩, z36, z37, z38, ⟨z3c, z3d, z3e, z3f⟩, z3i, z3j, z3k⟩
  have L__wall : Laid K mg "_wall" s__wall ["k"] := laid_mk X G a0 l0 c0 k0 fun _ _ _ _ _ _ us hl => match us, hl with | [_], _ => rfl
  have L_within : Laid K mg "within" s_within ["number", "least", "most"] := laid_mk X G a1 l1 c1 k1 fun _ _ _ _ _ _ us hl => match us, hl with | [_, _, _], _ => rfl
  have L_has_bit : Laid K mg "has_bit" s_has_bit ["bits", "place"] := laid_mk X G a2 l2 c2 k2 fun _ _ _ _ _ _ us hl => match us, hl with | [_, _], _ => rfl
  have L_changed : Laid K mg "changed" s_changed ["parts", "place", "part"] := laid_mk X G a3 l3 c3 k3 fun _ _ _ _ _ _ us hl => match us, hl with | [_, _, _], _ => rfl
  have L_gate_of : Laid K mg "gate_of" s_gate_of ["gate"] := laid_mk X G a4 l4 c4 k4 fun _ _ _ _ _ _ us hl => match us, hl with | [_], _ => rfl
  have L_is_gate : Laid K mg "is_gate" s_is_gate ["thing"] := laid_mk X G a5 l5 c5 k5 fun _ _ _ _ _ _ us hl => match us, hl with | [_], _ => rfl
  have L_tops_of : Laid K mg "tops_of" s_tops_of ["word"] := laid_mk X G a6 l6 c6 k6 fun _ _ _ _ _ _ us hl => match us, hl with | [_], _ => rfl
  have L_cellar : ∃ d1 d2, LaidD K mg "cellar" s_cellar [.none, .none, .none, .int 0 d1, .int 0 d2] := ⟨_, _, laidD_mk X G a7 l7 c7 k7 d7_ rfl⟩
  have L_check_number : Laid K mg "check_number" s_check_number ["name", "number", "least", "most"] := laid_mk X G a8 l8 c8 k8 fun _ _ _ _ _ _ us hl => match us, hl with | [_, _, _, _], _ => rfl
  have L_made_ways : Laid K mg "made_ways" s_made_ways ["rooms", "ways"] := laid_mk X G a9 l9 c9 k9 fun _ _ _ _ _ _ us hl => match us, hl with | [_, _], _ => rfl
  have L_made_pairs : Laid K mg "made_pairs" s_made_pairs ["name", "rooms", "pairs", "most_pairs", "least", "most"] := laid_mk X G a10 l10 c10 k10 fun _ _ _ _ _ _ us hl => match us, hl with | [_, _, _, _, _, _], _ => rfl
  have L_made_rows : Laid K mg "made_rows" s_made_rows ["name", "rows", "most"] := laid_mk X G a11 l11 c11 k11 fun _ _ _ _ _ _ us hl => match us, hl with | [_, _, _], _ => rfl
  have L_start : Laid K mg "start" s_start ["cellar"] := laid_mk X G a12 l12 c12 k12 fun _ _ _ _ _ _ us hl => match us, hl with | [_], _ => rfl
  have L_held : Laid K mg "held" s_held ["cellar", "stand"] := laid_mk X G a13 l13 c13 k13 fun _ _ _ _ _ _ us hl => match us, hl with | [_, _], _ => rfl
  have L_door_kinds : Laid K mg "door_kinds" s_door_kinds ["cellar"] := laid_mk X G a14 l14 c14 k14 fun _ _ _ _ _ _ us hl => match us, hl with | [_], _ => rfl
  have L_can_enter : Laid K mg "can_enter" s_can_enter ["way", "room"] := laid_mk X G a15 l15 c15 k15 fun _ _ _ _ _ _ us hl => match us, hl with | [_, _], _ => rfl
  have L_deed_of : Laid K mg "deed_of" s_deed_of ["deed"] := laid_mk X G a16 l16 c16 k16 fun _ _ _ _ _ _ us hl => match us, hl with | [_], _ => rfl
  have L_deeds_at : Laid K mg "deeds_at" s_deeds_at ["cellar", "stand"] := laid_mk X G a17 l17 c17 k17 fun _ _ _ _ _ _ us hl => match us, hl with | [_, _], _ => rfl
  have L_behind : Laid K mg "behind" s_behind ["cellar", "stand", "deed"] := laid_mk X G a18 l18 c18 k18 fun _ _ _ _ _ _ us hl => match us, hl with | [_, _, _], _ => rfl
  have L_stands_by_go : Laid K mg "stands_by_go" s_stands_by_go ["cellar", "stand"] := laid_mk X G a19 l19 c19 k19 fun _ _ _ _ _ _ us hl => match us, hl with | [_, _], _ => rfl
  have L_fit_deeds : Laid K mg "fit_deeds" s_fit_deeds ["cellar", "stand"] := laid_mk X G a20 l20 c20 k20 fun _ _ _ _ _ _ us hl => match us, hl with | [_, _], _ => rfl
  have L_all_goes : Laid K mg "all_goes" s_all_goes ["cellar"] := laid_mk X G a21 l21 c21 k21 fun _ _ _ _ _ _ us hl => match us, hl with | [_], _ => rfl
  have L_all_deeds : Laid K mg "all_deeds" s_all_deeds ["cellar"] := laid_mk X G a22 l22 c22 k22 fun _ _ _ _ _ _ us hl => match us, hl with | [_], _ => rfl
  have L_counts_from : Laid K mg "counts_from" s_counts_from ["begins", "links"] := laid_mk X G a23 l23 c23 k23 fun _ _ _ _ _ _ us hl => match us, hl with | [_, _], _ => rfl
  have L_turned_links : Laid K mg "turned_links" s_turned_links ["links"] := laid_mk X G a24 l24 c24 k24 fun _ _ _ _ _ _ us hl => match us, hl with | [_], _ => rfl
  have L_round_of : Laid K mg "round_of" s_round_of ["cellar", "stand"] := laid_mk X G a25 l25 c25 k25 fun _ _ _ _ _ _ us hl => match us, hl with | [_, _], _ => rfl
  have L_go_links : Laid K mg "go_links" s_go_links ["cellar", "stand"] := laid_mk X G a26 l26 c26 k26 fun _ _ _ _ _ _ us hl => match us, hl with | [_, _], _ => rfl
  have L__law_cell_at : Laid K mg "_law_cell_at" s__law_cell_at ["_law_script", "_law_k"] := laid_mk X G a27 l27 c27 k27 fun _ _ _ _ _ _ us hl => match us, hl with | [_, _], _ => rfl
  have L__law_gate : Laid K mg "_law_gate" s__law_gate ["_law_cell"] := laid_mk X G a28 l28 c28 k28 fun _ _ _ _ _ _ us hl => match us, hl with | [_], _ => rfl
  have L__law_cellar : Laid K mg "_law_cellar" s__law_cellar ["_law_script"] := laid_mk X G a29 l29 c29 k29 fun _ _ _ _ _ _ us hl => match us, hl with | [_], _ => rfl
  have L__law_come : Laid K mg "_law_come" s__law_come ["_law_place", "_law_stand"] := laid_mk X G a30 l30 c30 k30 fun _ _ _ _ _ _ us hl => match us, hl with | [_, _], _ => rfl
  have L__law_goes : Laid K mg "_law_goes" s__law_goes ["_law_place", "_law_stand"] := laid_mk X G a31 l31 c31 k31 fun _ _ _ _ _ _ us hl => match us, hl with | [_, _], _ => rfl
  have L__law_any : Laid K mg "_law_any" s__law_any ["_law_script", "_law_place"] := laid_mk X G a32 l32 c32 k32 fun _ _ _ _ _ _ us hl => match us, hl with | [_, _], _ => rfl
  have F_Gate_init : Fun K "__init__" "Gate.__init__" s_Gate_init f34 _ := fun_mk l34 c34 k34
  have B_Gate_init := F_Gate_init.binds (ps := ["self", "word", "numbers"]) fun _ _ _ _ _ _ us hl => match us, hl with | [_, _, _], _ => rfl
  have F_Gate_told : Fun K "told" "Gate.told" s_Gate_told f35 _ := fun_mk l35 c35 k35
  have B_Gate_told := F_Gate_told.binds (ps := ["self"]) fun _ _ _ _ _ _ us hl => match us, hl with | [_], _ => rfl
  have F_Plain_init : Fun K "__init__" "Plain.__init__" s_Plain_init f36 _ := fun_mk l36 c36 k36
  have B_Plain_init := F_Plain_init.binds (ps := ["self"]) fun _ _ _ _ _ _ us hl => match us, hl with | [_], _ => rfl
  have F_Plain_lets : Fun K "lets" "Plain.lets" s_Plain_lets f37 _ := fun_mk l37 c37 k37
  have B_Plain_lets := F_Plain_lets.binds (ps := ["self", "held", "opened", "bars", "water"]) fun _ _ _ _ _ _ us hl => match us, hl with | [_, _, _, _, _], _ => rfl
  have F_Door_init : Fun K "__init__" "Door.__init__" s_Door_init f38 _ := fun_mk l38 c38 k38
  have B_Door_init := F_Door_init.binds (ps := ["self", "kind"]) fun _ _ _ _ _ _ us hl => match us, hl with | [_, _], _ => rfl
  have F_Door_lets : Fun K "lets" "Door.lets" s_Door_lets f39 _ := fun_mk l39 c39 k39
  have B_Door_lets := F_Door_lets.binds (ps := ["self", "held", "opened", "bars", "water"]) fun _ _ _ _ _ _ us hl => match us, hl with | [_, _, _, _, _], _ => rfl
  have F_Need_init : Fun K "__init__" "Need.__init__" s_Need_init f40 _ := fun_mk l40 c40 k40
  have B_Need_init := F_Need_init.binds (ps := ["self", "kind"]) fun _ _ _ _ _ _ us hl => match us, hl with | [_, _], _ => rfl
  have F_Need_lets : Fun K "lets" "Need.lets" s_Need_lets f41 _ := fun_mk l41 c41 k41
  have B_Need_lets := F_Need_lets.binds (ps := ["self", "held", "opened", "bars", "water"]) fun _ _ _ _ _ _ us hl => match us, hl with | [_, _, _, _, _], _ => rfl
  have F_Bar_init : Fun K "__init__" "Bar.__init__" s_Bar_init f42 _ := fun_mk l42 c42 k42
  have B_Bar_init := F_Bar_init.binds (ps := ["self", "bar"]) fun _ _ _ _ _ _ us hl => match us, hl with | [_, _], _ => rfl
  have F_Bar_lets : Fun K "lets" "Bar.lets" s_Bar_lets f43 _ := fun_mk l43 c43 k43
  have B_Bar_lets := F_Bar_lets.binds (ps := ["self", "held", "opened", "bars", "water"]) fun _ _ _ _ _ _ us hl => match us, hl with | [_, _, _, _, _], _ => rfl
  have F_Wade_init : Fun K "__init__" "Wade.__init__" s_Wade_init f44 _ := fun_mk l44 c44 k44
  have B_Wade_init := F_Wade_init.binds (ps := ["self", "height", "kind"]) fun _ _ _ _ _ _ us hl => match us, hl with | [_, _, _], _ => rfl
  have F_Wade_lets : Fun K "lets" "Wade.lets" s_Wade_lets f45 _ := fun_mk l45 c45 k45
  have B_Wade_lets := F_Wade_lets.binds (ps := ["self", "held", "opened", "bars", "water"]) fun _ _ _ _ _ _ us hl => match us, hl with | [_, _, _, _, _], _ => rfl
  have F_Float_init : Fun K "__init__" "Float.__init__" s_Float_init f46 _ := fun_mk l46 c46 k46
  have B_Float_init := F_Float_init.binds (ps := ["self", "height"]) fun _ _ _ _ _ _ us hl => match us, hl with | [_, _], _ => rfl
  have F_Float_lets : Fun K "lets" "Float.lets" s_Float_lets f47 _ := fun_mk l47 c47 k47
  have B_Float_lets := F_Float_lets.binds (ps := ["self", "held", "opened", "bars", "water"]) fun _ _ _ _ _ _ us hl => match us, hl with | [_, _, _, _, _], _ => rfl
  have F_Deed_init : Fun K "__init__" "Deed.__init__" s_Deed_init f48 _ := fun_mk l48 c48 k48
  have B_Deed_init := F_Deed_init.binds (ps := ["self", "word", "number", "part"]) fun _ _ _ _ _ _ us hl => match us, hl with | [_, _, _, _], _ => rfl
  have F_Deed_can : Fun K "can" "Deed.can" s_Deed_can f49 _ := fun_mk l49 c49 k49
  have B_Deed_can := F_Deed_can.binds (ps := ["self", "cellar", "stand"]) fun _ _ _ _ _ _ us hl => match us, hl with | [_, _, _], _ => rfl
  have F_Deed_told : Fun K "told" "Deed.told" s_Deed_told f50 _ := fun_mk l50 c50 k50
  have B_Deed_told := F_Deed_told.binds (ps := ["self"]) fun _ _ _ _ _ _ us hl => match us, hl with | [_], _ => rfl
  have F_Deed_own_part : Fun K "own_part" "Deed.own_part" s_Deed_own_part f51 _ := fun_mk l51 c51 k51
  have B_Deed_own_part := F_Deed_own_part.binds (ps := ["self", "cellar"]) fun _ _ _ _ _ _ us hl => match us, hl with | [_, _], _ => rfl
  have F_Go_init : Fun K "__init__" "Go.__init__" s_Go_init f52 _ := fun_mk l52 c52 k52
  have B_Go_init := F_Go_init.binds (ps := ["self", "number"]) fun _ _ _ _ _ _ us hl => match us, hl with | [_, _], _ => rfl
  have F_Go_fits : Fun K "fits" "Go.fits" s_Go_fits f53 _ := fun_mk l53 c53 k53
  have B_Go_fits := F_Go_fits.binds (ps := ["self", "cellar", "stand"]) fun _ _ _ _ _ _ us hl => match us, hl with | [_, _, _], _ => rfl
  have F_Go_done : Fun K "done" "Go.done" s_Go_done f54 _ := fun_mk l54 c54 k54
  have B_Go_done := F_Go_done.binds (ps := ["self", "cellar", "stand"]) fun _ _ _ _ _ _ us hl => match us, hl with | [_, _, _], _ => rfl
  have F_Pull_init : Fun K "__init__" "Pull.__init__" s_Pull_init f55 _ := fun_mk l55 c55 k55
  have B_Pull_init := F_Pull_init.binds (ps := ["self", "number"]) fun _ _ _ _ _ _ us hl => match us, hl with | [_, _], _ => rfl
  have F_Pull_fits : Fun K "fits" "Pull.fits" s_Pull_fits f56 _ := fun_mk l56 c56 k56
  have B_Pull_fits := F_Pull_fits.binds (ps := ["self", "cellar", "stand"]) fun _ _ _ _ _ _ us hl => match us, hl with | [_, _, _], _ => rfl
  have F_Pull_done : Fun K "done" "Pull.done" s_Pull_done f57 _ := fun_mk l57 c57 k57
  have B_Pull_done := F_Pull_done.binds (ps := ["self", "cellar", "stand"]) fun _ _ _ _ _ _ us hl => match us, hl with | [_, _, _], _ => rfl
  have F_Take_init : Fun K "__init__" "Take.__init__" s_Take_init f58 _ := fun_mk l58 c58 k58
  have B_Take_init := F_Take_init.binds (ps := ["self", "number"]) fun _ _ _ _ _ _ us hl => match us, hl with | [_, _], _ => rfl
  have F_Take_fits : Fun K "fits" "Take.fits" s_Take_fits f59 _ := fun_mk l59 c59 k59
  have B_Take_fits := F_Take_fits.binds (ps := ["self", "cellar", "stand"]) fun _ _ _ _ _ _ us hl => match us, hl with | [_, _, _], _ => rfl
  have F_Take_done : Fun K "done" "Take.done" s_Take_done f60 _ := fun_mk l60 c60 k60
  have B_Take_done := F_Take_done.binds (ps := ["self", "cellar", "stand"]) fun _ _ _ _ _ _ us hl => match us, hl with | [_, _, _], _ => rfl
  have F_Turn_init : Fun K "__init__" "Turn.__init__" s_Turn_init f61 _ := fun_mk l61 c61 k61
  have B_Turn_init := F_Turn_init.binds (ps := ["self", "number"]) fun _ _ _ _ _ _ us hl => match us, hl with | [_, _], _ => rfl
  have F_Turn_fits : Fun K "fits" "Turn.fits" s_Turn_fits f62 _ := fun_mk l62 c62 k62
  have B_Turn_fits := F_Turn_fits.binds (ps := ["self", "cellar", "stand"]) fun _ _ _ _ _ _ us hl => match us, hl with | [_, _, _], _ => rfl
  have F_Turn_done : Fun K "done" "Turn.done" s_Turn_done f63 _ := fun_mk l63 c63 k63
  have B_Turn_done := F_Turn_done.binds (ps := ["self", "cellar", "stand"]) fun _ _ _ _ _ _ us hl => match us, hl with | [_, _, _], _ => rfl
  have F_Unlock_init : Fun K "__init__" "Unlock.__init__" s_Unlock_init f64 _ := fun_mk l64 c64 k64
  have B_Unlock_init := F_Unlock_init.binds (ps := ["self", "number"]) fun _ _ _ _ _ _ us hl => match us, hl with | [_, _], _ => rfl
  have F_Unlock_fits : Fun K "fits" "Unlock.fits" s_Unlock_fits f65 _ := fun_mk l65 c65 k65
  have B_Unlock_fits := F_Unlock_fits.binds (ps := ["self", "cellar", "stand"]) fun _ _ _ _ _ _ us hl => match us, hl with | [_, _, _], _ => rfl
  have F_Unlock_done : Fun K "done" "Unlock.done" s_Unlock_done f66 _ := fun_mk l66 c66 k66
  have B_Unlock_done := F_Unlock_done.binds (ps := ["self", "cellar", "stand"]) fun _ _ _ _ _ _ us hl => match us, hl with | [_, _, _], _ => rfl
  have LM_Plain_lets : LaidM K cs.Plain "lets" "Plain.lets" s_Plain_lets ["self", "held", "opened", "bars", "water"] := ⟨_, _, F_Plain_lets, ⟨a37, i37, k37⟩, B_Plain_lets⟩
  have LM_Plain_told : LaidM K cs.Plain "told" "Gate.told" s_Gate_told ["self"] := ⟨_, _, F_Gate_told, ⟨zl, i35, k35⟩, B_Gate_told⟩
  have LI_Plain : LaidI K mg "Plain" cs.Plain "Plain.__init__" s_Plain_init ["self"] := ⟨⟨_, _, F_Plain_init, ⟨zh, a36, i36, zi⟩, B_Plain_init⟩, T.c_Plain⟩
  have LM_Door_lets : LaidM K cs.Door "lets" "Door.lets" s_Door_lets ["self", "held", "opened", "bars", "water"] := ⟨_, _, F_Door_lets, ⟨a39, i39, k39⟩, B_Door_lets⟩
  have LM_Door_told : LaidM K cs.Door "told" "Gate.told" s_Gate_told ["self"] := ⟨_, _, F_Gate_told, ⟨zu, i35, k35⟩, B_Gate_told⟩
  have LI_Door : LaidI K mg "Door" cs.Door "Door.__init__" s_Door_init ["self", "kind"] := ⟨⟨_, _, F_Door_init, ⟨zq, a38, i38, zr⟩, B_Door_init⟩, T.c_Door⟩
  have LM_Need_lets : LaidM K cs.Need "lets" "Need.lets" s_Need_lets ["self", "held", "opened", "bars", "water"] := ⟨_, _, F_Need_lets, ⟨a41, i41, k41⟩, B_Need_lets⟩
  have LM_Need_told : LaidM K cs.Need "told" "Gate.told" s_Gate_told ["self"] := ⟨_, _, F_Gate_told, ⟨z14, i35, k35⟩, B_Gate_told⟩
  have LI_Need : LaidI K mg "Need" cs.Need "Need.__init__" s_Need_init ["self", "kind"] := ⟨⟨_, _, F_Need_init, ⟨zz, a40, i40, z10⟩, B_Need_init⟩, T.c_Need⟩
  have LM_Bar_lets : LaidM K cs.Bar "lets" "Bar.lets" s_Bar_lets ["self", "held", "opened", "bars", "water"] := ⟨_, _, F_Bar_lets, ⟨a43, i43, k43⟩, B_Bar_lets⟩
  have LM_Bar_told : LaidM K cs.Bar "told" "Gate.told" s_Gate_told ["self"] := ⟨_, _, F_Gate_told, ⟨z1e, i35, k35⟩, B_Gate_told⟩
  have LI_Bar : LaidI K mg "Bar" cs.Bar "Bar.__init__" s_Bar_init ["self", "bar"] := ⟨⟨_, _, F_Bar_init, ⟨z19, a42, i42, z1a⟩, B_Bar_init⟩, T.c_Bar⟩
  have LM_Wade_lets : LaidM K cs.Wade "lets" "Wade.lets" s_Wade_lets ["self", "held", "opened", "bars", "water"] := ⟨_, _, F_Wade_lets, ⟨a45, i45, k45⟩, B_Wade_lets⟩
  have LM_Wade_told : LaidM K cs.Wade "told" "Gate.told" s_Gate_told ["self"] := ⟨_, _, F_Gate_told, ⟨z1p, i35, k35⟩, B_Gate_told⟩
  have LI_Wade : LaidI K mg "Wade" cs.Wade "Wade.__init__" s_Wade_init ["self", "height", "kind"] := ⟨⟨_, _, F_Wade_init, ⟨z1j, a44, i44, z1k⟩, B_Wade_init⟩, T.c_Wade⟩
  have LM_Float_lets : LaidM K cs.Float "lets" "Float.lets" s_Float_lets ["self", "held", "opened", "bars", "water"] := ⟨_, _, F_Float_lets, ⟨a47, i47, k47⟩, B_Float_lets⟩
  have LM_Float_told : LaidM K cs.Float "told" "Gate.told" s_Gate_told ["self"] := ⟨_, _, F_Gate_told, ⟨z1z, i35, k35⟩, B_Gate_told⟩
  have LI_Float : LaidI K mg "Float" cs.Float "Float.__init__" s_Float_init ["self", "height"] := ⟨⟨_, _, F_Float_init, ⟨z1u, a46, i46, z1v⟩, B_Float_init⟩, T.c_Float⟩
  have LM_Go_can : LaidM K cs.Go "can" "Deed.can" s_Deed_can ["self", "cellar", "stand"] := ⟨_, _, F_Deed_can, ⟨z29, i49, k49⟩, B_Deed_can⟩
  have LM_Go_done : LaidM K cs.Go "done" "Go.done" s_Go_done ["self", "cellar", "stand"] := ⟨_, _, F_Go_done, ⟨a54, i54, k54⟩, B_Go_done⟩
  have LM_Go_fits : LaidM K cs.Go "fits" "Go.fits" s_Go_fits ["self", "cellar", "stand"] := ⟨_, _, F_Go_fits, ⟨a53, i53, k53⟩, B_Go_fits⟩
  have LM_Go_own_part : LaidM K cs.Go "own_part" "Deed.own_part" s_Deed_own_part ["self", "cellar"] := ⟨_, _, F_Deed_own_part, ⟨z2a, i51, k51⟩, B_Deed_own_part⟩
  have LM_Go_told : LaidM K cs.Go "told" "Deed.told" s_Deed_told ["self"] := ⟨_, _, F_Deed_told, ⟨z2b, i50, k50⟩, B_Deed_told⟩
  have LI_Go : LaidI K mg "Go" cs.Go "Go.__init__" s_Go_init ["self", "number"] := ⟨⟨_, _, F_Go_init, ⟨z24, a52, i52, z25⟩, B_Go_init⟩, T.c_Go⟩
  have LM_Pull_can : LaidM K cs.Pull "can" "Deed.can" s_Deed_can ["self", "cellar", "stand"] := ⟨_, _, F_Deed_can, ⟨z2l, i49, k49⟩, B_Deed_can⟩
  have LM_Pull_done : LaidM K cs.Pull "done" "Pull.done" s_Pull_done ["self", "cellar", "stand"] := ⟨_, _, F_Pull_done, ⟨a57, i57, k57⟩, B_Pull_done⟩
  have LM_Pull_fits : LaidM K cs.Pull "fits" "Pull.fits" s_Pull_fits ["self", "cellar", "stand"] := ⟨_, _, F_Pull_fits, ⟨a56, i56, k56⟩, B_Pull_fits⟩
  have LM_Pull_own_part : LaidM K cs.Pull "own_part" "Deed.own_part" s_Deed_own_part ["self", "cellar"] := ⟨_, _, F_Deed_own_part, ⟨z2m, i51, k51⟩, B_Deed_own_part⟩
  have LM_Pull_told : LaidM K cs.Pull "told" "Deed.told" s_Deed_told ["self"] := ⟨_, _, F_Deed_told, ⟨z2n, i50, k50⟩, B_Deed_told⟩
  have LI_Pull : LaidI K mg "Pull" cs.Pull "Pull.__init__" s_Pull_init ["self", "number"] := ⟨⟨_, _, F_Pull_init, ⟨z2g, a55, i55, z2h⟩, B_Pull_init⟩, T.c_Pull⟩
  have LM_Take_can : LaidM K cs.Take "can" "Deed.can" s_Deed_can ["self", "cellar", "stand"] := ⟨_, _, F_Deed_can, ⟨z2x, i49, k49⟩, B_Deed_can⟩
  have LM_Take_done : LaidM K cs.Take "done" "Take.done" s_Take_done ["self", "cellar", "stand"] := ⟨_, _, F_Take_done, ⟨a60, i60, k60⟩, B_Take_done⟩
  have LM_Take_fits : LaidM K cs.Take "fits" "Take.fits" s_Take_fits ["self", "cellar", "stand"] := ⟨_, _, F_Take_fits, ⟨a59, i59, k59⟩, B_Take_fits⟩
  have LM_Take_own_part : LaidM K cs.Take "own_part" "Deed.own_part" s_Deed_own_part ["self", "cellar"] := ⟨_, _, F_Deed_own_part, ⟨z2y, i51, k51⟩, B_Deed_own_part⟩
  have LM_Take_told : LaidM K cs.Take "told" "Deed.told" s_Deed_told ["self"] := ⟨_, _, F_Deed_told, ⟨z2z, i50, k50⟩, B_Deed_told⟩
  have LI_Take : LaidI K mg "Take" cs.Take "Take.__init__" s_Take_init ["self", "number"] := ⟨⟨_, _, F_Take_init, ⟨z2s, a58, i58, z2t⟩, B_Take_init⟩, T.c_Take⟩
  have LM_Turn_can : LaidM K cs.Turn "can" "Deed.can" s_Deed_can ["self", "cellar", "stand"] := ⟨_, _, F_Deed_can, ⟨z39, i49, k49⟩, B_Deed_can⟩
  have LM_Turn_done : LaidM K cs.Turn "done" "Turn.done" s_Turn_done ["self", "cellar", "stand"] := ⟨_, _, F_Turn_done, ⟨a63, i63, k63⟩, B_Turn_done⟩
  have LM_Turn_fits : LaidM K cs.Turn "fits" "Turn.fits" s_Turn_fits ["self", "cellar", "stand"] := ⟨_, _, F_Turn_fits, ⟨a62, i62, k62⟩, B_Turn_fits⟩
  have LM_Turn_own_part : LaidM K cs.Turn "own_part" "Deed.own_part" s_Deed_own_part ["self", "cellar"] := ⟨_, _, F_Deed_own_part, ⟨z3a, i51, k51⟩, B_Deed_own_part⟩
  have LM_Turn_told : LaidM K cs.Turn "told" "Deed.told" s_Deed_told ["self"] := ⟨_, _, F_Deed_told, ⟨z3b, i50, k50⟩, B_Deed_told⟩
  have LI_Turn : LaidI K mg "Turn" cs.Turn "Turn.__init__" s_Turn_init ["self", "number"] := ⟨⟨_, _, F_Turn_init, ⟨z34, a61, i61, z35⟩, B_Turn_init⟩, T.c_Turn⟩
  have LM_Unlock_can : LaidM K cs.Unlock "can" "Deed.can" s_Deed_can ["self", "cellar", "stand"] := ⟨_, _, F_Deed_can, ⟨z3l, i49, k49⟩, B_Deed_can⟩
  have LM_Unlock_done : LaidM K cs.Unlock "done" "Unlock.done" s_Unlock_done ["self", "cellar", "stand"] := ⟨_, _, F_Unlock_done, ⟨a66, i66, k66⟩, B_Unlock_done⟩
  have LM_Unlock_fits : LaidM K cs.Unlock "fits" "Unlock.fits" s_Unlock_fits ["self", "cellar", "stand"] := ⟨_, _, F_Unlock_fits, ⟨a65, i65, k65⟩, B_Unlock_fits⟩
  have LM_Unlock_own_part : LaidM K cs.Unlock "own_part" "Deed.own_part" s_Deed_own_part ["self", "cellar"] := ⟨_, _, F_Deed_own_part, ⟨z3m, i51, k51⟩, B_Deed_own_part⟩
  have LM_Unlock_told : LaidM K cs.Unlock "told" "Deed.told" s_Deed_told ["self"] := ⟨_, _, F_Deed_told, ⟨z3n, i50, k50⟩, B_Deed_told⟩
  have LI_Unlock : LaidI K mg "Unlock" cs.Unlock "Unlock.__init__" s_Unlock_init ["self", "number"] := ⟨⟨_, _, F_Unlock_init, ⟨z3g, a64, i64, z3h⟩, B_Unlock_init⟩, T.c_Unlock⟩
  have LC_Deed_init : LaidC K mg "Deed" "__init__" "Deed.__init__" s_Deed_init ["self", "word", "number", "part"] := ⟨C_Deed, _, _, T.c_Deed, F_Deed_init, ⟨z3o, z3p, z3q, k48⟩, B_Deed_init⟩
  have LC_Gate_init : LaidC K mg "Gate" "__init__" "Gate.__init__" s_Gate_init ["self", "word", "numbers"] := ⟨C_Gate, _, _, T.c_Gate, F_Gate_init, ⟨z3r, z3s, z3t, k34⟩, B_Gate_init⟩
  exact ⟨W.fnOf "law" "law" (defArgs s_law) (defBody s_law) (defScope s_law) .none kV33 dc33 pm33 an33 cd33 ct33, fun s v => .of_eq rfl, fun base _ _ => ok_law (fun_mk l33 c33 k33) T TC L__wall L_within L_has_bit L_changed L_gate_of L_is_gate L_tops_of L_cellar L_check_number L_made_ways L_made_pairs L_made_rows L_start L_held L_door_kinds L_can_enter L_deed_of L_deeds_at L_behind L_stands_by_go L_fit_deeds L_all_goes L_all_deeds L_counts_from L_turned_links L_round_of L_go_links L__law_cell_at L__law_gate L__law_cellar L__law_come L__law_goes L__law_any LM_Plain_lets LM_Plain_told LI_Plain LM_Door_lets LM_Door_told LI_Door LM_Need_lets LM_Need_told LI_Need LM_Bar_lets LM_Bar_told LI_Bar LM_Wade_lets LM_Wade_told LI_Wade LM_Float_lets LM_Float_told LI_Float LM_Go_can LM_Go_done LM_Go_fits LM_Go_own_part LM_Go_told LI_Go LM_Pull_can LM_Pull_done LM_Pull_fits LM_Pull_own_part LM_Pull_told LI_Pull LM_Take_can LM_Take_done LM_Take_fits LM_Take_own_part LM_Take_told LI_Take LM_Turn_can LM_Turn_done LM_Turn_fits LM_Turn_own_part LM_Turn_told LI_Turn LM_Unlock_can LM_Unlock_done LM_Unlock_fits LM_Unlock_own_part LM_Unlock_told LI_Unlock LC_Deed_init LC_Gate_init⟩
theorem walk {l : W.OpenLaw} {q : Program} {loose : List Str} {XP : (Str -> Option Value) -> Heap -> Prop} {YP : World -> Heap -> Prop} {d : DefRec} {K : Params -> W.Frag} (hn : l.most = some 63) (hdf : d.params.defaults = [])
    (hY : ∀ (w : World) (h : Heap), YP w h -> (K w.params).In h)
    (F : ∀ (w : World) (mg : Str -> Option Value) (fa : Addr) (h : Heap), (K w.params).In h -> h.Ns mainGlobals mg -> mg d.name = some (.ref fa) ->
      ∃ fd : FuncData, (∀ (s : Shared) (u : Value), BindsTo s fd ⟨[u], []⟩ [("_law_script", u)]) /\ ∀ base : Heap, (K w.params).In base -> base.Ns mainGlobals mg -> FnOk l.prog w (K w.params) mg base CX0 10 fa fd ["_law_script"] (spLaw (K w.params))) :
    W.WalkO q loose XP YP l.row.toRowW d [] (fun f vs => PySem.call f vs) :=
  L2.walk_of (n := 63) (k := 10) (x := "_law_script") (CX := fun _ => CX0) (sp := fun w => spLaw (K w.params)) hn (by decide) hdf ⟨rfl, by decide, by decide, rfl⟩ hY F (fun _ _ a ns hl _ hS => ⟨a, ns, rfl, hS, hl, fun _ => rfl⟩) fun _ _ _ _ _ z => z
end Mine
open PySem PySem.W PyProof.Rows
set_option maxRecDepth 100000 in
set_option maxHeartbeats 0 in
theorem PySem.Challenge.cw_delve_k24_rounds_holds : PySem.Challenge.rw_delve_k24_rounds.Holds := by
  w_on; o_law; k_head; (case hw => w_witness2)
  k_fill
  refine Mine.walk (l := PySem.Challenge.rw_delve_k24_rounds) rfl rfl (fun w h Y => PySem.W.kIn_of Y) ?F
  case F =>
    intro w mg fa h KX G hmg
    refine' Mine.all_mk KX G hmg ?z0 ?z1 ?z2 ?z3 ?z4 ?z5 ?z6 ?z7 ?z8 ?z9 ?za ?zb ?zc ?a0 ?l0 ?c0 ?k0 ?a1 ?l1 ?c1 ?k1 ?a2 ?l2 ?c2 ?k2 ?a3 ?l3 ?c3 ?k3 ?a4 ?l4 ?c4 ?k4 ?a5 ?l5 ?c5 ?k5 ?a6 ?l6 ?c6 ?k6 ?a7 ?l7 ?d7_ ?c7 ?k7 ?a8 ?l8 ?c8 ?k8 ?a9 ?l9 ?c9 ?k9 ?a10 ?l10 ?c10 ?k10 ?a11 ?l11 ?c11 ?k11 ?a12 ?l12 ?c12 ?k12 ?a13 ?l13 ?c13 ?k13 ?a14 ?l14 ?c14 ?k14 ?a15 ?l15 ?c15 ?k15 ?a16 ?l16 ?c16 ?k16 ?a17 ?l17 ?c17 ?k17 ?a18 ?l18 ?c18 ?k18 ?a19 ?l19 ?c19 ?k19 ?a20 ?l20 ?c20 ?k20 ?a21 ?l21 ?c21 ?k21 ?a22 ?l22 ?c22 ?k22 ?a23 ?l23 ?c23 ?k23 ?a24 ?l24 ?c24 ?k24 ?a25 ?l25 ?c25 ?k25 ?a26 ?l26 ?c26 ?k26 ?a27 ?l27 ?c27 ?k27 ?a28 ?l28 ?c28 ?k28 ?a29 ?l29 ?c29 ?k29 ?a30 ?l30 ?c30 ?k30 ?a31 ?l31 ?c31 ?k31 ?a32 ?l32 ?c32 ?k32 ?a33 ?l33 ?c33 ?k33 ?a34 ?i34 ?l34 ?c34 ?k34 ?a35 ?i35 ?l35 ?c35 ?k35 ?a36 ?i36 ?l36 ?c36 ?k36 ?a37 ?i37 ?l37 ?c37 ?k37 ?a38 ?i38 ?l38 ?c38 ?k38 ?a39 ?i39 ?l39 ?c39 ?k39 ?a40 ?i40 ?l40 ?c40 ?k40 ?a41 ?i41 ?l41 ?c41 ?k41 ?a42 ?i42 ?l42 ?c42 ?k42 ?a43 ?i43 ?l43 ?c43 ?k43 ?a44 ?i44 ?l44 ?c44 ?k44 ?a45 ?i45 ?l45 ?c45 ?k45 ?a46 ?i46 ?l46 ?c46 ?k46 ?a47 ?i47 ?l47 ?c47 ?k47 ?a48 ?i48 ?l48 ?c48 ?k48 ?a49 ?i49 ?l49 ?c49 ?k49 ?a50 ?i50 ?l50 ?c50 ?k50 ?a51 ?i51 ?l51 ?c51 ?k51 ?a52 ?i52 ?l52 ?c52 ?k52 ?a53 ?i53 ?l53 ?c53 ?k53 ?a54 ?i54 ?l54 ?c54 ?k54 ?a55 ?i55 ?l55 ?c55 ?k55 ?a56 ?i56 ?l56 ?c56 ?k56 ?a57 ?i57 ?l57 ?c57 ?k57 ?a58 ?i58 ?l58 ?c58 ?k58 ?a59 ?i59 ?l59 ?c59 ?k59 ?a60 ?i60 ?l60 ?c60 ?k60 ?a61 ?i61 ?l61 ?c61 ?k61 ?a62 ?i62 ?l62 ?c62 ?k62 ?a63 ?i63 ?l63 ?c63 ?k63 ?a64 ?i64 ?l64 ?c64 ?k64 ?a65 ?i65 ?l65 ?c65 ?k65 ?a66 ?i66 ?l66 ?c66 ?k66 ?zd ?ze ?zf ?zg ?zh ?zi ?zj ?zk ?zl ?zm ?zn ?zo ?zp ?zq ?zr ?zs ?zt ?zu ?zv ?zw ?zx ?zy ?zz ?z10 ?z11 ?z12 ?z13 ?z14 ?z15 ?z16 ?z17 ?z18 ?z19 ?z1a ?z1b ?z1c ?z1d ?z1e ?z1f ?z1g ?z1h ?z1i ?z1j ?z1k ?z1l ?z1m ?z1n ?z1o ?z1p ?z1q ?z1r ?z1s ?z1t ?z1u ?z1v ?z1w ?z1x ?z1y ?z1z ?z20 ?z21 ?z22 ?z23 ?z24 ?z25 ?z26 ?z27 ?z28 ?z29 ?z2a ?z2b ?z2c ?z2d ?z2e ?z2f ?z2g ?z2h ?z2i ?z2j ?z2k ?z2l ?z2m ?z2n ?z2o ?z2p ?z2q ?z2r ?z2s ?z2t ?z2u ?z2v ?z2w ?z2x ?z2y ?z2z ?z30 ?z31 ?z32 ?z33 ?z34 ?z35 ?z36 ?z37 ?z38 ?z39 ?z3a ?z3b ?z3c ?z3d ?z3e ?z3f ?z3g ?z3h ?z3i ?z3j ?z3k ?z3l ?z3m ?z3n ?z3o ?z3p ?z3q ?z3r ?z3s ?z3t ?z3u ?z3v ?z3w ?z3x ?z3y ?z3z ?z40 ?z41 ?z42 ?z43 ?z44 ?z45 ?z46 ?z47 ?z48 ?z49 ?z4a ?z4b ?z4c ?z4d ?z4e ?z4f ?z4g ?z4h ?z4i ?z4j ?z4k ?z4l ?z4m ?z4n ?z4o ?z4p ?z4q ?z4r ?z4s ?z4t ?z4u ?z4v ?z4w ?z4x
    (case z0 => k_is)
    (case z1 => k_is)
    (case z2 => k_is)
    (case z3 => k_is)
    (case z4 => k_is)
    (case z5 => k_is)
    (case z6 => k_is)
    (case z7 => k_is)
    (case z8 => k_is)
    (case z9 => k_is)
    (case za => k_is)
    (case zb => k_is)
    (case zc => k_is)
    (case a0 => k_is)
    (case l0 => k_is)
    (case c0 => k_is)
    (case k0 => k_is)
    (case a1 => k_is)
    (case l1 => k_is)
    (case c1 => k_is)
    (case k1 => k_is)
    (case a2 => k_is)
    (case l2 => k_is)
    (case c2 => k_is)
    (case k2 => k_is)
    (case a3 => k_is)
    (case l3 => k_is)
    (case c3 => k_is)
    (case k3 => k_is)
    (case a4 => k_is)
    (case l4 => k_is)
    (case c4 => k_is)
    (case k4 => k_is)
    (case a5 => k_is)
    (case l5 => k_is)
    (case c5 => k_is)
    (case k5 => k_is)
    (case a6 => k_is)
    (case l6 => k_is)
    (case c6 => k_is)
    (case k6 => k_is)
    (case a7 => k_is)
    (case l7 => k_is)
    (case d7_ => k_is)
    (case c7 => k_is)
    (case k7 => k_is)
    (case a8 => k_is)
    (case l8 => k_is)
    (case c8 => k_is)
    (case k8 => k_is)
    (case a9 => k_is)
    (case l9 => k_is)
    (case c9 => k_is)
    (case k9 => k_is)
    (case a10 => k_is)
    (case l10 => k_is)
    (case c10 => k_is)
    (case k10 => k_is)
    (case a11 => k_is)
    (case l11 => k_is)
    (case c11 => k_is)
    (case k11 => k_is)
    (case a12 => k_is)
    (case l12 => k_is)
    (case c12 => k_is)
    (case k12 => k_is)
    (case a13 => k_is)
    (case l13 => k_is)
    (case c13 => k_is)
    (case k13 => k_is)
    (case a14 => k_is)
    (case l14 => k_is)
    (case c14 => k_is)
    (case k14 => k_is)
    (case a15 => k_is)
    (case l15 => k_is)
    (case c15 => k_is)
    (case k15 => k_is)
    (case a16 => k_is)
    (case l16 => k_is)
    (case c16 => k_is)
    (case k16 => k_is)
    (case a17 => k_is)
    (case l17 => k_is)
    (case c17 => k_is)
    (case k17 => k_is)
    (case a18 => k_is)
    (case l18 => k_is)
    (case c18 => k_is)
    (case k18 => k_is)
    (case a19 => k_is)
    (case l19 => k_is)
    (case c19 => k_is)
    (case k19 => k_is)
    (case a20 => k_is)
    (case l20 => k_is)
    (case c20 => k_is)
    (case k20 => k_is)
    (case a21 => k_is)
    (case l21 => k_is)
    (case c21 => k_is)
    (case k21 => k_is)
    (case a22 => k_is)
    (case l22 => k_is)
    (case c22 => k_is)
    (case k22 => k_is)
    (case a23 => k_is)
    (case l23 => k_is)
    (case c23 => k_is)
    (case k23 => k_is)
    (case a24 => k_is)
    (case l24 => k_is)
    (case c24 => k_is)
    (case k24 => k_is)
    (case a25 => k_is)
    (case l25 => k_is)
    (case c25 => k_is)
    (case k25 => k_is)
    (case a26 => k_is)
    (case l26 => k_is)
    (case c26 => k_is)
    (case k26 => k_is)
    (case a27 => k_is)
    (case l27 => k_is)
    (case c27 => k_is)
    (case k27 => k_is)
    (case a28 => k_is)
    (case l28 => k_is)
    (case c28 => k_is)
    (case k28 => k_is)
    (case a29 => k_is)
    (case l29 => k_is)
    (case c29 => k_is)
    (case k29 => k_is)
    (case a30 => k_is)
    (case l30 => k_is)
    (case c30 => k_is)
    (case k30 => k_is)
    (case a31 => k_is)
    (case l31 => k_is)
    (case c31 => k_is)
    (case k31 => k_is)
    (case a32 => k_is)
    (case l32 => k_is)
    (case c32 => k_is)
    (case k32 => k_is)
    (case a33 => k_is)
    (case l33 => k_is)
    (case c33 => k_is)
    (case k33 => k_is)
    (case a34 => k_is)
    (case i34 => k_is)
    (case l34 => k_is)
    (case c34 => k_is)
    (case k34 => k_is)
    (case a35 => k_is)
    (case i35 => k_is)
    (case l35 => k_is)
    (case c35 => k_is)
    (case k35 => k_is)
    (case a36 => k_is)
    (case i36 => k_is)
    (case l36 => k_is)
    (case c36 => k_is)
    (case k36 => k_is)
    (case a37 => k_is)
    (case i37 => k_is)
    (case l37 => k_is)
    (case c37 => k_is)
    (case k37 => k_is)
    (case a38 => k_is)
    (case i38 => k_is)
    (case l38 => k_is)
    (case c38 => k_is)
    (case k38 => k_is)
    (case a39 => k_is)
    (case i39 => k_is)
    (case l39 => k_is)
    (case c39 => k_is)
    (case k39 => k_is)
    (case a40 => k_is)
    (case i40 => k_is)
    (case l40 => k_is)
    (case c40 => k_is)
    (case k40 => k_is)
    (case a41 => k_is)
    (case i41 => k_is)
    (case l41 => k_is)
    (case c41 => k_is)
    (case k41 => k_is)
    (case a42 => k_is)
    (case i42 => k_is)
    (case l42 => k_is)
    (case c42 => k_is)
    (case k42 => k_is)
    (case a43 => k_is)
    (case i43 => k_is)
    (case l43 => k_is)
    (case c43 => k_is)
    (case k43 => k_is)
    (case a44 => k_is)
    (case i44 => k_is)
    (case l44 => k_is)
    (case c44 => k_is)
    (case k44 => k_is)
    (case a45 => k_is)
    (case i45 => k_is)
    (case l45 => k_is)
    (case c45 => k_is)
    (case k45 => k_is)
    (case a46 => k_is)
    (case i46 => k_is)
    (case l46 => k_is)
    (case c46 => k_is)
    (case k46 => k_is)
    (case a47 => k_is)
    (case i47 => k_is)
    (case l47 => k_is)
    (case c47 => k_is)
    (case k47 => k_is)
    (case a48 => k_is)
    (case i48 => k_is)
    (case l48 => k_is)
    (case c48 => k_is)
    (case k48 => k_is)
    (case a49 => k_is)
    (case i49 => k_is)
    (case l49 => k_is)
    (case c49 => k_is)
    (case k49 => k_is)
    (case a50 => k_is)
    (case i50 => k_is)
    (case l50 => k_is)
    (case c50 => k_is)
    (case k50 => k_is)
    (case a51 => k_is)
    (case i51 => k_is)
    (case l51 => k_is)
    (case c51 => k_is)
    (case k51 => k_is)
    (case a52 => k_is)
    (case i52 => k_is)
    (case l52 => k_is)
    (case c52 => k_is)
    (case k52 => k_is)
    (case a53 => k_is)
    (case i53 => k_is)
    (case l53 => k_is)
    (case c53 => k_is)
    (case k53 => k_is)
    (case a54 => k_is)
    (case i54 => k_is)
    (case l54 => k_is)
    (case c54 => k_is)
    (case k54 => k_is)
    (case a55 => k_is)
    (case i55 => k_is)
    (case l55 => k_is)
    (case c55 => k_is)
    (case k55 => k_is)
    (case a56 => k_is)
    (case i56 => k_is)
    (case l56 => k_is)
    (case c56 => k_is)
    (case k56 => k_is)
    (case a57 => k_is)
    (case i57 => k_is)
    (case l57 => k_is)
    (case c57 => k_is)
    (case k57 => k_is)
    (case a58 => k_is)
    (case i58 => k_is)
    (case l58 => k_is)
    (case c58 => k_is)
    (case k58 => k_is)
    (case a59 => k_is)
    (case i59 => k_is)
    (case l59 => k_is)
    (case c59 => k_is)
    (case k59 => k_is)
    (case a60 => k_is)
    (case i60 => k_is)
    (case l60 => k_is)
    (case c60 => k_is)
    (case k60 => k_is)
    (case a61 => k_is)
    (case i61 => k_is)
    (case l61 => k_is)
    (case c61 => k_is)
    (case k61 => k_is)
    (case a62 => k_is)
    (case i62 => k_is)
    (case l62 => k_is)
    (case c62 => k_is)
    (case k62 => k_is)
    (case a63 => k_is)
    (case i63 => k_is)
    (case l63 => k_is)
    (case c63 => k_is)
    (case k63 => k_is)
    (case a64 => k_is)
    (case i64 => k_is)
    (case l64 => k_is)
    (case c64 => k_is)
    (case k64 => k_is)
    (case a65 => k_is)
    (case i65 => k_is)
    (case l65 => k_is)
    (case c65 => k_is)
    (case k65 => k_is)
    (case a66 => k_is)
    (case i66 => k_is)
    (case l66 => k_is)
    (case c66 => k_is)
    (case k66 => k_is)
    (case zd => k_is)
    (case ze => k_is)
    (case zf => k_is)
    (case zg => k_is)
    (case zh => k_is)
    (case zi => k_is)
    (case zj => k_is)
    (case zk => k_is)
    (case zl => k_is)
    (case zm => k_is)
    (case zn => k_is)
    (case zo => k_is)
    (case zp => k_is)
    (case zq => k_is)
    (case zr => k_is)
    (case zs => k_is)
    (case zt => k_is)
    (case zu => k_is)
    (case zv => k_is)
    (case zw => k_is)
    (case zx => k_is)
    (case zy => k_is)
    (case zz => k_is)
    (case z10 => k_is)
    (case z11 => k_is)
    (case z12 => k_is)
    (case z13 => k_is)
    (case z14 => k_is)
    (case z15 => k_is)
    (case z16 => k_is)
    (case z17 => k_is)
    (case z18 => k_is)
    (case z19 => k_is)
    (case z1a => k_is)
    (case z1b => k_is)
    (case z1c => k_is)
    (case z1d => k_is)
    (case z1e => k_is)
    (case z1f => k_is)
    (case z1g => k_is)
    (case z1h => k_is)
    (case z1i => k_is)
    (case z1j => k_is)
    (case z1k => k_is)
    (case z1l => k_is)
    (case z1m => k_is)
    (case z1n => k_is)
    (case z1o => k_is)
    (case z1p => k_is)
    (case z1q => k_is)
    (case z1r => k_is)
    (case z1s => k_is)
    (case z1t => k_is)
    (case z1u => k_is)
    (case z1v => k_is)
    (case z1w => k_is)
    (case z1x => k_is)
    (case z1y => k_is)
    (case z1z => k_is)
    (case z20 => k_is)
    (case z21 => k_is)
    (case z22 => k_is)
    (case z23 => k_is)
    (case z24 => k_is)
    (case z25 => k_is)
    (case z26 => k_is)
    (case z27 => k_is)
    (case z28 => k_is)
    (case z29 => k_is)
    (case z2a => k_is)
    (case z2b => k_is)
    (case z2c => k_is)
    (case z2d => k_is)
    (case z2e => k_is)
    (case z2f => k_is)
    (case z2g => k_is)
    (case z2h => k_is)
    (case z2i => k_is)
    (case z2j => k_is)
    (case z2k => k_is)
    (case z2l => k_is)
    (case z2m => k_is)
    (case z2n => k_is)
    (case z2o => k_is)
    (case z2p => k_is)
    (case z2q => k_is)
    (case z2r => k_is)
    (case z2s => k_is)
    (case z2t => k_is)
    (case z2u => k_is)
    (case z2v => k_is)
    (case z2w => k_is)
    (case z2x => k_is)
    (case z2y => k_is)
    (case z2z => k_is)
    (case z30 => k_is)
    (case z31 => k_is)
    (case z32 => k_is)
    (case z33 => k_is)
    (case z34 => k_is)
    (case z35 => k_is)
    (case z36 => k_is)
    (case z37 => k_is)
    (case z38 => k_is)
    (case z39 => k_is)
    (case z3a => k_is)
    (case z3b => k_is)
    (case z3c => k_is)
    (case z3d => k_is)
    (case z3e => k_is)
    (case z3f => k_is)
    (case z3g => k_is)
    (case z3h => k_is)
    (case z3i => k_is)
    (case z3j => k_is)
    (case z3k => k_is)
    (case z3l => k_is)
    (case z3m => k_is)
    (case z3n => k_is)
    (case z3o => k_is)
    (case z3p => k_is)
    (case z3q => k_is)
    (case z3r => k_is)
    (case z3s => k_is)
    (case z3t => k_is)
    (case z3u => k_is)
    (case z3v => k_is)
    (case z3w => k_is)
    (case z3x => k_is)
    (case z3y => k_is)
    (case z3z => k_is)
    (case z40 => k_is)
    (case z41 => k_is)
    (case z42 => k_is)
    (case z43 => k_is)
    (case z44 => k_is)
    (case z45 => k_is)
    (case z46 => k_is)
    (case z47 => k_is)
    (case z48 => k_is)
    (case z49 => k_is)
    (case z4a => k_is)
    (case z4b => k_is)
    (case z4c => k_is)
    (case z4d => k_is)
    (case z4e => k_is)
    (case z4f => k_is)
    (case z4g => k_is)
    (case z4h => k_is)
    (case z4i => k_is)
    (case z4j => k_is)
    (case z4k => k_is)
    (case z4l => k_is)
    (case z4m => k_is)
    (case z4n => k_is)
    (case z4o => k_is)
    (case z4p => k_is)
    (case z4q => k_is)
    (case z4r => k_is)
    (case z4s => k_is)
    (case z4t => k_is)
    (case z4u => k_is)
    (case z4v => k_is)
    (case z4w => k_is)
    (case z4x => k_is)
