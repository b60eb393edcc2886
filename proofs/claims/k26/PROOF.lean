import PyProof.Rows.All
import Wide.All
import OpenK.AllK
import Wide.FinOn
import Lean
import PyProof.EqAt
import PyProof.EqKinds
import PyProof.TupleCall
import PyProof.NeKinds
import KE.KDictSum
import PySem.Challenge.RW_delve_k26_steps_of_folds
namespace PySem.W.Fast
def tw11061560533417192612 := 0
def tw4537106954815731384 := 0
def tw12739739734602339632 := 0
def tw2980572778592004414 := 0
def tw13843006890283203637 := 0
def tw870824630593180823 := 0
def tw7760934581924504495 := 0
def tw8779199455440219633 := 0
def tw7814079605970907012 := 0
def tw16396544170279690220 := 0
def tw11276758739674621963 := 0
def tw10893629217195480095 := 0
def tw4006389804275606962 := 0
def tw11452071543205346586 := 0
def tw14579507516829358426 := 0
def tw8921156050761244947 := 0
def tw11217623355180757958 := 0
def tw9896688121933486158 := 0
def tw14739767188900405239 := 0
def tw12652263953218129383 := 0
def tw12766890237174506121 := 0
def tw17125156149178691017 := 0
def tw4814954791762916 := 0
def tw8441470994923151178 := 0
def tw10866691098874762036 := 0
def tw4797318916287692813 := 0
def tw14482829506440510591 := 0
def tw4063156489932283109 := 0
def tw62233625563779915 := 0
def tw17319970776280934107 := 0
def tw17373787201944415161 := 0
def tw3326218743186336110 := 0
def tw1795031063373422999 := 0
def tw877523731813615645 := 0
def tw16141175360883640500 := 0
def tw16639274628624901088 := 0
def tw17648993295064145232 := 0
def tw17922485073068035121 := 0
def tw10451698655791370696 := 0
def tw4172797014917118585 := 0
def tw8513144489442741077 := 0
def tw16197906553414992392 := 0
def tw5610438968271465829 := 0
def tw13404672990393922986 := 0
def tw9710950042529304366 := 0
def tw14036135791155897862 := 0
def tw10013891461489811611 := 0
def tw3771478882730478585 := 0
def tw4185831450434589430 := 0
def tw6069023118502544315 := 0
def tw11922525746474396121 := 0
def tw10708359087831725630 := 0
def tw10707971904821513472 := 0
def tw12489851362482338869 := 0
def tw10901935841155153133 := 0
def tw11648636105695242376 := 0
def tw6663013882304570731 := 0
def tw1244078754257692694 := 0
def tw1620119768587722397 := 0
def tw3965897740864224717 := 0
def tw5665368168201430879 := 0
def tw4779893452322182659 := 0
def tw3469433976804773906 := 0
def tw9651630772539769106 := 0
def tw13631433823235500058 := 0
def tw14176356178638471745 := 0
def tw17932796819500446179 := 0
def tw4711889606495486494 := 0
def tw5272545492548733784 := 0
def tw10695664699339875055 := 0
def tw3287471672467334155 := 0
def tw16777407181012232691 := 0
def tw5322974237207211033 := 0
def tw5167669376711099874 := 0
def tw7090666755056777281 := 0
def tw7984364316765956997 := 0
def tw12628656606745156662 := 0
def tw16213041815971614320 := 0
def tw13222828708100359482 := 0
def tw16010062407243078658 := 0
def tw1963221245515430908 := 0
def tw6983847515797030720 := 0
def tw5037174183620018397 := 0
def tw14885687448353607785 := 0
def tw6641155171262775253 := 0
def tw8064256884416055452 := 0
def tw6643381414272138098 := 0
def tw15187311948501746058 := 0
def tw4421444266044222051 := 0
def tw2068659151009695699 := 0
def tw11406599139769470642 := 0
def tw16143156703419856797 := 0
def tw3849448138958554519 := 0
def tw13683251774616205218 := 0
def tw6112880955105396122 := 0
def tw10284136219790180447 := 0
def tw193240057698496666 := 0
def tw5086930811061652270 := 0
def tw2979407312252698193 := 0
def tw1908069610560334783 := 0
def tw16424657077554991993 := 0
def tw17031800090948619806 := 0
def tw15425123988730147526 := 0
def tw17441040202091603407 := 0
def tw14165274698243241218 := 0
def tw16838966634900531798 := 0
def tw487169103319208523 := 0
def tw14909772102461831362 := 0
def tw3497715393318373325 := 0
def tw16643540854804207664 := 0
def tw14605874501216172794 := 0
def tw8307913462752447279 := 0
def tw11054695460772462868 := 0
def tw14286557323960123387 := 0
def tw5023543296829334415 := 0
def tw17953923986228123282 := 0
def tw13307793888689531344 := 0
def tw4025760187623098570 := 0
def tw2563380284723467693 := 0
def tw11216660614029121159 := 0
def tw16451161643322329773 := 0
def tw13512160627107736245 := 0
def tw12471570924727991180 := 0
def tw4085995699051025609 := 0
def tw9156749941992446492 := 0
def tw2683582428496874381 := 0
def tw7777677097951542894 := 0
def tw9174657484367444329 := 0
def tw5423081136612776600 := 0
def tw2527340587352563507 := 0
def tw639756818083734581 := 0
def tw18263170479346972068 := 0
def tw4714273335121998877 := 0
def tw4969965260788620628 := 0
def tw15911361704372435679 := 0
def tw9436821400947139301 := 0
def tw78961852938922532 := 0
def tw1289244736575716605 := 0
def tw7309413774312880383 := 0
def tw11651429485959778564 := 0
def tw10426296777022609310 := 0
def tw16110495977412753540 := 0
def tw11390027960454915798 := 0
def tw1640185840986093297 := 0
def tw8602780566526094157 := 0
def tw17821485579051622424 := 0
def tw2711622494263213722 := 0
def tw6432255303030889547 := 0
def tw6527883748113051673 := 0
def tw16739456342733738925 := 0
def tw12243682682535921670 := 0
def tw15253476239260841957 := 0
def tw11772821111264390113 := 0
def tw13988567711317181307 := 0
def tw1669017557522899989 := 0
def tw2903350131582907530 := 0
def tw18075372740494697355 := 0
def tw11558215972639756854 := 0
def tw15416653119704511947 := 0
def tw3963399535488954080 := 0
def tw17751848049790078977 := 0
def tw12655334446780663140 := 0
def tw16119685715648838860 := 0
def tw13823159175283325236 := 0
def tw8608141780209867905 := 0
def tw15097610027229947170 := 0
def tw17824745464013623957 := 0
def tw7152591054024954260 := 0
def tw9026274282961645268 := 0
def tw1323335171556242010 := 0
def tw10183929849534188871 := 0
def tw5239154675669849476 := 0
def tw11707128878559232636 := 0
def tw7568092307741149218 := 0
def tw7167512561820680172 := 0
def tw4516811519682919415 := 0
def tw10888629284268015355 := 0
def tw16482318698681410707 := 0
def tw5790707761807237691 := 0
def tw3652124288698010088 := 0
def tw10090000509315708734 := 0
def tw10821432153874111942 := 0
def tw1941066586925899510 := 0
def tw1272373077710958704 := 0
def tw2456296472292168164 := 0
def tw12783453370059455452 := 0
def tw4830070485313106043 := 0
def tw6268852878787468349 := 0
def tw11785446203548313342 := 0
def tw11192278795164739400 := 0
def tw6612986126300757227 := 0
def tw7475422203265807920 := 0
def tw11465966573541790067 := 0
def tw3902775950257530923 := 0
def tw17026626949879217784 := 0
def tw3504726922802382209 := 0
def tw10060587965974479699 := 0
def tw1618593132299850138 := 0
def tw15530095127010234589 := 0
def tw812554920532729000 := 0
def tw6085225931561133587 := 0
def tw1678518941820704235 := 0
def tw6505903359473776381 := 0
def tw3971260566920491102 := 0
def tw3020828249289331362 := 0
def tw5041617946567385812 := 0
def tw10097828771481281024 := 0
def tw4552607538336654610 := 0
def tw9829228441876002303 := 0
def tw7052711554843670163 := 0
def tw18004759850132556289 := 0
def tw4275981930511749924 := 0
def tw1744537787690204408 := 0
def tw15864846454444805181 := 0
def tw12329849261000717901 := 0
def tw7875083642595582628 := 0
def tw1395217302662489484 := 0
def tw12624647206274032786 := 0
def tw15458554589055338855 := 0
def tw6626623919740071054 := 0
def tw13799700947525536595 := 0
def tw5544151718181535181 := 0
def tw9174053387502225840 := 0
def tw3974312459512817616 := 0
def tw10290420731900916020 := 0
def tw17830082706007928864 := 0
def tw326922077431750376 := 0
def tw18099593234805051945 := 0
def tw8239625689069993730 := 0
def tw2740927905987084641 := 0
def tw794838862738344519 := 0
def tw8397506717660668062 := 0
def tw12485955050682908031 := 0
def tw14859617312557395886 := 0
def tw2173232852691330914 := 0
def tw14948364793988612077 := 0
def tw11849325709576025977 := 0
def tw4475052462691105792 := 0
def tw12868499969182356121 := 0
def tw17704314237729369379 := 0
def tw17004288988164272864 := 0
def tw11511516838222664766 := 0
def tw9096230515266479906 := 0
def tw5504677035484988600 := 0
def tw6106507337697467309 := 0
def tw5165852155164182822 := 0
def tw5968182936647055252 := 0
def tw13714187948127478266 := 0
def tw4209265213382226843 := 0
def tw10354481913635904338 := 0
def tw475561998465280869 := 0
def tw17005458011742201703 := 0
def tw3504215145090042759 := 0
def tw1535165847272070476 := 0
def tw3050492049407851137 := 0
def tw17526447652009103227 := 0
def tw4128214060404999114 := 0
def tw16937213206278689262 := 0
def tw10431974288841113790 := 0
def tw13787846103787810280 := 0
def tw5517921644184365965 := 0
def tw8864118025984460120 := 0
def tw15281096573743752938 := 0
def tw3747681272857722666 := 0
def tw9337127970594967292 := 0
def tw3557577472549889306 := 0
def tw5396752086139218792 := 0
def tw8813372730098566762 := 0
def tw17483840410702827525 := 0
def tw8789619446425143635 := 0
def tw5594806831721381632 := 0
def tw9391028724540537008 := 0
def tw16969057263059575375 := 0
def tw4183183227683776335 := 0
def tw2968201886759650542 := 0
def tw15540622753312852916 := 0
def tw13472514503629090818 := 0
def tw778970197426223813 := 0
def tw7406746628481426860 := 0
def tw7990201999011019873 := 0
def tw12387540038474939372 := 0
def tw5294280259843143412 := 0
def tw15782010541542387080 := 0
def tw3657257761676618189 := 0
def tw459765823171613788 := 0
def tw386764370735846801 := 0
def tw18158463631723823496 := 0
def tw1518210569223656143 := 0
def tw13177542762224171045 := 0
def tw5482114272119846086 := 0
def tw10083514728568521899 := 0
def tw3659563717815282273 := 0
def tw11000580746633169853 := 0
def tw11251982959913952394 := 0
def tw8449643368611450661 := 0
def tw439653853715645701 := 0
def tw7365847175942075946 := 0
def tw1113948750891257079 := 0
def tw3995770034317480443 := 0
def tw6213089916971881735 := 0
def tw3052693506187856562 := 0
def tw4830624764151890281 := 0
def tw8197589504652708574 := 0
def tw14119173278612922334 := 0
def tw16910762134339862129 := 0
def tw11455540451261266102 := 0
def tw1997267845714032839 := 0
def tw1643389269561737815 := 0
def tw18110954404335144646 := 0
def tw18127568591871199532 := 0
def tw13477790189778232054 := 0
def tw17318104038850438878 := 0
def tw1766631219495113218 := 0
def tw13922957636439389861 := 0
def tw1589508254621490697 := 0
def tw1977052174459653353 := 0
def tw2781970127754331281 := 0
def tw12723788623719175656 := 0
def tw8709305542194281345 := 0
def tw13305650746411300009 := 0
def tw12538477357260968849 := 0
def tw8759361578205560178 := 0
def tw13940031967296524897 := 0
def tw16007200682022922674 := 0
def tw10604036803730263867 := 0
def tw14784141019469830301 := 0
def tw6659304135485413433 := 0
def tw17026871091262192940 := 0
def tw8804993344750359357 := 0
def tw17986775513399724395 := 0
def tw2600436140459392004 := 0
def tw6815115864706903932 := 0
def tw10065746229213059959 := 0
def tw8971162013115342112 := 0
def tw11597145769056178178 := 0
def tw8606802685118287162 := 0
def tw17944102192435098506 := 0
def tw6222403047478980945 := 0
def tw12781575745705599493 := 0
def tw14569133475211240707 := 0
def tw6308087174098870051 := 0
def tw5993555367920639073 := 0
def tw17037331774624240810 := 0
def tw6945738954378701263 := 0
def tw13075859788337834371 := 0
def tw8720705068075261407 := 0
def tw5367786943648117840 := 0
def tw3488167476577602992 := 0
def tw6011146945847731237 := 0
def tw16426087020139352376 := 0
def tw17318594350665076179 := 0
def tw7786480042985066263 := 0
def tw14631761908123717542 := 0
def tw12778129569042073682 := 0
def tw4263562595495003701 := 0
def tw14828089285176400868 := 0
def tw4963885069792134716 := 0
def tw5066742472933561878 := 0
def tw1128988967020396131 := 0
def tw8034453822404464731 := 0
def tw1937463202527483937 := 0
def tw13099150922755958957 := 0
def tw2926456562776527789 := 0
def tw5414728712019348603 := 0
def tw13746329446484804810 := 0
def tw14036696508558761943 := 0
def tw16239536012205214713 := 0
def tw12371382098108458217 := 0
def tw3013651088461802215 := 0
def tw1836088400567086427 := 0
def tw9413789295151363151 := 0
def tw7204408947563345617 := 0
def tw4807060972071951212 := 0
def tw7271235563694053498 := 0
def tw3806146282779448124 := 0
def tw4838098716046019594 := 0
def tw3173249270315961800 := 0
def tw6071054701706190161 := 0
def tw8636495631246818058 := 0
def tw10651133701638364184 := 0
def tw15284670676806378146 := 0
def tw2815817535502394061 := 0
def tw7705965196670952693 := 0
def tw1863203570457679448 := 0
def tw13670266883420586304 := 0
def tw17712918288516635293 := 0
def tw6536027520799126473 := 0
def tw13067962662062469037 := 0
def tw13696966770053428687 := 0
def tw10221792523880520503 := 0
def tw6594705233269512885 := 0
def tw1821569550039131948 := 0
def tw9336607252073300821 := 0
def tw10293845277756221403 := 0
def tw6328517279040790214 := 0
def tw16965897476081235632 := 0
def tw7845623039440924245 := 0
def tw9368469387879726857 := 0
def tw5830571207818698172 := 0
def tw17183291448714875608 := 0
def tw14989767250966056569 := 0
def tw17652970000945767168 := 0
def tw12260339291780971079 := 0
def tw17981130357559900922 := 0
def tw13079471308597654922 := 0
def tw14343832491982443959 := 0
def tw16247895946848536462 := 0
def tw7745112061052118810 := 0
def tw6995913898386233110 := 0
def tw15052109153894274104 := 0
def tw6118239972388085581 := 0
def tw4557935286997375607 := 0
def tw1758465054854476356 := 0
def tw11596038911041980842 := 0
def tw920720454332812770 := 0
def tw4274749832560088970 := 0
def tw3327390248750840389 := 0
def tw17294762176986976478 := 0
def tw3537346940165792389 := 0
def tw18267544164713107084 := 0
def tw10956244348240306987 := 0
def tw11353000309431644734 := 0
def tw10913996823817934 := 0
def tw3499334756221029585 := 0
def tw11755450660784925027 := 0
def tw13884177788283628819 := 0
def tw9461296749159116114 := 0
def tw17747677202492037518 := 0
def tw8587223463172164391 := 0
def tw2526232605610717153 := 0
def tw15869734194479319615 := 0
def tw8635612218408092256 := 0
def tw9528377408600099352 := 0
def tw12852359107047906982 := 0
def tw12791705670998025971 := 0
def tw13106040069344245043 := 0
def tw15147293936824233541 := 0
def tw1909660265778779297 := 0
def tw16841231517178605552 := 0
def tw8550892280264382823 := 0
def tw16548241628644802866 := 0
def tw15558552978741597222 := 0
def tw16790040823080685783 := 0
def tw11100107341205891484 := 0
def tw11219223823938612989 := 0
def tw15982205638497047959 := 0
def tw18443555600979514641 := 0
def tw650979760637970324 := 0
def tw5310768752572699400 := 0
def tw15333069601531223670 := 0
def tw219227015624957243 := 0
def tw9718151659058188932 := 0
def tw4059311224939410694 := 0
def tw2514217970121820164 := 0
def tw2531556973288096937 := 0
def tw8011557865006373253 := 0
def tw6194451100785124973 := 0
def tw15833987270583696019 := 0
def tw11816474105354048025 := 0
def tw4891931676306333300 := 0
def tw5303640749264296780 := 0
def tw15489561089274059288 := 0
def tw11076792032005795115 := 0
def tw1819777305148743484 := 0
def tw14688153838504479742 := 0
def tw12947580450901268754 := 0
def tw17767427327821876519 := 0
def tw17977208888272863642 := 0
def tw1485918068245823445 := 0
def tw5408898748076716686 := 0
def tw6595505442205742063 := 0
def tw9151719723449411116 := 0
def tw12926635874151532072 := 0
def tw17364269578223765240 := 0
def tw8863486687560113888 := 0
def tw1432299391469580884 := 0
def tw3720110682983107854 := 0
def tw11496958722509832301 := 0
def tw14190666072755473242 := 0
def tw8342080321309208879 := 0
def tw10758324601486161926 := 0
def tw5692524434537613706 := 0
def tw2428309982981282345 := 0
def tw10301192127921942091 := 0
def tw6469839321472770335 := 0
def tw2304523060194791580 := 0
def tw16031814425953864789 := 0
def tw4681518139882106105 := 0
def tw1843201240779888696 := 0
def tw7110801049381360459 := 0
def tw17627046753821980669 := 0
def tw11337021382934945582 := 0
def tw14505045655535819774 := 0
def tw12535001166808010002 := 0
def tw1245559648714369076 := 0
def tw14009535877073465661 := 0
def tw7164511952009640878 := 0
def tw9799125985621929545 := 0
def tw7568003455940006758 := 0
def tw17186848314931670730 := 0
def tw16583950596295313124 := 0
def tw2827773519710490002 := 0
def tw16198942459551118751 := 0
def tw6164589880598314180 := 0
def tw6804226619236496550 := 0
def tw7098878256750245943 := 0
def tw1696920688877451532 := 0
def tw463046757659426876 := 0
def tw5898826949075877412 := 0
def tw15031903008036547592 := 0
def tw8732889146195186057 := 0
def tw8537119570442255895 := 0
def tw10404787451824178006 := 0
def tw7895461583042604323 := 0
def tw2522933037100063329 := 0
def tw6325672358351709814 := 0
def tw7337871996130723813 := 0
def tw7002999828167974557 := 0
def tw13518519668094433564 := 0
def tw17247300447377031502 := 0
def tw10040447667488299358 := 0
def tw9103040912593154200 := 0
def tw9289274472570371856 := 0
def tw9039867816979975391 := 0
def tw16982330301750893338 := 0
def tw2159828712659150552 := 0
def tw11888019767128659764 := 0
def tw12914796971785838925 := 0
def tw6336347234084122532 := 0
def tw2792151410943487660 := 0
def tw18126190086985874024 := 0
def tw12879424594634328183 := 0
def tw1685872504440357434 := 0
def tw10724513389445888075 := 0
def tw5811802198488899375 := 0
def tw14014478645821288515 := 0
def tw13089855207173507510 := 0
def tw16066686751037652348 := 0
def tw9870895128480436616 := 0
def tw7881058601701440929 := 0
def tw6776196247013331511 := 0
def tw1584936605022728485 := 0
def tw14200368890884331978 := 0
def tw6881363287390685450 := 0
def tw8036963215622153074 := 0
def tw2137573915496741279 := 0
def tw6325395389204160737 := 0
def tw12079502793130612614 := 0
def tw12840225790479693560 := 0
def tw14644503502066480604 := 0
def tw14910764215502810701 := 0
def tw2180233067896133030 := 0
def tw8333081284232483308 := 0
def tw7841454448500973907 := 0
def tw5099724636405439313 := 0
def tw5123949601796179643 := 0
def tw15737121590957904782 := 0
def tw6074862520735019342 := 0
def tw3392346245741859471 := 0
def tw11782802076062671017 := 0
def tw7405772647833381728 := 0
def tw7438862916726528748 := 0
def tw4745787118588142771 := 0
def tw6794527133252383304 := 0
def tw12568350775079524925 := 0
def tw16918818656634871270 := 0
def tw2233758583114734779 := 0
def tw16950428861380023621 := 0
def tw3563971161399055393 := 0
def tw15075822964509368678 := 0
def tw16282672351237109763 := 0
def tw14582626005636167501 := 0
def tw7206442541055984424 := 0
def tw17420786349790863527 := 0
def tw4047724594803831261 := 0
def tw8436225169240534819 := 0
def tw2393680506362962612 := 0
def tw3871203069683383739 := 0
def tw13334663873159901503 := 0
def tw7602234781619698607 := 0
def tw9285897908499304255 := 0
def tw15606636499848154932 := 0
def tw18308595374640015125 := 0
def tw14393656555208374611 := 0
def tw15742086219125717985 := 0
def tw13608122695268362783 := 0
def tw1769266513270313809 := 0
def tw1561240632775625931 := 0
def tw7312441406592273912 := 0
def tw5230939184046822200 := 0
def tw2736712771285701743 := 0
def tw1015429750122646162 := 0
def tw6313288169558417372 := 0
def tw2889315034178112268 := 0
def tw7388529460912666546 := 0
def tw12131831438513505360 := 0
def tw8322088221651858165 := 0
def tw17809612104216628437 := 0
def tw6013988532837522060 := 0
def tw776625838646614450 := 0
def tw16611975473470824684 := 0
def tw6896248750321157803 := 0
def tw3745919753448544067 := 0
def tw13489308384645283647 := 0
def tw808755512027132740 := 0
def tw11070471055669063125 := 0
def tw10008234659258749549 := 0
def tw9430375216455444730 := 0
def tw14621814235194449900 := 0
def tw9038322625518980758 := 0
def tw942216984273702607 := 0
def tw9045526967217669823 := 0
def tw10169990886871588077 := 0
def tw15718000808612398103 := 0
def tw9671906908359748472 := 0
def tw2674651195893987671 := 0
def tw7943024634924259213 := 0
def tw9429417401394989277 := 0
def tw6837682888984765005 := 0
def tw1311824595532912312 := 0
def tw4322607630225889464 := 0
def tw16053065893723610595 := 0
def tw2264976255050775016 := 0
def tw18246439792699602363 := 0
def tw3684395612220746816 := 0
def tw203892469830248889 := 0
def tw12225941768214424220 := 0
def tw14371529531688492609 := 0
def tw13771348694351731915 := 0
def tw1792476862883255872 := 0
def tw5985397894086235722 := 0
def tw1298481015652288706 := 0
def tw15090177979202402857 := 0
def tw3322187213992965116 := 0
def tw3725429281405973560 := 0
def tw15947401517059828108 := 0
def tw16397636262873924413 := 0
def tw10116556815544196101 := 0
def tw14319012780886020539 := 0
def tw12812409052263318920 := 0
def tw14954884395382227164 := 0
def tw4725758726814512545 := 0
def tw12955923312967150120 := 0
def tw10107537485059952434 := 0
def tw13406598375541410294 := 0
def tw15503539560240585088 := 0
def tw18265601112921207131 := 0
def tw8819798539627480786 := 0
def tw12250077277015291275 := 0
def tw1196482700324421936 := 0
def tw5565791826419424681 := 0
def tw17798599218092714494 := 0
def tw11965594473752486933 := 0
def tw15404084139836383117 := 0
def tw14787737926161817867 := 0
def tw8693310821376586934 := 0
def tw7490354014331209150 := 0
def tw18035136066532777951 := 0
def tw3865758578599154792 := 0
def tw3099596755061054194 := 0
def tw6503217976529794776 := 0
def tw8280553356646058102 := 0
def tw15809684421162728653 := 0
def tw3390996131745372881 := 0
def tw6004939648153082903 := 0
def tw7362585874028497712 := 0
def tw7657733532598928020 := 0
def tw12981620482246943351 := 0
def tw10172051598565470544 := 0
def tw5579702080309951975 := 0
def tw4726956316329842821 := 0
def tw14583405945023944598 := 0
def tw1553767012008185441 := 0
def tw8425642699177208358 := 0
def tw6614259831333620695 := 0
def tw966318925227297190 := 0
end PySem.W.Fast
set_option Elab.async false
set_option linter.all false
set_option maxRecDepth 100000
namespace L2
open PySem PySem.Spec PyProof.Rows
abbrev Key := Sum Int Str
def q76 : Key -> Value -> Bool
 | .inl k, v => Value.isInt k v
 | .inr x, v => Value.isStrOf x v
def keyH (w : World) : Key -> Int
 | .inl k => hashInt k
 | .inr x => hashStr w x
theorem q01 : ∀ {k : Key} {v : Value}, q76 k v = true -> (∃ i t, k = Sum.inl i /\ v = Value.int i t) \/ (∃ x t, k = Sum.inr x /\ v = Value.str x t)
 | .inl i, v, h => by
  obtain ⟨t, e⟩ := Value.isInt_shape (k := i) (v := v) h
  exact .inl ⟨i, t, rfl, e⟩
 | .inr x, v, h => by
  obtain ⟨t, e⟩ := Value.isStrOf_shape (x := x) (v := v) h
  exact .inr ⟨x, t, rfl, e⟩
theorem q8b (i : Int) (t : Tok) : q76 (.inl i) (.int i t) = true := by simp [q76, Value.isInt]
theorem q8a (x : Str) (t : Tok) : q76 (.inr x) (.str x t) = true := by simp [q76, Value.isStrOf]
theorem key_ll (a b : Int) : decide ((Sum.inl a : Key) = Sum.inl b) = (a == b) := by
 by_cases e : a = b
 ·subst e; simp
 ·have h : ¬ (Sum.inl a : Key) = Sum.inl b := fun q => e (Sum.inl.inj q)
  rw [decide_eq_false h]
  exact (beq_eq_false_iff_ne.mpr e).symm
theorem key_rr (a b : Str) : decide ((Sum.inr a : Key) = Sum.inr b) = decide (a = b) := by
 by_cases e : a = b
 ·subst e; simp
 ·have h : ¬ (Sum.inr a : Key) = Sum.inr b := fun q => e (Sum.inr.inj q)
  rw [decide_eq_false h, decide_eq_false e]
theorem key_lr (a : Int) (b : Str) : decide ((Sum.inl a : Key) = Sum.inr b) = false := decide_eq_false (fun q => nomatch q)
theorem key_rl (a : Str) (b : Int) : decide ((Sum.inr a : Key) = Sum.inl b) = false := decide_eq_false (fun q => nomatch q)
def qE (prog : Program) (w : World) : PySem.KeyKind prog w Key where
 is := q76
 hash := keyH w
 inj := fun v a b ha hb => by
  rcases q01 ha with ⟨i, t, rfl, rfl⟩ | ⟨x, t, rfl, rfl⟩
  ·rcases q01 hb with ⟨j, u, rfl, e⟩ | ⟨y, u, rfl, e⟩
   ·injection e with e1 _; rw [e1]
   ·exact nomatch e
  ·rcases q01 hb with ⟨j, u, rfl, e⟩ | ⟨y, u, rfl, e⟩
   ·exact nomatch e
   ·injection e with e1 _; rw [e1]
 byValue := fun k v h => by
  rcases q01 h with ⟨i, t, rfl, rfl⟩ | ⟨x, t, rfl, rfl⟩ <;> rfl
 pyHash := fun hv h => by
  rcases q01 hv with ⟨i, t, rfl, rfl⟩ | ⟨x, t, rfl, rfl⟩
  ·exact wpAny_pyHash_int h
  ·exact wpAny_pyHash_str h
 eqBool := fun hu hv h => by
  rcases q01 hu with ⟨i, t, rfl, rfl⟩ | ⟨x, t, rfl, rfl⟩
  ·rcases q01 hv with ⟨j, u, rfl, rfl⟩ | ⟨y, u, rfl, rfl⟩
   ·rw [key_ll] at h; exact wpAny_eqBool_int h
   ·rw [key_lr] at h; exact SeqAt.EqAt.int_str i t y u _ _ _ _ h
  ·rcases q01 hv with ⟨j, u, rfl, rfl⟩ | ⟨y, u, rfl, rfl⟩
   ·rw [key_rl] at h; exact SeqAt.EqAt.str_int x t j u _ _ _ _ h
   ·rw [key_rr] at h; exact wpAny_eqBool_str h
 «strs» := fun k x t v h => by
  rcases q01 h with ⟨i, u, rfl, e⟩ | ⟨y, u, rfl, e⟩
  ·exact nomatch e
  ·injection e with e1 _
   subst e1
   cases v <;> rfl
theorem q5I (prog : Program) (w : World) (i : Int) (t : Tok) : (qE prog w).is (.inl i) (.int i t) = true := q8b i t
theorem q5H (prog : Program) (w : World) (x : Str) (t : Tok) : (qE prog w).is (.inr x) (.str x t) = true := q8a x t
end L2
namespace L2
open PySem PySem.Spec PyProof.Rows
inductive V where
 | non | bl (b : Bool) | int (i : Int) | str (x : Str) | byt (b : Array UInt8) | flt (b : UInt64) | ref (a : Addr) | ty (n : String)
 deriving DecidableEq
def RelV : V -> Value -> Prop
 | .non, u => u = Value.none
 | .bl b, u => u = Value.bool b
 | .int i, u => ∃ t, u = Value.int i t
 | .str x, u => ∃ t, u = Value.str x t
 | .byt b, u => ∃ t, u = Value.bytes b t
 | .flt b, u => ∃ t, u = Value.float b t
 | .ref a, u => u = Value.ref a
 | .ty n, u => u = Value.type n
abbrev Vals : List V -> List Value -> Prop := Paired RelV
theorem Vals.length {xs : List V} {us : List Value} (r : Vals xs us) : xs.length = us.length := Paired.length r
theorem Vals.get : ∀ {xs : List V} {us : List Value} {i : Nat} {x : V}, Vals xs us -> xs[i]? = some x -> ∃ u, us[i]? = some u /\ RelV x u
 | _, _, _, _, .nil, e => by simp at e
 | _, _, 0, _, .cons r _, e => by simp at e; subst e; exact ⟨_, rfl, r⟩
 | _, _, i + 1, x, .cons _ t, e => by
  obtain ⟨u, h1, h2⟩ := Vals.get (i := i) (x := x) t (by simpa using e)
  exact ⟨u, by simpa using h1, h2⟩
theorem Vals.set {x : V} {u : Value} (r : RelV x u) : ∀ {xs : List V} {us : List Value} (i : Nat), Vals xs us -> Vals (xs.set i x) (us.set i u)
 | _, _, _, .nil => .nil
 | _, _, 0, .cons _ t => .cons r t
 | _, _, i + 1, .cons q t => .cons q (Vals.set r i t)
theorem Vals.append : ∀ {xs ys : List V} {us ws : List Value}, Vals xs us -> Vals ys ws -> Vals (xs ++ ys) (us ++ ws)
 | _, _, _, _, .nil, s => s
 | _, _, _, _, .cons r t, s => .cons r (Vals.append t s)
theorem Vals.take : ∀ {xs : List V} {us : List Value} (n : Nat), Vals xs us -> Vals (xs.take n) (us.take n)
 | _, _, 0, _ => .nil
 | _, _, _ + 1, .nil => .nil
 | _, _, n + 1, .cons r t => .cons r (Vals.take n t)
theorem Vals.drop : ∀ {xs : List V} {us : List Value} (n : Nat), Vals xs us -> Vals (xs.drop n) (us.drop n)
 | _, _, 0, r => r
 | _, _, _ + 1, .nil => .nil
 | _, _, n + 1, .cons _ t => Vals.drop n t
def RelO : Option V -> Option Value -> Prop
 | some v, some u => RelV v u
 | none, none => True
 | _, _ => False
def KV {κ : Type} : List (κ × V) -> List (κ × Value) -> Prop := Paired fun (p : κ × V) (q : κ × Value) => p.1 = q.1 /\ RelV p.2 q.2
def kV : Key -> V
 | .inl i => .int i
 | .inr x => .str x
inductive HO where
 /-- a list -/
 | lst (xs : List V)
 /-- a tuple (never changes) -/
 | tup (xs : List V)
 /-- a dict whose keys are ints and texts; one whose keys are tuples of ints and texts (the empty one is both) -/
 | dK (kvs : List (Key × V)) | dT (kvs : List (List Key × V))
 /-- a set of ints: its members, its size -/
 | set (S : Int -> Bool) (n : Nat)
 /-- an instance of the class at C, its dict at dx, its attributes -/
 | ins (C dx : Addr) (fs : List (Str × V))
 /-- the dict of the instance at x -/
 | own (x : Addr)
 /-- the dict of an exception -/
 | xd (fs : List (Str × V))
 /-- a bound method, f of x -/
 | met (f x : Addr)
 /-- a range object lo, lo + 1, .. below hi -/
 | rng (lo hi : Int)
 /-- a thing that is known to the object (the script; a dict while a loop walks it): read, never written while it is so -/
 | frz (o : Obj) (u : HO)
 /-- a code object's table -/
 | tbl (ps : Array Value)
 /-- any other thing, by what is true of its one object (a def of one's own: SetO a S n := HO.ext fun h => ..) -/
 | ext (φ : Heap -> Prop)
abbrev Hp := Addr -> Option HO
def upd (H : Hp) (a : Addr) (o : HO) : Hp := fun b => if b = a then some o else H b
theorem qb {H : Hp} {a : Addr} {o : HO} : upd H a o a = some o := by unfold upd; rw [if_pos rfl]
theorem ql {H : Hp} {a b : Addr} {o : HO} (h : b ≠ a) : upd H a o b = H b := by unfold upd; rw [if_neg h]
theorem q1y {H : Hp} {a : Addr} {o u : HO} : upd (upd H a o) a u = upd H a u := by
 funext b; unfold upd; split <;> rfl
theorem q3y {H : Hp} {a b : Addr} {o u : HO} (h : H a = some o) (h' : H b = some u) (d : o ≠ u) : a ≠ b := by
 intro e; subst e; rw [h] at h'; exact d (Option.some.inj h')
theorem qk {H : Hp} {a b : Addr} {o : HO} (h : H a = some o) (h' : H b = none) : a ≠ b := by
 intro e; subst e; rw [h] at h'; cases h'
section
variable (P : Program) (w : World)
def q06 (H : Hp) (h : Heap) (a : Addr) : HO -> Prop
 | .lst xs => xs.length <= sizeLine /\ ∃ (its : List Value) (n : Nat), Vals xs its /\ h.get? a = some { cls := .type "list", data := .seq its.toArray n }
 | .tup xs => xs.length <= sizeLine /\ ∃ its : List Value, Vals xs its /\ IsTup h a its.toArray
 | .dK kvs => kvs.length <= sizeLine /\ (a == sysModules) = false /\ ∃ vs, KV kvs vs /\ h.DictOf (qE P w) a vs
 | .dT kvs => kvs.length <= sizeLine /\ (a == sysModules) = false /\ ∃ xs : List (List Key × Addr × Value),
   Paired (fun (p : List Key × V) (q : List Key × Addr × Value) => p.1 = q.1 /\ H q.2.1 = some (.tup (p.1.map kV)) /\ RelV p.2 q.2.2) kvs xs /\
   ∃ o es ep, h.get? a = some o /\ o.ExactDict /\ o.data = .dict es ep /\ es.toList = xs.map (entryOfKey (tupleKind (qE P w))) /\ (xs.map (·.1)).Nodup
 | .set S n => h.SetOf (intKind P w) a S n
 | .ins C dx fs => H dx = some (.own a) /\ fs.length <= 1000 /\ dx ≠ a /\ h.get? a = some (PySem.W.instObj C dx) /\
   ∃ mA, h.Ns1 dx mA /\ (∀ f, RelO (fs.lookup f) (mA f)) /\ PySem.Within mA (fs.map (·.1))
 | .own _ => ∃ o, h.get? a = some o
 | .xd fs => ∃ mA, h.Ns1 a mA /\ ∀ f, RelO (fs.lookup f) (mA f)
 | .rng lo hi => ∃ t u v, h.get? a = some { cls := .type "range", data := .fields #[.int lo t, .int hi u, .int 1 v] }
 | .frz o u => h.get? a = some o /\ q06 H h a u
 | .tbl ps => h.get? a = some { cls := .none, data := .fields ps }
 | .met f x => h.get? a = some (PySem.W.methodObj (.ref f) (.ref x))
 | .ext φ => φ h /\ (∃ o, h.get? a = some o) /\ ∀ h1 h2 : Heap, φ h1 -> (∀ o, h1.get? a = some o -> h2.get? a = some o) -> φ h2
def HOk (H : Hp) (h : Heap) : Prop := ∀ a o, H a = some o -> q06 P w H h a o
end
section
variable {P : Program} {w : World} {H H' : Hp} {h h' : Heap} {a : Addr} {o : HO}
theorem q06.lt (x : q06 P w H h a o) : a < h.objs.size := by
 cases o with
 | lst xs => obtain ⟨_, _, _, _, e⟩ := x; exact Heap.lt_size e
 | tup xs => obtain ⟨_, _, _, p⟩ := x; exact p.lt
 | dK kvs => obtain ⟨_, _, _, _, o, _, _, e, _⟩ := x; exact Heap.lt_size e
 | dT kvs => obtain ⟨_, _, _, _, o, _, _, e, _⟩ := x; exact Heap.lt_size e
 | set S n => obtain ⟨o, _, _, _, e, _⟩ := x; exact Heap.lt_size e
 | ins C dx fs => obtain ⟨_, _, _, e, _⟩ := x; exact Heap.lt_size e
 | own y => obtain ⟨_, e⟩ := x; exact Heap.lt_size e
 | xd fs => obtain ⟨_, ⟨_, _, _, e, _⟩, _⟩ := x; exact Heap.lt_size e
 | rng lo hi => obtain ⟨_, _, _, e⟩ := x; exact Heap.lt_size e
 | frz ob u => obtain ⟨e, _⟩ := x; exact Heap.lt_size e
 | tbl ps => exact Heap.lt_size (show h.get? a = some _ from x)
 | met f y => exact Heap.lt_size (show h.get? a = some _ from x)
 | ext φ => obtain ⟨_, ⟨_, e⟩, _⟩ := x; exact Heap.lt_size e
theorem Paired.mapP {α β : Type} {F G : α -> β -> Prop} : ∀ {l₁ : List α} {l₂ : List β}, Paired F l₁ l₂ -> (∀ a b, F a b -> G a b) -> Paired G l₁ l₂
 | _, _, .nil, _ => .nil
 | _, _, .cons r t, f => .cons (f _ _ r) (Paired.mapP t f)
theorem q06.stay (x : q06 P w H h a o) (k : ∀ b u, (b = a \/ H b = some (.own a)) -> h.get? b = some u -> h'.get? b = some u)
  (ho : ∀ b, H b = some (.own a) -> H' b = some (.own a)) (ht : ∀ b xs, H b = some (.tup xs) -> H' b = some (.tup xs)) : q06 P w H' h' a o := by
 induction o with
 | lst xs => obtain ⟨z, its, n, r, e⟩ := x; exact ⟨z, its, n, r, k _ _ (.inl rfl) e⟩
 | tup xs => obtain ⟨z, its, r, ob, e, c⟩ := x; exact ⟨z, its, r, ob, k _ _ (.inl rfl) e, c⟩
 | dK kvs => obtain ⟨z, y, vs, r, ob, es, ep, e, c⟩ := x; exact ⟨z, y, vs, r, ob, es, ep, k _ _ (.inl rfl) e, c⟩
 | dT kvs =>
  obtain ⟨z, y, xs, r, ob, es, ep, e, c⟩ := x
  exact ⟨z, y, xs, Paired.mapP r fun p q z => ⟨z.1, ht _ _ z.2.1, z.2.2⟩, ob, es, ep, k _ _ (.inl rfl) e, c⟩
 | set S n => obtain ⟨ob, es, ep, t, e, c⟩ := x; exact ⟨ob, es, ep, t, k _ _ (.inl rfl) e, c⟩
 | ins C dx fs =>
  obtain ⟨d, z, ne, e, mA, ⟨od, es, ep, e2, c⟩, r⟩ := x
  exact ⟨ho _ d, z, ne, k _ _ (.inl rfl) e, mA, ⟨od, es, ep, k _ _ (.inr d) e2, c⟩, r⟩
 | own y => obtain ⟨ob, e⟩ := x; exact ⟨ob, k _ _ (.inl rfl) e⟩
 | xd fs => obtain ⟨mA, ⟨od, es, ep, e, c⟩, r⟩ := x; exact ⟨mA, ⟨od, es, ep, k _ _ (.inl rfl) e, c⟩, r⟩
 | rng lo hi => obtain ⟨t, u, v, e⟩ := x; exact ⟨t, u, v, k _ _ (.inl rfl) e⟩
 | frz ob u ih => obtain ⟨e, q⟩ := x; exact ⟨k _ _ (.inl rfl) e, ih q⟩
 | tbl ps =>
  have e : h.get? a = some { cls := .none, data := .fields ps } := x
  show h'.get? a = some { cls := .none, data := .fields ps }
  exact k a _ (.inl rfl) e
 | met f y =>
  have e : h.get? a = some (PySem.W.methodObj (.ref f) (.ref y)) := x
  show h'.get? a = some (PySem.W.methodObj (.ref f) (.ref y))
  exact k a _ (.inl rfl) e
 | ext φ => obtain ⟨p, ⟨o, e⟩, st⟩ := x; exact ⟨st _ _ p fun o q => k _ _ (.inl rfl) q, ⟨o, k _ _ (.inl rfl) e⟩, st⟩
theorem HOk.lt (x : HOk P w H h) (e : H a = some o) : a < h.objs.size := (x a o e).lt
theorem HOk.fresh (x : HOk P w H h) (e : h.objs.size <= a) : H a = none := by
 cases q : H a with
 | none => rfl
 | some u => exact absurd (Nat.lt_of_lt_of_le (x.lt q) e) (Nat.lt_irrefl _)
theorem HOk.kept (x : HOk P w H h) (k : ∀ b u, h.get? b = some u -> h'.get? b = some u) : HOk P w H h' := fun a o e =>
 (x a o e).stay (fun b u _ q => k b u q) (fun _ q => q) fun _ _ q => q
theorem HOk.laid (x : HOk P w H h) (k : ∀ b u, h.get? b = some u -> h'.get? b = some u) (hp : h.objs.size <= a) (new : q06 P w (upd H a o) h' a o) : HOk P w (upd H a o) h' := fun b u e => by
 have hn := x.fresh hp
 by_cases hb : b = a
 ·subst hb; rw [qb] at e; cases e; exact new
 ·rw [ql hb] at e
  exact (x b u e).stay (fun c v _ q => k c v q) (fun c q => by rw [ql (qk q hn)]; exact q) fun c xs q => by rw [ql (qk q hn)]; exact q
end
def Rd (H : Hp) (a : Addr) (u : HO) : Prop := H a = some u \/ ∃ o, H a = some (.frz o u)
theorem Rd.ok {P : Program} {w : World} {H : Hp} {h : Heap} {a : Addr} {u : HO} (r : Rd H a u) (x : HOk P w H h) : q06 P w H h a u := by
 rcases r with r | ⟨o, r⟩
 ·exact x a u r
 ·obtain ⟨_, q⟩ := x a _ r
  exact q
def Mut : Option HO -> Prop
 | some (.lst _) => True
 | some (.dK _) => True
 | some (.dT _) => True
 | some (.set _ _) => True
 | some (.ins _ _ _) => True
 | some (.ext _) => True
 | _ => False
section
variable {P : Program} {w : World} {H : Hp} {h h' : Heap} {x e : Addr} {o' : HO}
theorem HOk.write (ok : HOk P w H h) (mu : Mut (H x)) (he : e = x \/ H e = some (.own x)) (k : ∀ b u, b ≠ e -> h.get? b = some u -> h'.get? b = some u) (heo : ∃ u, h'.get? e = some u)
  (new : q06 P w (upd H x o') h' x o') : HOk P w (upd H x o') h' := fun b u q => by
 have nown : ∀ c y, H c = some (.own y) -> c ≠ x := fun c y r z => by subst z; rw [r] at mu; exact mu
 have ntup : ∀ c xs, H c = some (.tup xs) -> c ≠ x := fun c xs r z => by subst z; rw [r] at mu; exact mu
 by_cases hb : b = x
 ·subst hb; rw [qb] at q; cases q; exact new
 ·rw [ql hb] at q
  by_cases hbe : b = e
  ·have q' : H b = some (.own x) := by
    rcases he with z | z
    ·exact absurd (hbe.trans z) hb
    ·rw [hbe]; exact z
   rw [q] at q'; cases q'
   obtain ⟨v, hv⟩ := heo
   exact ⟨v, by rw [hbe]; exact hv⟩
  ·refine (ok b u q).stay (fun c v hc r => k c v ?_ r) (fun c r => by rw [ql (nown c b r)]; exact r) fun c xs r => by rw [ql (ntup c xs r)]; exact r
   rcases hc with rfl | hc
   ·exact hbe
   ·rintro rfl
    rcases he with z | z
    ·exact nown c b hc z
    ·rw [hc] at z; cases z; exact hb rfl
end
structure Un (fs ex : List Addr) (H H' : Hp) (h h' : Heap) : Prop where
 keep : ∀ b o, h.get? b = some o -> H b = none -> b ∉ fs -> b ∉ ex -> h'.get? b = some o
 slot : ∀ b o, h.get? b = some o -> H b = none -> b ∈ fs -> b ∉ ex -> ∃ sl, h'.get? b = some { o with slots := sl }
 free : ∀ b o, h.get? b = some o -> H b = none -> b ∉ ex -> H' b = none
 there : ∀ b o, h.get? b = some o -> b ∉ ex -> ∃ o', h'.get? b = some o'
 tups : ∀ b xs, H b = some (.tup xs) -> H' b = some (.tup xs)
 frzs : ∀ b o u, H b = some (.frz o u) -> H' b = some (.frz o u)
 tbls : ∀ b ps, H b = some (.tbl ps) -> ∃ more, H' b = some (.tbl (ps ++ more))
section
variable {fs fs' ex ex' : List Addr} {H H1 H2 : Hp} {h h1 h2 h' : Heap} {a x e : Addr} {o : HO}
theorem Un.any (u : Un fs ex H H1 h h1) {b : Addr} {ob : Obj} (q : h.get? b = some ob) (n : H b = none) (hx : b ∉ ex) : ∃ sl, h1.get? b = some { ob with slots := sl } := by
 by_cases hb : b ∈ fs
 ·exact u.slot b ob q n hb hx
 ·exact ⟨ob.slots, u.keep b ob q n hb hx⟩
theorem Un.kept (k : ∀ b u, h.get? b = some u -> h'.get? b = some u) : Un fs ex H H h h' :=
 ⟨fun b ob q _ _ _ => k b ob q, fun b ob q _ _ _ => ⟨ob.slots, k b ob q⟩, fun _ _ _ n _ => n, fun b ob q _ => ⟨ob, k b ob q⟩, fun _ _ q => q, fun _ _ _ q => q, fun _ ps q => ⟨#[], by rw [q]; simp⟩⟩
theorem Un.refl : Un fs ex H H h h := Un.kept fun _ _ q => q
theorem Un.laid (k : ∀ b u, h.get? b = some u -> h'.get? b = some u) (hp : h.objs.size <= a) (hn : H a = none) : Un fs ex H (upd H a o) h h' where
 keep := fun b u q _ _ _ => k b u q
 slot := fun b u q _ _ _ => ⟨u.slots, k b u q⟩
 free := fun b u q n _ => by rw [ql (Nat.ne_of_lt (Nat.lt_of_lt_of_le (Heap.lt_size q) hp))]; exact n
 there := fun b u q _ => ⟨u, k b u q⟩
 tups := fun b xs q => by rw [ql (qk q hn)]; exact q
 frzs := fun b u xs q => by rw [ql (qk q hn)]; exact q
 tbls := fun b ps q => ⟨#[], by rw [ql (qk q hn), q]; simp⟩
theorem Un.write (mu : Mut (H x)) (he : e = x \/ H e = some (.own x)) (k : ∀ b u, b ≠ e -> h.get? b = some u -> h'.get? b = some u) (heo : ∃ u, h'.get? e = some u) : Un fs ex H (upd H x o) h h' := by
 have hx : ∀ b, H b = none -> b ≠ x := fun b n z => by subst z; rw [n] at mu; exact mu
 have hb : ∀ b, H b = none -> b ≠ e := fun b n z => by
  subst z
  rcases he with r | r
  ·exact hx b n r
  ·rw [n] at r; cases r
 have hm : ∀ b u, H b = some u -> ¬ Mut (some u) -> b ≠ x := fun b u q nm z => by subst z; rw [q] at mu; exact nm mu
 refine ⟨fun b u q n _ _ => k b u (hb b n) q, fun b u q n _ _ => ⟨u.slots, k b u (hb b n) q⟩, fun b u q n _ => by rw [ql (hx b n)]; exact n, fun b u q _ => ?_,
  fun b xs q => by rw [ql (hm b _ q fun z => z)]; exact q, fun b u xs q => by rw [ql (hm b _ q fun z => z)]; exact q, fun b ps q => ⟨#[], by rw [ql (hm b _ q fun z => z), q]; simp⟩⟩
 by_cases hbe : b = e
 ·subst hbe; exact heo
 ·exact ⟨u, k b u hbe q⟩
end
def trk (h : Heap) (H : Hp) : List Addr := (List.range h.objs.size).filter fun a => (H a).isSome
def hidT (h : Heap) (H : Hp) : Heap := PySem.W.hideAll h (trk h H)
theorem q8m (h : Heap) (H : Hp) : (hidT h H).objs.size = h.objs.size := PySem.W.hideAll_size _ _
theorem q9N {h : Heap} {H : Hp} {b : Addr} {o : Obj} (e : h.get? b = some o) (n : H b = none) : (hidT h H).get? b = some o :=
 PySem.W.hideAll_get _ e fun hm => by
  have q : (H b).isSome = true := (List.mem_filter.mp hm).2
  rw [n] at q; simp at q
theorem qba {h : Heap} {H : Hp} {b : Addr} {o : Obj} (e : (hidT h H).get? b = some o) : h.get? b = some o /\ H b = none := by
 have e' : h.get? b = some o := PySem.W.of_hideAll (trk h H) e
 refine ⟨e', ?_⟩
 cases q : H b with
 | none => rfl
 | some x =>
  have hm : b ∈ trk h H := List.mem_filter.mpr ⟨List.mem_range.mpr (Heap.lt_size e'), by simp [q]⟩
  have z : (hidT h H).get? b = none := PySem.W.hideAll_none (trk h H) hm
  rw [z] at e; cases e
def qbI (g h : Heap) (L : Addr) : List (Addr × Obj) := (List.range h.objs.size).filterMap fun a => if a = L \/ (g.get? a).isSome = true then none else (h.get? a).map fun o => (a, o)
def rest (g h : Heap) (L d : Addr) : List (Addr × Obj) := (qbI g h L).filter fun p => decide (p.1 ≠ d)
end L2
namespace L2
open PySem PySem.Spec PyProof.Rows
structure Mod (K : PySem.W.Frag) (mg : Str -> Option Value) (base : Heap) : Prop where
 kin : K.In base
 glob : base.Ns mainGlobals mg
 blt : ∃ mb, base.Ns builtinsNs mb /\ ∀ x : Str, x ≠ "__name__" -> mb x = bootBuiltins x
 nolimit : base.NoLimit
structure Cx where
 prog : Program
 w : World
 K : PySem.W.Frag
 mg : Str -> Option Value
 base : Heap
 A : Around
 N : List Str
 s₀ : Shared
 H₀ : Hp
 env : Env
 outer : List Env
 stack : List Env
 ex : List Addr
 fn : Str -> Bool
 calm : Bool
 pn : List (Addr × Obj)
 xe : Value -> Shared -> Prop
def frs (l : List Env) : List Addr := l.filterMap (·.frame)
abbrev Cx.fs (X : Cx) : List Addr := frs X.outer
def Vis (sc : Scope) (x : Str) : Prop := sc.names.lookup x = some .local \/ sc.names.lookup x = some .cell \/ sc.names.lookup x = some .free
def Loc (sc : Scope) (x : Str) : Prop := sc.names.lookup x = some .local \/ sc.names.lookup x = some .cell
def Look (env : Env) (h : Heap) (m : Str -> Option Value) (x : Str) (u : Value) : Prop :=
 (env.kindOf x = some .local /\ m x = some u) \/ ((env.kindOf x = some .cell \/ env.kindOf x = some .free) /\ ∃ c, env.cells.lookup x = some c /\ h.IsCell c (some u))
structure Cx.Ok (X : Cx) : Prop where
 mod : Mod X.K X.mg X.base
 kind : X.env.scope.kind = .function
 glob : X.env.globals = mainGlobals
 blt : X.env.builtins = builtinsNs
 above : X.s₀.heap.objs.size <= X.env.locals
 inj : ∀ x y c, X.env.cells.lookup x = some c -> X.env.cells.lookup y = some c -> x = y
 has : ∀ x, (X.env.kindOf x = some .cell \/ X.env.kindOf x = some .free) -> ∃ c, X.env.cells.lookup x = some c
 cab : ∀ x c, X.fn x = true -> X.env.cells.lookup x = some c -> X.s₀.heap.objs.size <= c
 hd : X.calm = true -> X.A.handled = none
 frames : X.A.frames = some X.stack
 stk : X.stack = X.outer \/ (X.stack = X.env :: X.outer /\ X.env.frame = some X.env.locals)
 exf : ∀ b ∈ X.ex, b ≠ X.env.locals /\ ∀ x c, X.env.cells.lookup x = some c -> c ≠ b
 bs : ∀ b o, X.base.get? b = some o -> X.s₀.heap.get? b = some o /\ X.H₀ b = none
 bsz : X.base.objs.size <= X.s₀.heap.objs.size
 noex : ∀ b o, X.base.get? b = some o -> b ∉ X.ex
 exfs : ∀ b ∈ X.ex, b ∉ X.fs
 funs : X.s₀.heap.FunFrames X.base X.outer
 frf : ∀ b ∈ X.fs, X.H₀ b = none
structure Inv (X : Cx) (pins : List (Addr × Obj)) (σ : List (Option V)) (H : Hp) (s : Shared) : Prop where
 ok : X.Ok
 os : s.os = X.s₀.os
 bare : AllBare s.gens
 base : Un X.fs X.ex X.H₀ H X.s₀.heap s.heap
 loc : ∃ m, s.heap.Ns X.env.locals m /\ ∀ (i : Nat) (x : Str) (v : V), X.N[i]? = some x -> σ[i]? = some (some v) -> Vis X.env.scope x -> ∃ u, RelV v u /\ Look X.env s.heap m x u
 cell : ∀ x c, X.env.cells.lookup x = some c -> ∃ v, s.heap.IsCell c v
 free : H X.env.locals = none
 freeC : ∀ x c, X.env.cells.lookup x = some c -> H c = none
 pin : ∀ p ∈ X.pn ++ pins, s.heap.get? p.1 = some p.2 /\ H p.1 = none /\ p.1 ≠ X.env.locals /\ p.1 ∉ X.fs /\ ∀ v, p.2.data ≠ .cell v
 hok : HOk X.prog X.w H s.heap
 len : σ.length = X.N.length
section
variable {X : Cx} {pins : List (Addr × Obj)} {σ : List (Option V)} {H H' : Hp} {s : Shared} {h' : Heap}
theorem Cx.Ok.nofr (ok : X.Ok) {b : Addr} {o : Obj} (e : X.base.get? b = some o) : b ∉ X.fs := fun hb => by
 have := (ok.funs.mem hb).1
 rw [e] at this; cases this
theorem Inv.bs (I : Inv X pins σ H s) : ∀ b o, X.base.get? b = some o -> s.heap.get? b = some o /\ H b = none := fun b o e =>
 ⟨I.base.keep b o (I.ok.bs b o e).1 (I.ok.bs b o e).2 (I.ok.nofr e) (I.ok.noex b o e), I.base.free b o (I.ok.bs b o e).1 (I.ok.bs b o e).2 (I.ok.noex b o e)⟩
theorem Inv.bk (I : Inv X pins σ H s) : ∀ b o, X.base.get? b = some o -> s.heap.get? b = some o := fun b o e => (I.bs b o e).1
theorem Inv.mod (I : Inv X pins σ H s) : Mod X.K X.mg X.base := I.ok.mod
theorem Inv.kIn (I : Inv X pins σ H s) : X.K.In s.heap := I.ok.mod.kin.keeps I.bk
theorem Inv.lt (I : Inv X pins σ H s) : X.env.locals < s.heap.objs.size := let ⟨_, hn, _⟩ := I.loc; hn.lt
theorem Inv.sz (I : Inv X pins σ H s) : X.s₀.heap.objs.size <= s.heap.objs.size := Nat.le_trans I.ok.above (Nat.le_of_lt I.lt)
theorem Inv.nofs (I : Inv X pins σ H s) {a : Addr} (h : s.heap.objs.size <= a) : a ∉ X.fs := fun hb => by
 obtain ⟨_, o, ho, _⟩ := I.ok.funs.mem hb
 exact absurd (Nat.lt_of_lt_of_le (Heap.lt_size ho) (Nat.le_trans I.sz h)) (Nat.lt_irrefl _)
theorem Inv.cne (I : Inv X pins σ H s) : ∀ x c, X.env.cells.lookup x = some c -> c ≠ X.env.locals := fun x c e z => by
 obtain ⟨v, o, ho, hd⟩ := I.cell x c e
 obtain ⟨m, ⟨o', es, ep, ho', hd', _⟩, _⟩ := I.loc
 rw [z, ho'] at ho; cases ho; rw [hd'] at hd; cases hd
theorem Inv.funs (I : Inv X pins σ H s) : s.heap.FunFrames X.base X.outer := by
 have all : ∀ (l : List Env), (∀ b ∈ frs l, b ∈ X.fs) -> X.s₀.heap.FunFrames X.base l -> s.heap.FunFrames X.base l := by
  intro l
  induction l with
  | nil => intro _ _; trivial
  | cons env r ih =>
   intro hs hl
   obtain ⟨hk, ⟨L, o, hf, hn, ho, hd⟩, hr⟩ := hl
   have hL : L ∈ X.fs := hs L (by unfold frs; rw [List.filterMap_cons, hf]; exact List.mem_cons_self)
   obtain ⟨sl, e⟩ := I.base.slot L o ho (I.ok.frf L hL) hL fun z => I.ok.exfs L z hL
   exact ⟨hk, ⟨L, _, hf, hn, e, hd⟩, ih (fun b hb => hs b (by unfold frs; rw [List.filterMap_cons, hf]; exact List.mem_cons_of_mem _ hb)) hr⟩
 exact all X.outer (fun _ hb => hb) I.ok.funs
theorem Inv.stack (I : Inv X pins σ H s) : s.heap.FunFrames X.base X.stack := by
 rcases I.ok.stk with e | ⟨e, hf⟩
 ·rw [e]; exact I.funs
 ·rw [e]
  obtain ⟨m, hn, _⟩ := I.loc
  refine .cons (by rw [I.ok.kind]; decide) hf hn ?_ I.funs
  exact Heap.get?_none_of_le (Nat.le_trans I.ok.bsz I.ok.above)
theorem Inv.stkSub (I : Inv X pins σ H s) : ∀ b ∈ frs X.stack, b ∈ X.env.locals :: X.fs := fun b hb => by
 rcases I.ok.stk with e | ⟨e, hf⟩
 ·rw [e] at hb; exact List.mem_cons_of_mem _ hb
 ·rw [e] at hb
  unfold frs at hb
  rw [List.filterMap_cons, hf] at hb
  exact hb
theorem Inv.stkFree (I : Inv X pins σ H s) : ∀ b ∈ frs X.stack, H b = none := fun b hb => by
 rcases List.mem_cons.mp (I.stkSub b hb) with e | hb
 ·rw [e]; exact I.free
 ·obtain ⟨_, o, ho, _⟩ := I.ok.funs.mem hb
  exact I.base.free b o ho (I.ok.frf b hb) fun z => I.ok.exfs b z hb
theorem Inv.step {g' : Array GenState} {t' : Nat} {d' : Drawn} {ch : List Addr} (I : Inv X pins σ H s)
  (hch : ∀ b ∈ ch, (b ∈ X.ex \/ X.s₀.heap.objs.size <= b) /\ b ≠ X.env.locals /\ (∀ x c, X.env.cells.lookup x = some c -> c ≠ b) /\ ∀ p ∈ X.pn ++ pins, p.1 ≠ b)
  (keep : ∀ b o, b ≠ X.env.locals -> b ∉ X.fs -> b ∉ ch -> s.heap.get? b = some o -> H b = none -> h'.get? b = some o)
  (slot : ∀ b o, b ≠ X.env.locals -> b ∈ X.fs -> b ∉ ch -> s.heap.get? b = some o -> H b = none -> ∃ sl, h'.get? b = some { o with slots := sl }) (free : ∀ b o, b ∉ ch -> s.heap.get? b = some o -> H b = none -> H' b = none)
  (there : ∀ b o, b ∉ ch -> s.heap.get? b = some o -> ∃ o', h'.get? b = some o')
  (tups : ∀ b xs, H b = some (.tup xs) -> H' b = some (.tup xs)) (frzs : ∀ b o u, H b = some (.frz o u) -> H' b = some (.frz o u)) (tbls : ∀ b ps, H b = some (.tbl ps) -> ∃ more, H' b = some (.tbl (ps ++ more)))
  (ns : ∀ m, s.heap.Ns X.env.locals m -> h'.Ns X.env.locals m) (hok : HOk X.prog X.w H' h') (hg : AllBare g') :
  Inv X pins σ H' { s with heap := h', gens := g', drawn := d', toks := t' } := by
 have neL : ∀ b o, X.s₀.heap.get? b = some o -> b ≠ X.env.locals := fun b o e => Nat.ne_of_lt (Nat.lt_of_lt_of_le (Heap.lt_size e) I.ok.above)
 have neC : ∀ b o, X.s₀.heap.get? b = some o -> b ∉ X.ex -> b ∉ ch := fun b o e hx hb => by
  rcases (hch b hb).1 with z | z
  ·exact hx z
  ·exact absurd (Nat.lt_of_lt_of_le (Heap.lt_size e) z) (Nat.lt_irrefl _)
 have cellK : ∀ x c, X.env.cells.lookup x = some c -> ∀ v, s.heap.IsCell c v -> h'.IsCell c v := fun x c e v ⟨o, ho, hd⟩ => by
  have nch : c ∉ ch := fun z => (hch c z).2.2.1 x c e rfl
  by_cases hc : c ∈ X.fs
  ·obtain ⟨sl, q⟩ := slot c o (I.cne x c e) hc nch ho (I.freeC x c e)
   exact ⟨_, q, hd⟩
  ·exact ⟨o, keep c o (I.cne x c e) hc nch ho (I.freeC x c e), hd⟩
 refine ⟨I.ok, I.os, hg, ⟨fun b o e n hb hx => ?_, fun b o e n hb hx => ?_, fun b o e n hx => ?_, fun b o e hx => ?_, fun b xs e => tups b xs (I.base.tups b xs e), fun b o xs e => frzs b o xs (I.base.frzs b o xs e), fun b ps e => ?_⟩, ?_, fun x c e => ?_, ?_, fun x c e => ?_, fun p hp => ?_, hok, I.len⟩
 ·exact keep b o (neL b o e) hb (neC b o e hx) (I.base.keep b o e n hb hx) (I.base.free b o e n hx)
 ·obtain ⟨sl, e1⟩ := I.base.slot b o e n hb hx
  obtain ⟨sl', e2⟩ := slot b _ (neL b o e) hb (neC b o e hx) e1 (I.base.free b o e n hx)
  exact ⟨sl', e2⟩
 ·obtain ⟨o', e1⟩ := I.base.there b o e hx
  exact free b o' (neC b o e hx) e1 (I.base.free b o e n hx)
 ·obtain ⟨o', e1⟩ := I.base.there b o e hx
  exact there b o' (neC b o e hx) e1
 ·obtain ⟨m1, e1⟩ := I.base.tbls b ps e
  obtain ⟨m2, e2⟩ := tbls b _ e1
  exact ⟨m1 ++ m2, by rw [e2, Array.append_assoc]⟩
 ·obtain ⟨m, hn, hl⟩ := I.loc
  refine ⟨m, ns m hn, fun i x v e1 e2 e3 => ?_⟩
  obtain ⟨u, r, l⟩ := hl i x v e1 e2 e3
  refine ⟨u, r, ?_⟩
  rcases l with l | ⟨k, c, e, z⟩
  ·exact .inl l
  ·exact .inr ⟨k, c, e, cellK x c e _ z⟩
 ·obtain ⟨v, z⟩ := I.cell x c e
  exact ⟨v, cellK x c e v z⟩
 ·obtain ⟨m, ⟨o, _, _, ho, _⟩, _⟩ := I.loc
  exact free _ o (fun z => (hch _ z).2.1 rfl) ho I.free
 ·obtain ⟨v, o, ho, hd⟩ := I.cell x c e
  exact free c o (fun z => (hch c z).2.2.1 x c e rfl) ho (I.freeC x c e)
 ·obtain ⟨e, n, ne, nf, d⟩ := I.pin p hp
  have nch : p.1 ∉ ch := fun z => (hch p.1 z).2.2.2 p hp rfl
  exact ⟨keep p.1 p.2 ne nf nch e n, free p.1 p.2 nch e n, ne, nf, d⟩
theorem Inv.un {t' : Nat} (I : Inv X pins σ H s) (u : Un X.fs [] H H' s.heap h') (hok : HOk X.prog X.w H' h') : Inv X pins σ H' { s with heap := h', toks := t' } := by
 obtain ⟨m, ⟨o, es, ep, ho, r⟩, _⟩ := id I.loc
 obtain ⟨sl, hL⟩ := u.any ho I.free (by simp)
 exact I.step (g' := s.gens) (d' := s.drawn) (ch := []) (fun _ z => nomatch z) (fun b o _ hb _ e n => u.keep b o e n hb (by simp)) (fun b o _ hb _ e n => u.slot b o e n hb (by simp)) (fun b o _ e n => u.free b o e n (by simp)) (fun b o _ e => u.there b o e (by simp)) u.tups u.frzs u.tbls (fun m' hm => by
  obtain ⟨o', es', ep', ho', r'⟩ := hm
  rw [ho] at ho'; cases ho'
  exact ⟨_, es', ep', hL, r'⟩) hok I.bare
theorem Inv.call {g' : Array GenState} {t' : Nat} {d' : Drawn} {ch : List Addr} (I : Inv X pins σ H s) (u : Un (frs X.stack) ch H H' s.heap h') (hok : HOk X.prog X.w H' h') (hg : AllBare g')
  (hch : ∀ b ∈ ch, (b ∈ X.ex \/ X.s₀.heap.objs.size <= b) /\ b ≠ X.env.locals /\ (∀ x c, X.env.cells.lookup x = some c -> c ≠ b) /\ ∀ p ∈ X.pn ++ pins, p.1 ≠ b) :
  Inv X pins σ H' { s with heap := h', gens := g', drawn := d', toks := t' } := by
 obtain ⟨m, ⟨o, es, ep, ho, r⟩, _⟩ := id I.loc
 obtain ⟨sl, hL⟩ := u.any ho I.free fun z => (hch _ z).2.1 rfl
 exact I.step (ch := ch) hch (fun b o hL hb hc e n => u.keep b o e n (fun z => (List.mem_cons.mp (I.stkSub b z)).elim hL hb) hc) (fun b o _ _ hc e n => u.any e n hc) (fun b o hc e n => u.free b o e n hc) (fun b o hc e => u.there b o e hc) u.tups u.frzs u.tbls (fun m' hm => by
  obtain ⟨o', es', ep', ho', r'⟩ := hm
  rw [ho] at ho'; cases ho'
  exact ⟨_, es', ep', hL, r'⟩) hok hg
theorem Inv.turned {t' : Nat} {it : Addr} (I : Inv X pins σ H s) (k : ∀ b o, b ≠ it -> s.heap.get? b = some o -> h'.get? b = some o) (hn : H it = none) (hL : it ≠ X.env.locals)
  (h1 : it ∈ X.ex \/ X.s₀.heap.objs.size <= it) (h2 : ∀ x c, X.env.cells.lookup x = some c -> c ≠ it) (h3 : ∀ p ∈ X.pn ++ pins, p.1 ≠ it) : Inv X pins σ H { s with heap := h', toks := t' } := by
 have nit : ∀ b u, H b = some u -> b ≠ it := fun b u e z => by rw [z, hn] at e; cases e
 refine I.step (g' := s.gens) (d' := s.drawn) (ch := [it]) (fun b hb => ?_) (fun b o _ _ hc e _ => k b o (fun z => hc (by simp [z])) e) (fun b o _ _ hc e _ => ⟨o.slots, k b o (fun z => hc (by simp [z])) e⟩) (fun _ _ _ _ n => n)
  (fun b o hc e => ⟨o, k b o (fun z => hc (by simp [z])) e⟩) (fun _ _ e => e) (fun _ _ _ e => e) (fun b ps e => ⟨#[], by rw [e]; simp⟩) (fun m hm => ?_) (fun b u e => ?_) I.bare
 ·have e : b = it := by simpa using hb
  subst e
  exact ⟨h1, hL, h2, h3⟩
 ·obtain ⟨o, es, ep, ho, r⟩ := hm
  exact ⟨o, es, ep, k _ o (Ne.symm hL) ho, r⟩
 ·refine (I.hok b u e).stay (fun c v hc q => k c v ?_ q) (fun _ q => q) fun _ _ q => q
  rcases hc with z | z
  ·rw [z]; exact nit b u e
  ·exact nit c _ z
theorem Inv.tok (I : Inv X pins σ H s) (t : Nat) : Inv X pins σ H { s with toks := t } := I.un (h' := s.heap) (t' := t) Un.refl I.hok
theorem Inv.kept {t' : Nat} (I : Inv X pins σ H s) (k : ∀ b u, s.heap.get? b = some u -> h'.get? b = some u) : Inv X pins σ H { s with heap := h', toks := t' } := I.un (Un.kept k) (I.hok.kept k)
theorem Inv.laid {a : Addr} {o : HO} {t' : Nat} (I : Inv X pins σ H s) (k : ∀ b u, s.heap.get? b = some u -> h'.get? b = some u) (hp : s.heap.objs.size <= a) (new : q06 X.prog X.w (upd H a o) h' a o) :
  Inv X pins σ (upd H a o) { s with heap := h', toks := t' } := I.un (Un.laid k hp (I.hok.fresh hp)) (I.hok.laid k hp new)
theorem Inv.write {x e : Addr} {o : HO} {t' : Nat} (I : Inv X pins σ H s) (mu : Mut (H x)) (he : e = x \/ H e = some (.own x)) (k : ∀ b u, b ≠ e -> s.heap.get? b = some u -> h'.get? b = some u) (heo : ∃ u, h'.get? e = some u)
  (new : q06 X.prog X.w (upd H x o) h' x o) : Inv X pins σ (upd H x o) { s with heap := h', toks := t' } := I.un (Un.write mu he k heo) (I.hok.write mu he k heo new)
theorem Inv.pins_of {pins' : List (Addr × Obj)} (I : Inv X pins σ H s) (h : ∀ p ∈ pins', s.heap.get? p.1 = some p.2 /\ H p.1 = none /\ p.1 ≠ X.env.locals /\ p.1 ∉ X.fs /\ ∀ v, p.2.data ≠ .cell v) : Inv X pins' σ H s :=
 ⟨I.ok, I.os, I.bare, I.base, I.loc, I.cell, I.free, I.freeC, fun p hp => (List.mem_append.mp hp).elim (fun z => I.pin p (List.mem_append_left _ z)) (h p), I.hok, I.len⟩
theorem q6l {N : List Str} (hN : N.Nodup) {i j : Nat} {x : Str} (a : N[i]? = some x) (b : N[j]? = some x) : i = j := by
 obtain ⟨h1, e1⟩ := List.getElem?_eq_some_iff.mp a
 obtain ⟨h2, e2⟩ := List.getElem?_eq_some_iff.mp b
 exact (List.getElem_inj hN).mp (e1.trans e2.symm)
theorem q4G {M : Model} {A : Around} {E : Value -> Shared -> Prop} {i : Nat} {x : Str} {v : V} {u : Value} {Q : Unit -> Shared -> Prop} (I : Inv X pins σ H s) (hN : X.N.Nodup) (hi : X.N[i]? = some x) (hx : Loc X.env.scope x) (r : RelV v u)
  (h : ∀ s', Inv X pins (σ.set i (some v)) H s' -> (∃ a, Heap.SameBut a s.heap s'.heap /\ (a = X.env.locals \/ X.env.cells.lookup x = some a)) -> Q () s') (hf : X.fn x = true \/ X.env.scope.names.lookup x = some .local := by first | exact .inl rfl | exact .inr rfl | assumption) : wpAny M A (storeName X.env x u) Q E s := by
 obtain ⟨m, hn, hl⟩ := id I.loc
 have hcls : (X.env.scope.kind == .class || (X.env.scope.kind == .module && X.env.locals != X.env.globals)) = false := by rw [I.ok.kind]; rfl
 have hiσ : i < σ.length := by rw [I.len]; exact (List.getElem?_eq_some_iff.mp hi).1
 have cne := I.cne
 have tracked : ∀ {a : Addr} {h' : Heap}, (∃ o, s.heap.get? a = some o /\ H a = none) -> Heap.SameBut a s.heap h' -> HOk X.prog X.w H h' := fun {a h'} ha hs b ob e => by
  obtain ⟨_, _, hfree⟩ := ha
  refine (I.hok b ob e).stay (fun c w' hc q => (hs.2 c ?_).trans q) (fun _ q => q) fun _ _ q => q
  rintro rfl
  rcases hc with rfl | hc
  ·rw [hfree] at e; cases e
  ·rw [hfree] at hc; cases hc
 rcases hx with hk | hk
 ·refine wpAny_storeName_local hk hn (fun h' hn' hs => ?_) hcls
  obtain ⟨oL, _, _, hoL, _⟩ := id hn
  refine h _ ⟨I.ok, I.os, I.bare, ⟨fun b o e n hb hx => ?_, fun b o e n hb hx => ?_, I.base.free, fun b o e hx => ?_, I.base.tups, I.base.frzs, I.base.tbls⟩, ⟨_, hn', fun j y v' e1 e2 e3 => ?_⟩, fun y c e => ?_, I.free, I.freeC, fun p hp => ?_, tracked ⟨oL, hoL, I.free⟩ hs, by simpa using I.len⟩ ⟨_, hs, .inl rfl⟩
  ·exact (hs.2 b (Nat.ne_of_lt (Nat.lt_of_lt_of_le (Heap.lt_size e) I.ok.above))).trans (I.base.keep b o e n hb hx)
  ·obtain ⟨sl, e1⟩ := I.base.slot b o e n hb hx
   exact ⟨sl, (hs.2 b (Nat.ne_of_lt (Nat.lt_of_lt_of_le (Heap.lt_size e) I.ok.above))).trans e1⟩
  ·obtain ⟨o', e1⟩ := I.base.there b o e hx
   exact ⟨o', (hs.2 b (Nat.ne_of_lt (Nat.lt_of_lt_of_le (Heap.lt_size e) I.ok.above))).trans e1⟩
  ·by_cases hj : j = i
   ·subst hj
    rw [hi] at e1; cases e1
    rw [List.getElem?_set_self hiσ] at e2
    cases e2
    exact ⟨u, r, .inl ⟨hk, by simp⟩⟩
   ·rw [List.getElem?_set_ne (Ne.symm hj)] at e2
    obtain ⟨u', r', q⟩ := hl j y v' e1 e2 e3
    refine ⟨u', r', ?_⟩
    rcases q with ⟨k, e⟩ | ⟨k, c, e, z⟩
    ·refine .inl ⟨k, ?_⟩
     have : y ≠ x := fun e => hj (q6l hN e1 (e ▸ hi))
     simp [this, e]
    ·exact .inr ⟨k, c, e, z.sameBut hs (cne y c e)⟩
  ·obtain ⟨w', z⟩ := I.cell y c e
   exact ⟨w', z.sameBut hs (cne y c e)⟩
  ·obtain ⟨e, n, ne, nf, d⟩ := I.pin p hp
   exact ⟨(hs.2 p.1 ne).trans e, n, ne, nf, d⟩
 ·have hfn : X.fn x = true := by
   rcases hf with z | z
   ·exact z
   ·rw [z] at hk; cases hk
  obtain ⟨c, hc⟩ := I.ok.has x (.inl hk)
  obtain ⟨w', z⟩ := I.cell x c hc
  refine wpAny_storeName_cell I.ok.kind hk hc z (fun h' hc' hs => ?_)
  obtain ⟨oc, hoc, hocd⟩ := id z
  refine h { s with heap := h' } ⟨I.ok, I.os, I.bare, ⟨fun b o e n hb hx => ?_, fun b o e n hb hx => ?_, I.base.free, fun b o e hx => ?_, I.base.tups, I.base.frzs, I.base.tbls⟩, ⟨m, hn.sameBut hs (Ne.symm (cne x c hc)), fun j y v' e1 e2 e3 => ?_⟩, fun y c' e => ?_, I.free, I.freeC, fun p hp => ?_, tracked ⟨oc, hoc, I.freeC x c hc⟩ hs, by simpa using I.len⟩ ⟨c, hs, .inr hc⟩
  ·exact (hs.2 b (Nat.ne_of_lt (Nat.lt_of_lt_of_le (Heap.lt_size e) (I.ok.cab x c hfn hc)))).trans (I.base.keep b o e n hb hx)
  ·obtain ⟨sl, e1⟩ := I.base.slot b o e n hb hx
   exact ⟨sl, (hs.2 b (Nat.ne_of_lt (Nat.lt_of_lt_of_le (Heap.lt_size e) (I.ok.cab x c hfn hc)))).trans e1⟩
  ·obtain ⟨o', e1⟩ := I.base.there b o e hx
   exact ⟨o', (hs.2 b (Nat.ne_of_lt (Nat.lt_of_lt_of_le (Heap.lt_size e) (I.ok.cab x c hfn hc)))).trans e1⟩
  ·by_cases hj : j = i
   ·subst hj
    rw [hi] at e1; cases e1
    rw [List.getElem?_set_self hiσ] at e2
    cases e2
    exact ⟨u, r, .inr ⟨.inl hk, c, hc, hc'⟩⟩
   ·rw [List.getElem?_set_ne (Ne.symm hj)] at e2
    obtain ⟨u', r', q⟩ := hl j y v' e1 e2 e3
    refine ⟨u', r', ?_⟩
    rcases q with q | ⟨k, c', e, z'⟩
    ·exact .inl q
    ·refine .inr ⟨k, c', e, z'.sameBut hs ?_⟩
     rintro rfl
     exact hj (q6l hN e1 (I.ok.inj _ _ _ e hc ▸ hi))
  ·by_cases hcc : c' = c
   ·subst hcc; exact ⟨_, hc'⟩
   ·obtain ⟨w2, z2⟩ := I.cell y c' e
    exact ⟨w2, z2.sameBut hs hcc⟩
  ·obtain ⟨e, n, ne, nf, d⟩ := I.pin p hp
   refine ⟨(hs.2 p.1 ?_).trans e, n, ne, nf, d⟩
   intro q
   rw [q, hoc] at e
   have q' : oc = p.2 := Option.some.inj e
   exact d w' (by rw [<- q']; exact hocd)
theorem q3T {M : Model} {A : Around} {E : Value -> Shared -> Prop} {i : Nat} {x : Str} {v : V} {u : Value} {Q : Unit -> Shared -> Prop} (I : Inv X pins σ H s) (hN : X.N.Nodup) (hi : X.N[i]? = some x) (hx : Loc X.env.scope x) (r : RelV v u)
  (h : ∀ s', Inv X pins (σ.set i (some v)) H s' -> Q () s') (hf : X.fn x = true \/ X.env.scope.names.lookup x = some .local := by first | exact .inl rfl | exact .inr rfl | assumption) : wpAny M A (storeName X.env x u) Q E s :=
 q4G I hN hi hx r (fun s' I' _ => h s' I') hf
theorem Inv.call' {s' : Shared} {ch : List Addr} (I : Inv X pins σ H s) (ho : s'.os = s.os) (u : Un (frs X.stack) ch H H' s.heap s'.heap) (hok : HOk X.prog X.w H' s'.heap) (hg : AllBare s'.gens)
  (hch : ∀ b ∈ ch, (b ∈ X.ex \/ X.s₀.heap.objs.size <= b) /\ b ≠ X.env.locals /\ (∀ x c, X.env.cells.lookup x = some c -> c ≠ b) /\ ∀ p ∈ X.pn ++ pins, p.1 ≠ b) : Inv X pins σ H' s' := by
 obtain ⟨h', g', d', t', o'⟩ := s'
 have e : o' = s.os := ho
 subst e
 exact I.call (g' := g') (t' := t') (d' := d') u hok hg hch
end
abbrev XK := Value -> Option Addr -> Hp -> Prop
abbrev St := List (Option V)
abbrev VK := V -> Hp -> Prop
abbrev TE := St -> Hp -> VK -> Prop
abbrev TT := St -> Hp -> (Bool -> Hp -> Prop) -> Prop
abbrev TA := St -> Hp -> (List V -> Hp -> Prop) -> Prop
structure Ends where
 nx : St -> Hp -> Prop
 rt : VK
 bk : St -> Hp -> Prop := fun _ _ => False
 ct : St -> Hp -> Prop := fun _ _ => False
abbrev TS := Ends -> St -> Hp -> Prop
def EP (X : Cx) (pins : List (Addr × Obj)) (σ : St) (Q : VK) (u : Value) (s' : Shared) : Prop := ∃ v H', Inv X pins σ H' s' /\ RelV v u /\ Q v H'
def TP (X : Cx) (pins : List (Addr × Obj)) (σ : St) (Q : Bool -> Hp -> Prop) (b : Bool) (s' : Shared) : Prop := ∃ H', Inv X pins σ H' s' /\ Q b H'
def AP (X : Cx) (pins : List (Addr × Obj)) (σ : St) (Q : List V -> Hp -> Prop) (us : List Value) (s' : Shared) : Prop := ∃ vs H', Inv X pins σ H' s' /\ Vals vs us /\ Q vs H'
def SP (X : Cx) (pins : List (Addr × Obj)) (D : Ends) (f : Flow) (s' : Shared) : Prop :=
 match f with
 | .next => ∃ σ' H', Inv X pins σ' H' s' /\ D.nx σ' H'
 | .brk => ∃ σ' H', Inv X pins σ' H' s' /\ D.bk σ' H'
 | .cont => ∃ σ' H', Inv X pins σ' H' s' /\ D.ct σ' H'
 | .ret u => ∃ v σ' H', Inv X pins σ' H' s' /\ RelV v u /\ D.rt v H'
def PE (X : Cx) (e : Expr) (t : TE) : Prop :=
 ∀ (pins : List (Addr × Obj)) (s : Shared) (σ : St) (H : Hp) (Q : VK), Inv X pins σ H s -> t σ H Q -> wpAny (model X.prog X.w) X.A (eval e X.env) (EP X pins σ Q) X.xe s
def PT (X : Cx) (e : Expr) (t : TT) : Prop :=
 ∀ (pins : List (Addr × Obj)) (s : Shared) (σ : St) (H : Hp) (Q : Bool -> Hp -> Prop), Inv X pins σ H s -> t σ H Q -> wpAny (model X.prog X.w) X.A (isTrue e X.env (eval e X.env)) (TP X pins σ Q) X.xe s
def PW (X : Cx) (e : Expr) (t : TT) : Prop :=
 ∀ (whole : Sem Value) (pins : List (Addr × Obj)) (s : Shared) (σ : St) (H : Hp) (Q : Bool -> Hp -> Prop), Inv X pins σ H s -> t σ H Q -> wpAny (model X.prog X.w) X.A (isTrue e X.env whole) (TP X pins σ Q) X.xe s
theorem PW.pt {X : Cx} {e : Expr} {t : TT} (h : PW X e t) : PT X e t := h _
def PA (X : Cx) (es : List Expr) (t : TA) : Prop :=
 ∀ (pos : Pos) (pins : List (Addr × Obj)) (s : Shared) (σ : St) (H : Hp) (Q : List V -> Hp -> Prop), Inv X pins σ H s -> t σ H Q -> wpAny (model X.prog X.w) X.A (spliced (backTo pos (starEach es X.env))) (AP X pins σ Q) X.xe s
def PS (X : Cx) (st : Stmt) (t : TS) : Prop :=
 ∀ (pins : List (Addr × Obj)) (s : Shared) (σ : St) (H : Hp) (D : Ends), Inv X pins σ H s -> t D σ H -> wpAny (model X.prog X.w) X.A (exec st X.env) (SP X pins D) X.xe s
def PSs (X : Cx) (st : List Stmt) (t : TS) : Prop :=
 ∀ (pins : List (Addr × Obj)) (s : Shared) (σ : St) (H : Hp) (D : Ends), Inv X pins σ H s -> t D σ H -> wpAny (model X.prog X.w) X.A (execs st X.env) (SP X pins D) X.xe s
theorem thn {α : Type} {t : Sem α} {Q Q' : α -> Shared -> Prop} {M : Model} {A : Around} {E : Value -> Shared -> Prop} {s : Shared} (h : wpAny M A t Q E s) (hQ : ∀ a s, Q a s -> Q' a s) : wpAny M A t Q' E s := wpAny_mono h hQ fun _ _ x => x
end L2
namespace L2
open PySem PySem.Spec PyProof.Rows
section
variable {X : Cx}
theorem bin {a b : Expr} {ta tb : TE} (ha : PE X a ta) (hb : PE X b tb) {pins : List (Addr × Obj)} {s : Shared} {σ : St} {H : Hp} {R : V -> V -> Hp -> Prop} (I : Inv X pins σ H s) (h : ta σ H fun x H1 => tb σ H1 fun y H2 => R x y H2)
  {α : Type} {Q : α -> Shared -> Prop} {f : Value -> Value -> Sem α}
  (hf : ∀ v u s2 x y H2, Inv X pins σ H2 s2 -> RelV x v -> RelV y u -> R x y H2 -> wpAny (model X.prog X.w) X.A (f v u) Q X.xe s2) :
  wpAny (model X.prog X.w) X.A (eval a X.env) (fun v s₁ => wpAny (model X.prog X.w) X.A (eval b X.env) (fun u s₂ => wpAny (model X.prog X.w) X.A (f v u) Q X.xe s₂) X.xe s₁) X.xe s := by
 refine thn (ha pins s σ H _ I h) fun v s1 ⟨x, H1, I1, r1, q1⟩ => ?_
 refine thn (hb pins s1 σ H1 _ I1 q1) fun u s2 ⟨y, H2, I2, r2, q2⟩ => ?_
 exact hf v u s2 x y H2 I2 r1 r2 q2
def tVar (i : Nat) : TE := fun σ H Q => ∃ v, σ[i]? = some (some v) /\ Q v H
def tC (v : V) : TE := fun _ H Q => Q v H
theorem pe_var {i : Nat} {x : Str} {pos : Pos} (hN : X.N[i]? = some x) (hv : Vis X.env.scope x) (hd : (x == ("__debug__" : Str)) = false := by decide) (hcd : (x == ("__classdict__" : Str)) = false := by decide) : PE X (.Name x pos) (tVar i) := by
 intro pins s σ H Q I h
 obtain ⟨v, e, h⟩ := h
 obtain ⟨m, hn, hl⟩ := I.loc
 obtain ⟨u, r, l⟩ := hl i x v hN e hv
 have fin : EP X pins σ Q u s := ⟨v, H, I, r, h⟩
 rcases l with ⟨hk, hm⟩ | ⟨hk, c, hc, hcell⟩
 ·exact wpAny_Name (wpAny_loadName_local I.ok.kind hk hn hm fin) hd
 ·rcases hk with hk | hk
  ·exact wpAny_Name (wpAny_loadName_cell I.ok.kind hk hc hcell fin) hd
  ·exact wpAny_Name (wpAny_loadName_free I.ok.kind hk hc hcell fin hcd) hd
theorem qg {i j pos} : PE X (.Constant (.int i) j pos) (tC (.int i)) := fun _ _ _ H _ I h => wpAny_Constant_int ⟨.int i, H, I.tok _, ⟨_, rfl⟩, h⟩
theorem q2N {b j pos} : PE X (.Constant (.bool b) j pos) (tC (.bl b)) := fun _ _ _ H _ I h => Constant_bool ⟨.bl b, H, I, rfl, h⟩
theorem q7N {j pos} : PE X (.Constant .none j pos) (tC .non) := fun _ _ _ H _ I h => Constant_none ⟨.non, H, I, rfl, h⟩
theorem qA {x j pos} : PE X (.Constant (.str x) j pos) (tC (.str x)) := fun _ _ _ H _ I h => Calls.Constant_str ⟨.str x, H, I.tok _, ⟨_, rfl⟩, h⟩
def Gl (X : Cx) (x : Str) : Prop := X.env.kindOf x = some .globalImplicit
theorem q3e {E : Value -> Shared -> Prop} {pins : List (Addr × Obj)} {s : Shared} {σ : St} {H : Hp} {x : Str} {u : Value} {pos : Pos} {Q : Value -> Shared -> Prop} (I : Inv X pins σ H s) (hg : Gl X x) (hm : X.mg x = some u) (h : Q u s)
  (hd : (x == ("__debug__" : Str)) = false := by decide) : wpAny (model X.prog X.w) X.A (eval (.Name x pos) X.env) Q E s :=
 Calls.Name_function_global I.ok.kind hg (Calls.loadGlobal_global (by rw [I.ok.glob]; exact I.mod.glob.keeps I.bk) hm h) hd
theorem q3f {E : Value -> Shared -> Prop} {pins : List (Addr × Obj)} {s : Shared} {σ : St} {H : Hp} {x : Str} {u : Value} {pos : Pos} {Q : Value -> Shared -> Prop} (I : Inv X pins σ H s) (hg : Gl X x) (hm : X.mg x = none) (hv : bootBuiltins x = some u) (h : Q u s)
  (hn : x ≠ "__name__" := by decide) (hd : (x == ("__debug__" : Str)) = false := by decide) : wpAny (model X.prog X.w) X.A (eval (.Name x pos) X.env) Q E s := by
 obtain ⟨mb, h1, h2⟩ := I.mod.blt
 exact Calls.Name_function_global I.ok.kind hg (Calls.loadGlobal_builtin (by rw [I.ok.glob]; exact I.mod.glob.keeps I.bk) hm (by rw [I.ok.blt]; exact h1.keeps I.bk) ((h2 x hn).trans hv) h) hd
theorem qh {x : Str} {v : V} {u : Value} {pos : Pos} (hg : Gl X x) (hm : X.mg x = some u) (r : RelV v u) (hd : (x == ("__debug__" : Str)) = false := by decide) : PE X (.Name x pos) (tC v) :=
 fun _ _ _ H _ I h => q3e I hg hm ⟨v, H, I, r, h⟩ hd
theorem q23 {x : Str} {v : V} {u : Value} {pos : Pos} (hg : Gl X x) (hm : X.mg x = none) (hv : bootBuiltins x = some u) (r : RelV v u) (hn : x ≠ "__name__" := by decide) (hd : (x == ("__debug__" : Str)) = false := by decide) : PE X (.Name x pos) (tC v) :=
 fun _ _ _ H _ I h => q3f I hg hm hv ⟨v, H, I, r, h⟩ hn hd
variable {a b : Expr} {ta tb : TE} {pos : Pos}
def PC (X : Cx) (op : CmpOp) (a b : Expr) (t : TE) : Prop :=
 ∀ (pins : List (Addr × Obj)) (s : Shared) (σ : St) (H : Hp) (Q : VK), Inv X pins σ H s -> t σ H Q ->
  wpAny (model X.prog X.w) X.A (eval a X.env) (fun v s₁ => wpAny (model X.prog X.w) X.A (eval b X.env) (fun u s₂ => wpAny (model X.prog X.w) X.A (compareOp op v u) (EP X pins σ Q) X.xe s₂) X.xe s₁) X.xe s
theorem q9B (b : Expr) {op : CmpOp} (h : op ≠ .In) (h2 : op ≠ .NotIn) : behindInMarks op b = false := by
 have e1 : (op == CmpOp.In) = false := by cases op <;> first | rfl | exact absurd rfl h
 have e2 : (op == CmpOp.NotIn) = false := by cases op <;> first | rfl | exact absurd rfl h2
 cases b <;> simp [behindInMarks, e1, e2]
def tIsN (ta : TE) : TE := fun σ H Q => ta σ H fun x H1 => Q (.bl (decide (x = .non))) H1
theorem RelV.none_iff {x : V} {v : Value} (r : RelV x v) : (v == Value.none) = decide (x = .non) := by
 cases x with
 | non => cases r; rfl
 | bl _ => cases r; rfl
 | int _ => obtain ⟨t, rfl⟩ := r; rfl
 | str _ => obtain ⟨t, rfl⟩ := r; rfl
 | byt _ => obtain ⟨t, rfl⟩ := r; rfl
 | flt _ => obtain ⟨t, rfl⟩ := r; rfl
 | ref _ => cases r; rfl
 | ty _ => cases r; rfl
theorem q6i {j pos'} (ha : PE X a ta) : PC X .Is a (.Constant .none j pos') (tIsN ta) := by
 intro pins s σ H Q I h
 refine thn (ha pins s σ H _ I h) fun v s1 ⟨x, H1, I1, r1, q1⟩ => ?_
 exact Constant_none (is_none_gen ⟨.bl _, H1, I1, by rw [r1.none_iff]; rfl, q1⟩)
def tB (t : TE) : TT := fun σ H Q => t σ H fun x H1 => ∃ c, x = .bl c /\ Q c H1
theorem q3I {op : CmpOp} {t : TE} (h : PC X op a b t) (h1 : behindInMarks op b = false := by first | exact q9B _ (by decide) (by decide) | rfl) : PT X (.Compare a [op] [b] pos) (tB t) := by
 intro pins s σ H Q I hw
 refine wpAny_isTrue_Compare1 (thn (h pins s σ H _ I hw) fun v s1 h1 => thn h1 fun u s2 h2 => thn h2 fun c s3 ⟨x, H1, I1, r1, q1⟩ => ?_) h1
 obtain ⟨d, rfl, q⟩ := q1
 cases r1
 exact wpAny_truthy_bool ⟨H1, I1, q⟩
theorem q0j {e : Expr} {t : TE} (h : PE X e t) (he : ∀ whole, isTrue e X.env whole = (do let v <- whole; standAt e.pos; holding [v] (truthy v)) := by intro _; rfl) : PT X e (tB t) := by
 intro pins s σ H Q I hw
 refine isTrue_plain (thn (h pins s σ H _ I hw) fun v s1 ⟨x, H1, I1, r1, q1⟩ => ?_) (he _)
 obtain ⟨d, rfl, q⟩ := q1
 cases r1
 exact wpAny_truthy_bool ⟨H1, I1, q⟩
variable {tA tB' : TT} {rest : List Expr}
def tAnd (t u : TT) : TT := fun σ H Q => t σ H fun c H1 => if c = true then u σ H1 Q else Q false H1
def tOr (t u : TT) : TT := fun σ H Q => t σ H fun c H1 => if c = true then Q true H1 else u σ H1 Q
def tNot (t : TT) : TT := fun σ H Q => t σ H fun c H1 => Q (!c) H1
theorem qaR (ha : PT X a tA) : PW X (.BoolOp .And [a] pos) tA := by
 intro wh pins s σ H Q I h
 refine isTrue_and (thn (ha pins s σ H Q I h) fun c s1 e => ?_)
 cases c with
 | true => exact isTrue_and_nil e
 | false => exact e
theorem q2i (ha : PT X a tA) : PW X (.BoolOp .Or [a] pos) tA := by
 intro wh pins s σ H Q I h
 refine isTrue_or (thn (ha pins s σ H Q I h) fun c s1 e => ?_)
 cases c with
 | false => exact isTrue_or_nil e
 | true => exact e
theorem pw_and (ha : PT X a tA) (hb : PW X (.BoolOp .And (b :: rest) pos) tB') : PW X (.BoolOp .And (a :: b :: rest) pos) (tAnd tA tB') := by
 intro wh pins s σ H Q I h
 refine isTrue_and (thn (ha pins s σ H _ I h) fun c s1 ⟨H1, I1, q1⟩ => ?_)
 cases c with
 | true => exact hb wh pins s1 σ H1 Q I1 q1
 | false => exact ⟨H1, I1, q1⟩
theorem q38 (ha : PT X a tA) (hb : PW X (.BoolOp .Or (b :: rest) pos) tB') : PW X (.BoolOp .Or (a :: b :: rest) pos) (tOr tA tB') := by
 intro wh pins s σ H Q I h
 refine isTrue_or (thn (ha pins s σ H _ I h) fun c s1 ⟨H1, I1, q1⟩ => ?_)
 cases c with
 | true => exact ⟨H1, I1, q1⟩
 | false => exact hb wh pins s1 σ H1 Q I1 q1
theorem q1w (ha : PT X a tA) : PT X (.UnaryOp .Not a pos) (tNot tA) := by
 intro pins s σ H Q I h
 exact isTrue_not (ha pins s σ H (fun c H1 => Q (!c) H1) I h)
def tAndV (ta tb : TE) : TE := fun σ H Q => ta σ H fun x H1 => ∃ c, x = .bl c /\ if c = true then tb σ H1 Q else Q (.bl false) H1
def tOrV (ta tb : TE) : TE := fun σ H Q => ta σ H fun x H1 => ∃ c, x = .bl c /\ if c = true then Q (.bl true) H1 else tb σ H1 Q
def tNotV (ta : TE) : TE := fun σ H Q => ta σ H fun x H1 => ∃ c, x = .bl c /\ Q (.bl (!c)) H1
theorem q57 {op} {t : TE} (h : PE X a t) : PE X (.BoolOp op [a] pos) t := fun pins s σ H Q I hw => BoolOp_one (h pins s σ H Q I hw)
theorem q7Q (ha : PE X a ta) (hb : PE X (.BoolOp .And (b :: rest) pos) tb) : PE X (.BoolOp .And (a :: b :: rest) pos) (tAndV ta tb) := by
 intro pins s σ H Q I h
 refine BoolOp_and (thn (ha pins s σ H _ I h) fun v s1 ⟨x, H1, I1, r1, q1⟩ => ?_)
 obtain ⟨c, rfl, q1⟩ := q1
 cases r1
 refine wpAny_truthy_bool ?_
 cases c with
 | true => exact hb pins s1 σ H1 Q I1 q1
 | false => exact ⟨.bl false, H1, I1, rfl, q1⟩
theorem pe_or (ha : PE X a ta) (hb : PE X (.BoolOp .Or (b :: rest) pos) tb) : PE X (.BoolOp .Or (a :: b :: rest) pos) (tOrV ta tb) := by
 intro pins s σ H Q I h
 refine BoolOp_or (thn (ha pins s σ H _ I h) fun v s1 ⟨x, H1, I1, r1, q1⟩ => ?_)
 obtain ⟨c, rfl, q1⟩ := q1
 cases r1
 refine wpAny_truthy_bool ?_
 cases c with
 | false => exact hb pins s1 σ H1 Q I1 q1
 | true => exact ⟨.bl true, H1, I1, rfl, q1⟩
theorem pe_not (ha : PE X a ta) : PE X (.UnaryOp .Not a pos) (tNotV ta) := by
 intro pins s σ H Q I h
 refine UnaryOp_ (thn (ha pins s σ H _ I h) fun v s1 ⟨x, H1, I1, r1, q1⟩ => ?_)
 obtain ⟨c, rfl, q1⟩ := q1
 cases r1
 exact not_of (wpAny_truthy_bool ⟨.bl (!c), H1, I1, rfl, q1⟩)
def tIf (t : TT) (ta tb : TE) : TE := fun σ H Q => t σ H fun c H1 => if c = true then ta σ H1 Q else tb σ H1 Q
theorem q2j {c : Expr} (hc : PT X c tA) (ha : PE X a ta) (hb : PE X b tb) : PE X (.IfExp c a b pos) (tIf tA ta tb) := by
 intro pins s σ H Q I h
 refine wpAny_IfExp (thn (hc pins s σ H _ I h) fun d s1 ⟨H1, I1, q1⟩ => ?_)
 cases d with
 | true => exact ha pins s1 σ H1 Q I1 q1
 | false => exact hb pins s1 σ H1 Q I1 q1
end
end L2
namespace L2
open PySem PySem.Spec PyProof.Rows
def SqL (K : PySem.W.Frag) (H : Hp) (a : Addr) (xs : List V) : Prop :=
 Rd H a (.lst xs) \/
  ∃ (o : Obj) (its : Array Value) (n : Nat), K.lookup a = some o /\ o.cls = .type "list" /\ o.dict = none /\ o.data = .seq its n /\ its.size <= sizeLine /\ Vals xs its.toList
def SqT (K : PySem.W.Frag) (H : Hp) (a : Addr) (xs : List V) : Prop :=
 Rd H a (.tup xs) \/
  ∃ (o : Obj) (its : Array Value) (n : Nat), K.lookup a = some o /\ o.cls = .type "tuple" /\ o.data = .seq its n /\ its.size <= sizeLine /\ Vals xs its.toList
def absV : Value -> Option V
 | .none => some .non
 | .bool b => some (.bl b)
 | .int i _ => some (.int i)
 | .str x _ => some (.str x)
 | .bytes b _ => some (.byt b)
 | .float b _ => some (.flt b)
 | .ref a => some (.ref a)
 | .type n => some (.ty n)
 | _ => none
theorem RelV.abs {x : V} {u : Value} (r : RelV x u) : absV u = some x := by
 cases x with
 | non => cases r; rfl
 | bl _ => cases r; rfl
 | int _ => obtain ⟨t, rfl⟩ := r; rfl
 | str _ => obtain ⟨t, rfl⟩ := r; rfl
 | byt _ => obtain ⟨t, rfl⟩ := r; rfl
 | flt _ => obtain ⟨t, rfl⟩ := r; rfl
 | ref _ => cases r; rfl
 | ty _ => cases r; rfl
theorem RelV.inj {x y : V} {u : Value} (r : RelV x u) (q : RelV y u) : x = y := Option.some.inj (r.abs.symm.trans q.abs)
theorem Vals.inj : ∀ {xs ys : List V} {us : List Value}, Vals xs us -> Vals ys us -> xs = ys
 | _, _, _, .nil, .nil => rfl
 | _, _, _, .cons r t, .cons r' t' => by rw [r.inj r', Vals.inj t t']
section
variable {X : Cx} {pins : List (Addr × Obj)} {σ : St} {H : Hp} {s : Shared} {a : Addr} {xs ys : List V}
theorem SqL.of {K : PySem.W.Frag} (h : H a = some (.lst xs)) : SqL K H a xs := .inl (.inl h)
theorem SqT.of {K : PySem.W.Frag} (h : H a = some (.tup xs)) : SqT K H a xs := .inl (.inl h)
theorem Inv.list (I : Inv X pins σ H s) (h : SqL X.K H a xs) : ∃ its : List Value, Vals xs its /\ PlainL s.heap a its.toArray /\ xs.length <= sizeLine := by
 rcases h with h | ⟨o, its, n, hk, hc, hd, hs, hz, r⟩
 ·obtain ⟨z, its, n, r, e⟩ := h.ok I.hok
  exact ⟨its, r, ⟨_, n, e, rfl, rfl, rfl⟩, z⟩
 ·refine ⟨its.toList, r, ⟨o, n, I.kIn a o hk, hc, hd, by simpa using hs⟩, ?_⟩
  have e := r.length
  simp only [Array.length_toList] at e
  omega
theorem Inv.tuple (I : Inv X pins σ H s) (h : SqT X.K H a xs) : ∃ its : List Value, Vals xs its /\ IsTup s.heap a its.toArray /\ xs.length <= sizeLine := by
 rcases h with h | ⟨o, its, n, hk, hc, hs, hz, r⟩
 ·obtain ⟨z, its, r, p⟩ := h.ok I.hok
  exact ⟨its, r, p, z⟩
 ·refine ⟨its.toList, r, ⟨o, I.kIn a o hk, hc, n, by simpa using hs⟩, ?_⟩
  have e := r.length
  simp only [Array.length_toList] at e
  omega
theorem Inv.list_inj (I : Inv X pins σ H s) (h : SqL X.K H a xs) (h' : SqL X.K H a ys) : xs = ys := by
 obtain ⟨its, r, ⟨o, n, e, _, _, d⟩, _⟩ := I.list h
 obtain ⟨its', r', ⟨o', n', e', _, _, d'⟩, _⟩ := I.list h'
 rw [e] at e'; cases e'
 rw [d] at d'
 injection d' with d1 _
 have : its = its' := by simpa using congrArg Array.toList d1
 subst this
 exact r.inj r'
theorem Inv.tuple_inj (I : Inv X pins σ H s) (h : SqT X.K H a xs) (h' : SqT X.K H a ys) : xs = ys := by
 obtain ⟨its, r, ⟨o, e, _, n, d⟩, _⟩ := I.tuple h
 obtain ⟨its', r', ⟨o', e', _, n', d'⟩, _⟩ := I.tuple h'
 rw [e] at e'; cases e'
 rw [d] at d'
 injection d' with d1 _
 have : its = its' := by simpa using congrArg Array.toList d1
 subst this
 exact r.inj r'
end
abbrev Cx.wish (X : Cx) (E : Value -> Shared -> Prop) : Cx := { X with xe := E }
abbrev Cx.nox (X : Cx) : Cx := X.wish fun _ _ => False
theorem Cx.Ok.wish {X : Cx} (ok : X.Ok) (E : Value -> Shared -> Prop) : (X.wish E).Ok :=
 ⟨ok.mod, ok.kind, ok.glob, ok.blt, ok.above, ok.inj, ok.has, ok.cab, ok.hd, ok.frames, ok.stk, ok.exf, ok.bs, ok.bsz, ok.noex, ok.exfs, ok.funs, ok.frf⟩
theorem Cx.Ok.unwish {X : Cx} {E : Value -> Shared -> Prop} (ok : (X.wish E).Ok) : X.Ok :=
 ⟨ok.mod, ok.kind, ok.glob, ok.blt, ok.above, ok.inj, ok.has, ok.cab, ok.hd, ok.frames, ok.stk, ok.exf, ok.bs, ok.bsz, ok.noex, ok.exfs, ok.funs, ok.frf⟩
section
variable {X : Cx} {pins : List (Addr × Obj)} {σ : St} {H : Hp} {s : Shared} {E : Value -> Shared -> Prop}
theorem Inv.wish (I : Inv X pins σ H s) (E : Value -> Shared -> Prop) : Inv (X.wish E) pins σ H s := ⟨I.ok.wish E, I.os, I.bare, I.base, I.loc, I.cell, I.free, I.freeC, I.pin, I.hok, I.len⟩
theorem Inv.unwish (I : Inv (X.wish E) pins σ H s) : Inv X pins σ H s := ⟨I.ok.unwish, I.os, I.bare, I.base, I.loc, I.cell, I.free, I.freeC, I.pin, I.hok, I.len⟩
theorem SP.unwish {D : Ends} {f : Flow} {s' : Shared} (h : SP (X.wish E) pins D f s') : SP X pins D f s' := by
 cases f with
 | next => obtain ⟨σ', H', I, q⟩ := h; exact ⟨σ', H', I.unwish, q⟩
 | brk => obtain ⟨σ', H', I, q⟩ := h; exact ⟨σ', H', I.unwish, q⟩
 | cont => obtain ⟨σ', H', I, q⟩ := h; exact ⟨σ', H', I.unwish, q⟩
 | ret u => obtain ⟨v, σ', H', I, r, q⟩ := h; exact ⟨v, σ', H', I.unwish, r, q⟩
theorem PSs.nox {st : List Stmt} {t : TS} (h : PSs X.nox st t) : PSs X st t := fun pins s σ H D I hw =>
 wpAny_mono (h pins s σ H D (I.wish _) hw) (fun _ _ q => q.unwish) fun _ _ z => False.elim z
end
section
variable {X : Cx} {st : Stmt} {rest : List Stmt} {t u : TS} {e : Expr} {te : TE} {pos : Pos}
def tNext : TS := fun D σ H => D.nx σ H
def tSeq (t u : TS) : TS := fun D σ H => t { D with nx := u D } σ H
theorem qq : PSs X [] tNext := fun _ _ σ H _ I h => wpAny_execs_nil ⟨σ, H, I, h⟩
theorem qc (h1 : PS X st t) (h2 : PSs X rest u) : PSs X (st :: rest) (tSeq t u) := by
 intro pins s σ H D I h
 refine wpAny_execs_cons (thn (h1 pins s σ H { D with nx := u D } I h) fun f s1 q => ?_)
 cases f with
 | next =>
  obtain ⟨σ', H', I', q⟩ := q
  exact h2 pins s1 σ' H' D I' q
 | ret v => exact q
 | brk => exact q
 | cont => exact q
theorem qf (h1 : PS X st t) : PSs X [st] t := by
 intro pins s σ H D I h
 refine wpAny_execs_cons (thn (h1 pins s σ H D I h) fun f s1 q => ?_)
 cases f with
 | next => exact wpAny_execs_nil q
 | ret v => exact q
 | brk => exact q
 | cont => exact q
theorem Inv.quiet {pins : List (Addr × Obj)} {σ : St} {H : Hp} {s : Shared} (I : Inv X pins σ H s) : interactive X.env = false := by simp [interactive, I.ok.kind]
def tDrop (te : TE) : TS := fun D σ H => te σ H fun _ H1 => D.nx σ H1
theorem qJ (he : PE X e te) (hs : swapsWith e none pos.line X.env = pure false := by rfl) : PS X (.Expr e pos) (tDrop te) := by
 intro pins s σ H D I h
 exact wpAny_Expr_any (thn (he pins s σ H _ I h) fun v s1 ⟨x, H1, I1, r1, q1⟩ => ⟨σ, H1, I1, q1⟩) I.quiet hs
def tRet (te : TE) : TS := fun D σ H => te σ H D.rt
theorem qj (he : PE X e te) : PS X (.Return (some e) pos) (tRet te) := by
 intro pins s σ H D I h
 exact wpAny_Return_some (thn (he pins s σ H _ I h) fun v s1 ⟨x, H1, I1, r1, q1⟩ => ⟨x, σ, H1, I1, r1, q1⟩)
def tIfS (c : TT) (t u : TS) : TS := fun D σ H => c σ H fun b H1 => if b = true then t D σ H1 else u D σ H1
theorem qP {c : Expr} {a b : List Stmt} {tc : TT} (hc : PT X c tc) (ha : PSs X a t) (hb : PSs X b u) : PS X (.If c a b pos) (tIfS tc t u) := by
 intro pins s σ H D I h
 refine wpAny_If (thn (hc pins s σ H _ I h) fun d s1 ⟨H1, I1, q1⟩ => ?_)
 cases d with
 | true => exact ha pins s1 σ H1 D I1 q1
 | false => exact hb pins s1 σ H1 D I1 q1
def tNever : TS := fun _ _ _ => False
theorem q0E : PS X st tNever := fun _ _ _ _ _ _ h => h.elim
end
abbrev TG := V -> St -> Hp -> (St -> Hp -> Prop) -> Prop
abbrev TGs := List V -> St -> Hp -> (St -> Hp -> Prop) -> Prop
def PG (X : Cx) (target : Expr) (t : TG) : Prop :=
 ∀ (pins : List (Addr × Obj)) (s : Shared) (σ : St) (H : Hp) (v : V) (u : Value) (Q : St -> Hp -> Prop), Inv X pins σ H s -> RelV v u -> t v σ H Q ->
  wpAny (model X.prog X.w) X.A (assign target X.env u) (fun _ s' => ∃ σ' H', Inv X pins σ' H' s' /\ Q σ' H') X.xe s
def PGs (X : Cx) (ts : List Expr) (t : TGs) : Prop :=
 ∀ (pins : List (Addr × Obj)) (s : Shared) (σ : St) (H : Hp) (vs : List V) (us : List Value) (Q : St -> Hp -> Prop), Inv X pins σ H s -> Vals vs us -> t vs σ H Q ->
  wpAny (model X.prog X.w) X.A (assignInOrder ((assignEach ts X.env).map (·.2)) us) (fun _ s' => ∃ σ' H', Inv X pins σ' H' s' /\ Q σ' H') X.xe s
abbrev TSet := V -> V -> V -> Hp -> (Hp -> Prop) -> Prop
def PSet (X : Cx) (t : TSet) : Prop :=
 ∀ (pins : List (Addr × Obj)) (s : Shared) (σ : St) (H : Hp) (o i v : V) (ov iv u : Value) (Q : Hp -> Prop), Inv X pins σ H s -> RelV o ov -> RelV i iv -> RelV v u -> t o i v H Q ->
  wpAny (model X.prog X.w) X.A (setItem ov iv u) (fun _ s' => ∃ H', Inv X pins σ H' s' /\ Q H') X.xe s
abbrev TIp := V -> V -> Hp -> VK -> Prop
def PIp (X : Cx) (op : Operator) (t : TIp) : Prop :=
 ∀ (pins : List (Addr × Obj)) (s : Shared) (σ : St) (H : Hp) (x y : V) (v u : Value) (Q : VK), Inv X pins σ H s -> RelV x v -> RelV y u -> t x y H Q ->
  wpAny (model X.prog X.w) X.A (inplaceOp op v u) (EP X pins σ Q) X.xe s
section
variable {X : Cx} {pos : Pos}
def q9Q (i : Nat) : TG := fun v σ H Q => Q (σ.set i (some v)) H
theorem qp {i : Nat} {x : Str} (hN : X.N.Nodup) (hi : X.N[i]? = some x) (hx : Loc X.env.scope x) (hf : X.fn x = true \/ X.env.scope.names.lookup x = some .local := by first | exact .inl rfl | exact .inr rfl | assumption) : PG X (.Name x pos) (q9Q i) := by
 intro pins s σ H v u Q I r h
 exact wpAny_assign_Name (q3T I hN hi hx r (fun s' I' => ⟨_, H, I', h⟩) hf)
def gNil : TGs := fun vs σ H Q => vs = [] /\ Q σ H
def gCons (t : TG) (u : TGs) : TGs := fun vs σ H Q => ∃ v r, vs = v :: r /\ t v σ H fun σ' H' => u r σ' H' Q
theorem q1D : PGs X [] gNil := by
 intro pins s σ H vs us Q I r h
 obtain ⟨e, h⟩ := h
 subst e
 cases r
 exact assignInOrder_nil ⟨σ, H, I, h⟩
theorem qG {e : Expr} {es : List Expr} {t : TG} {u : TGs} (h1 : PG X e t) (h2 : PGs X es u)
  (hs : (assignEach (e :: es) X.env).map (·.2) = assign e X.env :: (assignEach es X.env).map (·.2) := by rfl) : PGs X (e :: es) (gCons t u) := by
 intro pins s σ H vs us Q I r h
 obtain ⟨v, vr, e1, h⟩ := h
 subst e1
 cases r with
 | cons r rr =>
  rw [hs]
  refine assignInOrder_cons (thn (h1 pins s σ H _ _ _ I r h) fun _ s1 ⟨σ1, H1, I1, q1⟩ => ?_)
  exact h2 pins s1 σ1 H1 _ _ Q I1 rr q1
def gTup (K : PySem.W.Frag) (n : Nat) (t : TGs) : TG := fun v σ H Q => ∃ a xs, v = .ref a /\ SqT K H a xs /\ xs.length = n /\ t xs σ H Q
theorem pg_tup {es : List Expr} {k : Nat} {t : TGs} {n : Nat} (hc : X.calm = true) (h : PGs X es t)
  (hn : (assignEach es X.env).length = n := by rfl) (hst : (assignEach es X.env).findIdx? (·.1) = none := by rfl) : PG X (.Tuple es k pos) (gTup X.K n t) := by
 intro pins s σ H v u Q I r hw
 obtain ⟨a, xs, e1, hq, hl, hw⟩ := hw
 subst e1
 cases r
 obtain ⟨its, rv, ht, hz⟩ := I.tuple hq
 refine assign_Tuple_tuple (I.ok.hd hc) ht (by simp [hn, <- hl, rv.length]) hst fun h' hx => ?_
 have I1 : Inv X pins σ H { s with heap := h' } := I.kept (t' := s.toks) fun b o e => hx b o (Nat.ne_of_lt (Heap.lt_size e)) e
 exact h pins _ σ H xs _ Q I1 (by simpa using rv) hw
def tAsg (te : TE) (g : TG) : TS := fun D σ H => te σ H fun x H1 => g x σ H1 D.nx
theorem qv {i : Nat} {x : Str} {e : Expr} {te : TE} {pos' : Pos} (hN : X.N.Nodup) (hi : X.N[i]? = some x) (hx : Loc X.env.scope x) (he : PE X e te) (hs : swapsWith e (some (.Name x pos')) pos.line X.env = pure false := by rfl) (hf : X.fn x = true \/ X.env.scope.names.lookup x = some .local := by first | exact .inl rfl | exact .inr rfl | assumption) :
  PS X (.Assign [.Name x pos'] e pos) (tAsg te (q9Q i)) := by
 intro pins s σ H D I h
 refine wpAny_Assign_Name (thn (he pins s σ H _ I h) fun v s1 ⟨y, H1, I1, r1, q1⟩ => ?_) hs
 exact q3T I1 hN hi hx r1 (fun s2 I2 => ⟨_, H1, I2, q1⟩) hf
def tAug (i : Nat) (te : TE) (ti : TIp) : TS := fun D σ H => ∃ x, σ[i]? = some (some x) /\ te σ H fun y H1 => ti x y H1 fun z H2 => D.nx (σ.set i (some z)) H2
theorem ps_aug {i : Nat} {x : Str} {e : Expr} {te : TE} {op : Operator} {ti : TIp} {pos' : Pos} (hN : X.N.Nodup) (hi : X.N[i]? = some x) (hx : Loc X.env.scope x) (he : PE X e te) (ho : PIp X op ti) (hf : X.fn x = true \/ X.env.scope.names.lookup x = some .local := by first | exact .inl rfl | exact .inr rfl | assumption) :
  PS X (.AugAssign (.Name x pos') op e pos) (tAug i te ti) := by
 intro pins s σ H D I h
 obtain ⟨v, e1, h⟩ := h
 obtain ⟨m, hn, hl⟩ := I.loc
 have vis : Vis X.env.scope x := by rcases hx with k | k; exact .inl k; exact .inr (.inl k)
 obtain ⟨u, r, l⟩ := hl i x v hi e1 vis
 refine wpAny_AugAssign_Name ?_
 have go : wpAny (model X.prog X.w) X.A (eval e X.env) (fun w s₂ => wpAny (model X.prog X.w) X.A (inplaceOp op u w) (fun r s₃ => wpAny (model X.prog X.w) X.A (storeName X.env x r) (fun _ => SP X pins D .next) X.xe s₃) X.xe s₂) X.xe s := by
  refine thn (he pins s σ H _ I h) fun w s1 ⟨y, H1, I1, r1, q1⟩ => ?_
  refine thn (ho pins s1 σ H1 v y u w _ I1 r r1 q1) fun z s2 ⟨zv, H2, I2, r2, q2⟩ => ?_
  exact q3T I2 hN hi hx r2 (fun s3 I3 => ⟨_, H2, I3, q2⟩) hf
 rcases l with ⟨hk, hm⟩ | ⟨hk, c, hc, hcell⟩
 ·exact wpAny_loadName_local I.ok.kind hk hn hm go
 ·rcases hk with hk | hk
  ·exact wpAny_loadName_cell I.ok.kind hk hc hcell go
  ·rcases hx with k | k
   ·have : X.env.scope.names.lookup x = some .free := hk
    rw [k] at this; cases this
   ·have : X.env.scope.names.lookup x = some .free := hk
    rw [k] at this; cases this
def tAugS (to ti te : TE) (tget : V -> V -> Hp -> VK -> Prop) (tip : TIp) (tset : TSet) : TS := fun D σ H => to σ H fun o H1 => ti σ H1 fun i H2 => tget o i H2 fun x H3 => te σ H3 fun y H4 => tip x y H4 fun z H5 => tset o i z H5 fun H6 => D.nx σ H6
def PGet (X : Cx) (t : V -> V -> Hp -> VK -> Prop) : Prop :=
 ∀ (pins : List (Addr × Obj)) (s : Shared) (σ : St) (H : Hp) (o i : V) (ov iv : Value) (Q : VK), Inv X pins σ H s -> RelV o ov -> RelV i iv -> t o i H Q ->
  wpAny (model X.prog X.w) X.A (getItem ov iv) (EP X pins σ Q) X.xe s
theorem q7H {o i e : Expr} {to ti te : TE} {tget : V -> V -> Hp -> VK -> Prop} {tip : TIp} {tset : TSet} {op : Operator} {tpos : Pos} (ho : PE X o to) (hi : PE X i ti) (hg : PGet X tget) (he : PE X e te) (hp : PIp X op tip) (hs : PSet X tset)
  (ha : ∀ ov iv new, augStore i ov iv new = (do holding [new, ov, iv] (setItem ov iv new); release [new, ov, iv] []; pure .next) := by intros; rfl) : PS X (.AugAssign (.Subscript o i tpos) op e pos) (tAugS to ti te tget tip tset) := by
 intro pins s σ H D I h
 refine wpAny_AugAssign_SubscriptAny (thn (ho pins s σ H _ I h) fun ov s1 ⟨x1, H1, I1, r1, q1⟩ => ?_) ha
 refine thn (hi pins s1 σ H1 _ I1 q1) fun iv s2 ⟨x2, H2, I2, r2, q2⟩ => ?_
 refine thn (hg pins s2 σ H2 x1 x2 ov iv _ I2 r1 r2 q2) fun old s3 ⟨x3, H3, I3, r3, q3⟩ => ?_
 refine thn (he pins s3 σ H3 _ I3 q3) fun v s4 ⟨x4, H4, I4, r4, q4⟩ => ?_
 refine thn (hp pins s4 σ H4 x3 x4 old v _ I4 r3 r4 q4) fun new s5 ⟨x5, H5, I5, r5, q5⟩ => ?_
 exact thn (hs pins s5 σ H5 x1 x2 x5 ov iv new _ I5 r1 r2 r5 q5) fun _ s6 ⟨H6, I6, q6⟩ => ⟨σ, H6, I6, q6⟩
def ipI (f : Int -> Int -> Int) : TIp := fun x y H Q => ∃ i j, x = .int i /\ y = .int j /\ Q (.int (f i j)) H
theorem qaj : PIp X .Add (ipI fun i j => i + j) := by
 intro pins s σ H x y v u Q I r1 r2 h
 obtain ⟨i, j, e1, e2, q⟩ := h
 subst e1; subst e2
 obtain ⟨t, rfl⟩ := r1
 obtain ⟨t', rfl⟩ := r2
 exact iadd_int ⟨.int _, H, I.tok _, ⟨_, rfl⟩, q⟩
theorem ip_sub : PIp X .Sub (ipI fun i j => i - j) := by
 intro pins s σ H x y v u Q I r1 r2 h
 obtain ⟨i, j, e1, e2, q⟩ := h
 subst e1; subst e2
 obtain ⟨t, rfl⟩ := r1
 obtain ⟨t', rfl⟩ := r2
 exact isub_int ⟨.int _, H, I.tok _, ⟨_, rfl⟩, q⟩
end
section
variable {X : Cx} {pos : Pos}
def qa6 (c : TT) (tb : TS) : TS := fun D σ H => ∃ W : Nat -> St -> Hp -> Prop, (∃ m, W m σ H) /\ ∀ m σ H, W m σ H ->
 c σ H fun b H1 => if b = true then ∃ N : St -> Hp -> Prop, (∀ σ' H', N σ' H' -> ∃ m', m' < m /\ W m' σ' H') /\ tb { D with nx := N, ct := N, bk := D.nx } σ H1 else D.nx σ H1
theorem q6e {c : Expr} {body : List Stmt} {tc : TT} {tb : TS} (hp : PassesOwn (model X.prog X.w) X.A X.env X.xe) (hc : PT X c tc) (hb : PSs X body tb) : PS X (.While c body [] pos) (qa6 tc tb) := by
 intro pins s σ H D I h
 obtain ⟨W, ⟨m0, w0⟩, turn⟩ := h
 refine wpAny_While (codeAny_whileLoop (fun n s' => ∃ σ' H', Inv X pins σ' H' s' /\ W n σ' H') ?_ m0 ⟨σ, H, I, w0⟩)
 rintro n s1 ⟨σ1, H1, I1, w1⟩
 refine wpAny_passesOwn hp (thn (hc pins s1 σ1 H1 _ I1 (turn n σ1 H1 w1)) fun b s2 ⟨H2, I2, q2⟩ => ?_)
 cases b with
 | true =>
  obtain ⟨N, hN, q2⟩ := q2
  rw [if_pos rfl]
  refine wpAny_passesOwn hp (thn (hb pins s2 σ1 H2 _ I2 q2) fun f s3 q3 => ?_)
  cases f with
  | next =>
   obtain ⟨σ3, H3, I3, n3⟩ := q3
   obtain ⟨m', hm, w3⟩ := hN σ3 H3 n3
   exact ⟨m', hm, σ3, H3, I3, w3⟩
  | cont =>
   obtain ⟨σ3, H3, I3, n3⟩ := q3
   obtain ⟨m', hm, w3⟩ := hN σ3 H3 n3
   exact ⟨m', hm, σ3, H3, I3, w3⟩
  | brk => exact q3
  | ret v => exact q3
 | false =>
  rw [if_neg Bool.false_ne_true]
  exact wpAny_execs_nil ⟨σ1, H2, I2, q2⟩
end
structure It where
 go : Nat -> Hp -> Prop
 yld : Nat -> Hp -> V -> Hp -> Prop
 stop : Nat -> Hp -> Prop
def FpOk (X : Cx) (pins : List (Addr × Obj)) (H : Hp) (b : Addr) : Prop :=
 H b = none /\ b ≠ X.env.locals /\ b ∉ X.fs /\ (b ∈ X.ex \/ X.s₀.heap.objs.size <= b) /\ (∀ x c, X.env.cells.lookup x = some c -> c ≠ b) /\ ∀ p ∈ X.pn ++ pins, p.1 ≠ b
theorem Inv.fpOk {X : Cx} {pins : List (Addr × Obj)} {σ : St} {H H' : Hp} {s : Shared} {b : Addr} (I : Inv X pins σ H s) (hb : s.heap.objs.size <= b) (hn : H' b = none) : FpOk X pins H' b := by
 refine ⟨hn, Nat.ne_of_gt (Nat.lt_of_lt_of_le I.lt hb), I.nofs hb, .inr (Nat.le_trans I.sz hb), fun x c e z => ?_, fun p hp z => ?_⟩
 ·obtain ⟨v, q⟩ := I.cell x c e
  exact absurd (Nat.lt_of_lt_of_le q.lt (by rw [z]; exact hb)) (Nat.lt_irrefl _)
 ·exact absurd (Nat.lt_of_lt_of_le (Heap.lt_size (I.pin p hp).1) (by rw [z]; exact hb)) (Nat.lt_irrefl _)
structure Turn (P : Program) (w : World) (K : PySem.W.Frag) (tg : Expr) (J : It) (fp : List Addr) (it : Addr) (tn : Nat -> Heap -> Prop) : Prop where
 mem : it ∈ fp
 obj : ∀ i h, tn i h -> ∀ b ∈ fp, ∃ o, h.get? b = some o /\ ∀ v, o.data ≠ .cell v
 keep : ∀ i h h', tn i h -> (∀ b ∈ fp, ∀ o, h.get? b = some o -> h'.get? b = some o) -> tn i h'
 item : ∀ (X : Cx), X.prog = P -> X.w = w -> X.K = K -> X.calm = true -> ∀ (i : Nat) (pins : List (Addr × Obj)) (s : Shared) (σ : St) (H : Hp) (E : Value -> Shared -> Prop), Inv X pins σ H s -> (∀ b ∈ fp, FpOk X pins H b) -> tn i s.heap -> J.go i H ->
  wpAny (model P w) X.A (pyNext (.ref it)) (fun r s1 => ∃ u, r = some u /\
   wpAny (model P w) X.A (letOwnedTupleGo tg (.ref it) u) (fun _ s2 => ∃ x H', Inv X pins σ H' s2 /\ RelV x u /\ J.yld i H x H' /\ tn (i + 1) s2.heap /\ ∀ b ∈ fp, H' b = none) E s1) E s
 done : ∀ (X : Cx), X.prog = P -> X.w = w -> X.K = K -> X.calm = true -> ∀ (i : Nat) (pins : List (Addr × Obj)) (s : Shared) (σ : St) (H : Hp) (E : Value -> Shared -> Prop), Inv X pins σ H s -> (∀ b ∈ fp, FpOk X pins H b) -> tn i s.heap -> J.stop i H ->
  wpAny (model P w) X.A (pyNext (.ref it)) (fun r s1 => r = none /\ Inv X pins σ H s1) E s
 self : ∀ (A : Around) (i : Nat) (s : Shared) (Q : Value -> Shared -> Prop) (E : Value -> Shared -> Prop), tn i s.heap -> Q (.ref it) s -> wpAny (model P w) A (pyIter (.ref it)) Q E s
abbrev TI := St -> Hp -> (It -> Hp -> Prop) -> Prop
def PIE (X : Cx) (pins : List (Addr × Obj)) (σ : St) (tg : Expr) (R : It -> Hp -> Prop) (itv : Value) (s2 : Shared) : Prop :=
 ∃ (it : Addr) (fp : List Addr) (tn : Nat -> Heap -> Prop) (J : It) (H' : Hp), itv = .ref it /\ Inv X pins σ H' s2 /\ Turn X.prog X.w X.K tg J fp it tn /\ tn 0 s2.heap /\ (∀ b ∈ fp, FpOk X pins H' b) /\ R J H'
def PI (X : Cx) (tg iter : Expr) (wi : TI) : Prop :=
 ∀ (pins : List (Addr × Obj)) (s : Shared) (σ : St) (H : Hp) (R : It -> Hp -> Prop), Inv X pins σ H s -> wi σ H R ->
  wpAny (model X.prog X.w) X.A (eval iter X.env) (fun v s1 => wpAny (model X.prog X.w) X.A (pyIter v) (PIE X pins σ tg R) X.xe s1) X.xe s
theorem go_of {M : Model} {A : Around} {E : Value -> Shared -> Prop} {s : Shared} {tg : Expr} {it : Addr} {u : Value} {o : Obj} {n : String} {vs : Array Value} {Q : Unit -> Shared -> Prop} (ho : s.heap.get? it = some o) (hc : o.cls = .type n) (hd : o.data = .fields vs)
  (hn : ["enumerate", "zip", "dict_itemiterator", "dict_reverseitemiterator", "odict_iterator", "itertools.zip_longest", "itertools.pairwise"].contains n = false) (hQ : Q () s) : wpAny M A (letOwnedTupleGo tg (.ref it) u) Q E s := by
 unfold letOwnedTupleGo
 cases tg <;> first
  | exact wpAny_pure hQ
  |(cases u <;> first
    | exact wpAny_pure hQ
    |(refine wpAny_bind (wpAny_load ho ?_)
      rw [hc, hd]
      show wpAny M A (if (["enumerate", "zip", "dict_itemiterator", "dict_reverseitemiterator", "odict_iterator", "itertools.zip_longest", "itertools.pairwise"].contains n && vs[0]? == some (rawInt _)) = true then _ else _) Q E s
      rw [if_neg (by intro h; rw [hn, Bool.false_and] at h; cases h)]
      exact wpAny_pure hQ))
def Itl (K : PySem.W.Frag) (a : Addr) : It :=
 ⟨fun i H => ∃ xs x, SqL K H a xs /\ xs[i]? = some x, fun i H x H' => H' = H /\ ∀ xs, SqL K H a xs -> xs[i]? = some x, fun i H => ∃ xs, SqL K H a xs /\ xs.length <= i⟩
def Itt (K : PySem.W.Frag) (a : Addr) : It :=
 ⟨fun i H => ∃ xs x, SqT K H a xs /\ xs[i]? = some x, fun i H x H' => H' = H /\ ∀ xs, SqT K H a xs -> xs[i]? = some x, fun i H => ∃ xs, SqT K H a xs /\ xs.length <= i⟩
def Itr (lo : Int) (n : Nat) : It := ⟨fun i _ => i < n, fun i H x H' => H' = H /\ x = .int (lo + i), fun i _ => n <= i⟩
theorem q7g {P : Program} {w : World} {K : PySem.W.Frag} {tg : Expr} (a it : Addr) : Turn P w K tg (Itl K a) [it] it (fun i h => h.IsListIter it a i) where
 mem := by simp
 obj := fun i h st b hb => by
  have e : b = it := by simpa using hb
  subst e
  obtain ⟨o, e, c, d⟩ := st
  exact ⟨o, e, fun v z => by rw [d] at z; cases z⟩
 keep := fun i h h' st k => st.at fun o e => k it (by simp) o e
 item := by
  intro X hP hw hK hc i pins s σ H E I hf st hg
  subst hP hw hK
  obtain ⟨xs, x, hq, hx⟩ := hg
  obtain ⟨its, rv, p, hz⟩ := I.list hq
  obtain ⟨u, hu, ru⟩ := rv.get hx
  obtain ⟨f0, f1, f2, f3, f4, f5⟩ := hf it (by simp)
  refine wpAny_pyNext_list_item st p.isList (x := u) (by simpa using hu) fun h' st' sb => ?_
  have I1 : Inv X pins σ H { s with heap := h' } := I.turned (t' := s.toks) (fun b o hb e => (sb.2 b hb).trans e) f0 f1 f3 f4 f5
  obtain ⟨o, e, c, d⟩ := id st'
  exact ⟨u, rfl, go_of (s := { s with heap := h' }) e c d (by decide) ⟨x, H, I1, ru, ⟨rfl, fun ys hy => by rw [I.list_inj hy hq]; exact hx⟩, st', fun b hb => (hf b hb).1⟩⟩
 done := by
  intro X hP hw hK hc i pins s σ H E I hf st hg
  subst hP hw hK
  obtain ⟨xs, hq, hx⟩ := hg
  obtain ⟨its, rv, p, hz⟩ := I.list hq
  obtain ⟨f0, f1, f2, f3, f4, f5⟩ := hf it (by simp)
  have hl := rv.length
  exact wpAny_pyNext_list_end (I.ok.hd hc) st p.isList (by simp; omega) fun h' eb => ⟨rfl, I.turned (t' := s.toks) (fun b o hb e => eb b o hb e) f0 f1 f3 f4 f5⟩
 self := fun _ _ _ _ _ st h => wpAny_pyIter_listiter st h
theorem q6G {P : Program} {w : World} {K : PySem.W.Frag} {tg : Expr} (a it : Addr) : Turn P w K tg (Itt K a) [it] it (fun i h => h.IsTupleIter it a i) where
 mem := by simp
 obj := fun i h st b hb => by
  have e : b = it := by simpa using hb
  subst e
  obtain ⟨o, e, c, d⟩ := st
  exact ⟨o, e, fun v z => by rw [d] at z; cases z⟩
 keep := fun i h h' st k => st.at fun o e => k it (by simp) o e
 item := by
  intro X hP hw hK hc i pins s σ H E I hf st hg
  subst hP hw hK
  obtain ⟨xs, x, hq, hx⟩ := hg
  obtain ⟨its, rv, p, hz⟩ := I.tuple hq
  obtain ⟨u, hu, ru⟩ := rv.get hx
  obtain ⟨f0, f1, f2, f3, f4, f5⟩ := hf it (by simp)
  refine wpAny_pyNext_tuple_item st (show s.heap.IsTuple a its.toArray from p) (x := u) (by simpa using hu) fun h' st' sb => ?_
  have I1 : Inv X pins σ H { s with heap := h' } := I.turned (t' := s.toks) (fun b o hb e => (sb.2 b hb).trans e) f0 f1 f3 f4 f5
  obtain ⟨o, e, c, d⟩ := id st'
  exact ⟨u, rfl, go_of (s := { s with heap := h' }) e c d (by decide) ⟨x, H, I1, ru, ⟨rfl, fun ys hy => by rw [I.tuple_inj hy hq]; exact hx⟩, st', fun b hb => (hf b hb).1⟩⟩
 done := by
  intro X hP hw hK hc i pins s σ H E I hf st hg
  subst hP hw hK
  obtain ⟨xs, hq, hx⟩ := hg
  obtain ⟨its, rv, p, hz⟩ := I.tuple hq
  obtain ⟨f0, f1, f2, f3, f4, f5⟩ := hf it (by simp)
  have hl := rv.length
  exact wpAny_pyNext_tuple_end (I.ok.hd hc) st (show s.heap.IsTuple a its.toArray from p) (by simp; omega) fun h' eb => ⟨rfl, I.turned (t' := s.toks) (fun b o hb e => eb b o hb e) f0 f1 f3 f4 f5⟩
 self := fun _ _ _ _ _ st h => wpAny_pyIter_tupleiter st h
theorem q6H {P : Program} {w : World} {K : PySem.W.Frag} {tg : Expr} (it : Addr) (lo : Int) (n : Nat) : Turn P w K tg (Itr lo n) [it] it (fun i h => IsRangeIter h it (lo + (i : Nat) * 1) ((n : Int) - (i : Nat)) 1) where
 mem := by simp
 obj := fun i h st b hb => by
  have e : b = it := by simpa using hb
  subst e
  exact ⟨_, st, fun v z => by
   have z' : Data.fields _ = Data.cell v := z
   cases z'⟩
 keep := fun i h h' st k => k it (by simp) _ st
 item := by
  intro X hP hw hK hc i pins s σ H E I hf st hg
  subst hP hw hK
  obtain ⟨f0, f1, f2, f3, f4, f5⟩ := hf it (by simp)
  have W := Walks.range (prog := X.prog) (w := X.w) (I.ok.hd hc) it lo 1 n
  refine W.item i s _ _ hg st fun v h' tk hv st' kk => ?_
  obtain ⟨t, rfl⟩ := hv
  have I1 : Inv X pins σ H { s with heap := h', toks := tk } := I.turned (fun b o hb e => kk b o (by simpa using hb) e) f0 f1 f3 f4 f5
  refine ⟨_, rfl, go_of (s := { s with heap := h', toks := tk }) (n := "range_iterator") st' rfl rfl (by decide) ⟨.int (lo + i), H, I1, ⟨t, ?_⟩, ⟨rfl, rfl⟩, st', fun b hb => (hf b hb).1⟩⟩
  rw [Int.mul_one]
 done := by
  intro X hP hw hK hc i pins s σ H E I hf st hg
  subst hP hw hK
  obtain ⟨f0, f1, f2, f3, f4, f5⟩ := hf it (by simp)
  exact wpAny_pyNext_range_end (I.ok.hd hc) st (by have : n <= i := hg; omega) fun h' eb => ⟨rfl, I.turned (t' := s.toks) (fun b o hb e => eb b o hb e) f0 f1 f3 f4 f5⟩
 self := fun _ _ _ _ _ st h => wpAny_pyIter_rangeiter st h
end L2
namespace L2
open PySem PySem.Spec PyProof.Rows
section
variable {X : Cx} {tg : Expr}
def qbp (K : PySem.W.Frag) (tl : TE) : TI := fun σ H R => tl σ H fun x H1 => ∃ a, x = .ref a /\ (∃ xs, SqL K H1 a xs) /\ R (Itl K a) H1
def iTup (K : PySem.W.Frag) (tl : TE) : TI := fun σ H R => tl σ H fun x H1 => ∃ a, x = .ref a /\ (∃ xs, SqT K H1 a xs) /\ R (Itt K a) H1
theorem qaT {l : Expr} {tl : TE} (hl : PE X l tl) : PI X tg l (qbp X.K tl) := by
 intro pins s σ H R I h
 refine thn (hl pins s σ H _ I h) fun v s1 ⟨x, H1, I1, r1, q1⟩ => ?_
 obtain ⟨a, e, ⟨xs, hq⟩, q⟩ := q1
 subst e
 cases r1
 obtain ⟨its, rv, p, hz⟩ := I1.list hq
 refine wpAny_pyIter_list p.isList ?_
 refine ⟨s1.heap.objs.size, [s1.heap.objs.size], _, _, H1, rfl, I1.kept (t' := s1.toks) fun b o e => Heap.get?_push_of_some _ e, q7g a _, ⟨_, Heap.get?_push_size _ rfl, rfl, rfl⟩, fun b hb => ?_, q⟩
 have e : b = s1.heap.objs.size := by simpa using hb
 subst e
 exact I1.fpOk (Nat.le_refl _) (I1.hok.fresh (Nat.le_refl _))
theorem pi_tup {l : Expr} {tl : TE} (hl : PE X l tl) : PI X tg l (iTup X.K tl) := by
 intro pins s σ H R I h
 refine thn (hl pins s σ H _ I h) fun v s1 ⟨x, H1, I1, r1, q1⟩ => ?_
 obtain ⟨a, e, ⟨xs, hq⟩, q⟩ := q1
 subst e
 cases r1
 obtain ⟨its, rv, p, hz⟩ := I1.tuple hq
 refine wpAny_pyIter_tuple (show s1.heap.IsTuple a its.toArray from p) ?_
 refine ⟨s1.heap.objs.size, [s1.heap.objs.size], _, _, H1, rfl, I1.kept (t' := s1.toks) fun b o e => Heap.get?_push_of_some _ e, q6G a _, ⟨_, Heap.get?_push_size _ rfl, rfl, rfl⟩, fun b hb => ?_, q⟩
 have e : b = s1.heap.objs.size := by simpa using hb
 subst e
 exact I1.fpOk (Nat.le_refl _) (I1.hok.fresh (Nat.le_refl _))
theorem q9a {pins : List (Addr × Obj)} {σ : St} {H : Hp} {s : Shared} {R : It -> Hp -> Prop} {E : Value -> Shared -> Prop} {lo hi : Int} {t u v : Tok} {tk : Nat} (I : Inv X pins σ H s) (h1 : -(2 ^ 62) <= lo) (h2 : lo < 2 ^ 62) (h3 : -(2 ^ 62) <= hi) (h4 : hi < 2 ^ 62)
  (q : R (Itr lo (hi - lo).toNat) H) : wpAny (model X.prog X.w) X.A (pyIter (.ref s.heap.objs.size)) (PIE X pins σ tg R) E { s with heap := s.heap.push { cls := .type "range", data := .fields #[.int lo t, .int hi u, .int 1 v] }, toks := tk } := by
 refine wpAny_pyIter_range (IsRange.new ..) (small_one h1 h2 h3 h4) ?_
 have I1 : Inv X pins σ H { s with heap := s.heap.push { cls := .type "range", data := .fields #[.int lo t, .int hi u, .int 1 v] }, toks := tk } := I.kept fun b o e => Heap.get?_push_of_some _ e
 refine ⟨(s.heap.push { cls := .type "range", data := .fields #[.int lo t, .int hi u, .int 1 v] }).objs.size, [(s.heap.push { cls := .type "range", data := .fields #[.int lo t, .int hi u, .int 1 v] }).objs.size], _, _, H, rfl,
  I1.kept (t' := tk) fun b o e => Heap.get?_push_of_some _ e, q6H _ lo (hi - lo).toNat, ?_, fun b hb => ?_, q⟩
 ·have e1 : lo + ((0 : Nat) : Int) * 1 = lo := by simp
  have e2 : (((hi - lo).toNat : Nat) : Int) - ((0 : Nat) : Int) = Builtin.Range.rangeSize lo hi 1 := by rw [rangeSize_one]; split <;> omega
  show IsRangeIter _ _ (lo + ((0 : Nat) : Int) * 1) ((((hi - lo).toNat : Nat) : Int) - ((0 : Nat) : Int)) 1
  rw [e1, e2]
  exact Heap.get?_push_size _ rfl
 ·have e : b = (s.heap.push { cls := .type "range", data := .fields #[.int lo t, .int hi u, .int 1 v] }).objs.size := by simpa using hb
  subst e
  exact I1.fpOk (Nat.le_refl _) (I1.hok.fresh (Nat.le_refl _))
def iRng1 (ta : TA) : TI := fun σ H R => ta σ H fun vs H1 => ∃ j : Int, vs = [.int j] /\ -(2 ^ 62) <= j /\ j < 2 ^ 62 /\ R (Itr 0 j.toNat) H1
theorem q08 {a : Expr} {ta : TA} {p pos : Pos} (hg : Gl X "range") (hm : X.mg "range" = none) (ha : PA X [a] ta) (hs : starEach [a] X.env = [(false, eval a X.env)] := by rfl) : PI X tg (.Call (.Name "range" p) [a] [] pos) (iRng1 ta) := by
 intro pins s σ H R I h
 refine Call_ (q3f I hg hm boot_range (PyProof.Rows.callWith_type1 (thn (ha pos pins s σ H _ I h) fun us s1 ⟨vs, H1, I1, r1, q1⟩ => ?_) hs rfl))
 obtain ⟨j, e, q1, q2, q⟩ := q1
 subst e
 cases r1 with
 | cons r rr =>
  cases rr
  obtain ⟨t, rfl⟩ := r
  exact call_range_1 (q9a I1 (by omega) (by omega) q1 q2 (by simpa using q))
def tFor (wi : TI) (g : TG) (tb : TS) : TS := fun D σ H => wi σ H fun J H1 => ∃ W : Nat -> Nat -> St -> Hp -> Prop, (∃ m, W 0 m σ H1) /\ ∀ i m σ H, W i m σ H ->
 (J.stop i H /\ D.nx σ H) \/ (J.go i H /\ ∃ N : St -> Hp -> Prop, (∀ σ' H', N σ' H' -> ∃ m', m' < m /\ W (i + 1) m' σ' H') /\ ∀ x H', J.yld i H x H' -> g x σ H' fun σ2 H2 => tb { D with nx := N, ct := N, bk := D.nx } σ2 H2)
def q55 (fp : List Addr) (h : Heap) : List (Addr × Obj) := fp.filterMap fun b => (h.get? b).map fun o => (b, o)
theorem q1O {fp : List Addr} {h : Heap} {b : Addr} {o : Obj} (hb : b ∈ fp) (e : h.get? b = some o) : (b, o) ∈ q55 fp h := List.mem_filterMap.mpr ⟨b, hb, by rw [e]; rfl⟩
theorem q7Y {fp : List Addr} {h : Heap} {p : Addr × Obj} (hp : p ∈ q55 fp h) : p.1 ∈ fp /\ h.get? p.1 = some p.2 := by
 obtain ⟨b, hb, e⟩ := List.mem_filterMap.mp hp
 cases q : h.get? b with
 | none => rw [q] at e; cases e
 | some o =>
  rw [q] at e
  have e' : (b, o) = p := Option.some.inj e
  subst e'
  exact ⟨hb, q⟩
theorem Inv.pinned {pins : List (Addr × Obj)} {σ : St} {H : Hp} {s : Shared} {fp : List Addr} (I : Inv X pins σ H s) (hf : ∀ b ∈ fp, FpOk X pins H b) (ho : ∀ b ∈ fp, ∃ o, s.heap.get? b = some o /\ ∀ v, o.data ≠ .cell v) : Inv X (pins ++ q55 fp s.heap) σ H s :=
 I.pins_of fun p hp => (List.mem_append.mp hp).elim (fun z => I.pin p (List.mem_append_right _ z)) fun z => by
  obtain ⟨hb, e⟩ := q7Y z
  obtain ⟨f0, f1, f2, _⟩ := hf p.1 hb
  obtain ⟨o, e', d⟩ := ho p.1 hb
  rw [e] at e'; cases e'
  exact ⟨e, f0, f1, f2, d⟩
theorem Inv.unpinned {pins pl : List (Addr × Obj)} {σ : St} {H : Hp} {s : Shared} (I : Inv X (pins ++ pl) σ H s) : Inv X pins σ H s := I.pins_of fun p hp => I.pin p (List.mem_append_right _ (List.mem_append_left _ hp))
theorem q0t {iter : Expr} {body : List Stmt} {wi : TI} {g : TG} {tb : TS} {pos : Pos} (hp : PassesOwn (model X.prog X.w) X.A X.env X.xe) (hc : X.calm = true) (hi : PI X tg iter wi) (hg : PG X tg g) (hb : PSs X body tb)
  (hs : ∀ x, foldedSetIterable iter X.env x = pure x := by intro _; rfl) : PS X (.For tg iter body [] pos) (tFor wi g tb) := by
 intro pins s σ H D I h
 refine wpAny_For (thn (hi pins s σ H _ I h) fun v s1 h1 => thn h1 fun itv s2 h2 => ?_) hs
 obtain ⟨it, fp, tn, J, H2, e, I2, T, st2, f2, W, ⟨m0, w0⟩, turn⟩ := h2
 subst e
 -- what stays true of the iterator's objects through the loop
 have stat : ∀ {H' : Hp}, (∀ b ∈ fp, H' b = none) -> ∀ b ∈ fp, FpOk X pins H' b := fun hn b hb => ⟨hn b hb, (f2 b hb).2⟩
 refine codeAny_forLoop_any (fun n s' => ∃ i σ' H', Inv X pins σ' H' s' /\ tn i s'.heap /\ (∀ b ∈ fp, H' b = none) /\ W i n σ' H') ?_ m0 ⟨0, σ, H2, I2, st2, fun b hb => (f2 b hb).1, w0⟩
 rintro n s3 ⟨i, σ3, H3, I3, st3, fr3, w3⟩
 rcases turn i n σ3 H3 w3 with ⟨stop, qn⟩ | ⟨go, N, hN, step⟩
 ·refine wpAny_passesOwn hp (thn (T.done X rfl rfl rfl hc i pins s3 σ3 H3 X.xe I3 (stat fr3) st3 stop) fun r s4 ⟨hr, I4⟩ => ?_)
  subst hr
  exact wpAny_execs_nil ⟨σ3, H3, I4, qn⟩
 ·refine wpAny_passesOwn hp (thn (T.item X rfl rfl rfl hc i pins s3 σ3 H3 X.xe I3 (stat fr3) st3 go) fun r s4 ⟨u, hr, h4⟩ => ?_)
  subst hr
  refine wpAny_passesOwn hp (thn h4 fun _ s5 ⟨x, H5, I5, r5, y5, st5, fr5⟩ => ?_)
  have I5' := I5.pinned (stat fr5) (T.obj _ _ st5)
  refine wpAny_passesOwn hp (thn (hg _ s5 σ3 H5 x u _ I5' r5 (step x H5 y5)) fun _ s6 ⟨σ6, H6, I6, q6⟩ => ?_)
  refine wpAny_passesOwn hp (thn (hb _ s6 σ6 H6 _ I6 q6) fun f s7 q7 => ?_)
  have again : ∀ {σ7 : St} {H7 : Hp}, Inv X (pins ++ q55 fp s5.heap) σ7 H7 s7 -> N σ7 H7 -> ∃ m, m < n /\ ∃ i σ' H', Inv X pins σ' H' s7 /\ tn i s7.heap /\ (∀ b ∈ fp, H' b = none) /\ W i m σ' H' := fun {σ7 H7} I7 n7 => by
   obtain ⟨m', hm, w7⟩ := hN σ7 H7 n7
   refine ⟨m', hm, i + 1, σ7, H7, I7.unpinned, T.keep _ _ _ st5 fun b hb o e => (I7.pin (b, o) (List.mem_append_right _ (List.mem_append_right _ (q1O hb e)))).1, fun b hb => ?_, w7⟩
   obtain ⟨o, e, d⟩ := T.obj _ _ st5 b hb
   exact (I7.pin (b, o) (List.mem_append_right _ (List.mem_append_right _ (q1O hb e)))).2.1
  cases f with
  | next => obtain ⟨σ7, H7, I7, n7⟩ := q7; exact again I7 n7
  | cont => obtain ⟨σ7, H7, I7, n7⟩ := q7; exact again I7 n7
  | brk => obtain ⟨σ7, H7, I7, q7⟩ := q7; exact ⟨σ7, H7, I7.unpinned, q7⟩
  | ret v => obtain ⟨x7, σ7, H7, I7, r7, q7⟩ := q7; exact ⟨x7, σ7, H7, I7.unpinned, r7, q7⟩
end
end L2
namespace L2
open PySem PySem.Spec PyProof.Rows
abbrev R2 := V -> V -> Hp -> VK -> Prop
def OpR (X : Cx) (f : Value -> Value -> Sem Value) (r : R2) : Prop :=
 ∀ (pins : List (Addr × Obj)) (s : Shared) (σ : St) (H : Hp) (x y : V) (v u : Value) (Q : VK), Inv X pins σ H s -> RelV x v -> RelV y u -> r x y H Q ->
  wpAny (model X.prog X.w) X.A (f v u) (EP X pins σ Q) X.xe s
def UnR (X : Cx) (f : Value -> Sem Value) (r : V -> Hp -> VK -> Prop) : Prop :=
 ∀ (pins : List (Addr × Obj)) (s : Shared) (σ : St) (H : Hp) (x : V) (v : Value) (Q : VK), Inv X pins σ H s -> RelV x v -> r x H Q ->
  wpAny (model X.prog X.w) X.A (f v) (EP X pins σ Q) X.xe s
def q1S (X : Cx) (f : Value) (r : List V -> Hp -> VK -> Prop) : Prop :=
 ∀ (pins : List (Addr × Obj)) (s : Shared) (σ : St) (H : Hp) (xs : List V) (us : List Value) (Q : VK), Inv X pins σ H s -> Vals xs us -> r xs H Q ->
  wpAny (model X.prog X.w) X.A (call f us) (EP X pins σ Q) X.xe s
def tOp (r : R2) (ta tb : TE) : TE := fun σ H Q => ta σ H fun x H1 => tb σ H1 fun y H2 => r x y H2 Q
def tUn (r : V -> Hp -> VK -> Prop) (ta : TE) : TE := fun σ H Q => ta σ H fun x H1 => r x H1 Q
def rI (C : Int -> Int -> Prop) (g : Int -> Int -> V) : R2 := fun x y H Q => ∃ i j, x = .int i /\ y = .int j /\ C i j /\ Q (g i j) H
def rI0 (g : Int -> Int -> V) : R2 := fun x y H Q => ∃ i j, x = .int i /\ y = .int j /\ Q (g i j) H
def rU (g : Int -> V) : V -> Hp -> VK -> Prop := fun x H Q => ∃ i, x = .int i /\ Q (g i) H
section
variable {X : Cx} {a b c : Expr} {ta tb tc : TE} {pos : Pos}
theorem binT (ha : PE X a ta) (hb : PE X b tb) {pins : List (Addr × Obj)} {s : Shared} {σ : St} {H : Hp} {R : V -> V -> Hp -> Prop} (I : Inv X pins σ H s)
  (h : ta σ H fun x H1 => tb σ H1 fun y H2 => R x y H2) {Q : Value -> Shared -> Prop} {f : Value -> Value -> Sem Value}
  (hf : ∀ v u s2 x y H2, Inv X pins σ H2 s2 -> RelV x v -> RelV y u -> R x y H2 -> wpAny (model X.prog X.w) X.A (f v u) Q X.xe s2) :
  wpAny (model X.prog X.w) X.A (eval a X.env) (fun v s₁ => wpAny (model X.prog X.w) X.A (eval b X.env) (fun u s₂ => wpAny (model X.prog X.w) X.A (f v u) Q X.xe s₂) X.xe s₁) X.xe s := by
 refine thn (ha pins s σ H _ I h) fun v s1 ⟨x, H1, I1, r1, q1⟩ => ?_
 refine thn (hb pins s1 σ H1 _ I1 q1) fun u s2 ⟨y, H2, I2, r2, q2⟩ => ?_
 exact hf v u s2 x y H2 I2 r1 r2 q2
theorem qt {op : Operator} {r : R2} (ho : OpR X (binaryOp op) r) (ha : PE X a ta) (hb : PE X b tb) : PE X (.BinOp a op b pos) (tOp r ta tb) := by
 intro pins s σ H Q I h
 exact wpAny_BinOp (binT ha hb I h fun v u s2 x y H2 I2 rx ry q => ho pins s2 σ H2 x y v u Q I2 rx ry q)
theorem pe_un {op : UnaryOp} {r : V -> Hp -> VK -> Prop} (ho : UnR X (unaryOp op) r) (ha : PE X a ta) : PE X (.UnaryOp op a pos) (tUn r ta) := by
 intro pins s σ H Q I h
 exact UnaryOp_ (thn (ha pins s σ H _ I h) fun v s1 ⟨x, H1, I1, r1, q1⟩ => ho pins s1 σ H1 x v Q I1 r1 q1)
theorem opI {f : Value -> Value -> Sem Value} {C : Int -> Int -> Prop} {g : Int -> Int -> Int}
  (rule : ∀ (i j : Int) (t u : Tok) (s : Shared) (Q : Value -> Shared -> Prop) (E : Value -> Shared -> Prop), C i j -> Q (.int (g i j) s.toks) { s with toks := s.toks + 1 } -> wpAny (model X.prog X.w) X.A (f (.int i t) (.int j u)) Q E s) :
  OpR X f (rI C fun i j => .int (g i j)) := by
 intro pins s σ H x y v u Q I rx ry h
 obtain ⟨i, j, rfl, rfl, hc, q⟩ := h
 obtain ⟨t, rfl⟩ := rx
 obtain ⟨t', rfl⟩ := ry
 exact rule i j t t' s _ _ hc ⟨.int (g i j), H, I.tok _, ⟨_, rfl⟩, q⟩
theorem opI0 {f : Value -> Value -> Sem Value} {g : Int -> Int -> Int}
  (rule : ∀ (i j : Int) (t u : Tok) (s : Shared) (Q : Value -> Shared -> Prop) (E : Value -> Shared -> Prop), Q (.int (g i j) s.toks) { s with toks := s.toks + 1 } -> wpAny (model X.prog X.w) X.A (f (.int i t) (.int j u)) Q E s) :
  OpR X f (rI0 fun i j => .int (g i j)) := by
 intro pins s σ H x y v u Q I rx ry h
 obtain ⟨i, j, rfl, rfl, q⟩ := h
 obtain ⟨t, rfl⟩ := rx
 obtain ⟨t', rfl⟩ := ry
 exact rule i j t t' s _ _ ⟨.int (g i j), H, I.tok _, ⟨_, rfl⟩, q⟩
theorem opB0 {f : Value -> Value -> Sem Value} {g : Int -> Int -> Bool}
  (rule : ∀ (i j : Int) (t u : Tok) (s : Shared) (Q : Value -> Shared -> Prop) (E : Value -> Shared -> Prop), Q (.bool (g i j)) s -> wpAny (model X.prog X.w) X.A (f (.int i t) (.int j u)) Q E s) :
  OpR X f (rI0 fun i j => .bl (g i j)) := by
 intro pins s σ H x y v u Q I rx ry h
 obtain ⟨i, j, rfl, rfl, q⟩ := h
 obtain ⟨t, rfl⟩ := rx
 obtain ⟨t', rfl⟩ := ry
 exact rule i j t t' s _ _ ⟨.bl (g i j), H, I, rfl, q⟩
def CDiv (i j : Int) : Prop := 0 < j /\ j < 1073741824
def CPow (i j : Int) : Prop := 0 <= j /\ j <= 1000000 /\ i.natAbs < 2 ^ 64
def CMul (i j : Int) : Prop := (-(2 ^ 64) < i /\ i < 2 ^ 64) \/ (-(2 ^ 64) < j /\ j < 2 ^ 64)
theorem CMul.ok {i j : Int} (h : CMul i j) : IntMulOk i j := by
 rcases h with ⟨h1, h2⟩ | ⟨h1, h2⟩
 ·exact .of_left (intBits_le_64 h1 h2)
 ·exact .of_right (intBits_le_64 h1 h2)
theorem two_pow_nn (k : Nat) : (0 : Int) <= 2 ^ k := by
 rw [two_pow_cast]
 exact Int.natCast_nonneg _
theorem q1x : OpR X (binaryOp .Add) (rI0 fun i j => .int (i + j)) := opI0 fun _ _ _ _ _ _ _ q => add_int q
theorem q3a : OpR X (binaryOp .Sub) (rI0 fun i j => .int (i - j)) := opI0 fun _ _ _ _ _ _ _ q => sub_int q
theorem op_mul : OpR X (binaryOp .Mult) (rI CMul fun i j => .int (i * j)) := opI fun _ _ _ _ _ _ _ hc q => mul_int q hc.ok
theorem qV : OpR X (binaryOp .FloorDiv) (rI CDiv fun i j => .int (i / j)) := opI fun i j _ _ _ _ _ hc q => by
 have h1 : (0 : Int) < j := hc.1
 have h2 : j < 1073741824 := hc.2
 exact floordiv_int (by omega) (by rw [Int.fdiv_eq_ediv_of_nonneg i (by omega)]; exact q) (.inl (PyProof.noPylong_small (by omega)))
theorem qN : OpR X (binaryOp .Mod) (rI (fun _ j => 0 < j) fun i j => .int (i % j)) := opI fun i j _ _ _ _ _ hc q => by
 have h1 : (0 : Int) < j := hc
 exact mod_int' (by omega) (by rw [Int.fmod_eq_emod_of_nonneg i (by omega)]; exact q)
theorem q7T : OpR X (binaryOp .LShift) (rI CPow fun i j => .int (i * 2 ^ j.toNat)) := opI fun _ _ _ _ _ _ _ hc q => lshift_int_small hc.1 hc.2.1 hc.2.2 q
theorem op_shr : OpR X (binaryOp .RShift) (rI (fun _ j => 0 <= j) fun i j => .int (i / 2 ^ j.toNat)) := opI fun i j _ _ _ _ _ hc q =>
 rshift_int hc (by rw [Int.fdiv_eq_ediv_of_nonneg i (two_pow_nn _)]; exact q)
theorem op_and : OpR X (binaryOp .BitAnd) (rI0 fun i j => .int (Builtin.bitAnd i j)) := opI0 fun _ _ _ _ _ _ _ q => and_int q
theorem op_or : OpR X (binaryOp .BitOr) (rI0 fun i j => .int (Builtin.bitOr i j)) := opI0 fun _ _ _ _ _ _ _ q => or_int q
theorem op_xor : OpR X (binaryOp .BitXor) (rI0 fun i j => .int (Builtin.bitXor i j)) := opI0 fun _ _ _ _ _ _ _ q => xor_int q
theorem unI {f : Value -> Sem Value} {g : Int -> Int}
  (rule : ∀ (i : Int) (t : Tok) (s : Shared) (Q : Value -> Shared -> Prop) (E : Value -> Shared -> Prop), Q (.int (g i) s.toks) { s with toks := s.toks + 1 } -> wpAny (model X.prog X.w) X.A (f (.int i t)) Q E s) :
  UnR X f (rU fun i => .int (g i)) := by
 intro pins s σ H x v Q I rx h
 obtain ⟨i, rfl, q⟩ := h
 obtain ⟨t, rfl⟩ := rx
 exact rule i t s _ _ ⟨.int (g i), H, I.tok _, ⟨_, rfl⟩, q⟩
theorem un_neg : UnR X (unaryOp .USub) (rU fun i => .int (-i)) := unI fun _ _ _ _ _ q => neg_int q
end
def scal : V -> V -> Bool
 | .non, .non => true | .non, .int _ => true | .int _, .non => true | .non, .bl _ => true | .bl _, .non => true | .non, .str _ => true | .str _, .non => true
 | .int _, .int _ => true | .bl _, .bl _ => true | .str _, .str _ => true | .byt _, .byt _ => true
 | .int _, .str _ => true | .str _, .int _ => true | .bl _, .str _ => true | .str _, .bl _ => true
 | _, _ => false
def rEq : R2 := fun x y H Q => scal x y = true /\ Q (.bl (decide (x = y))) H
def rNe : R2 := fun x y H Q => scal x y = true /\ Q (.bl (!decide (x = y))) H
theorem q8D {i j : Int} : decide (V.int i = V.int j) = (i == j) := by
 rw [Bool.eq_iff_iff]
 simp
theorem qao {i j : Bool} : decide (V.bl i = V.bl j) = (i == j) := by
 rw [Bool.eq_iff_iff]
 simp
theorem q8C {i j : Str} : decide (V.str i = V.str j) = (i == j) := by
 rw [Bool.eq_iff_iff]
 simp
theorem q8E {i j : Array UInt8} : decide (V.byt i = V.byt j) = (i.toList == j.toList) := by
 rw [Bool.eq_iff_iff]
 cases i
 cases j
 simp
section
variable {X : Cx} {a b c : Expr} {ta tb tc : TE} {pos : Pos}
theorem qO {pins : List (Addr × Obj)} {σ : St} {H : Hp} {s : Shared} {Q : VK} {k k' : Bool} (I : Inv X pins σ H s) (q : Q (.bl k) H) (e : k = k') : EP X pins σ Q (.bool k') s := by
 subst e
 exact ⟨.bl k, H, I, rfl, q⟩
theorem q09 : OpR X (compareOp .Eq) rEq := by
 intro pins s σ H x y v u Q I rx ry h
 obtain ⟨hs, q⟩ := h
 cases x with
 | non =>
  cases rx
  cases y with
  | non => cases ry; exact PySem.EqNone.eq_none_none (qO I q (by simp))
  | bl j => cases ry; exact PySem.EqNone.eq_none_bool (qO I q (by simp))
  | int j => obtain ⟨t', rfl⟩ := ry; exact PySem.EqNone.eq_none_int (qO I q (by simp))
  | str j => obtain ⟨t', rfl⟩ := ry; exact PySem.EqNone.eq_none_str (qO I q (by simp))
  | _ => exact absurd (show false = true from hs) Bool.false_ne_true
 | bl i =>
  cases rx
  cases y with
  | non => cases ry; exact PySem.EqNone.eq_bool_none (qO I q (by simp))
  | bl j => cases ry; exact eq_bool (qO I q qao)
  | str j => obtain ⟨t', rfl⟩ := ry; exact PySem.EqMixed.eq_bool_str (qO I q (by simp))
  | _ => exact absurd (show false = true from hs) Bool.false_ne_true
 | int i =>
  obtain ⟨t, rfl⟩ := rx
  cases y with
  | non => cases ry; exact PySem.EqNone.eq_int_none (qO I q (by simp))
  | int j => obtain ⟨t', rfl⟩ := ry; exact eq_int (qO I q q8D)
  | str j => obtain ⟨t', rfl⟩ := ry; exact PySem.EqMixed.eq_int_str (qO I q (by simp))
  | _ => exact absurd (show false = true from hs) Bool.false_ne_true
 | str i =>
  obtain ⟨t, rfl⟩ := rx
  cases y with
  | non => cases ry; exact PySem.EqNone.eq_str_none (qO I q (by simp))
  | bl j => cases ry; exact PySem.EqMixed.eq_str_bool (qO I q (by simp))
  | int j => obtain ⟨t', rfl⟩ := ry; exact PySem.EqMixed.eq_str_int (qO I q (by simp))
  | str j => obtain ⟨t', rfl⟩ := ry; exact eq_str (qO I q q8C)
  | _ => exact absurd (show false = true from hs) Bool.false_ne_true
 | byt i =>
  obtain ⟨t, rfl⟩ := rx
  cases y with
  | byt j => obtain ⟨t', rfl⟩ := ry; exact PySem.W.eq_bytes (qO I q q8E)
  | _ => exact absurd (show false = true from hs) Bool.false_ne_true
 | _ => cases y <;> exact absurd (show false = true from hs) Bool.false_ne_true
theorem qaY : OpR X (compareOp .NotEq) rNe := by
 intro pins s σ H x y v u Q I rx ry h
 obtain ⟨hs, q⟩ := h
 cases x with
 | non =>
  cases rx
  cases y with
  | non => cases ry; exact PySem.EqNone.ne_none_none (qO I q (by simp))
  | bl j => cases ry; exact PySem.EqNone.ne_none_bool (qO I q (by simp))
  | int j => obtain ⟨t', rfl⟩ := ry; exact PySem.EqNone.ne_none_int (qO I q (by simp))
  | str j => obtain ⟨t', rfl⟩ := ry; exact PySem.EqNone.ne_none_str (qO I q (by simp))
  | _ => exact absurd (show false = true from hs) Bool.false_ne_true
 | bl i =>
  cases rx
  cases y with
  | non => cases ry; exact PySem.EqNone.ne_bool_none (qO I q (by simp))
  | bl j => cases ry; exact ne_bool (qO I q (congrArg not qao))
  | str j => obtain ⟨t', rfl⟩ := ry; exact PySem.EqMixed.ne_bool_str (qO I q (by simp))
  | _ => exact absurd (show false = true from hs) Bool.false_ne_true
 | int i =>
  obtain ⟨t, rfl⟩ := rx
  cases y with
  | non => cases ry; exact PySem.EqNone.ne_int_none (qO I q (by simp))
  | int j => obtain ⟨t', rfl⟩ := ry; exact ne_int (qO I q (congrArg not q8D))
  | str j => obtain ⟨t', rfl⟩ := ry; exact PySem.EqMixed.ne_int_str (qO I q (by simp))
  | _ => exact absurd (show false = true from hs) Bool.false_ne_true
 | str i =>
  obtain ⟨t, rfl⟩ := rx
  cases y with
  | non => cases ry; exact PySem.EqNone.ne_str_none (qO I q (by simp))
  | bl j => cases ry; exact PySem.EqMixed.ne_str_bool (qO I q (by simp))
  | int j => obtain ⟨t', rfl⟩ := ry; exact PySem.EqMixed.ne_str_int (qO I q (by simp))
  | str j => obtain ⟨t', rfl⟩ := ry; exact ne_str (qO I q (congrArg not q8C))
  | _ => exact absurd (show false = true from hs) Bool.false_ne_true
 | byt i =>
  obtain ⟨t, rfl⟩ := rx
  cases y with
  | byt j => obtain ⟨t', rfl⟩ := ry; exact PySem.W.ne_bytes (qO I q (congrArg not q8E))
  | _ => exact absurd (show false = true from hs) Bool.false_ne_true
 | _ => cases y <;> exact absurd (show false = true from hs) Bool.false_ne_true
theorem qaZ : OpR X (compareOp .Lt) (rI0 fun i j => .bl (decide (i < j))) := opB0 fun _ _ _ _ _ _ _ q => lt_int q
theorem q9o : OpR X (compareOp .LtE) (rI0 fun i j => .bl (decide (i <= j))) := opB0 fun _ _ _ _ _ _ _ q => le_int q
theorem q59 : OpR X (compareOp .Gt) (rI0 fun i j => .bl (decide (j < i))) := opB0 fun _ _ _ _ _ _ _ q => gt_int q
theorem op_ge : OpR X (compareOp .GtE) (rI0 fun i j => .bl (decide (j <= i))) := opB0 fun _ _ _ _ _ _ _ q => ge_int q
theorem qw (b : Expr) {op : CmpOp} (h : op ≠ .In := by decide) (h2 : op ≠ .NotIn := by decide) : behindInMarks op b = false := by
 have e1 : (op == CmpOp.In) = false := by cases op <;> first | rfl | exact absurd rfl h
 have e2 : (op == CmpOp.NotIn) = false := by cases op <;> first | rfl | exact absurd rfl h2
 cases b <;> simp [behindInMarks, e1, e2]
theorem q0e {op : CmpOp} {r : R2} (ho : OpR X (compareOp op) r) (ha : PE X a ta) (hb : PE X b tb) (hm : behindInMarks op b = false) : PE X (.Compare a [op] [b] pos) (tOp r ta tb) := by
 intro pins s σ H Q I h
 exact wpAny_Compare1 (binT ha hb I h fun v u s2 x y H2 I2 rx ry q => ho pins s2 σ H2 x y v u Q I2 rx ry q) hm
def tTest (t : TE) : TT := fun σ H Q => t σ H fun x H' => ∃ k, x = .bl k /\ Q k H'
theorem qr {op : CmpOp} {r : R2} (ho : OpR X (compareOp op) r) (ha : PE X a ta) (hb : PE X b tb) (hm : behindInMarks op b = false) : PT X (.Compare a [op] [b] pos) (tTest (tOp r ta tb)) := by
 intro pins s σ H Q I h
 refine wpAny_isTrue_Compare1 (thn (ha pins s σ H _ I h) fun v s1 ⟨x, H1, I1, r1, q1⟩ => thn (hb pins s1 σ H1 _ I1 q1) fun u s2 ⟨y, H2, I2, r2, q2⟩ =>
  thn (ho pins s2 σ H2 x y v u _ I2 r1 r2 q2) fun c s3 ⟨z, H3, I3, r3, k, e, q3⟩ => ?_) hm
 subst e
 cases r3
 exact wpAny_truthy_bool ⟨H3, I3, q3⟩
def qa8 (r r' : R2) (ta tb tc : TE) : TE := fun σ H Q => ta σ H fun x H1 => tb σ H1 fun y H2 => r x y H2 fun z H3 => ∃ k, z = .bl k /\
 (if k = true then tc σ H3 fun w' H4 => r' y w' H4 Q else Q (.bl false) H3)
theorem q9n {op op' : CmpOp} {r r' : R2} (ho : OpR X (compareOp op) r) (ho' : OpR X (compareOp op') r') (ha : PE X a ta) (hb : PE X b tb) (hc : PE X c tc)
  (hm : lastMarks [op, op'] [b, c] = false := by with_unfolding_all rfl) : PE X (.Compare a [op, op'] [b, c] pos) (qa8 r r' ta tb tc) := by
 intro pins s σ H Q I h
 refine Compare_chain (thn (ha pins s σ H _ I h) fun v s1 ⟨x, H1, I1, r1, q1⟩ => chain_link (thn (hb pins s1 σ H1 _ I1 q1) fun u s2 ⟨y, H2, I2, r2, q2⟩ =>
  thn (ho pins s2 σ H2 x y v u _ I2 r1 r2 q2) fun d s3 ⟨z, H3, I3, r3, k, e, q3⟩ => ?_)) hm
 subst e
 cases r3
 refine wpAny_truthy_bool ?_
 cases k with
 | false => exact ite_ff ⟨.bl false, H3, I3, rfl, q3⟩
 | true => exact ite_tt (chain_last (thn (hc pins s3 σ H3 _ I3 q3) fun w' s4 ⟨z', H4, I4, r4, q4⟩ => ho' pins s4 σ H4 y z' u w' Q I4 r2 r4 q4))
theorem q5c : (sizeLine : Nat) < 2 ^ 63 := by rw [sizeLine_eq]; decide
theorem q3s {x : V} {us : List Value} (r : Vals [x] us) : ∃ u, us = [u] /\ RelV x u := by
 cases r with
 | cons r1 r2 => cases r2; exact ⟨_, rfl, r1⟩
theorem q8Y {x y : V} {us : List Value} (r : Vals [x, y] us) : ∃ u w', us = [u, w'] /\ RelV x u /\ RelV y w' := by
 cases r with
 | cons r1 r2 =>
  cases r2 with
  | cons r3 r4 => cases r4; exact ⟨_, _, rfl, r1, r3⟩
theorem q8R : q1S X (.type "int") (fun xs H Q => (∃ i, xs = [.int i] /\ Q (.int i) H) \/ ∃ k, xs = [.bl k] /\ Q (.int (if k then 1 else 0)) H) := by
 intro pins s σ H xs us Q I r h
 rcases h with ⟨i, rfl, q⟩ | ⟨k, rfl, q⟩
 ·obtain ⟨u, rfl, t, rfl⟩ := q3s r
  exact call_int_int ⟨.int i, H, I, ⟨_, rfl⟩, q⟩
 ·obtain ⟨u, rfl, r1⟩ := q3s r
  cases r1
  exact call_int_bool ⟨.int (if k then 1 else 0), H, I.tok _, ⟨_, rfl⟩, q⟩
end
end L2
namespace L2
open PySem PySem.Spec PyProof.Rows
structure ObjM (h : Heap) (x dx C : Addr) (mA : Str -> Option Value) : Prop where
 obj : h.get? x = some (PySem.W.instObj C dx)
 ns : h.Ns1 dx mA
 ne : dx ≠ x
theorem q83 {h : Heap} {dx : Addr} {mA : Str -> Option Value} (n : h.Ns1 dx mA) : ∃ od, h.get? dx = some od /\ ∀ name, PySem.W.lookIn name od = some (mA name) := by
 obtain ⟨o, es, ep, ho, hd, hk, _, hm⟩ := n
 refine ⟨o, ho, fun name => ?_⟩
 have e := hm name
 unfold nsFind findBy at e
 rw [<- Array.find?_toList] at e
 unfold PySem.W.lookIn
 rw [hd]
 dsimp only
 split
 ·rename_i y q
  rw [q] at e
  exact congrArg some e
 ·rename_i q
  rw [q] at e
  have a : es.toList.any (·.refKey) = false := by
   rw [List.any_eq_false]
   intro y hy
   obtain ⟨z, t, hkey⟩ := hk y (Array.mem_toList_iff.mp hy)
   simp [DictEntry.refKey, hkey]
  have a' : ¬ es.toList.any (·.refKey) = true := by rw [a]; exact Bool.false_ne_true
  rw [if_neg a']
  exact congrArg some e
theorem ObjM.look {h : Heap} {x dx C : Addr} {mA : Str -> Option Value} (I : ObjM h x dx C mA) : ∃ od, PySem.W.InstAt h x (PySem.W.instObj C dx) C (some od) /\ ∀ name, PySem.W.lookIn name od = some (mA name) :=
 let ⟨od, ho, hl⟩ := q83 I.ns
 ⟨od, ⟨I.obj, rfl, rfl, ho⟩, hl⟩
section
variable {prog : Program} {w : World} {A : Around} {E : Value -> Shared -> Prop} {s : Shared} {K : PySem.W.Frag} {x dx C f : Addr} {mA : Str -> Option Value} {name : Str} {v : Value}
theorem qbr {expr : Bool} {Q : Value -> Shared -> Prop} (X : K.In s.heap) (I : ObjM s.heap x dx C mA) (hg : PySem.W.plainGet K C name = true) (hh : PySem.W.hasDictIn K C = true)
  (ha : PySem.W.findIn K (.ref C) name = some none) (hv : mA name = some v) (hv' : PySem.W.handedIn v = true) (h : Q v { s with toks := s.toks + 1 }) :
  wpAny (model prog w) A (getAttr (.ref x) name expr) Q E s := by
 obtain ⟨od, J, hl⟩ := I.look
 exact PySem.W.get_value X J (PySem.W.plainGet_of hg).1 (PySem.W.findObj_own hh ha rfl (by rw [hl, hv])) hv' h
theorem q9O {pl : Sem Bool} {Q : Value × List Value -> Shared -> Prop} (X : K.In s.heap) (I : ObjM s.heap x dx C mA) (hg : PySem.W.plainGet K C name = true)
  (hf : PySem.W.findIn K (.ref C) name = some (some (.ref f))) (ht : PySem.W.isFn K (.ref f) = true) (hv : mA name = none) (h : Q (.ref f, [.ref x]) s) :
  wpAny (model prog w) A (getMethod (.ref x) name pl) Q E s := by
 obtain ⟨od, J, hl⟩ := I.look
 exact PySem.W.method_fn X J (PySem.W.plainGet_of hg).1 (PySem.W.plainGet_of hg).2 hf (beq_iff_eq.mp ht) (by show (PySem.W.lookIn name od).map (·.isSome) = some false; rw [hl, hv]; rfl) h
theorem set_map {ns : List Str} {Q : Unit -> Shared -> Prop} (X : K.In s.heap) (I : ObjM s.heap x dx C mA)
  (hs : PySem.W.findIn K (.ref C) "__setattr__" = some (some (.builtin "object.__setattr__"))) (hp : PySem.W.plainOver K C = true) (ht : PySem.W.takerIn K C name = some none) (hh : PySem.W.hasDictIn K C = true)
  (hw : PySem.Within mA ns) (hsz : ns.length <= sizeLine)
  (h : ∀ h', ObjM h' x dx C (fun y => if y = name then some v else mA y) -> Heap.SameBut dx s.heap h' -> Q () { s with heap := h', toks := s.toks + 2 }) :
  wpAny (model prog w) A (setAttr (.ref x) name v) Q E s := by
 obtain ⟨od, J, hl⟩ := I.look
 refine PySem.W.set_plain X J hs (PySem.W.osa_open (s := { s with toks := s.toks + 1 }) (r := none) X J hp ht fun b => ?_)
 obtain ⟨cd, hc, hd'⟩ := PySem.W.any_some hh
 have hx : s.heap.get? x = some ⟨.ref C, some dx, .plain, #[]⟩ := I.obj
 refine wpAny_bind (wpAny_pure (wpAny_bind (wpAny_bind (wpAny_loadPart hx (wpAny_bind (PySem.W.Looks.here (s := { s with toks := s.toks + 1 }) (PySem.W.looks_clsIn X hc) ?_))))))
 rw [hd']
 refine wpAny_pure (a := some dx) (wpAny_bind (wpAny_pure (wpAny_bind ?_)))
 refine wpAny_nsSet1 (s := { s with toks := s.toks + 1 }) I.ns fun h' hn2 hs2 => ?_
 obtain ⟨oD, esD, epD, hoD, hdD, hcD⟩ := hn2.count (PySem.Within.cons name v hw)
 refine wpAny_bind (wpAny_lookBehind hoD (by rw [hdD]; exact pastItsLine_dict (Nat.le_trans hcD (by rw [List.length_cons]; omega))) ?_)
 exact wpAny_pure (h _ ⟨(hs2.2 _ (Ne.symm I.ne)).trans I.obj, hn2, I.ne⟩ hs2)
theorem q9G {R : Result -> Shared -> Prop} {vs : List Value} {kw : List (Str × Value)} (X : K.In s.heap) (hm : PySem.W.makesIn K C = true)
  (hi : PySem.W.findIn K (.ref C) "__init__" = some (some (.ref f))) (hf : PySem.W.typeIn K (.ref f) = some (.type "function"))
  (h : codeAny (model prog w) (A.under (.builtin "type.__call__" ⟨.ref C :: vs, kw⟩)) (.call (.ref f) ⟨.ref (s.heap.objs.size + 1) :: vs, kw⟩) (PySem.W.InitBack (s.heap.objs.size + 1) R)
   {s with heap := (s.heap.push PySem.W.emptyDict).push (PySem.W.instObj C s.heap.objs.size) }) :
  codeAny (model prog w) A (.call (.ref C) ⟨vs, kw⟩) R s := by
 obtain ⟨hh, g, d, t, os⟩ := s
 exact PySem.W.make_core (PySem.W.makes_of X hm) (PySem.W.looks_findIn X hi) (fun self => PySem.W.bind_fn X self hf) (.inl rfl) h
end
def putF (f : Str) (v : V) : List (Str × V) -> List (Str × V)
 | [] => [(f, v)]
 |(g, x) :: r => if g = f then (g, v) :: r else (g, x) :: putF f v r
theorem qF (f g : Str) (v : V) : ∀ fs : List (Str × V), (putF f v fs).lookup g = if g = f then some v else fs.lookup g
 | [] => by
  show List.lookup g [(f, v)] = _
  by_cases h : g = f
  ·have hb : (g == f) = true := beq_iff_eq.mpr h
   simp only [List.lookup, hb, if_pos h]
  ·have hb : (g == f) = false := beq_eq_false_iff_ne.mpr h
   simp only [List.lookup, hb, if_neg h]
 |(k, x) :: r => by
  have ih := qF f g v r
  rw [show putF f v ((k, x) :: r) = (if k = f then (k, v) :: r else (k, x) :: putF f v r) from rfl]
  by_cases hk : k = f
  ·rw [if_pos hk]
   by_cases h : g = k
   ·have hb : (g == k) = true := beq_iff_eq.mpr h
    simp only [List.lookup, hb, if_pos (h.trans hk)]
   ·have hb : (g == k) = false := beq_eq_false_iff_ne.mpr h
    simp only [List.lookup, hb, if_neg (fun e : g = f => h (e.trans hk.symm))]
  ·rw [if_neg hk]
   by_cases h : g = k
   ·have hb : (g == k) = true := beq_iff_eq.mpr h
    simp only [List.lookup, hb, if_neg (fun e : g = f => hk (h.symm.trans e))]
   ·have hb : (g == k) = false := beq_eq_false_iff_ne.mpr h
    simp only [List.lookup, hb]
    exact ih
theorem q3g (f : Str) (v : V) : ∀ fs : List (Str × V), f ∈ (putF f v fs).map (·.1) /\ ∀ g, g ∈ fs.map (·.1) -> g ∈ (putF f v fs).map (·.1)
 | [] => ⟨by simp [putF], fun g h => by simp at h⟩
 |(k, x) :: r => by
  obtain ⟨i1, i2⟩ := q3g f v r
  rw [show putF f v ((k, x) :: r) = (if k = f then (k, v) :: r else (k, x) :: putF f v r) from rfl]
  by_cases hk : k = f
  ·rw [if_pos hk]
   subst hk
   exact ⟨by simp, fun g h => by simpa using h⟩
  ·rw [if_neg hk]
   refine ⟨?_, fun g h => ?_⟩
   ·rw [List.map_cons]
    exact List.mem_cons_of_mem _ i1
   ·rw [List.map_cons] at h ⊢
    rcases List.mem_cons.mp h with e | e
    ·exact List.mem_cons.mpr (.inl e)
    ·exact List.mem_cons_of_mem _ (i2 g e)
theorem q3d (f : Str) (v : V) : ∀ fs : List (Str × V), (putF f v fs).length <= fs.length + 1
 | [] => by simp [putF]
 |(k, x) :: r => by
  have ih := q3d f v r
  rw [show putF f v ((k, x) :: r) = (if k = f then (k, v) :: r else (k, x) :: putF f v r) from rfl]
  by_cases hk : k = f
  ·rw [if_pos hk, List.length_cons, List.length_cons]; omega
  ·rw [if_neg hk, List.length_cons, List.length_cons]; omega
theorem RelO.some_of {v : V} {o : Option Value} (r : RelO (some v) o) : ∃ u, o = some u /\ RelV v u := by
 cases o with
 | none => exact (show False from r).elim
 | some u => exact ⟨u, rfl, r⟩
theorem RelO.none_of {o : Option Value} (r : RelO none o) : o = none := by
 cases o with
 | none => rfl
 | some u => exact (show False from r).elim
theorem q8o {v : V} {u : Value} (r : RelV v u) : PySem.W.handedIn u = true := by
 cases v with
 | non => cases (show u = Value.none from r); rfl
 | bl b => cases (show u = Value.bool b from r); rfl
 | int i => obtain ⟨t, e⟩ := (show ∃ t, u = Value.int i t from r); cases e; rfl
 | str x => obtain ⟨t, e⟩ := (show ∃ t, u = Value.str x t from r); cases e; rfl
 | byt b => obtain ⟨t, e⟩ := (show ∃ t, u = Value.bytes b t from r); cases e; rfl
 | flt b => obtain ⟨t, e⟩ := (show ∃ t, u = Value.float b t from r); cases e; rfl
 | ref a => cases (show u = Value.ref a from r); rfl
 | ty n => cases (show u = Value.type n from r); rfl
section
variable {P : Program} {w : World} {H H' : Hp} {h h' : Heap} {a C dx : Addr} {fs fs' : List (Str × V)}
theorem q4i (hok : HOk P w H h) (e : H a = some (.ins C dx fs)) : ∃ mA, ObjM h a dx C mA /\ (∀ f, RelO (fs.lookup f) (mA f)) /\ PySem.Within mA (fs.map (·.1)) /\ fs.length <= 1000 /\ H dx = some (.own a) := by
 obtain ⟨d, z, ne, ob, mA, n, r, q⟩ := (show q06 P w H h a (.ins C dx fs) from hok a _ e)
 exact ⟨mA, ⟨ob, n, ne⟩, r, q, z, d⟩
end
structure Cls (K : PySem.W.Frag) (C : Addr) : Prop where
 pg : PySem.W.plainGet K C Str.empty = true
 hd : PySem.W.hasDictIn K C = true
 po : PySem.W.plainOver K C = true
 sa : PySem.W.findIn K (.ref C) "__setattr__" = some (some (.builtin "object.__setattr__"))
theorem Cls.get {K : PySem.W.Frag} {C : Addr} (c : Cls K C) (f : Str) : PySem.W.plainGet K C f = true := c.pg
def qz (K : PySem.W.Frag) (C : Addr) (f : Str) : Prop := PySem.W.findIn K (.ref C) f = some none
theorem qz.taker {K : PySem.W.Frag} {C : Addr} {f : Str} (n : qz K C f) : PySem.W.takerIn K C f = some none := by
 unfold PySem.W.takerIn
 rw [show PySem.W.findIn K (.ref C) f = some none from n]
 rfl
structure Meth (K : PySem.W.Frag) (C : Addr) (m : Str) (f : Addr) : Prop where
 at_ : PySem.W.findIn K (.ref C) m = some (some (.ref f))
 fn : PySem.W.isFn K (.ref f) = true
 kp : PySem.W.keepIn K (.ref f) = true
section
variable {X : Cx} {pins : List (Addr × Obj)} {σ : St} {H : Hp} {s : Shared} {a C dx : Addr} {fs : List (Str × V)} {f : Str} {v : V} {A : Around} {E : Value -> Shared -> Prop}
theorem q77 {b : Bool} {Q : Value -> Shared -> Prop} (I : Inv X pins σ H s) (e : H a = some (.ins C dx fs)) (c : Cls X.K C) (n : qz X.K C f) (l : fs.lookup f = some v)
  (h : ∀ u s', Inv X pins σ H s' -> RelV v u -> Q u s') : wpAny (model X.prog X.w) A (getAttr (.ref a) f b) Q E s := by
 obtain ⟨mA, O, r, _, _, _⟩ := q4i I.hok e
 obtain ⟨u, hu, ru⟩ := RelO.some_of (v := v) (o := mA f) (by rw [<- l]; exact r f)
 exact qbr I.kIn O (c.get f) c.hd n hu (q8o ru) (h u _ (I.tok _) ru)
theorem q3L {m : Str} {g : Addr} {pl : Sem Bool} {Q : Value × List Value -> Shared -> Prop} (I : Inv X pins σ H s) (e : H a = some (.ins C dx fs)) (c : Cls X.K C) (k : Meth X.K C m g) (l : fs.lookup m = none)
  (h : Q (.ref g, [.ref a]) s) : wpAny (model X.prog X.w) A (getMethod (.ref a) m pl) Q E s := by
 obtain ⟨mA, O, r, _, _, _⟩ := q4i I.hok e
 have hn : mA m = none := RelO.none_of (by rw [<- l]; exact r m)
 exact q9O I.kIn O (c.get m) k.at_ k.fn hn h
theorem q6M {y : V} {u : Value} {Q : Unit -> Shared -> Prop} (I : Inv X pins σ H s) (e : H a = some (.ins C dx fs)) (c : Cls X.K C) (n : qz X.K C f) (hl : fs.length < 1000) (ry : RelV y u)
  (h : ∀ s', Inv X pins σ (upd H a (.ins C dx (putF f y fs))) s' -> Q () s') : wpAny (model X.prog X.w) A (setAttr (.ref a) f u) Q E s := by
 obtain ⟨mA, O, r, wi, _, ho⟩ := q4i I.hok e
 have hz : (fs.map (·.1)).length <= sizeLine := by rw [List.length_map, sizeLine_eq]; omega
 refine set_map I.kIn O c.sa c.po n.taker c.hd wi hz fun h' O' sb => h _ ?_
 have hd : ∃ o, h'.get? dx = some o := let ⟨o, _, _, e', _⟩ := O'.ns; ⟨o, e'⟩
 refine I.write (x := a) (e := dx) (by rw [e]; exact True.intro) (.inr ho) (fun b q hb z => (sb.2 b hb).trans z) hd ?_
 refine ⟨by rw [ql O.ne]; exact ho, ?_, O.ne, O'.obj, _, O'.ns, fun g => ?_, fun g hg => ?_⟩
 ·have := q3d f y fs; omega
 ·show RelO ((putF f y fs).lookup g) (if g = f then some u else mA g)
  rw [qF]
  by_cases q : g = f
  ·rw [if_pos q, if_pos q]; exact ry
  ·rw [if_neg q, if_neg q]; exact r g
 ·by_cases q : g = f
  ·rw [q]; exact (q3g f y fs).1
  ·refine (q3g f y fs).2 g (wi g fun z => hg ?_)
   show (if g = f then some u else mA g) = none
   rw [if_neg q]; exact z
theorem Inv.made (I : Inv X pins σ H s) : Inv X pins σ (upd (upd H s.heap.objs.size (.own (s.heap.objs.size + 1))) (s.heap.objs.size + 1) (.ins C s.heap.objs.size []))
  {s with heap := (s.heap.push PySem.W.emptyDict).push (PySem.W.instObj C s.heap.objs.size) } := by
 have e1 : (s.heap.push PySem.W.emptyDict).get? s.heap.objs.size = some PySem.W.emptyDict := Heap.get?_push_size s.heap rfl
 have e2 : ((s.heap.push PySem.W.emptyDict).push (PySem.W.instObj C s.heap.objs.size)).get? (s.heap.objs.size + 1) = some (PySem.W.instObj C s.heap.objs.size) := by
  have := Heap.get?_push_size (s.heap.push PySem.W.emptyDict) (o := PySem.W.instObj C s.heap.objs.size) rfl
  rwa [Heap.size_push] at this
 have e3 : (s.heap.push PySem.W.emptyDict).Ns s.heap.objs.size (fun _ => none) := ⟨PySem.W.emptyDict, #[], _, e1, rfl, (fun e he => absurd he (by simp)), fun _ => rfl⟩
 have I1 := I.laid (a := s.heap.objs.size) (o := .own (s.heap.objs.size + 1)) (h' := s.heap.push PySem.W.emptyDict) (t' := s.toks) (fun b u q => Heap.get?_push_of_some _ q) (Nat.le_refl _) ⟨_, e1⟩
 refine I1.laid (a := s.heap.objs.size + 1) (o := .ins C s.heap.objs.size []) (t' := s.toks) (fun b u q => Heap.get?_push_of_some _ q) (Nat.le_of_eq (Heap.size_push _ _)) ?_
 have ne : s.heap.objs.size ≠ s.heap.objs.size + 1 := Nat.ne_of_lt (Nat.lt_succ_self _)
 refine ⟨by rw [ql ne, qb], Nat.zero_le _, ne, e2, fun _ => none, (Heap.Ns1.of_empty e3).at fun o q => Heap.get?_push_of_some _ q, fun _ => True.intro, fun y hy => absurd rfl hy⟩
theorem qbG {prog : Program} {w : World} {env : Env} {e : Expr} {f : Str} {pos : Pos} {s : Shared} {Q : Value -> Shared -> Prop} (hb : attributeBase e f env (eval e env) = eval e env)
  (h : wpAny (model prog w) A (eval e env) (fun o s₁ => wpAny (model prog w) A (getAttr o f true) Q E s₁) E s) : wpAny (model prog w) A (eval (.Attribute e f pos) env) Q E s :=
 Attribute_any_ h (by rw [arm_eval_Attribute, hb])
end
def tFld (K : PySem.W.Frag) (ta : TE) (f : Str) : TE := fun σ H Q => ta σ H fun x H1 => ∃ a C dx fs v, x = .ref a /\ H1 a = some (.ins C dx fs) /\ Cls K C /\ qz K C f /\ fs.lookup f = some v /\ Q v H1
def sFld (K : PySem.W.Frag) (ta tv : TE) (f : Str) : TS := fun D σ H => tv σ H fun y H1 => ta σ H1 fun x H2 => ∃ a C dx fs, x = .ref a /\ H2 a = some (.ins C dx fs) /\ Cls K C /\ qz K C f /\ fs.length < 1000 /\
 D.nx σ (upd H2 a (.ins C dx (putF f y fs)))
section
variable {X : Cx} {o e value : Expr} {f : Str} {pos pos' tpos : Pos} {ta tv : TE}
theorem pe_fld (he : PE X e ta) (hb : attributeBase e f X.env (eval e X.env) = eval e X.env) : PE X (.Attribute e f pos) (tFld X.K ta f) := by
 intro pins s σ H Q I h
 refine qbG hb (thn (he pins s σ H _ I h) fun u s1 ⟨x, H1, I1, rx, a, C, dx, fs, v, ex, ea, c, n, l, q⟩ => ?_)
 subst ex
 obtain rfl : u = Value.ref a := rx
 exact q77 I1 ea c n l fun u' s2 I2 ru => ⟨v, H1, I2, ru, q⟩
theorem ps_fld (ha : PE X o ta) (hv : PE X value tv) (hs : swapsWith value (some (.Attribute o f pos')) pos.line X.env = pure false) : PS X (.Assign [.Attribute o f pos'] value pos) (sFld X.K ta tv f) := by
 intro pins s σ H D I h
 refine plainObj_wpAny_Assign_Attribute (thn (hv pins s σ H _ I h) fun u s1 ⟨y, H1, I1, ry, q⟩ => thn (ha pins s1 σ H1 _ I1 q) fun ov s2 ⟨x, H2, I2, rx, a, C, dx, fs, ex, ea, c, n, l, q2⟩ => ?_) hs
 subst ex
 obtain rfl : ov = Value.ref a := rx
 exact q6M I2 ea c n l ry fun s3 I3 => ⟨σ, _, I3, q2⟩
end
section
variable {X : Cx} {pins : List (Addr × Obj)} {σ : St} {H : Hp} {s : Shared} {A : Around} {E : Value -> Shared -> Prop} {Q : Value -> Shared -> Prop} {c : Value} {b : Bool}
inductive TyOf (K : PySem.W.Frag) (H : Hp) : V -> Value -> Prop where
 | non : TyOf K H .non (.type "NoneType")
 | bl (x : Bool) : TyOf K H (.bl x) (.type "bool")
 | int (i : Int) : TyOf K H (.int i) (.type "int")
 | str (x : Str) : TyOf K H (.str x) (.type "str")
 | flt (x : UInt64) : TyOf K H (.flt x) (.type "float")
 | lst {a : Addr} {xs : List V} (e : H a = some (.lst xs)) : TyOf K H (.ref a) (.type "list")
 | frz {a : Addr} {o : Obj} {xs : List V} (e : H a = some (.frz o (.lst xs))) : TyOf K H (.ref a) (.type "list")
 | tup {a : Addr} {xs : List V} (e : H a = some (.tup xs)) : TyOf K H (.ref a) (.type "tuple")
 | dK {a : Addr} {kvs : List (Key × V)} (e : H a = some (.dK kvs)) : TyOf K H (.ref a) (.type "dict")
 | dT {a : Addr} {kvs : List (List Key × V)} (e : H a = some (.dT kvs)) : TyOf K H (.ref a) (.type "dict")
 | ins {a C dx : Addr} {fs : List (Str × V)} (e : H a = some (.ins C dx fs)) (cl : Cls K C) (ha : PySem.W.findIn K (.ref C) "__class__" = some (some (.builtin "object.__class__")))
   (hn : PySem.W.specialIn K (.builtin "object.__class__") "__get__" = some (some (.builtin "getset_descriptor.__get__"))) (htk : PySem.W.takesIn K (.builtin "object.__class__") = some true)
   (hm : PySem.W.mroIn K C (.type "object") = some true) : TyOf K H (.ref a) (.ref C)
theorem q8e {x : V} {u t : Value} (I : Inv X pins σ H s) (rx : RelV x u) (ty : TyOf X.K H x t) (e : PySem.W.kitOne X.K t c = some b) (h : ∀ tk, Q (.bool b) { s with toks := tk }) :
  wpAny (model X.prog X.w) A (call (.builtin "isinstance") [u, c]) Q E s := by
 cases ty with
 | non => cases (show u = Value.none from rx); exact PySem.W.kia_one PySem.W.kitx_none I.kIn True.intro e (fun z => nomatch z) h
 | bl y => cases (show u = Value.bool y from rx); exact PySem.W.kia_one PySem.W.kitx_bool I.kIn True.intro e (fun z => nomatch z) h
 | int i => obtain ⟨t, q⟩ := (show ∃ t, u = Value.int i t from rx); cases q; exact PySem.W.kia_one PySem.W.kitx_int I.kIn True.intro e (fun z => nomatch z) h
 | str y => obtain ⟨t, q⟩ := (show ∃ t, u = Value.str y t from rx); cases q; exact PySem.W.kia_one PySem.W.kitx_str I.kIn True.intro e (fun z => nomatch z) h
 | flt y => obtain ⟨t, q⟩ := (show ∃ t, u = Value.float y t from rx); cases q; exact PySem.W.kia_one PySem.W.kitx_float I.kIn True.intro e (fun z => nomatch z) h
 | @lst a xs ea =>
  cases (show u = Value.ref a from rx)
  obtain ⟨_, _, n, _, h1⟩ := (show q06 X.prog X.w H s.heap a (.lst xs) from I.hok a _ ea)
  exact PySem.W.kia_one PySem.W.kitx_list I.kIn ⟨_, h1, rfl⟩ e (fun z => nomatch z) h
 | @frz a ob xs ea =>
  cases (show u = Value.ref a from rx)
  obtain ⟨_, _, _, n, _, h1⟩ := (show q06 X.prog X.w H s.heap a (.frz ob (.lst xs)) from I.hok a _ ea)
  exact PySem.W.kia_one PySem.W.kitx_list I.kIn ⟨_, h1, rfl⟩ e (fun z => nomatch z) h
 | @tup a xs ea =>
  cases (show u = Value.ref a from rx)
  obtain ⟨_, _, _, p⟩ := (show q06 X.prog X.w H s.heap a (.tup xs) from I.hok a _ ea)
  obtain ⟨o, h1, h2, _⟩ := p
  exact PySem.W.kia_one PySem.W.kitx_tuple I.kIn ⟨o, h1, h2⟩ e (fun z => nomatch z) h
 | @dK a kvs ea =>
  cases (show u = Value.ref a from rx)
  obtain ⟨_, _, vs, _, p⟩ := (show q06 X.prog X.w H s.heap a (.dK kvs) from I.hok a _ ea)
  obtain ⟨o, es, ep, h1, h2, _⟩ := p
  exact PySem.W.kia_one PySem.W.kitx_dict I.kIn ⟨o, h1, h2.1⟩ e (fun z => nomatch z) h
 | @dT a kvs ea =>
  cases (show u = Value.ref a from rx)
  obtain ⟨_, _, xs, _, o, es, ep, h1, h2, _⟩ := (show q06 X.prog X.w H s.heap a (.dT kvs) from I.hok a _ ea)
  exact PySem.W.kia_one PySem.W.kitx_dict I.kIn ⟨o, h1, h2.1⟩ e (fun z => nomatch z) h
 | @ins a C dx fs ea cl ha hn htk hm =>
  cases (show u = Value.ref a from rx)
  obtain ⟨mA, O, _⟩ := q4i I.hok ea
  obtain ⟨od, J, _⟩ := O.look
  exact PySem.W.kia_one (PySem.W.kitx_own (cl.get _) cl.hd ha hn htk hm) I.kIn J e (fun z => nomatch z) h
end
end L2
namespace L2
open PySem PySem.Spec PyProof.Rows
structure Room (k : Nat) (A : Around) : Prop where
 hd : A.handled = none
 dp : A.depth + 3 * k + 5 < recursionLimit
 un : A.units + 16 * k + 200 < cLine
 gd : A.guards = some []
theorem Room.mono {j k : Nat} {A : Around} (r : Room k A) (h : j <= k) : Room j A := ⟨r.hd, by have := r.dp; omega, by have := r.un; omega, r.gd⟩
theorem Room.deeper {k : Nat} {A : Around} (r : Room (k + 1) A) (env : Env) : Room k (A.deeper env) :=
 ⟨r.hd, by have := r.dp; show A.depth + 1 + 3 * k + 5 < _; omega, by have := r.un; show A.units + 3 + 16 * k + 200 < _; omega, r.gd⟩
theorem q73 {A : Around} {C : Addr} {us : List Value} {kw : List (Str × Value)} : (A.under (.builtin "type.__call__" ⟨.ref C :: us, kw⟩)).depth = A.depth + 1 := by
 first | rfl | simp [Around.under, Code.weight, Code.isCreation, Code.isGuard, Code.isCaller, Code.frames, Code.isFrame, guardIds]
theorem q72 {A : Around} {C : Addr} {us : List Value} {kw : List (Str × Value)} : (A.under (.builtin "type.__call__" ⟨.ref C :: us, kw⟩)).units = A.units + 1 := by
 first | rfl | simp [Around.under, Code.cUnits, Code.frames, Code.isFrame]
theorem Room.make {k : Nat} {A : Around} (r : Room (k + 1) A) (C : Addr) (us : List Value) (kw : List (Str × Value)) : Room k (A.under (.builtin "type.__call__" ⟨.ref C :: us, kw⟩)) :=
 ⟨r.hd, by have := r.dp; rw [q73]; omega, by have := r.un; rw [q72]; omega, by simp [Around.under, Code.guards, Code.isGuard, guardIds, pushGuards, r.gd]⟩
theorem Room.depth {k : Nat} {A : Around} (r : Room k A) : A.depth < recursionLimit := by have := r.dp; omega
theorem Room.units {k : Nat} {A : Around} (r : Room k A) : A.units + 64 < cLine := by have := r.un; omega
def tNil : TA := fun _ H Q => Q [] H
def tCons (ta : TE) (tr : TA) : TA := fun σ H Q => ta σ H fun x H1 => tr σ H1 fun xs H2 => Q (x :: xs) H2
section
variable {X : Cx} {e : Expr} {es : List Expr} {te : TE} {t : TA} {pos : Pos}
theorem qd : PA X [] tNil := fun _ _ _ _ H Q I h => Calls.spliced_nil ⟨[], H, I, .nil, h⟩
theorem qa (ha : PE X e te) (hr : PA X es t) (hs : starEach (e :: es) X.env = (false, eval e X.env) :: starEach es X.env := by rfl) : PA X (e :: es) (tCons te t) := by
 intro pos pins s σ H Q I h
 rw [hs]
 show wpAny _ _ (spliced ((false, eval e X.env) :: backTo pos (starEach es X.env))) _ _ s
 refine Calls.spliced_cons (thn (ha pins s σ H _ I h) fun u s1 ⟨x, H1, I1, r1, q1⟩ => ?_)
 exact thn (hr pos pins s1 σ H1 _ I1 q1) fun us s2 ⟨xs, H2, I2, r2, q2⟩ => ⟨x :: xs, H2, I2, .cons r1 r2, q2⟩
def tTup (t : TA) : TE := fun σ H Q => t σ H fun xs H1 => xs.length <= sizeLine /\ ∀ p, H1 p = none -> Q (.ref p) (upd H1 p (.tup xs))
def tLst (t : TA) : TE := fun σ H Q => t σ H fun xs H1 => xs.length <= sizeLine /\ ∀ p, H1 p = none -> Q (.ref p) (upd H1 p (.lst xs))
theorem qM {x1} (h : PA X es t) : PE X (.Tuple es x1 pos) (tTup t) := by
 intro pins s σ H Q I hq
 refine wpAny_Tuple_spliced (thn (h pos pins s σ H _ I hq) fun us s1 ⟨xs, H1, I1, r, z, q⟩ => ⟨by rw [<- r.length]; exact z, ?_⟩)
 have hf : H1 s1.heap.objs.size = none := I1.hok.fresh (Nat.le_refl _)
 refine ⟨.ref s1.heap.objs.size, upd H1 s1.heap.objs.size (.tup xs), I1.laid (t' := s1.toks) (fun b u e => Heap.get?_push_of_some _ e) (Nat.le_refl _) ?_, rfl, q _ hf⟩
 exact ⟨z, us, r, ⟨_, Heap.get?_push_size _ rfl, rfl, _, rfl⟩⟩
theorem q3J (h : PA X es t) : PE X (.List es pos) (tLst t) := by
 intro pins s σ H Q I hq
 refine wpAny_List_spliced (thn (h pos pins s σ H _ I hq) fun us s1 ⟨xs, H1, I1, r, z, q⟩ => ⟨by rw [<- r.length]; exact z, ?_⟩)
 have hf : H1 s1.heap.objs.size = none := I1.hok.fresh (Nat.le_refl _)
 refine ⟨.ref s1.heap.objs.size, upd H1 s1.heap.objs.size (.lst xs), I1.laid (t' := s1.toks) (fun b u e => Heap.get?_push_of_some _ e) (Nat.le_refl _) ?_, rfl, q _ hf⟩
 exact ⟨z, us, 0, r, Heap.get?_push_size _ rfl⟩
end
abbrev Sp := List V -> Hp -> VK -> XK -> Prop
abbrev CXT := List Env -> Hp -> Shared -> XK -> Value -> Shared -> Prop
structure Env0 (P : Program) (w : World) (K : PySem.W.Frag) (mg : Str -> Option Value) (base : Heap) (A : Around) (outer : List Env) (s : Shared) (H : Hp) : Prop where
 frames : A.frames = some outer
 mod : Mod K mg base
 bs : ∀ b o, base.get? b = some o -> s.heap.get? b = some o /\ H b = none
 bsz : base.objs.size <= s.heap.objs.size
 funs : s.heap.FunFrames base outer
 frf : ∀ b ∈ frs outer, H b = none
 hok : HOk P w H s.heap
 bare : AllBare s.gens
def CE (outer : List Env) (P : Program) (w : World) (H : Hp) (s : Shared) (Q : VK) (u : Value) (s' : Shared) : Prop :=
 ∃ v H', s'.os = s.os /\ AllBare s'.gens /\ Un (frs outer) [] H H' s.heap s'.heap /\ HOk P w H' s'.heap /\ RelV v u /\ Q v H'
def CR (CX : CXT) (outer : List Env) (P : Program) (w : World) (H : Hp) (s : Shared) (Q : VK) (E : XK) (r : Result) (s' : Shared) : Prop :=
 match r with
 | .ok (.ret u) => CE outer P w H s Q u s'
 | .ok _ => False
 | .error e => CX outer H s E e s'
structure FnOk (P : Program) (w : World) (K : PySem.W.Frag) (mg : Str -> Option Value) (base : Heap) (CX : CXT) (k : Nat) (f : Addr) (fd : FuncData) (ps : List Str) (sp : Sp) : Prop where
 len : ∀ vs H Q E, sp vs H Q E -> vs.length = ps.length
 run : ∀ (A : Around) (outer : List Env) (s : Shared) (H : Hp) (args : Args) (us : List Value) (vs : List V) (Q : VK) (E : XK), Room k A -> Env0 P w K mg base A outer s H -> BindsTo s fd args (ps.zip us) -> Vals vs us -> sp vs H Q E ->
  codeAny (model P w) A (.call (.ref f) args) (CR CX outer P w H s Q E) s
theorem Env0.make {P : Program} {w : World} {K : PySem.W.Frag} {mg : Str -> Option Value} {base : Heap} {A : Around} {outer : List Env} {s : Shared} {H : Hp} (e : Env0 P w K mg base A outer s H) (C : Addr) (us : List Value) (kw : List (Str × Value)) :
  Env0 P w K mg base (A.under (.builtin "type.__call__" ⟨.ref C :: us, kw⟩)) outer s H := ⟨by first | exact e.frames | (simpa [Around.under, Code.envs, Code.isFrame, pushEnvs] using e.frames), e.mod, e.bs, e.bsz, e.funs, e.frf, e.hok, e.bare⟩
section
variable {X : Cx} {pins : List (Addr × Obj)} {σ : St} {H : Hp} {s s' : Shared}
theorem Inv.env0 (I : Inv X pins σ H s) : Env0 X.prog X.w X.K X.mg X.base X.A X.stack s H :=
 ⟨I.ok.frames, I.ok.mod, I.bs, Nat.le_trans I.ok.bsz I.sz, I.stack, I.stkFree, I.hok, I.bare⟩
theorem Inv.after {Q : VK} {u : Value} (I : Inv X pins σ H s) (h : CE X.stack X.prog X.w H s Q u s') : EP X pins σ Q u s' := by
 obtain ⟨v, H', os, bare, un, hok, r, q⟩ := h
 obtain ⟨hh, g, d, t, os'⟩ := s'
 obtain rfl : os' = s.os := os
 exact ⟨v, H', I.call (h' := hh) (g' := g) (d' := d) (t' := t) (ch := []) un hok bare (fun b z => absurd z (by simp)), r, q⟩
end
def q7l (sp : Sp) (dvs : List V) (E : XK) (t : TA) : TE := fun σ H Q => t σ H fun vs H1 => sp (vs ++ dvs) H1 Q E
def q7j (C : Addr) (sp : Sp) (dvs : List V) (E : XK) (t : TA) : TE := fun σ H Q => t σ H fun vs H1 => ∀ x dx, H1 x = none -> H1 dx = none -> dx ≠ x ->
 sp (.ref x :: (vs ++ dvs)) (upd (upd H1 dx (.own x)) x (.ins C dx [])) (fun v H2 => v = .non /\ Q (.ref x) H2) E
def q1T (K : PySem.W.Frag) (fd : FuncData) (ps : List Str) (ds : List Value) : Prop :=
 ∀ (s : Shared) (us : List Value), K.In s.heap -> (us ++ ds).length = ps.length -> BindsTo s fd ⟨us, []⟩ (ps.zip (us ++ ds))
theorem q1T.all {K : PySem.W.Frag} {fd : FuncData} {ps : List Str} (h : ∀ us : List Value, us.length = ps.length -> bindArgs fd ⟨us, []⟩ = pure (ps.zip us)) : q1T K fd ps [] := fun s us _ hl => by
 rw [List.append_nil] at hl ⊢
 exact .of_eq (h us hl)
def q3N (CX : CXT) (X : Cx) (E : XK) : Prop := ∀ (pins : List (Addr × Obj)) (σ : St) (H : Hp) (s : Shared) (e : Value) (s' : Shared), Inv X pins σ H s -> CX X.stack H s E e s' -> X.xe e s'
section
variable {X : Cx} {CX : CXT} {k : Nat} {f C : Addr} {fd : FuncData} {ps : List Str} {sp : Sp} {dvs : List V} {ds : List Value} {E : XK} {x m : Str} {p pos apos : Pos} {e o : Expr} {es : List Expr} {ta : TE} {t : TA}
theorem q6b {pins : List (Addr × Obj)} {σ : St} {H : Hp} {s : Shared} {Q : VK} {us : List Value} {vs : List V} (F : FnOk X.prog X.w X.K X.mg X.base CX k f fd ps sp) (hr : Room k X.A) (hb : q1T X.K fd ps ds) (hd : Vals dvs ds) (hx : q3N CX X E)
  (I : Inv X pins σ H s) (r : Vals vs us) (h : sp (vs ++ dvs) H Q E) : wpAny (model X.prog X.w) X.A (call (.ref f) us) (EP X pins σ Q) X.xe s := by
 have r2 : Vals (vs ++ dvs) (us ++ ds) := r.append hd
 have hl : (us ++ ds).length = ps.length := by rw [<- r2.length]; exact F.len _ _ _ _ h
 refine wpAny_call (codeAny_mono (F.run X.A X.stack s H ⟨us, []⟩ (us ++ ds) (vs ++ dvs) Q E hr I.env0 (hb s us I.kIn hl) r2 h) fun r s' hq => ?_)
 cases r with
 | error e => exact hx pins σ H s e s' I hq
 | ok fl =>
  cases fl with
  | ret u => exact I.after hq
  | next => exact False.elim hq
  | brk => exact False.elim hq
  | cont => exact False.elim hq
theorem q7O (F : FnOk X.prog X.w X.K X.mg X.base CX k f fd ps sp) (hr : Room k X.A) (hg : Gl X x) (hm : X.mg x = some (.ref f)) (hk : PySem.W.keepIn X.K (.ref f) = true) (hb : q1T X.K fd ps ds) (hd : Vals dvs ds) (hx : q3N CX X E)
  (ha : PA X (e :: es) t) (hdb : (x == ("__debug__" : Str)) = false := by decide) (he : starEach (e :: es) X.env = (false, eval e X.env) :: starEach es X.env := by rfl) (hpl : (backTo pos (starEach es X.env)).any (·.1) = false := by rfl) :
  PE X (.Call (.Name x p) (e :: es) [] pos) (q7l sp dvs E t) := by
 intro pins s σ H Q I h
 refine wpAny_Call_Name_kw (q3e I hg hm ?_ hdb)
 refine PySem.W.callWith_K (h₀ := X.base) I.ok.mod.kin hk (thn (ha pos pins s σ H _ I h) fun us s1 ⟨vs, H1, I1, r, q⟩ => ⟨I1.kIn, ?_⟩) he hpl
 exact q6b F hr hb hd hx I1 r q
structure Mk (K : PySem.W.Frag) (C f : Addr) : Prop where
 makes : PySem.W.makesIn K C = true
 init : PySem.W.findIn K (.ref C) "__init__" = some (some (.ref f))
 fn : PySem.W.isFn K (.ref f) = true
 kp : PySem.W.keepIn K (.ref C) = true
theorem q6a {pins : List (Addr × Obj)} {σ : St} {H : Hp} {s : Shared} {Q : VK} {us : List Value} {vs : List V} (M : Mk X.K C f) (F : FnOk X.prog X.w X.K X.mg X.base CX k f fd ps sp) (hr : Room (k + 1) X.A) (hb : q1T X.K fd ps ds) (hd : Vals dvs ds)
  (hx : q3N CX X E) (I : Inv X pins σ H s) (r : Vals vs us)
  (h : ∀ x dx, H x = none -> H dx = none -> dx ≠ x -> sp (.ref x :: (vs ++ dvs)) (upd (upd H dx (.own x)) x (.ins C dx [])) (fun v H2 => v = .non /\ Q (.ref x) H2) E) :
  wpAny (model X.prog X.w) X.A (call (.ref C) us) (EP X pins σ Q) X.xe s := by
 have hq := h (s.heap.objs.size + 1) s.heap.objs.size (I.hok.fresh (Nat.le_succ _)) (I.hok.fresh (Nat.le_refl _)) (Nat.ne_of_lt (Nat.lt_succ_self _))
 have I2 := Inv.made (C := C) I
 have r2 : Vals (V.ref (s.heap.objs.size + 1) :: (vs ++ dvs)) (Value.ref (s.heap.objs.size + 1) :: (us ++ ds)) := .cons rfl (r.append hd)
 have hl : (Value.ref (s.heap.objs.size + 1) :: us ++ ds).length = ps.length := by
  have e := r2.length
  rw [F.len _ _ _ _ hq] at e
  exact e.symm
 refine wpAny_call (q9G (f := f) I.kIn M.makes M.init (beq_iff_eq.mp M.fn) (codeAny_mono (F.run _ X.stack _ _ ⟨Value.ref (s.heap.objs.size + 1) :: us, []⟩ (Value.ref (s.heap.objs.size + 1) :: (us ++ ds)) _ _ E (hr.make C us [])
  (I2.env0.make C us []) (hb _ (Value.ref (s.heap.objs.size + 1) :: us) I2.kIn hl) r2 hq) fun r s' hq' => ?_))
 cases r with
 | error e => exact hx pins σ _ _ e s' I2 hq'
 | ok fl =>
  cases fl with
  | ret u =>
   obtain ⟨v, H', I3, rv, ev, q3⟩ := I2.after hq'
   subst ev
   exact ⟨rv, ⟨V.ref (s.heap.objs.size + 1), H', I3, rfl, q3⟩⟩
  | next => exact False.elim hq'
  | brk => exact False.elim hq'
  | cont => exact False.elim hq'
theorem qaU (M : Mk X.K C f) (F : FnOk X.prog X.w X.K X.mg X.base CX k f fd ps sp) (hr : Room (k + 1) X.A) (hg : Gl X x) (hm : X.mg x = some (.ref C)) (hb : q1T X.K fd ps ds) (hd : Vals dvs ds) (hx : q3N CX X E)
  (ha : PA X (e :: es) t) (hdb : (x == ("__debug__" : Str)) = false := by decide) (he : starEach (e :: es) X.env = (false, eval e X.env) :: starEach es X.env := by rfl) (hpl : (backTo pos (starEach es X.env)).any (·.1) = false := by rfl) :
  PE X (.Call (.Name x p) (e :: es) [] pos) (q7j C sp dvs E t) := by
 intro pins s σ H Q I h
 refine wpAny_Call_Name_kw (q3e I hg hm ?_ hdb)
 refine PySem.W.callWith_K (h₀ := X.base) I.ok.mod.kin M.kp (thn (ha pos pins s σ H _ I h) fun us s1 ⟨vs, H1, I1, r, q⟩ => ⟨I1.kIn, ?_⟩) he hpl
 exact q6a M F hr hb hd hx I1 r q
theorem q9m (M : Mk X.K C f) (F : FnOk X.prog X.w X.K X.mg X.base CX k f fd ps sp) (hr : Room (k + 1) X.A) (hg : Gl X x) (hm : X.mg x = some (.ref C)) (hb : q1T X.K fd ps ds) (hd : Vals dvs ds) (hx : q3N CX X E)
  (hdb : (x == ("__debug__" : Str)) = false := by decide) : PE X (.Call (.Name x p) [] [] pos) (q7j C sp dvs E tNil) := by
 intro pins s σ H Q I h
 refine wpAny_Call_Name_kw (q3e I hg hm ?_ hdb)
 exact PySem.W.callWith_K0 I.kIn M.kp (q6a (us := []) M F hr hb hd hx I .nil h)
end
structure FnScope (N P : List Str) (sc : Scope) : Prop where
 kind : sc.kind = .function
 co : sc.isCoroutine = false
 gen : sc.isGenerator = false
 nd : N.Nodup
 pre : N.take P.length = P
 par : ∀ x ∈ P, sc.names.lookup x = some .local \/ sc.names.lookup x = some .cell
 nofree : ∀ y ∈ sc.names, y.2 ≠ .free
theorem q5p {kindOf : Str -> Option NameKind} {x : Str} : ∀ {binds : List (Str × Value)} {m : Str -> Option Value}, (∀ v, (x, v) ∉ binds) -> bindL kindOf binds m x = m x
 | [], _, _ => rfl
 |(n, v) :: r, m, h => by
  unfold bindL
  rw [q5p fun w hw => h w (List.mem_cons_of_mem _ hw)]
  split
  ·have : x ≠ n := by rintro rfl; exact h v List.mem_cons_self
   simp [this]
  ·rfl
theorem q5r {kindOf : Str -> Option NameKind} {x : Str} : ∀ {binds : List (Str × Value)} {m : Str -> Option Value}, (∀ v, (x, v) ∉ binds) -> bindC kindOf binds m x = m x
 | [], _, _ => rfl
 |(n, v) :: r, m, h => by
  unfold bindC
  rw [q5r fun w hw => h w (List.mem_cons_of_mem _ hw)]
  split
  ·rfl
  ·have : x ≠ n := by rintro rfl; exact h v List.mem_cons_self
   simp [this]
theorem q5q {kindOf : Str -> Option NameKind} {x : Str} {v : Value} : ∀ {P : List Str} {vs : List Value} {i : Nat} {m : Str -> Option Value}, P.Nodup -> P[i]? = some x -> vs[i]? = some v -> kindOf x = some .local ->
  bindL kindOf (P.zip vs) m x = some v
 | [], _, _, _, _, h, _, _ => by simp at h
 | _ :: _, [], _, _, _, _, h, _ => by simp at h
 | p :: P, w :: vs, 0, m, nd, h1, h2, hk => by
  simp at h1 h2; subst h1; subst h2
  show bindL kindOf ((p, w) :: P.zip vs) m p = _
  unfold bindL
  rw [q5p fun v hv => (List.nodup_cons.mp nd).1 (List.of_mem_zip hv).1, if_pos hk]
  simp
 | p :: P, w :: vs, i + 1, m, nd, h1, h2, hk => by
  show bindL kindOf ((p, w) :: P.zip vs) m x = _
  unfold bindL
  exact q5q (i := i) (List.nodup_cons.mp nd).2 (by simpa using h1) (by simpa using h2) hk
theorem q5s {kindOf : Str -> Option NameKind} {x : Str} {v : Value} : ∀ {P : List Str} {vs : List Value} {i : Nat} {m : Str -> Option Value}, P.Nodup -> P[i]? = some x -> vs[i]? = some v -> kindOf x ≠ some .local ->
  bindC kindOf (P.zip vs) m x = some v
 | [], _, _, _, _, h, _, _ => by simp at h
 | _ :: _, [], _, _, _, _, h, _ => by simp at h
 | p :: P, w :: vs, 0, m, nd, h1, h2, hk => by
  simp at h1 h2; subst h1; subst h2
  show bindC kindOf ((p, w) :: P.zip vs) m p = _
  unfold bindC
  rw [q5r fun v hv => (List.nodup_cons.mp nd).1 (List.of_mem_zip hv).1, if_neg hk]
  simp
 | p :: P, w :: vs, i + 1, m, nd, h1, h2, hk => by
  show bindC kindOf ((p, w) :: P.zip vs) m x = _
  unfold bindC
  exact q5s (i := i) (List.nodup_cons.mp nd).2 (by simpa using h1) (by simpa using h2) hk
def start (N : List Str) (vs : List V) : St := vs.map some ++ List.replicate (N.length - vs.length) none
def cxOf (CX : CXT) (P : Program) (w : World) (K : PySem.W.Frag) (mg : Str -> Option Value) (base : Heap) (N : List Str) (qual : Str) (scope : Scope) (f : Addr) (cd : Value) (A : Around) (outer : List Env) (s : Shared) (H : Hp) (E : XK) : Cx where
 prog := P
 w := w
 K := K
 mg := mg
 base := base
 A := A.deeper (envOfC qual scope s.heap.objs.size f cd)
 N := N
 s₀ := s
 H₀ := H
 env := envOfC qual scope s.heap.objs.size f cd
 outer := outer
 stack := envOfC qual scope s.heap.objs.size f cd :: outer
 ex := []
 calm := true
 fn := fun _ => true
 pn := []
 xe := fun e s' => wpAny (model P w) (A.deeper (envOfC qual scope s.heap.objs.size f cd)) (leaving (envOfC qual scope s.heap.objs.size f cd) e) (fun _ s'' => CX outer H s E e s'') (fun e' s'' => CX outer H s E e' s'') s'
theorem q6B {sc : Scope} {n : Nat} {x : Str} (h : sc.names.lookup x = some .cell) : ∃ c, (cellsFrom n sc.names []).lookup x = some c := by
 have q := PySem.W.cellsFrom_some sc.names n [] (.inl h)
 exact Option.isSome_iff_exists.mp q
theorem q8f {CX : CXT} {P : Program} {w : World} {K : PySem.W.Frag} {mg : Str -> Option Value} {base : Heap} {N ps : List Str} {qual : Str} {scope : Scope} {f : Addr} {cd : Value} {A : Around} {outer : List Env} {s s1 : Shared} {H : Hp} {E : XK} {us : List Value} {vs : List V}
  (S : FnScope N ps scope) (hd : A.handled = none) (e0 : Env0 P w K mg base A outer s H) (hl : vs.length = ps.length) (r : Vals vs us)
  (x : InCallC s s.heap.objs.size (bindL (envOfC qual scope s.heap.objs.size f cd).kindOf (ps.zip us) fun _ => none) (cellsFrom (s.heap.objs.size + 1) scope.names []) (bindC (envOfC qual scope s.heap.objs.size f cd).kindOf (ps.zip us) fun _ => none) s1) :
  Inv (cxOf CX P w K mg base N qual scope f cd A outer s H E) [] (start N vs) H s1 := by
 have hpl : ps.length <= N.length := by have := congrArg List.length S.pre; rw [List.length_take] at this; omega
 obtain ⟨h1, tk, rfl, hk⟩ := x.done
 have noA : ∀ b : Addr, b ∉ (cxOf CX P w K mg base N qual scope f cd A outer s H E).ex := fun b z => absurd (show b ∈ ([] : List Addr) from z) (by simp)
 refine ⟨⟨e0.mod, S.kind, rfl, rfl, Nat.le_refl _, fun y z c h1 h2 => ?_, fun y hy => ?_, fun y c _ h => ?_, fun _ => hd, Around.frames_deeper e0.frames, .inr ⟨rfl, rfl⟩, fun b z => absurd z (noA b), e0.bs, e0.bsz, fun b _ _ => noA b, fun b z => absurd z (noA b), e0.funs, e0.frf⟩,
  rfl, e0.bare, Un.kept hk, ⟨_, x.toInCall.ns, fun i y v h1 h2 h3 => ?_⟩, fun y c h => ⟨_, x.cell y c h⟩, e0.hok.fresh (Nat.le_refl _), fun y c h => ?_, fun p hp => absurd (show p ∈ ([] : List (Addr × Obj)) from hp) (by simp), e0.hok.kept hk, ?_⟩
 ·exact name_of_addr x.apart (PySem.mem_of_lookup h1) (PySem.mem_of_lookup h2)
 ·have hy : scope.names.lookup y = some .cell \/ scope.names.lookup y = some .free := hy
  rcases hy with hy | hy
  ·exact q6B hy
  ·exact absurd rfl (S.nofree _ (PySem.mem_of_lookup hy))
 ·exact Nat.le_of_lt (x.above y c (PySem.mem_of_lookup h))
 ·have hi : i < vs.length := by
   unfold start at h2
   by_cases hi : i < vs.length
   ·exact hi
   ·rw [List.getElem?_append_right (by simpa using hi)] at h2
    rw [List.getElem?_replicate] at h2
    split at h2 <;> cases h2
  have ha : vs[i]? = some v := by
   unfold start at h2
   rw [List.getElem?_append_left (by simpa using hi), List.getElem?_map] at h2
   cases e : vs[i]? with
   | none => rw [e] at h2; cases h2
   | some a => rw [e] at h2; cases h2; rfl
  obtain ⟨u, hu, rv⟩ := r.get ha
  have hp : ps[i]? = some y := by
   rw [<- S.pre, List.getElem?_take_of_lt (by omega)]; exact h1
  have ndP : ps.Nodup := by rw [<- S.pre]; exact S.nd.sublist (List.take_sublist _ _)
  refine ⟨u, rv, ?_⟩
  rcases S.par y (List.mem_of_getElem? hp) with k | k
  ·exact .inl ⟨k, q5q ndP hp hu k⟩
  ·obtain ⟨c, e⟩ := q6B (n := s.heap.objs.size + 1) k
   refine .inr ⟨.inl k, c, e, ?_⟩
   have q := x.cell y c e
   rw [q5s ndP hp hu (by show scope.names.lookup y ≠ _; rw [k]; decide)] at q
   exact q
 ·exact e0.hok.fresh (Nat.le_of_lt (x.above y c (PySem.mem_of_lookup h)))
 ·unfold start
  show _ = N.length
  rw [List.length_append, List.length_map, List.length_replicate]
  omega
theorem fn_of {CX : CXT} {P : Program} {w : World} {K : PySem.W.Frag} {mg : Str -> Option Value} {base : Heap} {k : Nat} {f : Addr} {name qual : Str} {params : Arguments} {body : List Stmt} {scope : Scope} {dV kV doc pm cdv ct oc : Value} {an od : Option Addr}
  {osl : Array (Option Value)} {N ps : List Str} {sp : Sp} (lk : K.lookup f = some ⟨oc, od, .func (PySem.W.fnOf name qual params body scope dV kV doc pm an cdv ct), osl⟩) (hcd : PySem.W.codeIn K cdv qual = true) (S : FnScope N ps scope)
  (len : ∀ vs H Q E, sp vs H Q E -> vs.length = ps.length)
  (hbody : ∀ (A : Around) (outer : List Env) (s : Shared) (H : Hp) (vs : List V) (Q : VK) (E : XK), Room k (A.deeper (envOfC qual scope s.heap.objs.size f cdv)) -> sp vs H Q E ->
   ∃ t, PSs (cxOf CX P w K mg base N qual scope f cdv A outer s H E) body t /\ t { nx := fun _ H' => Q .non H', rt := Q } (start N vs) H) :
  FnOk P w K mg base CX (k + 1) f (PySem.W.fnOf name qual params body scope dV kV doc pm an cdv ct) ps sp := by
 refine ⟨len, fun A outer s H args us vs Q E hr e0 hb r hsp => ?_⟩
 have hl := len _ _ _ _ hsp
 have KX : K.In s.heap := e0.mod.kin.keeps fun b o e => (e0.bs b o e).1
 have lim : s.heap.NoLimit := e0.mod.nolimit.keeps fun b o e => (e0.bs b o e).1
 have hkind : ∀ y ∈ ps.zip us, scope.names.lookup y.1 = some .local \/ (scope.names.lookup y.1 = some .cell /\ ((cellsFrom (s.heap.objs.size + 1) scope.names []).lookup y.1).isSome = true) := fun ⟨n, v⟩ hy => by
  rcases S.par n (List.of_mem_zip hy).1 with q | q
  ·exact .inl q
  ·exact .inr ⟨q, PySem.W.cellsFrom_some _ _ _ (.inl q)⟩
 refine codeAny_call_function hr.depth (KX _ _ lk) rfl S.co S.gen rfl (PySem.W.codeRec_of KX hcd) (hb _ _ _ _ ?_)
 refine wpAny_newFunctionEnv_cells S.kind hkind fun env he s1 x => ?_
 subst he
 refine ⟨lim.keeps x.toInCall.keep, codeAny_func ?_⟩
 obtain ⟨t, ht, hq⟩ := hbody A outer s H vs Q E (hr.deeper _) hsp
 have I : Inv (cxOf CX P w K mg base N qual scope f cdv A outer s H E) [] (start N vs) H s1 := q8f S hr.hd e0 hl r x
 refine wpAny_mono (ht [] s1 (start N vs) H _ I hq) (fun fl s' hs => ?_) fun e s' hs => hs
 have fin : ∀ {σ' : St} {H' : Hp} {v : V} {u : Value}, Inv (cxOf CX P w K mg base N qual scope f cdv A outer s H E) [] σ' H' s' -> RelV v u -> Q v H' -> CE outer P w H s Q u s' :=
  fun {σ' H' v u} J rv q => ⟨v, H', J.os, J.bare, J.base, J.hok, rv, q⟩
 cases fl with
 | ret u =>
  obtain ⟨v, σ', H', J, rv, q⟩ := hs
  exact fin J rv q
 | next =>
  obtain ⟨σ', H', J, q⟩ := hs
  exact fin (v := V.non) (u := Value.none) J rfl q
 | brk =>
  obtain ⟨_, _, _, q⟩ := hs
  exact False.elim q
 | cont =>
  obtain ⟨_, _, _, q⟩ := hs
  exact False.elim q
end L2
namespace L2
open PySem PySem.Spec PyProof.Rows
section
variable {X : Cx} {x : Str} {p pos : Pos} {e : Expr} {es : List Expr} {t : TA} {id T : String} {r : List V -> Hp -> VK -> Prop}
def tCB (r : List V -> Hp -> VK -> Prop) (t : TA) : TE := fun σ H Q => t σ H fun vs H1 => r vs H1 Q
theorem qB (hc : q1S X (.builtin id) r) (hg : Gl X x) (hm : X.mg x = none) (hv : bootBuiltins x = some (.builtin id)) (ha : PA X (e :: es) t) (hn : x ≠ "__name__" := by decide) (hdb : (x == ("__debug__" : Str)) = false := by decide)
  (he : starEach (e :: es) X.env = (false, eval e X.env) :: starEach es X.env := by rfl) (hpl : (backTo pos (starEach es X.env)).any (·.1) = false := by rfl) : PE X (.Call (.Name x p) (e :: es) [] pos) (tCB r t) := by
 intro pins s σ H Q I h
 refine wpAny_Call_Name_kw (q3f I hg hm hv ?_ hn hdb)
 exact PyProof.Rows.callWith_builtin1 (thn (ha pos pins s σ H _ I h) fun us s1 ⟨vs, H1, I1, r1, q1⟩ => hc pins s1 σ H1 vs us Q I1 r1 q1) he hpl
theorem q0u (hc : q1S X (.type T) r) (hg : Gl X x) (hm : X.mg x = none) (hv : bootBuiltins x = some (.type T)) (ha : PA X (e :: es) t) (hn : x ≠ "__name__" := by decide) (hdb : (x == ("__debug__" : Str)) = false := by decide)
  (he : starEach (e :: es) X.env = (false, eval e X.env) :: starEach es X.env := by rfl) (hpl : (backTo pos (starEach es X.env)).any (·.1) = false := by rfl) : PE X (.Call (.Name x p) (e :: es) [] pos) (tCB r t) := by
 intro pins s σ H Q I h
 refine wpAny_Call_Name_kw (q3f I hg hm hv ?_ hn hdb)
 exact PyProof.Rows.callWith_type1 (thn (ha pos pins s σ H _ I h) fun us s1 ⟨vs, H1, I1, r1, q1⟩ => hc pins s1 σ H1 vs us Q I1 r1 q1) he hpl
end
end L2
namespace HT
open PySem PyProof.Rows
def q2y : List Int -> List Int -> Bool
 | [], [] => false
 | [], _ :: _ => true
 | _ :: _, [] => false
 | x :: xs, y :: ys => if x = y then q2y xs ys else decide (x < y)
theorem q3K (x y : Int) (xs ys : List Int) : q2y (x :: xs) (y :: ys) = if x = y then q2y xs ys else decide (x < y) := rfl
theorem q4f : q2y [] [] = false := rfl
theorem q3A (y : Int) (ys : List Int) : q2y [] (y :: ys) = true := rfl
theorem q3B (x : Int) (xs : List Int) : q2y (x :: xs) [] = false := rfl
theorem q9W (A : Around) (s : Shared) (a : Int) (t : Tok) (c : Int) (u : Tok) : ∃ e, SeqAt.EqAt A s (.int a t) (.int c u) e /\ (e = true ↔ a = c) :=
 ⟨(a == c), SeqAt.EqAt.int_int a t c u, by simp⟩
theorem q99 (A : Around) (s : Shared) (a : Int) (t : Tok) (c : Int) (u : Tok) (prog : Program) (w : World) (E : Value -> Shared -> Prop) (Q : Value -> Shared -> Prop) (h : Q (.bool (decide (a < c))) s) :
  wpAny (model prog w) A (richCompare .Lt (.int a t) (.int c u)) Q E s :=
 (PyProof.Rows.lt_int h : wpAny (model prog w) A (compareOp .Lt (.int a t) (.int c u)) Q E s)
section
open PySem.SeqAt
open PySem.AutoSeq1 (wpAny_loadPart')
open PySem.MeetsSeq PySem.MeetsSeq2 PySem.MeetsSeq3
theorem q3R (l b : Addr) (items items2 : Array Value) (n n2 : Nat) (dd dd2 : Option Addr) (sl sl2 : Array (Option Value)) (ns ms : List Int) (hi : IntsAre items.toList ns) (hj : IntsAre items2.toList ms) :
  Meets (Builtin.«tuple.__lt__» ⟨[.ref l, .ref b], []⟩)
   (fun _ R s => s.heap.get? l = some { cls := .type "tuple", dict := dd, data := .seq items n, slots := sl } /\ s.heap.get? b = some { cls := .type "tuple", dict := dd2, data := .seq items2 n2, slots := sl2 } /\
    R (.ok (.ret (.bool (q2y ns ms)))) s) :=
 .of_wp fun prog w A R s h => by
  obtain ⟨hp, g, d, tk, os⟩ := s; obtain ⟨hl, hb, h⟩ := h
  have f2 := AutoSeq1.sub_tuple_tuple
  have z1 : items.size = ns.length := by rw [<- hi.length]; simp
  have z2 : items2.size = ms.length := by rw [<- hj.length]; simp
  wp_walk using wpAny_loadPart' hl, wpAny_loadPart' hb, wpAny_forIn_list _ (fun rest b s' => b.1 = none /\ s' = ⟨hp, g, d, tk, os⟩ /\ ∃ (vs ws : List Value) (ns' ms' : List Int), rest = vs.zip ws /\
   IntsAre vs ns' /\ IntsAre ws ms' /\ ns'.length + items2.size = ms'.length + items.size /\ R (.ok (.ret (.bool (q2y ns' ms')))) ⟨hp, g, d, tk, os⟩) _
  case turn =>
   rintro ⟨y, x⟩ rest b s' ⟨hb', rfl, vs, ws, ns', ms', hz, hvi, hwi, hlen, hR⟩
   cases hvi with
   | nil => rw [List.zip_nil_left] at hz; cases hz
   | cons a t hvi' =>
    cases hwi with
    | nil => rw [List.zip_nil_right] at hz; cases hz
    | cons c u hwi' =>
     rw [List.zip_cons_cons] at hz
     injection hz with hyx hrest
     injection hyx with hy hx
     subst hy hx
     rw [q3K] at hR
     simp only [List.length_cons] at hlen
     obtain ⟨e, he, hiff⟩ := q9W A.in1 ⟨hp, g, d, tk, os⟩ a t c u
     refine wpAny_bind (he prog w _ _ ?_)
     cases e with
     | true =>
      rw [if_pos (hiff.mp rfl)] at hR
      wp_walk
      exact ⟨rfl, rfl, _, _, _, _, hrest, hvi', hwi', by omega, hR⟩
     | false =>
      rw [if_neg (fun q => absurd (hiff.mpr q) Bool.false_ne_true)] at hR
      have hri := q99 A.in1 ⟨hp, g, d, tk, os⟩ a t c u prog w
      wp_walk using hri
      exact ⟨_, rfl, by simpa using hR⟩
  case fin =>
   rintro ⟨b1, b2⟩ s' ⟨hb', rfl, vs, ws, ns', ms', hz, hvi, hwi, hlen, hR⟩
   simp only at hb'
   subst hb'
   have hv : q2y ns' ms' = decide (items.size < items2.size) := by
    cases hvi with
    | nil =>
     cases hwi with
     | nil =>
      simp only [List.length_nil] at hlen
      rw [q4f]
      exact (decide_eq_false (by omega)).symm
     | cons c u hw =>
      simp only [List.length_nil, List.length_cons] at hlen
      rw [q3A]
      exact (decide_eq_true (by omega)).symm
    | cons a t hv =>
     cases hwi with
     | nil =>
      simp only [List.length_nil, List.length_cons] at hlen
      rw [q3B]
      exact (decide_eq_false (by omega)).symm
     | cons c u hw =>
      rw [List.zip_cons_cons] at hz
      cases hz
   rw [hv] at hR
   wp_walk
   exact ⟨_, rfl, by simpa [Builtin.Tuple.tupleCompareSizes] using hR⟩
  case h =>
   exact ⟨rfl, rfl, items.toList, items2.toList, ns, ms, rfl, hi, hj, by omega, h⟩
end
section
variable {prog : Program} {w : World} {A : Around} {E : Value -> Shared -> Prop} {s : Shared}
theorem q74 {l b : Addr} {items items2 : Array Value} {ns ms : List Int} {Q : Value -> Shared -> Prop} (hl : IsTup s.heap l items) (hb : IsTup s.heap b items2) (hi : IntsAre items.toList ns) (hj : IntsAre items2.toList ms)
  (hu : A.units < cLine) (h : Q (.bool (q2y ns ms)) s) : wpAny (model prog w) A (compareOp .Lt (.ref l) (.ref b)) Q E s := by
 obtain ⟨⟨cls, dd, data, sl⟩, ho, hc, n, hd⟩ := id hl
 obtain ⟨⟨cls2, dd2, data2, sl2⟩, ho2, hc2, n2, hd2⟩ := id hb
 simp only at hc hd hc2 hd2
 subst hc hd hc2 hd2
 exact richCompare_meets_room (op := .Lt) ⟨_, ho, rfl⟩ ⟨_, ho2, rfl⟩ PySem.F.slot_tuple_lt PySem.F.entry_tuple_lt (PySem.F.args_tuple_lt_2 _ _) (q3R l b items items2 n n2 dd dd2 sl sl2 ns ms hi hj)
  ⟨ho, ho2, show Value.bool (q2y ns ms) ≠ Value.notImplemented /\ Q (.bool (q2y ns ms)) s from ⟨(fun x => nomatch x), h⟩⟩ hu
theorem qbD {t b : Addr} {vs ws : List Value} {Q : Value -> Shared -> Prop} (ht : IsTup s.heap t vs.toArray) (hb : IsTup s.heap b ws.toArray) (hv : vs ≠ [])
  (h1 : ws = [] -> Q (.ref t) s) (h2 : ws ≠ [] -> Q (.ref s.heap.objs.size) { s with heap := s.heap.push { cls := .type "tuple", data := .seq (vs ++ ws).toArray } })
  (hsz : vs.length + ws.length <= sizeLine) : wpAny (model prog w) A (binaryOp .Add (.ref t) (.ref b)) Q E s := by
 obtain ⟨⟨cls, dd, data, sl⟩, ho, hc, n, hd⟩ := id ht
 obtain ⟨⟨cls2, dd2, data2, sl2⟩, ho2, hc2, n2, hd2⟩ := id hb
 simp only at hc hd hc2 hd2
 subst hc hd hc2 hd2
 have e : vs.toArray ++ ws.toArray = (vs ++ ws).toArray := by simp
 by_cases hw : ws = []
 ·exact concat_meets ⟨_, ho, rfl⟩ ⟨_, ho2, rfl⟩ noFill_tuple_add seq_tuple_add PySem.F.slot_tuple_add PySem.F.entry_tuple_add (PySem.F.args_tuple_add_2 _ _)
   (tuple_addW1 t b vs.toArray ws.toArray n n2 dd dd2 sl sl2 (by simpa using hv) (by simp [hw])) ⟨ho, ho2, h1 hw⟩
 ·refine concat_meets ⟨_, ho, rfl⟩ ⟨_, ho2, rfl⟩ noFill_tuple_add seq_tuple_add PySem.F.slot_tuple_add PySem.F.entry_tuple_add (PySem.F.args_tuple_add_2 _ _)
   (tuple_addW2 t b vs.toArray ws.toArray n n2 dd dd2 sl sl2 (by simpa using hv) (by simpa using hw) (by rw [List.size_toArray, List.size_toArray]; exact hsz)) ⟨ho, ho2, ?_⟩
  rw [e]
  exact h2 hw
def sIx (n d : Nat) : Option Int -> Nat
 | none => d
 | some v => if v < 0 then (v + (n : Int)).toNat else min v.toNat n
theorem q97 (n d : Nat) : sIx n d none = d := rfl
theorem qaJ (n d k : Nat) : sIx n d (some (k : Int)) = min k n := by
 show (if (k : Int) < 0 then ((k : Int) + (n : Int)).toNat else min (k : Int).toNat n) = min k n
 rw [if_neg (by omega), Int.toNat_natCast]
theorem sIx_le (n d : Nat) (hd : d <= n) (o : Option Int) : sIx n d o <= n := by
 cases o with
 | none => exact hd
 | some v =>
  show (if v < 0 then (v + (n : Int)).toNat else min v.toNat n) <= n
  by_cases hv : v < 0
  ·rw [if_pos hv]; omega
  ·rw [if_neg hv]; exact Nat.min_le_right _ _
theorem q8L (v : Int) (n d : Nat) : (if v < 0 then max (v + (n : Int)) 0 else min v (n : Int)) = ((sIx n d (some v) : Nat) : Int) := by
 show (if v < 0 then max (v + (n : Int)) 0 else min v (n : Int)) = (((if v < 0 then (v + (n : Int)).toNat else min v.toNat n) : Nat) : Int)
 by_cases hv : v < 0
 ·simp only [if_pos hv]; omega
 ·simp only [if_neg hv]; omega
theorem q7a (lo hi : Option Int) (n : Nat) : Builtin.Slice.sliceAdjust lo hi 1 (n : Int) = (((sIx n 0 lo : Nat) : Int), ((sIx n n hi : Nat) : Int)) := by
 have h1 : ¬ ((1 : Int) < 0) := by omega
 unfold Builtin.Slice.sliceAdjust
 simp only [h1, if_false]
 refine Prod.ext ?_ ?_
 ·cases lo with
  | none => rfl
  | some v => exact q8L v n 0
 ·cases hi with
  | none => rfl
  | some v => exact q8L v n n
theorem q6T (i j : Nat) : Builtin.Slice.slicePlaces (i : Int) (j : Int) 1 = j - i := by
 unfold Builtin.Slice.slicePlaces
 have h1 : (1 : Int) > 0 := by omega
 simp only [h1, if_true, Int.ediv_one]
 split <;> omega
theorem q3F {v : Value} {o : Option Int} {Q : Option Int -> Shared -> Prop} (p : IsPart v o) (h : Q o s) : wpAny (model prog w) A (Builtin.Slice.slicePartIndex v) Q E s := by
 cases p with
 | none => exact slicePart_none h
 | int i t => exact slicePart_int h
theorem q1v {sl : Addr} {vl vu : Value} {lo hi : Option Int} {n : Nat} {Q : Int × Int × Nat -> Shared -> Prop} (hs : s.heap.IsSliceOf sl vl vu .none) (pl : IsPart vl lo) (pu : IsPart vu hi)
  (h : Q (((sIx n 0 lo : Nat) : Int), 1, sIx n n hi - sIx n 0 lo) s) : wpAny (model prog w) A (Builtin.Slice.sliceApplied (.ref sl) (pure (n : Int))) Q E s := by
 obtain ⟨os, hos, hcs, hds⟩ := id hs
 unfold Builtin.Slice.sliceApplied Builtin.Slice.sliceFields
 refine wpAny_bind (wpAny_bind (wpAny_field hos hds (x := vl) rfl (wpAny_bind (wpAny_field hos hds (x := vu) rfl (wpAny_bind (wpAny_field hos hds (x := .none) rfl (wpAny_pure ?_)))))))
 refine wpAny_bind (slicePart_none ?_)
 show wpAny _ _ (if ((1 : Int) == 0) = true then _ else _) _ _ s
 rw [if_neg (by decide)]
 refine wpAny_bind (q3F pl (wpAny_bind (q3F pu (wpAny_bind (wpAny_pure ?_)))))
 show wpAny _ _ (match Builtin.Slice.sliceAdjust lo hi 1 (n : Int) with | (lo, hi) => pure (lo, (1 : Int), Builtin.Slice.slicePlaces lo hi 1)) _ _ s
 rw [q7a lo hi n]
 show wpAny _ _ (pure (((sIx n 0 lo : Nat) : Int), (1 : Int), Builtin.Slice.slicePlaces ((sIx n 0 lo : Nat) : Int) ((sIx n n hi : Nat) : Int) 1)) _ _ s
 rw [q6T]
 exact wpAny_pure h
theorem q9h (xs : Array Value) (i k : Nat) : ((List.range k).filterMap fun (m : Nat) => xs[((i : Int) + (m : Int) * 1).toNat]?).toArray = ((xs.toList.drop i).take k).toArray := by
 have e : (fun (m : Nat) => xs[((i : Int) + (m : Int) * 1).toNat]?) = fun m => xs[i + m]? := by
  funext m
  have : ((i : Int) + (m : Int) * 1).toNat = i + m := by omega
  rw [this]
 rw [e]
 have := pick_run xs i k
 rw [List.filterMap_map] at this
 have e2 : ((fun x => xs[x]?) ∘ fun x => i + x) = fun m => xs[i + m]? := rfl
 rw [e2] at this
 rw [this]
theorem q2A {t sl : Addr} {items : Array Value} {vl vu : Value} {lo hi : Option Int} {Q : Value -> Shared -> Prop} (ht : IsTup s.heap t items) (hs : s.heap.IsSliceOf sl vl vu .none) (pl : IsPart vl lo) (pu : IsPart vu hi)
  (hw : ¬ (sIx items.size 0 lo = 0 /\ sIx items.size items.size hi = items.size))
  (h : Q (.ref s.heap.objs.size) { s with heap := s.heap.push { cls := .type "tuple", data := .seq ((items.toList.drop (sIx items.size 0 lo)).take (sIx items.size items.size hi - sIx items.size 0 lo)).toArray } })
  (hsz : items.size <= sizeLine) : wpAny (model prog w) A (getItem (.ref t) (.ref sl)) Q E s := by
 have htake : sizeOk (.seq ((items.toList.drop (sIx items.size 0 lo)).take (sIx items.size items.size hi - sIx items.size 0 lo)).toArray) := by
  show ((items.toList.drop (sIx items.size 0 lo)).take (sIx items.size items.size hi - sIx items.size 0 lo)).toArray.size <= sizeLine
  rw [List.size_toArray, List.length_take, List.length_drop, Array.length_toList]
  omega
 have hj : sIx items.size items.size hi <= items.size := sIx_le _ _ (Nat.le_refl _) hi
 obtain ⟨os, hos, hcs, hds⟩ := id hs
 have hTs : s.TypeIs (.ref sl) "slice" := ⟨os, hos, hcs⟩
 unfold getItem
 try with_reducible refine wpAny_holding ?_
 first | refine wpAny_bind (wpAny_pure ?_) | skip
 refine wpAny_bind (wpAny_sequenceKey ht.typeIs (by decide) ?_)
 refine wpAny_bind (wpAny_callSpecial?_slot (name := Str.ofString "__getitem__") ht.typeIs PyProof.Rows.slot_tuple_getitem
  (wpAny_call_entry PyProof.Rows.slot_tuple_getitem ht.typeIs entry_tuple_getitem ?_ (args_tuple_getitem _ _)))
 show wpAny _ _ (Builtin.Tuple.tupleItemsOf (.ref t) >>= _) _ _ s
 refine wpAny_bind (tupleItemsOf_ ht ?_)
 refine wpAny_bind (wpAny_typeOf hTs ?_)
 rw [if_pos (by decide)]
 refine wpAny_bind (q1v hs pl pu ?_)
 have hno : ¬ ((((sIx items.size 0 lo : Nat) : Int) == 0 && (1 : Int) == 1 && (sIx items.size items.size hi - sIx items.size 0 lo) == items.size) = true) := by
  intro q
  rw [Bool.and_eq_true, Bool.and_eq_true] at q
  have q1 : ((sIx items.size 0 lo : Nat) : Int) = 0 := eq_of_beq q.1.1
  have q2 : sIx items.size items.size hi - sIx items.size 0 lo = items.size := eq_of_beq q.2
  exact hw ⟨by omega, by omega⟩
 show wpAny _ _ (if (((sIx items.size 0 lo : Nat) : Int) == 0 && (1 : Int) == 1 && (sIx items.size items.size hi - sIx items.size 0 lo) == items.size) = true then _ else _) _ _ s
 rw [if_neg hno, q9h]
 first
  | exact wpAny_bind (m := Builtin.Tuple.tupleExact _) (wpAny_newObj_type (wpAny_pure ⟨_, rfl, wpAny_pure h⟩) htake)
  | exact wpAny_bind (m := Builtin.Tuple.tupleExact _) (wpAny_newObj_type (wpAny_bind (wpAny_pure (wpAny_pure ⟨_, rfl, wpAny_pure h⟩))) htake)
  | exact wpAny_bind (wpAny_bind (m := Builtin.Tuple.tupleExact _) (wpAny_newObj_type (wpAny_pure (wpAny_pure ⟨_, rfl, wpAny_pure h⟩)) htake))
  | exact wpAny_bind (wpAny_bind (m := Builtin.Tuple.tupleExact _) (wpAny_newObj_type (wpAny_pure ⟨_, rfl, wpAny_pure h⟩) htake))
end
end HT
namespace L2
open PySem PySem.Spec PyProof.Rows
abbrev TO := St -> Hp -> (Option Int -> Hp -> Prop) -> Prop
def PO (X : Cx) (e : Option Expr) (t : TO) : Prop :=
 ∀ (pins : List (Addr × Obj)) (s : Shared) (σ : St) (H : Hp) (Q : Option Int -> Hp -> Prop), Inv X pins σ H s -> t σ H Q ->
  wpAny (model X.prog X.w) X.A (evalPart e X.env) (fun u s' => ∃ o H', Inv X pins σ H' s' /\ IsPart u o /\ Q o H') X.xe s
def q7i : TO := fun _ H Q => Q none H
def tPart (t : TE) : TO := fun σ H Q => t σ H fun x H1 => ∃ i, x = .int i /\ Q (some i) H1
theorem q2z {ns : List Int} : ∀ {us : List Value}, Vals (ns.map V.int) us -> IntsAre us ns := by
 induction ns with
 | nil => intro us r; rw [List.map_nil] at r; cases r; exact .nil
 | cons n ns ih =>
  intro us r
  rw [List.map_cons] at r
  cases r with
  | cons r1 r2 =>
   obtain ⟨t, e⟩ := r1
   subst e
   exact .cons n t (ih r2)
section
variable {X : Cx} {e : Expr} {te : TE} {lo hi : Option Expr} {tl th : TO} {pos p2 : Pos}
theorem q5E : PO X none q7i := by
 intro pins s σ H Q I h
 rw [evalPart_none]
 exact wpAny_pure ⟨none, H, I, .none, h⟩
theorem q5D (h : PE X e te) : PO X (some e) (tPart te) := by
 intro pins s σ H Q I hw
 rw [evalPart_some]
 refine thn (h pins s σ H _ I hw) fun u s1 ⟨x, H1, I1, r1, q1⟩ => ?_
 obtain ⟨i, rfl, q⟩ := q1
 obtain ⟨t, rfl⟩ := r1
 exact ⟨some i, H1, I1, .int i t, q⟩
def SlR (X : Cx) (r : V -> Option Int -> Option Int -> Hp -> VK -> Prop) : Prop :=
 ∀ (pins : List (Addr × Obj)) (s : Shared) (σ : St) (H : Hp) (x : V) (v vl vu : Value) (lo hi : Option Int) (sl : Addr) (Q : VK), Inv X pins σ H s -> RelV x v -> s.heap.IsSliceOf sl vl vu .none -> IsPart vl lo -> IsPart vu hi -> r x lo hi H Q ->
  ∃ T id, typeLookup (.type T) "__getitem__" = pure (some (.builtin id)) /\ s.TypeIs v T /\ wpAny (model X.prog X.w) X.A (getItem v (.ref sl)) (EP X pins σ Q) X.xe s
def tSl (r : V -> Option Int -> Option Int -> Hp -> VK -> Prop) (te : TE) (tl th : TO) : TE := fun σ H Q => te σ H fun x H1 => tl σ H1 fun l H2 => th σ H2 fun u H3 => r x l u H3 Q
theorem q4a {r : V -> Option Int -> Option Int -> Hp -> VK -> Prop} (hr : SlR X r) (he : PE X e te) (hl : PO X lo tl) (hu : PO X hi th) : PE X (.Subscript e (.Slice lo hi none p2) pos) (tSl r te tl th) := by
 intro pins s σ H Q I h
 refine Subscript_ (thn (he pins s σ H _ I h) fun v s1 ⟨x, H1, I1, r1, q1⟩ => ?_)
 refine wpAny_Slice (thn (hl pins s1 σ H1 _ I1 q1) fun vl s2 ⟨l, H2, I2, pl, q2⟩ => thn (hu pins s2 σ H2 _ I2 q2) fun vu s3 ⟨u, H3, I3, pu, q3⟩ => ?_)
 rw [evalPart_none]
 refine wpAny_pure ?_
 have I4 : Inv X pins σ H3 { s3 with heap := s3.heap.push { cls := .type "slice", data := .fields #[vl, vu, .none] } } := I3.kept (t' := s3.toks) fun b ob q => Heap.get?_push_of_some _ q
 obtain ⟨T, id, hT, ht, hg⟩ := hr pins { s3 with heap := s3.heap.push { cls := .type "slice", data := .fields #[vl, vu, .none] } } σ H3 x v vl vu l u s3.heap.objs.size Q I4 r1 (Heap.IsSliceOf.new ..) pl pu q3
 show wpAny (model X.prog X.w) X.A (subscriptTail e (.Slice lo hi none p2) v (.ref s3.heap.objs.size)) (EP X pins σ Q) X.xe { s3 with heap := s3.heap.push { cls := .type "slice", data := .fields #[vl, vu, .none] } }
 exact tail_any (ops := [.ref s3.heap.objs.size, v]) ht hT hg (by with_unfolding_all rfl)
def cutV (xs : List V) (lo hi : Option Int) : List V := (xs.drop (HT.sIx xs.length 0 lo)).take (HT.sIx xs.length xs.length hi - HT.sIx xs.length 0 lo)
theorem q5W (xs : List V) (lo hi : Option Int) : (cutV xs lo hi).length <= xs.length := by
 unfold cutV
 rw [List.length_take, List.length_drop]
 omega
def rSlT (K : PySem.W.Frag) : V -> Option Int -> Option Int -> Hp -> VK -> Prop := fun x lo hi H Q => ∃ a xs, x = .ref a /\ SqT K H a xs /\
 ¬ (HT.sIx xs.length 0 lo = 0 /\ HT.sIx xs.length xs.length hi = xs.length) /\ ∀ p, H p = none -> Q (.ref p) (upd H p (.tup (cutV xs lo hi)))
theorem sl_tup : SlR X (rSlT X.K) := by
 intro pins s σ H x v vl vu lo hi sl Q I rx hs pl pu h
 obtain ⟨a, xs, rfl, hx, hw, q⟩ := h
 cases rx
 obtain ⟨its, r, ht, hz⟩ := I.tuple hx
 have hlen : its.toArray.size = xs.length := by rw [List.size_toArray]; exact r.length.symm
 refine ⟨"tuple", _, PyProof.Rows.slot_tuple_getitem.lookup, ht.typeIs, ?_⟩
 refine HT.q2A ht hs pl pu (by rw [hlen]; exact hw) ?_ (by rw [hlen]; exact hz)
 rw [hlen]
 refine ⟨.ref s.heap.objs.size, _, I.laid (t' := s.toks) (o := .tup (cutV xs lo hi)) (fun b ob q => Heap.get?_push_of_some _ q) (Nat.le_refl _) ?_, rfl, q _ (I.hok.fresh (Nat.le_refl _))⟩
 exact ⟨Nat.le_trans (q5W xs lo hi) hz, _, (r.drop (HT.sIx xs.length 0 lo)).take (HT.sIx xs.length xs.length hi - HT.sIx xs.length 0 lo), IsTup.new _ _⟩
def rCatT (K : PySem.W.Frag) : R2 := fun x y H Q => ∃ a b xs ys, x = .ref a /\ y = .ref b /\ SqT K H a xs /\ SqT K H b ys /\ xs ≠ [] /\ xs.length + ys.length <= sizeLine /\
 (ys = [] -> Q (.ref a) H) /\ (ys ≠ [] -> ∀ p, H p = none -> Q (.ref p) (upd H p (.tup (xs ++ ys))))
theorem Vals.nil_iff {xs : List V} {us : List Value} (r : Vals xs us) : us = [] ↔ xs = [] := by
 cases r with
 | nil => simp
 | cons _ _ => simp
theorem qb0 : OpR X (binaryOp .Add) (rCatT X.K) := by
 intro pins s σ H x y v u Q I rx ry h
 obtain ⟨a, b, xs, ys, rfl, rfl, ha, hb, hx, hz, q1, q2⟩ := h
 cases rx
 cases ry
 obtain ⟨its, r1, p1, _⟩ := I.tuple ha
 obtain ⟨its2, r2, p2, _⟩ := I.tuple hb
 refine HT.qbD p1 p2 (fun z => hx (r1.nil_iff.mp z)) (fun z => ⟨.ref a, H, I, rfl, q1 (r2.nil_iff.mp z)⟩) (fun z => ?_) (by rw [<- r1.length, <- r2.length]; exact hz)
 refine ⟨.ref s.heap.objs.size, _, I.laid (t' := s.toks) (o := .tup (xs ++ ys)) (fun b ob q => Heap.get?_push_of_some _ q) (Nat.le_refl _) ?_, rfl, q2 (fun w => z (r2.nil_iff.mpr w)) _ (I.hok.fresh (Nat.le_refl _))⟩
 exact ⟨by rw [List.length_append]; exact hz, _, r1.append r2, IsTup.new _ _⟩
end
end L2
namespace L2
open PySem PySem.Spec PyProof.Rows
def ixN (n : Nat) (i : Int) : Option Nat := if 0 <= i then (if i < n then some i.toNat else none) else if -(n : Int) <= i then some (i + n).toNat else none
def atI {α : Type} (xs : List α) (i : Int) : Option α := (ixN xs.length i).bind fun j => xs[j]?
theorem q8d {n : Nat} {i : Int} {j : Nat} (h : ixN n i = some j) : seqIndex? i n = some j /\ j < n /\ -(n : Int) <= i /\ i < n := by
 unfold ixN at h
 by_cases h0 : 0 <= i
 ·rw [if_pos h0] at h
  by_cases h1 : i < n
  ·rw [if_pos h1] at h
   have e : i.toNat = j := Option.some.inj h
   exact ⟨by rw [seqIndex_of h0 h1, e], by omega, by omega, h1⟩
  ·rw [if_neg h1] at h; cases h
 ·rw [if_neg h0] at h
  by_cases h1 : -(n : Int) <= i
  ·rw [if_pos h1] at h
   have e : (i + n).toNat = j := Option.some.inj h
   exact ⟨by rw [seqIndex_neg (by omega) h1, e], by omega, h1, by omega⟩
  ·rw [if_neg h1] at h; cases h
theorem q61 {α : Type} {xs : List α} {i : Int} {v : α} (h : atI xs i = some v) : ∃ j, seqIndex? i xs.length = some j /\ xs[j]? = some v /\ j < xs.length /\ -(xs.length : Int) <= i /\ i < xs.length := by
 unfold atI at h
 cases e : ixN xs.length i with
 | none => rw [e] at h; cases h
 | some j =>
  rw [e] at h
  obtain ⟨h1, h2, h3, h4⟩ := q8d e
  exact ⟨j, h1, h, h2, h3, h4⟩
theorem q0x {α : Type} {xs : List α} {j : Nat} {v : α} (h : xs[j]? = some v) : atI xs (j : Int) = some v := by
 have hj : j < xs.length := (List.getElem?_eq_some_iff.mp h).1
 have e : ixN xs.length (j : Int) = some j := by
  unfold ixN
  rw [if_pos (by omega), if_pos (by omega)]; simp
 unfold atI; rw [e]; exact h
theorem atI_last {α : Type} (xs : List α) (v : α) : atI (xs ++ [v]) (-1) = some v := by
 have hl : (xs ++ [v]).length = xs.length + 1 := by simp
 have e : ixN (xs ++ [v]).length (-1) = some xs.length := by
  unfold ixN
  rw [hl, if_neg (by decide), if_pos (by omega)]
  congr 1
  omega
 unfold atI
 rw [e]
 show (xs ++ [v])[xs.length]? = some v
 simp
def qbK (b : Expr) : Prop := ∀ o i, subscripted b false o i = operate [o, i] (getItem o i)
def IxR (X : Cx) (r : R2) : Prop :=
 ∀ (value slice : Expr) (pins : List (Addr × Obj)) (s : Shared) (σ : St) (H : Hp) (x y : V) (v u : Value) (Q : VK), Inv X pins σ H s -> RelV x v -> RelV y u -> r x y H Q ->
  subscripted slice false v u = operate [v, u] (getItem v u) -> wpAny (model X.prog X.w) X.A (subscriptTail value slice v u) (EP X pins σ Q) X.xe s
def MtR (X : Cx) (id : String) (r : V -> List V -> Hp -> VK -> Prop) : Prop :=
 ∀ (pins : List (Addr × Obj)) (s : Shared) (σ : St) (H : Hp) (x : V) (xs : List V) (v : Value) (us : List Value) (Q : VK), Inv X pins σ H s -> RelV x v -> Vals xs us -> r x xs H Q ->
  wpAny (model X.prog X.w) X.A (call (.builtin id) (v :: us)) (EP X pins σ Q) X.xe s
section
variable {X : Cx} {a b : Expr} {ta tb : TE} {pos : Pos}
theorem qu {r : R2} (hr : IxR X r) (ha : PE X a ta) (hb : PE X b tb) (hs : qbK b) : PE X (.Subscript a b pos) (tOp r ta tb) := by
 intro pins s σ H Q I h
 exact Subscript_ (binT ha hb I h fun v u s2 x y H2 I2 rx ry q => hr a b pins s2 σ H2 x y v u Q I2 rx ry q (hs _ _))
def rIxL (K : PySem.W.Frag) : R2 := fun x y H Q => ∃ p xs i v, x = .ref p /\ y = .int i /\ SqL K H p xs /\ atI xs i = some v /\ Q v H
def rIxT (K : PySem.W.Frag) : R2 := fun x y H Q => ∃ p xs i v, x = .ref p /\ y = .int i /\ SqT K H p xs /\ atI xs i = some v /\ Q v H
theorem qbn : IxR X (rIxL X.K) := by
 intro value slice pins s σ H x y v u Q I rx ry h hs
 obtain ⟨p, xs, i, z, rfl, rfl, hq, he, q⟩ := h
 cases rx
 obtain ⟨t, rfl⟩ := ry
 obtain ⟨its, r, pl, hz⟩ := I.list hq
 obtain ⟨j, h1, h2, h3, h4, h5⟩ := q61 he
 obtain ⟨w, ew, rw'⟩ := r.get h2
 have hl := r.length
 have hn := q5c
 have fin : EP X pins σ Q w s := ⟨z, H, I, rw', q⟩
 by_cases h0 : 0 <= i
 ·have hj : i.toNat = j := by
   rw [seqIndex_of h0 h5] at h1
   exact Option.some.inj h1
  exact item_listR pl.isList h0 (by omega) (by rw [hj]; simpa using ew) fin hs
 ·have hj : (i + (its.toArray.size : Int)).toNat = j := by
   rw [seqIndex_neg (by omega) h4] at h1
   rw [List.size_toArray, <- hl]
   exact Option.some.inj h1
  exact subscriptTail_builtinR (x := w) pl.isList.typeIs slot_list_getitem.lookup
   (wpAny_getItem_list_neg (Q := fun r s' => r = w /\ EP X pins σ Q r s') pl.isList (by omega) (by rw [List.size_toArray] <;> omega) (by omega) (by rw [hj]; simpa using ew) ⟨rfl, fin⟩) hs
theorem ix_tup : IxR X (rIxT X.K) := by
 intro value slice pins s σ H x y v u Q I rx ry h hs
 obtain ⟨p, xs, i, z, rfl, rfl, hq, he, q⟩ := h
 cases rx
 obtain ⟨t, rfl⟩ := ry
 obtain ⟨its, r, pl, hz⟩ := I.tuple hq
 obtain ⟨j, h1, h2, h3, h4, h5⟩ := q61 he
 obtain ⟨w, ew, rw'⟩ := r.get h2
 have hl := r.length
 have hn := q5c
 have fin : EP X pins σ Q w s := ⟨z, H, I, rw', q⟩
 exact subscriptTail_builtinR (x := w) pl.typeIs slot_tuple_getitem.lookup
  (getItem_tuple (j := j) (Q := fun r s' => r = w /\ EP X pins σ Q r s') pl (by omega) (by omega) (by rw [List.size_toArray, <- hl]; exact h1) (by simpa using ew) ⟨rfl, fin⟩) hs
theorem q71 (its : List Value) (n j : Nat) (u : Value) : Obj.mapSeq (·.setIfInBounds j u) { cls := .type "list", data := .seq its.toArray n } = { cls := .type "list", data := .seq (its.set j u).toArray n } := by
 simp [Obj.mapSeq]
theorem Inv.lst {pins : List (Addr × Obj)} {σ : St} {H : Hp} {s : Shared} {p : Addr} {xs : List V} (I : Inv X pins σ H s) (h : H p = some (.lst xs)) :
  ∃ (its : List Value) (n : Nat), Vals xs its /\ s.heap.get? p = some { cls := .type "list", data := .seq its.toArray n } /\ xs.length <= sizeLine := by
 obtain ⟨z, its, n, r, e⟩ := I.hok p _ h
 exact ⟨its, n, r, e, z⟩
theorem Inv.lstUpd {pins : List (Addr × Obj)} {σ : St} {H : Hp} {s : Shared} {p : Addr} {xs ys : List V} {its its' : List Value} {n n' : Nat} {f : Obj -> Obj} (I : Inv X pins σ H s) (h : H p = some (.lst xs))
  (ho : s.heap.get? p = some { cls := .type "list", data := .seq its.toArray n }) (hf : f { cls := .type "list", data := .seq its.toArray n } = { cls := .type "list", data := .seq its'.toArray n' }) (r : Vals ys its') (hz : ys.length <= sizeLine) (t : Nat) :
  Inv X pins σ (upd H p (.lst ys)) { s with heap := s.heap.update p f, toks := t } := by
 have e : (s.heap.update p f).get? p = some { cls := .type "list", data := .seq its'.toArray n' } := by
  rw [Heap.get?_update_self f ho (by rw [hf] <;> rfl), hf]
 refine I.write (x := p) (e := p) (by rw [h]; trivial) (.inl rfl) (fun b u hb q => (Heap.get?_update_other _ _ (Ne.symm hb)).trans q) ⟨_, e⟩ ?_
 exact ⟨hz, its', n', r, e⟩
def rSetL : V -> V -> V -> Hp -> (Hp -> Prop) -> Prop := fun o i v H Q => ∃ p xs k j, o = .ref p /\ i = .int k /\ H p = some (.lst xs) /\ ixN xs.length k = some j /\ Q (upd H p (.lst (xs.set j v)))
theorem q67 : PSet X rSetL := by
 intro pins s σ H o i v ov iv u Q I ro ri rv h
 obtain ⟨p, xs, k, j, rfl, rfl, hp, hj, q⟩ := h
 cases ro
 obtain ⟨t, rfl⟩ := ri
 obtain ⟨its, n, r, ho, hz⟩ := I.lst hp
 obtain ⟨h1, h2, h3, h4⟩ := q8d hj
 have hl := r.length
 have hn := q5c
 have I' : Inv X pins σ (upd H p (.lst (xs.set j v))) { s with heap := s.heap.update p (Obj.mapSeq (·.setIfInBounds j u)) } :=
  I.lstUpd hp ho (q71 its n j u) (r.set rv j) (by rw [List.length_set]; exact hz) s.toks
 by_cases h0 : 0 <= k
 ·have hk : k.toNat = j := by
   rw [seqIndex_of h0 h4] at h1
   exact Option.some.inj h1
  exact PySem.W.ki_setAt ho h0 (by omega) (by rw [List.size_toArray, <- hl]; exact h4) (by rw [hk]; exact ⟨_, I', q⟩)
 ·have hk : (k + (its.toArray.size : Int)).toNat = j := by
   rw [seqIndex_neg (by omega) h3] at h1
   rw [List.size_toArray, <- hl]
   exact Option.some.inj h1
  exact PySem.W.ki_setBack ho (by omega) (by rw [List.size_toArray, <- hl]; exact h3) (by omega) (by rw [hk]; exact ⟨_, I', q⟩)
def q3i : V -> Bool
 | .non => true
 | .bl _ => true
 | .int _ => true
 | .str _ => true
 | _ => false
def eqV : V -> V -> Bool
 | .non, .non => true
 | .bl a, .bl b => a == b
 | .bl a, .int b => (if a then 1 else 0) == b
 | .int a, .bl b => a == (if b then 1 else 0)
 | .int a, .int b => a == b
 | .str a, .str b => a == b
 | _, _ => false
theorem q6r {A : Around} {s : Shared} {y x : V} {u v : Value} (ry : RelV y u) (rx : RelV x v) (fy : q3i y = true) (fx : q3i x = true) : SeqAt.EqAt A s u v (eqV y x) := by
 cases y with
 | non =>
  cases ry
  cases x with
  | non => cases rx; exact SeqAt.EqAt.same _
  | bl b => cases rx; exact SeqAt.EqAt.none_bool b
  | int b => obtain ⟨t, rfl⟩ := rx; exact SeqAt.EqAt.none_int b t
  | str b => obtain ⟨t, rfl⟩ := rx; exact SeqAt.EqAt.none_str b t
  | _ => exact absurd (show false = true from fx) Bool.false_ne_true
 | bl a =>
  cases ry
  cases x with
  | non => cases rx; exact SeqAt.EqAt.bool_none a
  | bl b => cases rx; exact SeqAt.EqAt.bool_bool a b
  | int b => obtain ⟨t, rfl⟩ := rx; exact SeqAt.EqAt.bool_int a b t
  | str b => obtain ⟨t, rfl⟩ := rx; exact SeqAt.EqAt.bool_str a b t
  | _ => exact absurd (show false = true from fx) Bool.false_ne_true
 | int a =>
  obtain ⟨t', rfl⟩ := ry
  cases x with
  | non => cases rx; exact SeqAt.EqAt.int_none a t'
  | bl b => cases rx; exact SeqAt.EqAt.int_bool a t' b
  | int b => obtain ⟨t, rfl⟩ := rx; exact SeqAt.EqAt.int_int a t' b t
  | str b => obtain ⟨t, rfl⟩ := rx; exact SeqAt.EqAt.int_str a t' b t
  | _ => exact absurd (show false = true from fx) Bool.false_ne_true
 | str a =>
  obtain ⟨t', rfl⟩ := ry
  cases x with
  | non => cases rx; exact SeqAt.EqAt.str_none a t'
  | bl b => cases rx; exact SeqAt.EqAt.str_bool a t' b
  | int b => obtain ⟨t, rfl⟩ := rx; exact SeqAt.EqAt.str_int a t' b t
  | str b => obtain ⟨t, rfl⟩ := rx; exact SeqAt.EqAt.str_str a t' b t
  | _ => exact absurd (show false = true from fx) Bool.false_ne_true
 | _ => exact absurd (show false = true from fy) Bool.false_ne_true
theorem q5o : q1S X (.builtin "len") (fun xs H Q => ∃ p ys, xs = [.ref p] /\ (SqL X.K H p ys \/ SqT X.K H p ys) /\ Q (.int ys.length) H) := by
 intro pins s σ H xs us Q I r h
 obtain ⟨p, ys, rfl, hq, q⟩ := h
 obtain ⟨u, rfl, rx⟩ := q3s r
 cases rx
 have hn := q5c
 rcases hq with hq | hq
 ·obtain ⟨its, r', pl, hz⟩ := I.list hq
  have hlen := r'.length
  exact Calls.call_len_list pl.isList (by simp only [List.size_toArray] <;> omega) ⟨.int ys.length, H, I.tok _, ⟨s.toks + 1, by rw [List.size_toArray, hlen]⟩, q⟩
 ·obtain ⟨its, r', pl, hz⟩ := I.tuple hq
  have hlen := r'.length
  exact len_tuple pl (by simp only [List.size_toArray] <;> omega) ⟨.int ys.length, H, I.tok _, ⟨s.toks + 1, by rw [List.size_toArray, hlen]⟩, q⟩
theorem q5n : q1S X (.type "list") (fun xs H Q => ∃ p ys, xs = [.ref p] /\ (SqL X.K H p ys \/ SqT X.K H p ys) /\ ∀ l, H l = none -> Q (.ref l) (upd H l (.lst ys))) := by
 intro pins s σ H xs us Q I r h
 obtain ⟨p, ys, rfl, hq, q⟩ := h
 obtain ⟨u, rfl, rx⟩ := q3s r
 cases rx
 have fin : ∀ (its : List Value), Vals ys its -> ys.length <= sizeLine -> ∀ (h' : Heap) (c' : Nat), (∀ b o', s.heap.get? b = some o' -> h'.get? b = some o') ->
   h'.get? s.heap.objs.size = some { cls := .type "list", dict := none, data := .seq its.toArray c', slots := #[] } -> EP X pins σ Q (.ref s.heap.objs.size) { s with heap := h' } := fun its r' hz h' c' kp e =>
  ⟨.ref s.heap.objs.size, _, I.laid (t' := s.toks) kp (Nat.le_refl _) (show q06 X.prog X.w _ h' _ (.lst ys) from ⟨hz, its, c', r', e⟩), rfl, q _ (I.hok.fresh (Nat.le_refl _))⟩
 rcases hq with hq | hq
 ·obtain ⟨its, r', pl, hz⟩ := I.list hq
  have hlen := r'.length
  obtain ⟨o, ho, hc, n, hd⟩ := pl.isList
  exact call_list_seq p (.inl rfl) ho hc hd (fun h' c' kp e => fin its r' hz h' c' kp e) (by simp only [List.size_toArray] <;> omega)
 ·obtain ⟨its, r', pl, hz⟩ := I.tuple hq
  have hlen := r'.length
  obtain ⟨o, ho, hc, n, hd⟩ := pl
  exact call_list_seq p (.inr rfl) ho hc hd (fun h' c' kp e => fin its r' hz h' c' kp e) (by simp only [List.size_toArray] <;> omega)
theorem q4o : q1S X (.type "tuple") (fun xs H Q => ∃ p ys, xs = [.ref p] /\ ((SqL X.K H p ys /\ ∀ l, H l = none -> Q (.ref l) (upd H l (.tup ys))) \/ (SqT X.K H p ys /\ Q (.ref p) H))) := by
 intro pins s σ H xs us Q I r h
 obtain ⟨p, ys, rfl, h⟩ := h
 obtain ⟨u, rfl, rx⟩ := q3s r
 cases rx
 rcases h with ⟨hq, q⟩ | ⟨hq, q⟩
 ·obtain ⟨its, r', pl, hz⟩ := I.list hq
  have hlen := r'.length
  refine call_tuple_list pl.isList (fun h' kp => ?_) (by simp only [List.size_toArray] <;> omega)
  have I1 : Inv X pins σ H { s with heap := h' } := I.kept (t' := s.toks) kp
  have I2 : Inv X pins σ (upd H h'.objs.size (.tup ys)) { s with heap := h'.push { cls := .type "tuple", data := .seq its.toArray } } :=
   I1.laid (t' := s.toks) (fun b o e => Heap.get?_push_of_some _ e) (Nat.le_refl _) (show q06 X.prog X.w _ _ _ (.tup ys) from ⟨hz, its, r', IsTup.new _ _⟩)
  exact ⟨.ref h'.objs.size, _, I2, rfl, q _ (I1.hok.fresh (Nat.le_refl _))⟩
 ·obtain ⟨its, r', pl, hz⟩ := I.tuple hq
  exact call_tuple_same pl ⟨.ref p, H, I, rfl, q⟩
def tyV (K : PySem.W.Frag) (T : String) (x : V) (H : Hp) : Prop := match x with
 | .str _ => T = "str"
 | .int _ => T = "int"
 | .ref p => (T = "list" /\ ∃ xs, SqL K H p xs) \/ (T = "tuple" /\ ∃ o, K.lookup p = some o /\ o.cls = .type "tuple" /\ o.dict = none) \/
   (T = "dict" /\ ((∃ kvs, H p = some (.dK kvs)) \/ ∃ kvs, H p = some (.dT kvs))) \/ (T = "set" /\ ∃ S n, H p = some (.set S n))
 | _ => False
theorem tyV_is {pins : List (Addr × Obj)} {σ : St} {H : Hp} {s : Shared} {T : String} {x : V} {v : Value} (I : Inv X pins σ H s) (r : RelV x v) (ty : tyV X.K T x H) :
  s.TypeIs v T /\ ∀ a, v = .ref a -> ∃ ob, s.heap.get? a = some ob /\ ob.dict = none := by
 cases x with
 | str z =>
  obtain ⟨t, rfl⟩ := r
  cases (show T = "str" from ty)
  exact ⟨typeIs_str s z t, fun _ e => nomatch e⟩
 | int i =>
  obtain ⟨t, rfl⟩ := r
  cases (show T = "int" from ty)
  exact ⟨typeIs_int s i t, fun _ e => nomatch e⟩
 | ref p =>
  cases r
  rcases ty with ⟨rfl, xs, hq⟩ | ⟨rfl, o, hk, hc, hd⟩ | ⟨rfl, hk⟩ | ⟨rfl, S, n, hk⟩
  ·obtain ⟨its, _, pl, _⟩ := I.list hq
   refine ⟨pl.isList.typeIs, fun a e => ?_⟩
   cases e
   obtain ⟨o, n, e, c, hd, _⟩ := pl
   exact ⟨o, e, hd⟩
  ·refine ⟨⟨o, I.kIn p o hk, hc⟩, fun a e => ?_⟩
   cases e
   exact ⟨o, I.kIn _ o hk, hd⟩
  ·have z : ∃ o, s.heap.get? p = some o /\ o.ExactDict := by
    rcases hk with ⟨kvs, hk⟩ | ⟨kvs, hk⟩
    ·obtain ⟨_, _, _, _, o, _, _, e, ex, _⟩ := I.hok p _ hk
     exact ⟨o, e, ex⟩
    ·obtain ⟨_, _, _, _, o, _, _, e, ex, _⟩ := I.hok p _ hk
     exact ⟨o, e, ex⟩
   obtain ⟨o, e, ex⟩ := z
   refine ⟨⟨o, e, ex.1⟩, fun a e2 => ?_⟩
   cases e2
   exact ⟨o, e, ex.2.1⟩
  ·obtain ⟨o, _, _, _, e, ex, _⟩ := I.hok p _ hk
   refine ⟨⟨o, e, ex.1⟩, fun a e2 => ?_⟩
   cases e2
   exact ⟨o, e, ex.2.1⟩
 | _ => exact False.elim ty
def tBM (K : PySem.W.Frag) (T : String) (r : V -> List V -> Hp -> VK -> Prop) (to : TE) (t : TA) : TE := fun σ H Q => to σ H fun x H1 => tyV K T x H1 /\ t σ H1 fun xs H2 => r x xs H2 Q
variable {o e : Expr} {es : List Expr} {to : TE} {t : TA} {name : Str} {apos cpos : Pos} {T id : String} {r : V -> List V -> Hp -> VK -> Prop}
theorem q7P (pa : PlainAttrs T) (slot : Slot T name id) (hty : typeOf (.builtin id) = pure (.type "method_descriptor")) (hm : MtR X id r) (ho : PE X o to) (ha : PA X (e :: es) t)
  (hbase : attributeBase o name X.env (eval o X.env) = eval o X.env := by rfl)
  (hfew : ((backTo cpos (starEach (e :: es) X.env)).all (fun x => !x.1) && (backToKw cpos (keywordEach [] X.env)).all (fun x => x.1.isSome)
   && decide ((e :: es).length + ([] : List Keyword).length + (if ([] : List Keyword).isEmpty then 0 else 1) < 30)) = true := by rfl)
  (hline : (apos.endLine == cpos.line) = true := by rfl) (hs : starEach (e :: es) X.env = (false, eval e X.env) :: starEach es X.env := by rfl) (hplain : (backTo cpos (starEach es X.env)).any (·.1) = false := by rfl) :
  PE X (.Call (.Attribute o name apos) (e :: es) [] cpos) (tBM X.K T r to t) := by
 intro pins s σ H Q I h
 refine wpAny_Call_method_late hbase hfew hline rfl (thn (ho pins s σ H _ I h) fun v s1 ⟨x, H1, I1, r1, ty, q1⟩ => ?_)
 obtain ⟨h1, h2⟩ := tyV_is I1 r1 ty
 refine ⟨T, id, pa, slot, hty, h1, h2, ?_⟩
 have hA := ha cpos pins s1 σ H1 _ I1 q1
 rw [hs] at hA ⊢
 refine Calls.callWith_builtin (by show (false || (backTo cpos (starEach es X.env)).any (·.1)) = false; rw [hplain] <;> rfl) (Calls.evalArgs_plain ?_)
 exact thn hA fun us s2 ⟨vs, H2, I2, r2, q2⟩ => hm pins s2 σ H2 x vs v us Q I2 r1 r2 q2
end
end L2
namespace L2
open PySem PySem.Spec PyProof.Rows
def MtM (X : Cx) (id : String) (r : V -> List V -> Hp -> VK -> Prop) : Prop :=
 ∀ (pins : List (Addr × Obj)) (s : Shared) (σ : St) (H : Hp) (x : V) (xs : List V) (v : Value) (us : List Value) (Q : VK), Inv X pins σ H s -> RelV x v -> Vals xs us -> r x xs H Q ->
  wpAny (model X.prog X.w) X.A (call (.builtin id) (v :: us)) (EP X pins σ Q) X.xe s
theorem Vals.one : ∀ {x : V} {us : List Value}, Vals [x] us -> ∃ u, us = [u] /\ RelV x u
 | _, _, .cons r .nil => ⟨_, rfl, r⟩
theorem Vals.rep {xs : List V} {us : List Value} (h : Vals xs us) : ∀ k : Nat, Vals (List.replicate k xs).flatten (List.replicate k us).flatten
 | 0 => .nil
 | k + 1 => by
  rw [List.replicate_succ, List.replicate_succ, List.flatten_cons, List.flatten_cons]
  exact Vals.append h (Vals.rep h k)
theorem q5g (its : List Value) : ∀ (k : Nat) (acc : List Value),
  List.foldl (fun x1 x2 => x1 ++ x2) acc.toArray (List.replicate k its.toArray) = (acc ++ (List.replicate k its).flatten).toArray
 | 0, acc => by simp
 | k + 1, acc => by
  have e : acc.toArray ++ its.toArray = (acc ++ its).toArray := by simp
  have e2 : (acc ++ its) ++ (List.replicate k its).flatten = acc ++ (List.replicate (k + 1) its).flatten := by
   rw [List.replicate_succ, List.flatten_cons, List.append_assoc]
  rw [<- e2, <- q5g its k (acc ++ its), <- e, List.replicate_succ, List.foldl_cons]
section
variable {X : Cx} {pins : List (Addr × Obj)} {σ : St} {H : Hp} {s : Shared} {l b : Addr} {xs ys zs : List V}
theorem Inv.lset {its its' : List Value} {n : Nat} {f : Array Value -> Array Value} {t' : Nat} (I : Inv X pins σ H s) (hH : H l = some (.lst xs))
  (e : s.heap.get? l = some { cls := .type "list", data := .seq its.toArray n }) (hf : f its.toArray = its'.toArray) (hv : Vals ys its') (hz : ys.length <= sizeLine) :
  Inv X pins σ (upd H l (.lst ys)) { s with heap := s.heap.update l (Obj.mapSeq f), toks := t' } := by
 have q := PySem.IsL.update e f
 rw [hf] at q
 refine I.write (x := l) (e := l) (by rw [hH]; exact trivial) (.inl rfl) (fun b' u hb hu => (Heap.get?_update_other s.heap (Obj.mapSeq f) (Ne.symm hb)).trans hu) ⟨_, q⟩ ?_
 exact ⟨hz, its', _, hv, q⟩
theorem Inv.lnew {its : List Value} {t' : Nat} (I : Inv X pins σ H s) (hv : Vals ys its) (hz : ys.length <= sizeLine) :
  Inv X pins σ (upd H s.heap.objs.size (.lst ys)) { s with heap := s.heap.push { cls := .type "list", data := .seq its.toArray }, toks := t' } :=
 I.laid (fun _ _ q => Heap.get?_push_of_some _ q) (Nat.le_refl _) ⟨hz, its, 0, hv, Heap.get?_push_size _ rfl⟩
theorem Inv.fresh (I : Inv X pins σ H s) : H s.heap.objs.size = none := I.hok.fresh (Nat.le_refl _)
theorem Inv.lstM (I : Inv X pins σ H s) (hH : H l = some (.lst xs)) : xs.length <= sizeLine /\ ∃ (its : List Value) (n : Nat), Vals xs its /\ xs.length = its.length /\ s.heap.get? l = some { cls := .type "list", data := .seq its.toArray n } := by
 obtain ⟨z, its, n, r, e⟩ := I.hok l _ hH
 exact ⟨z, its, n, r, r.length, e⟩
theorem q9A {n : Nat} (h : n <= sizeLine) : Builtin.List.listTooLong n = false := by
 unfold Builtin.List.listTooLong
 exact decide_eq_false (by omega)
end
section
variable {X : Cx}
def q7F : V -> List V -> Hp -> VK -> Prop := fun x vs H Q => ∃ l xs y, x = .ref l /\ vs = [y] /\ H l = some (.lst xs) /\ xs.length < sizeLine /\ Q .non (upd H l (.lst (xs ++ [y])))
theorem q13 : MtM X "list.append" q7F := by
 intro pins s σ H x vs v us Q I rx rv h
 obtain ⟨l, xs, y, rfl, rfl, hH, hz, q⟩ := h
 cases rx
 obtain ⟨u, rfl, ru⟩ := rv.one
 obtain ⟨z, its, n, r, hl, e⟩ := I.lstM hH
 refine call_meets F.slot_list_append ⟨_, e, rfl⟩ F.entry_list_append (F.args_list_append_2 _ _) (PySem.list_append l its.toArray n u (by rw [List.size_toArray]; omega)) ⟨e, ?_⟩
 refine ⟨.non, _, I.lset (its' := its ++ [u]) hH e (by simp) (r.append (.cons ru .nil)) ?_, rfl, q⟩
 rw [List.length_append, List.length_singleton]
 omega
def rCat : R2 := fun x y H Q => ∃ l b xs zs, x = .ref l /\ y = .ref b /\ H l = some (.lst xs) /\ H b = some (.lst zs) /\ xs.length + zs.length <= sizeLine /\ ∀ p, H p = none -> Q (.ref p) (upd H p (.lst (xs ++ zs)))
theorem q6k : OpR X (binaryOp .Add) rCat := by
 intro pins s σ H x y v u Q I rx ry h
 obtain ⟨l, b, xs, zs, rfl, rfl, hH, hB, hz, q⟩ := h
 cases rx
 cases ry
 obtain ⟨z, its, n, r, hl, e⟩ := I.lstM hH
 obtain ⟨z2, its2, n2, r2, hl2, e2⟩ := I.lstM hB
 refine PySem.P.add_list e e2 ?_ (by rw [List.size_toArray, List.size_toArray]; omega)
 have ea : its.toArray ++ its2.toArray = (its ++ its2).toArray := by simp
 rw [ea]
 exact ⟨.ref _, _, I.lnew (t' := s.toks) (r.append r2) (by rw [List.length_append]; omega), rfl, q _ I.fresh⟩
def rRep : R2 := fun x y H Q => ∃ l k xs, x = .ref l /\ y = .int k /\ H l = some (.lst xs) /\ -(2 ^ 63) <= k /\ k < 2 ^ 63 /\ xs.length * k.toNat <= sizeLine /\
 ∀ p, H p = none -> Q (.ref p) (upd H p (.lst (List.replicate k.toNat xs).flatten))
theorem qbj {α : Type} (xs : List α) (k : Nat) : (List.replicate k xs).flatten.length = k * xs.length := by
 induction k with
 | zero => simp
 | succ k ih => rw [List.replicate_succ, List.flatten_cons, List.length_append, ih, Nat.succ_mul, Nat.add_comm]
theorem op_rep : OpR X (binaryOp .Mult) rRep := by
 intro pins s σ H x y v u Q I rx ry h
 obtain ⟨l, k, xs, rfl, rfl, hH, h1, h2, hz, q⟩ := h
 cases rx
 obtain ⟨t, rfl⟩ := ry
 obtain ⟨z, its, n, r, hl, e⟩ := I.lstM hH
 have hlen : its.toArray.size * k.toNat <= sizeLine := by rw [List.size_toArray, <- hl]; exact hz
 have hcap : ¬ its.toArray.size * k.toNat > (2 ^ 63 - 1) / 8 := by
  have : (sizeLine : Nat) <= (2 ^ 63 - 1) / 8 := by decide
  omega
 have hfit : ¬ (!Builtin.List.listFitsIndex k) = true := by
  rw [fitsIndex_both h1 h2]
  exact Bool.false_ne_true
 have hlong : ¬ Builtin.List.listTooLong (its.toArray.size * k.toNat) = true := by
  rw [q9A hlen]
  exact Bool.false_ne_true
 have hnew : List.foldl (fun x1 x2 => x1 ++ x2) #[] (List.replicate (if its.toArray.isEmpty = true then 0 else k.toNat) its.toArray) = (List.replicate k.toNat its).flatten.toArray := by
  have f0 : ∀ m : Nat, List.foldl (fun x1 x2 => x1 ++ x2) #[] (List.replicate m its.toArray) = (List.replicate m its).flatten.toArray := fun m => by
   have := q5g its m []
   rw [List.nil_append] at this
   exact this
  rw [f0]
  cases its with
  | nil => simp
  | cons a r' => rw [if_neg (by simp)]
 refine wpAny_binaryOp_repeat_ref (T := "list") (U := "int") (by decide) ⟨_, e, rfl⟩ (fun s' => typeIs_int s' k t) noFill_list_mul F.fills_int_mul F.slot_int_rmul repeat_list F.slot_int_index.lookup
  (call_meets F.slot_int_rmul (typeIs_int s k t) F.entry_int_rmul (F.args_int_rmul_2 _ _) (int___rmul___int_list k t l its.toArray n)
   ⟨e, rfl, ⟨_, e, rfl⟩, call_meets F.slot_list_mul ⟨_, e, rfl⟩ F.entry_list_mul (F.args_list_mul_2 _ _) (AutoListH.list___mul___list_int_3 l its.toArray n k t hfit hcap hlong) ⟨e, ?_⟩⟩)
 rw [hnew]
 exact ⟨.ref _, _, I.lnew (t' := s.toks) (r.rep k.toNat) (by rw [qbj, Nat.mul_comm]; exact hz), rfl, q _ I.fresh⟩
end
end L2
namespace Att
open PySem PySem.W PySem.Calls PyProof.Rows
theorem q3h {P : Params} {h : Heap} : ∀ (ns : List Int) (vs : List Value), WellAll P h vs (ns.map WData.int) -> IntsAre vs ns := by
 intro ns
 induction ns with
 | nil =>
  intro vs w
  rw [List.map_nil] at w
  cases w
  exact .nil
 | cons n ns ih =>
  intro vs w
  rw [List.map_cons] at w
  cases w with
  | cons a b =>
   cases a
   exact .cons _ _ (ih _ b)
theorem q7w {l : OpenLaw} {n : Nat} (hn : l.most = some n) {P : Params} {h : Heap} {args : List WData} {vals : List Value}
  (hpre : l.row.toRowW.claim.pre args = true) (hwl : WellAll P h vals args) :
  ∃ a vs ns, vals = [Value.ref a] /\ args = [WData.list (ns.map WData.int)] /\ h.get? a = some { cls := .type "list", data := .seq vs.toArray } /\ IntsAre vs ns /\ ns.length <= n := by
 have hsh : WShape.hasAll [] args [.list .int] = true := (pre_splitW hpre).1
 have hc : l.pre.holds [] { args := args } = true := (pre_splitW hpre).2
 obtain ⟨d, r, rfl, h1, h2⟩ := hasAllW_cons hsh
 obtain rfl := hasAllW_nil h2
 obtain ⟨xs, rfl, h3⟩ := hasW_list h1
 obtain ⟨ns, rfl⟩ := items_int h3
 have hlen : ns.length <= n := by
  unfold OpenLaw.pre at hc
  have h4 : (WTm.not (.lt (.lit (.int (n : Int))) (.len (.arg 0)))).holds [] { args := [.list (ns.map .int)] } = true := by
   have h4 := (holds_andW hc).1
   rw [hn] at h4
   exact h4
  have h5 := condW_of h4 (w_not (w_lt w_lit (w_len_list (w_arg rfl))))
  rw [List.length_map] at h5
  refine Nat.le_of_not_lt fun q => ?_
  have q' : (n : Int) < ((ns.length : Nat) : Int) := by omega
  first
   |(rw [decide_eq_true q'] at h5; exact absurd h5 (by decide))
   |(simp at h5; omega)
 cases hwl with
 | cons w1 w2 =>
  cases w2
  cases w1 with
  | list ho hall => exact ⟨_, _, ns, rfl, rfl, ho, q3h ns _ hall, hlen⟩
theorem q7I (l : OpenLaw) (args : List WData) : l.row.toRowW.claim.post args (.bool true) args = true :=
 postW_of (r := l.row.toRowW) (X := (true == true))
  (show WShape.has [] (.bool true) .bool = true by first | rfl | decide | simp [WShape.has, WShape.arms, WShape.armsAll])
  (show (WTm.eq .res (.lit (.bool true))).value [] { args := args, res := some (.bool true), after := args } = some (.bool (true == true)) from w_eq_bool (w_res rfl) w_lit) rfl
theorem q60 {l : OpenLaw} {n : Nat} {q : Program} {loose : List Str} {XP : (Str -> Option Value) -> Heap -> Prop} {YP : World -> Heap -> Prop} {d : DefRec}
  (hn : l.most = some n) (hdf : d.params.defaults = [])
  (call : ∀ (w : World) (s₀ s₁ : Shared) (mg mb : Str -> Option Value) (fa : Addr) (o : Obj) (pm cd doc : Value) (a : Addr) (vs : List Value) (ns : List Int),
   Ground q loose [] XP w s₀ mg mb s₁.heap -> YP w s₁.heap ->
   s₁.heap.get? fa = some o -> o.data = .func (docDef d.name d.params d.body d.scope pm cd doc) -> s₁.heap.CodeRec cd d.name -> mg d.name = some (.ref fa) ->
   s₁.heap.get? a = some { cls := .type "list", data := .seq vs.toArray } -> IntsAre vs ns -> ns.length <= n -> s₁.gens = #[] ->
   codeAny (model l.prog w) callerA (.call (.ref fa) ⟨[.ref a], []⟩) (fun r s' => r = .ok (.ret (.bool true)) /\ OldK s₁.heap s'.heap /\ s'.os = s₁.os /\ AllBare s'.gens) s₁) :
  WalkO q loose XP YP l.row.toRowW d [] (fun f vs => PySem.call f vs) := by
 intro w s₀ s₁ mg mb G Y fa o pm cd doc dV kV ho hd hcd hD hmg hg args vals as hpre hlay hrd hwl hlo
 obtain rfl : dV = .none := Dflts.none hD hdf
 obtain rfl : kV = .none := Dflts.noKw hD
 obtain ⟨a, vs, ns, rfl, rfl, hobj, hints, hlen⟩ := q7w hn hpre hwl
 refine enter_call (codeAny_mono (call w s₀ s₁ mg mb fa o pm cd doc a vs ns G Y ho (fd_plain hd) hcd hmg hobj hints hlen hg) fun r s' hq => ?_)
 obtain ⟨rfl, h2, h3, h4⟩ := hq
 exact ⟨.inl ⟨.bool true, .bool true, [], rfl, fun _ => rfl, .bool true, q7I l _, fun _ => ⟨List.Pairwise.nil, fun _ hm => (nomatch hm)⟩⟩, h2, h3, h4⟩
end Att
namespace L2
open PySem PySem.Spec PyProof.Rows
theorem q4F : ∀ {vs : List Value} {ns : List Int}, IntsAre vs ns -> Vals (ns.map V.int) vs
 | _, _, .nil => .nil
 | _, _, .cons n t h => .cons ⟨t, rfl⟩ (q4F h)
def Only (H : Hp) : Prop := ∀ b, H b = none \/ ∃ o xs, H b = some (.frz o (.lst xs))
theorem q9I {P : Program} {w : World} {K : PySem.W.Frag} {mg mb : Str -> Option Value} {CX : CXT} {k : Nat} {fa a : Addr} {fd : FuncData} {x : Str} {sp : Sp} {s₁ : Shared} {vs : List Value} {ns : List Int}
  (KX : K.In s₁.heap) (hns : s₁.heap.Ns mainGlobals mg) (hb : s₁.heap.Ns builtinsNs mb) (hbb : ∀ x : Str, x ≠ "__name__" -> mb x = bootBuiltins x) (hlim : s₁.heap.NoLimit) (hg : s₁.gens = #[])
  (ha : s₁.heap.get? a = some { cls := .type "list", data := .seq vs.toArray }) (hi : IntsAre vs ns) (hl : ns.length <= sizeLine) (hr : Room k callerA)
  (F : ∀ base : Heap, K.In base -> base.Ns mainGlobals mg -> FnOk P w K mg base CX k fa fd [x] sp) (hbind : ∀ (s : Shared) (u : Value), BindsTo s fd ⟨[u], []⟩ [(x, u)])
  (hsp : ∀ H : Hp, Only H -> SqL K H a (ns.map V.int) -> sp [.ref a] H (fun v _ => v = .bl true) fun _ _ _ => False)
  (hCX : ∀ H e s', CX [] H s₁ (fun _ _ _ => False) e s' -> False) :
  codeAny (model P w) callerA (.call (.ref fa) ⟨[.ref a], []⟩) (fun r s' => r = .ok (.ret (.bool true)) /\ OldK s₁.heap s'.heap /\ s'.os = s₁.os /\ AllBare s'.gens) s₁ := by
 have rv := q4F hi
 have lenV := hi.length
 -- from an abstract heap in which nothing but the script may be tracked
 have core : ∀ H : Hp, Only H -> SqL K H a (ns.map V.int) -> HOk P w H s₁.heap -> (∀ b, H b ≠ none -> b = a) -> (H a ≠ none -> K.lookup a = none) ->
   codeAny (model P w) callerA (.call (.ref fa) ⟨[.ref a], []⟩) (fun r s' => r = .ok (.ret (.bool true)) /\ OldK s₁.heap s'.heap /\ s'.os = s₁.os /\ AllBare s'.gens) s₁ := by
  intro H hO hS hok hA hK
  have base_of : ∀ {b : Addr} {o : Obj}, s₁.heap.get? b = some o -> H b = none -> (hidT s₁.heap H).get? b = some o := fun e n => q9N e n
  have noA : ∀ {b : Addr} {o : Obj} {es : Array DictEntry} {ep : Nat}, s₁.heap.get? b = some o -> o.data = .dict es ep -> H b = none := fun {b o es ep} e d => by
   cases q : H b with
   | none => rfl
   | some u =>
    have e' : b = a := hA b (by rw [q]; simp)
    subst e'
    rw [ha] at e; cases e
    have d' : Data.seq vs.toArray _ = Data.dict es ep := d
    cases d'
  have nsK : ∀ {b : Addr} {m : Str -> Option Value}, s₁.heap.Ns b m -> (hidT s₁.heap H).Ns b m := fun {b m} ⟨o, es, ep, e, d, r⟩ => ⟨o, es, ep, base_of e (noA e d), d, r⟩
  have hKb : K.In (hidT s₁.heap H) := fun b o e => base_of (KX b o e) (by
   cases q : H b with
   | none => rfl
   | some u =>
    have e' : b = a := hA b (by rw [q]; simp)
    subst e'
    rw [hK (by rw [q]; simp)] at e; cases e)
  have hM : Mod K mg (hidT s₁.heap H) := ⟨hKb, nsK hns, ⟨mb, nsK hb, hbb⟩, let ⟨mc, h1, h2⟩ := hlim; ⟨mc, nsK h1, h2⟩⟩
  have e0 : Env0 P w K mg (hidT s₁.heap H) callerA [] s₁ H := ⟨rfl, hM, fun b o e => qba e, Nat.le_of_eq (q8m _ _), trivial, fun b hb => absurd (show b ∈ ([] : List Addr) from hb) (by simp), hok, .of_eq hg⟩
  refine codeAny_mono ((F _ hKb (nsK hns)).run callerA [] s₁ H ⟨[.ref a], []⟩ [.ref a] [.ref a] _ _ hr e0 (hbind s₁ (.ref a)) (.cons rfl .nil) (hsp H hO hS)) fun r s' h => ?_
  cases r with
  | error e => exact (hCX H e s' h).elim
  | ok fl =>
   cases fl with
   | next => exact False.elim h
   | brk => exact False.elim h
   | cont => exact False.elim h
   | ret u =>
    obtain ⟨v, H', os, bare, un, hok', r', q⟩ := h
    have q' : v = .bl true := q
    subst q'
    obtain rfl : u = Value.bool true := r'
    refine ⟨rfl, OldK.of_keep fun b o e => ?_, os, bare⟩
    cases q : H b with
    | none => exact un.keep b o e q (by intro z; exact absurd (show b ∈ ([] : List Addr) from z) (by simp)) (by simp)
    | some u =>
     rcases hO b with z | ⟨ob, xs, z⟩
     ·rw [q] at z; cases z
     ·have z2 := un.frzs b ob _ z
      obtain ⟨e1, _⟩ := hok b _ z
      obtain ⟨e2, _⟩ := hok' b _ z2
      rw [e] at e1; cases e1
      exact e2
 cases hk : K.lookup a with
 | some o =>
  -- the script is one of the module's own objects
  have e := KX a o hk
  rw [ha] at e
  cases e
  refine core (fun _ => none) (fun _ => .inl rfl) (.inr ⟨_, vs.toArray, _, hk, rfl, rfl, rfl, by rw [List.size_toArray, lenV]; exact hl, by simpa using rv⟩) (fun b u z => by have z' : (none : Option HO) = some u := z; cases z') (fun b z => absurd rfl z) fun z => absurd rfl z
 | none =>
  refine core (fun b => if b = a then some (.frz { cls := .type "list", data := .seq vs.toArray } (.lst (ns.map V.int))) else none) (fun b => ?_) (.inl (.inr ⟨{ cls := .type "list", data := .seq vs.toArray }, if_pos rfl⟩)) (fun b u z => ?_) (fun b z => ?_) fun _ => hk
  ·by_cases hb : b = a
   ·exact .inr ⟨_, _, if_pos hb⟩
   ·exact .inl (if_neg hb)
  ·by_cases hb : b = a
   ·have z' := (if_pos hb).symm.trans z
    cases z'
    subst hb
    exact ⟨ha, by rw [List.length_map]; exact hl, vs, _, rv, ha⟩
   ·have z' := (if_neg hb).symm.trans z
    cases z'
  ·by_cases hb : b = a
   ·exact hb
   ·exact absurd (if_neg hb) z
end L2
namespace L2
open PySem PySem.Spec PyProof.Rows
theorem qax {l : PySem.W.OpenLaw} {n k : Nat} {q : Program} {loose : List Str} {XP : (Str -> Option Value) -> Heap -> Prop} {YP : World -> Heap -> Prop} {d : DefRec} {K : Params -> PySem.W.Frag} {CX : World -> CXT} {sp : World -> Sp} {x : Str}
  (hn : l.most = some n) (hn2 : n <= sizeLine) (hdf : d.params.defaults = []) (hr : Room k callerA)
  (hY : ∀ (w : World) (h : Heap), YP w h -> (K w.params).In h)
  (F : ∀ (w : World) (mg : Str -> Option Value) (fa : Addr) (h : Heap), (K w.params).In h -> h.Ns mainGlobals mg -> mg d.name = some (.ref fa) ->
   ∃ fd : FuncData, (∀ (s : Shared) (u : Value), BindsTo s fd ⟨[u], []⟩ [(x, u)]) /\
    ∀ base : Heap, (K w.params).In base -> base.Ns mainGlobals mg -> FnOk l.prog w (K w.params) mg base (CX w) k fa fd [x] (sp w))
  (hsp : ∀ (w : World) (H : Hp) (a : Addr) (ns : List Int), ns.length <= n -> Only H -> SqL (K w.params) H a (ns.map V.int) -> sp w [.ref a] H (fun v _ => v = .bl true) fun _ _ _ => False)
  (hCX : ∀ (w : World) (H : Hp) (s : Shared) (e : Value) (s' : Shared), CX w [] H s (fun _ _ _ => False) e s' -> False) :
  PySem.W.WalkO q loose XP YP l.row.toRowW d [] (fun f vs => PySem.call f vs) := by
 refine Att.q60 hn hdf fun w s₀ s₁ mg mb fa o pm cd doc a vs ns G Y ho hd hcd hmg hobj hints hlen hg => ?_
 have KX := hY w _ Y
 obtain ⟨fd, hb, hF⟩ := F w mg fa _ KX G.T.g hmg
 exact q9I KX G.T.g G.T.b G.T.builtins G.T.nolimit hg hobj hints (Nat.le_trans hlen hn2) hr hF hb (fun H hO hS => hsp w H a ns hlen hO hS) fun H e s' => hCX w H s₁ e s'
end L2
namespace L2
open PySem PySem.Spec PyProof.Rows
def qC (s : Stmt) (j : Nat) : Stmt := match s with
 | .ClassDef _ _ _ body _ _ _ _ _ _ _ => body.getD j (.Pass ⟨0, 0, 0, 0⟩)
 | _ => .Pass ⟨0, 0, 0, 0⟩
def q05 (s : Stmt) : Arguments := match s with
 | .FunctionDef _ a _ _ _ _ _ _ _ _ => a
 | _ => { posonlyargs := [], args := [], vararg := none, kwonlyargs := [], kw_defaults := [], kwarg := none, defaults := [] }
def qK (s : Stmt) : List Stmt := match s with
 | .FunctionDef _ _ b _ _ _ _ _ _ _ => b
 | _ => []
def qe (s : Stmt) : Scope := match s with
 | .FunctionDef _ _ _ _ _ _ sc _ _ _ => sc
 | _ => { kind := .function, names := [], isGenerator := false, isCoroutine := false }
abbrev CX0 : CXT := fun _ _ _ _ _ _ => False
abbrev E0 : XK := fun _ _ _ => False
theorem q5G {X : Cx} : q3N CX0 X E0 := fun _ _ _ _ _ _ _ h => h.elim
structure Fun (K : PySem.W.Frag) (x qual : Str) (st : Stmt) (f : Addr) (fd : FuncData) : Prop where
 ex : ∃ (oc : Value) (od : Option Addr) (kV doc pm : Value) (an : Option Addr) (cdv ct : Value) (osl : Array (Option Value)),
  fd = PySem.W.fnOf x qual (q05 st) (qK st) (qe st) .none kV doc pm an cdv ct /\ K.lookup f = some ⟨oc, od, .func fd, osl⟩ /\ PySem.W.codeIn K cdv qual = true
 kp : PySem.W.keepIn K (.ref f) = true
section
variable {P : Program} {w : World} {K : PySem.W.Frag} {mg : Str -> Option Value} {base : Heap}
theorem Fun.ok {x qual : Str} {st : Stmt} {f : Addr} {fd : FuncData} {N ps : List Str} {k : Nat} {sp : Sp} (F : Fun K x qual st f fd) (S : FnScope N ps (qe st)) (len : ∀ vs H Q E, sp vs H Q E -> vs.length = ps.length)
  (hbody : ∀ (cdv : Value) (A : Around) (outer : List Env) (s : Shared) (H : Hp) (vs : List V) (Q : VK) (E : XK), Room k (A.deeper (envOfC qual (qe st) s.heap.objs.size f cdv)) -> sp vs H Q E ->
   ∃ t, PSs (cxOf CX0 P w K mg base N qual (qe st) f cdv A outer s H E).nox (qK st) t /\ t { nx := fun _ H' => Q .non H', rt := Q } (start N vs) H) : FnOk P w K mg base CX0 (k + 1) f fd ps sp := by
 obtain ⟨oc, od, kV, doc, pm, an, cdv, ct, osl, rfl, lk, hcd⟩ := F.ex
 refine fn_of lk hcd S len fun A outer s H vs Q E hr hsp => ?_
 obtain ⟨t, h, q⟩ := hbody cdv A outer s H vs Q E hr hsp
 exact ⟨t, h.nox, q⟩
theorem Fun.binds {x qual : Str} {st : Stmt} {f : Addr} {fd : FuncData} {ps : List Str} (F : Fun K x qual st f fd)
  (h : ∀ (kV doc pm : Value) (an : Option Addr) (cdv ct : Value) (us : List Value), us.length = ps.length -> bindArgs (PySem.W.fnOf x qual (q05 st) (qK st) (qe st) .none kV doc pm an cdv ct) ⟨us, []⟩ = pure (ps.zip us)) : q1T K fd ps [] := by
 obtain ⟨oc, od, kV, doc, pm, an, cdv, ct, osl, rfl, lk, hcd⟩ := F.ex
 exact .all (h kV doc pm an cdv ct)
theorem q2n {x qual : Str} {st : Stmt} {f : Addr} {oc : Value} {od an : Option Addr} {osl : Array (Option Value)} {kV doc pm cdv ct : Value} (l : K.lookup f = some ⟨oc, od, .func (PySem.W.fnOf x qual (q05 st) (qK st) (qe st) .none kV doc pm an cdv ct), osl⟩)
  (c : PySem.W.codeIn K cdv qual = true) (k : PySem.W.keepIn K (.ref f) = true) : Fun K x qual st f (PySem.W.fnOf x qual (q05 st) (qK st) (qe st) .none kV doc pm an cdv ct) := ⟨⟨oc, od, kV, doc, pm, an, cdv, ct, osl, rfl, l, c⟩, k⟩
end
theorem hu_of {A : Around} {k : Nat} (hr : Room k A) : A.units + 1 < cLine := Nat.lt_of_le_of_lt (Nat.add_le_add_left (by decide : 1 <= 64) _) hr.units
section
variable {X : Cx}
theorem pv (i : Nat) {x : Str} {pos : Pos} (hN : X.N[i]? = some x := by rfl) (hv : Vis X.env.scope x := by first | exact Or.inl rfl | exact Or.inr (Or.inl rfl) | exact Or.inr (Or.inr rfl)) (hd : (x == ("__debug__" : Str)) = false := by decide)
  (hcd : (x == ("__classdict__" : Str)) = false := by decide) : PE X (.Name x pos) (tVar i) := pe_var hN hv hd hcd
end
theorem iteF {A B : Prop} (h : B) : if false = true then A else B := by
 rw [if_neg Bool.false_ne_true]
 exact h
theorem iteT {A B : Prop} (h : A) : if true = true then A else B := by
 rw [if_pos rfl]
 exact h
theorem ite2 {c A B : Prop} [Decidable c] (h1 : c -> A) (h2 : ¬ c -> B) : if c then A else B := by
 by_cases h : c
 ·rw [if_pos h]
  exact h1 h
 ·rw [if_neg h]
  exact h2 h
def Same (H H' : Hp) : Prop := ∀ b o, H b = some o -> H' b = some o
theorem Same.refl (H : Hp) : Same H H := fun _ _ h => h
theorem Same.trans {H H1 H2 : Hp} (a : Same H H1) (b : Same H1 H2) : Same H H2 := fun c o h => b c o (a c o h)
theorem Same.free {H H' : Hp} (e : Same H H') {l : Addr} (h : H' l = Option.none) : H l = Option.none := by
 cases q : H l with
 | none => rfl
 | some o =>
  rw [e l o q] at h
  cases h
theorem Same.seq {K : PySem.W.Frag} {H H' : Hp} {a : Addr} {xs : List V} (e : Same H H') (h : SqL K H a xs) : SqL K H' a xs := by
 rcases h with (h | ⟨o, h⟩) | h
 ·exact .inl (.inl (e _ _ h))
 ·exact .inl (.inr ⟨o, e _ _ h⟩)
 ·exact .inr h
end L2
set_option maxHeartbeats 4000000
namespace L2
open PySem PySem.Spec PyProof.Rows
theorem fls {α : Type} {M : Model} {A : Around} {t : Sem α} {Q : α -> Shared -> Prop} {E : Value -> Shared -> Prop} {s : Shared} (h : wpAny M A t Q (fun _ _ => False) s) : wpAny M A t Q E s :=
 wpAny_mono h (fun _ _ q => q) fun _ _ z => z.elim
section
variable {prog : Program} {w : World} {A : Around} {R : Result -> Shared -> Prop} {s : Shared}
theorem q5m {elt target iter : Expr} {ifs : List Expr} {scope : Scope} {pos : Pos} {it acc : Value} {env : Env} (J : Nat -> Shared -> Prop)
  (turn : ∀ n s, J n s -> wpAny (model prog w) A (pyNext it) (fun r s₁ => match r with
   | none => R (.ok .next) s₁
   | some v => wpAny (model prog w) A (letOwnedTupleGo target it v) (fun _ s₂ => wpAny (model prog w) A (assign target env v) (fun _ s₃ =>
     wpAny (model prog w) A (forIn ifs true fun c r => if r = true then do let ok <- isTrue c env (eval c env); pure (ForInStep.yield ok) else pure (ForInStep.yield r)) (fun ok s₄ =>
      if ok = true then wpAny (model prog w) A (eval elt env) (fun x s₅ =>
       wpAny (model prog w) A (call (.builtin "list.append") [acc, x]) (fun _ s₆ => ∃ m, m < n /\ J m s₆) (fun _ _ => False) s₅) (fun _ _ => False) s₄
      else ∃ m, m < n /\ J m s₄) (fun _ _ => False) s₃) (fun _ _ => False) s₂) (fun _ _ => False) s₁) (fun _ _ => False) s)
  (n : Nat) (h : J n s) :
  codeAny (model prog w) A (.compLoop (.ListComp elt [⟨target, iter, ifs, 0⟩] scope pos) 0 it acc env) R s := by
 refine codeAny_loop rfl J (fun n s hI => ?_) n h
 show wpAny _ A ((compTurn (.ListComp elt [⟨target, iter, ifs, 0⟩] scope pos) 0 it acc env).onRaise (fun x => do noteFrame x env; theTreesLotGoes x)) _ _ s
 refine wpAny_noted (fls ?_)
 rw [compTurn_list]
 refine wpAny_bind (wpAny_standAt (wpAny_bind (wpAny_mono (turn n s hI) (fun r s₁ h₁ => ?_) fun _ _ h' => h')))
 cases r with
 | none => exact wpAny_pure h₁
 | some v =>
  refine wpAny_bind (wpAny_mono h₁ (fun _ s₂ h₂ => wpAny_bind (wpAny_mono h₂ (fun _ s₃ h₃ => wpAny_bind (wpAny_mono h₃ (fun ok s₄ h₄ => ?_) fun _ _ h' => h')) fun _ _ h' => h')) fun _ _ h' => h')
  cases ok with
  | false => exact wpAny_pure ⟨rfl, h₄⟩
  | true => exact wpAny_bind (wpAny_bind (wpAny_mono h₄ (fun x s₅ h₅ => wpAny_bind (wpAny_mono h₅ (fun _ s₆ h₆ => wpAny_pure (wpAny_pure ⟨rfl, h₆⟩)) fun _ _ h' => h')) fun _ _ h' => h'))
end
def clOf (scope : Scope) (env : Env) : List (Str × Addr) := (scope.names.filter fun y => y.2 == .free).reverse.map fun y => (y.1, (env.cells.lookup y.1).getD 0)
theorem q3l {scope : Scope} {env : Env} (h : ∀ y ∈ scope.names, y.2 = .free -> ∃ c, env.cells.lookup y.1 = some c) : closureFor scope env = pure (clOf scope env) := by
 unfold closureFor clOf
 have key : ∀ (l : List (Str × NameKind)) (cs : List (Str × Addr)), (∀ y ∈ l, y.2 = .free -> ∃ c, env.cells.lookup y.1 = some c) ->
   (forIn l cs (fun x r => match x with
    |(name, kind) => if (kind == NameKind.free) = true then do let a <- cellOf env name; pure (ForInStep.yield ((name, a) :: r)) else pure (ForInStep.yield r)) : Sem (List (Str × Addr))) =
    pure ((l.filter fun y => y.2 == .free).reverse.map (fun y => (y.1, (env.cells.lookup y.1).getD 0)) ++ cs) := by
  intro l
  induction l with
  | nil => intro cs _; rfl
  | cons y l ih =>
   intro cs hl
   obtain ⟨n, k⟩ := y
   have ih' := fun cs => ih cs fun y hy => hl y (List.mem_cons_of_mem _ hy)
   rw [List.forIn_cons]
   by_cases hk : k = .free
   ·subst hk
    obtain ⟨c, hc⟩ := hl (n, .free) List.mem_cons_self rfl
    have e : cellOf env n = pure c := by unfold cellOf; rw [hc]
    simp only [beq_self_eq_true, if_true, e, pure_bind]
    rw [ih']
    rw [List.filter_cons_of_pos (by rfl), List.reverse_cons, List.map_append, List.append_assoc]
    simp [hc]
   ·have hb : (k == NameKind.free) = false := by simpa using hk
    simp only [hb, Bool.false_eq_true, if_false, pure_bind]
    rw [ih', List.filter_cons_of_neg (by simp [hb])]
 have := key scope.names [] h
 rw [List.append_nil] at this
 first
  | exact this
  |(rw [this]; rfl)
  |(simp only [bind_pure]; exact this)
theorem q1W {f : Str -> Addr} {x : Str} {c : Addr} : ∀ {l : List (Str × NameKind)}, (l.map fun y => (y.1, f y.1)).lookup x = some c -> c = f x /\ ∃ k, (x, k) ∈ l
 | [], h => by simp at h
 |(n, k) :: l, h => by
  rw [List.map_cons, List.lookup_cons] at h
  cases e : x == n with
  | true =>
   rw [e] at h
   have e' : x = n := by simpa using e
   subst e'
   exact ⟨(Option.some.inj h).symm, k, List.mem_cons_self⟩
  | false =>
   rw [e] at h
   obtain ⟨h1, k', h2⟩ := q1W h
   exact ⟨h1, k', List.mem_cons_of_mem _ h2⟩
theorem q1X {f : Str -> Addr} {x : Str} {k : NameKind} : ∀ {l : List (Str × NameKind)}, (x, k) ∈ l -> (l.map fun y => (y.1, f y.1)).lookup x = some (f x)
 | [], h => nomatch h
 |(n, k') :: l, h => by
  rw [List.map_cons, List.lookup_cons]
  cases e : x == n with
  | true =>
   have e' : x = n := by simpa using e
   subst e'
   rfl
  | false =>
   rcases List.mem_cons.mp h with q | q
   ·cases q
    simp at e
   ·exact q1X q
theorem q6z {scope : Scope} {env : Env} (h : ∀ y ∈ scope.names, y.2 = .free -> ∃ c, env.cells.lookup y.1 = some c) {x : Str} {c : Addr} (e : (clOf scope env).lookup x = some c) : env.cells.lookup x = some c := by
 obtain ⟨h1, k, h2⟩ := q1W (f := fun x => (env.cells.lookup x).getD 0) e
 have h3 := List.mem_filter.mp (List.mem_reverse.mp h2)
 obtain ⟨c', hc⟩ := h (x, k) h3.1 (by simpa using h3.2)
 have hc' : env.cells.lookup x = some c' := hc
 rw [hc'] at h1 ⊢
 rw [h1]
 rfl
theorem q6A {scope : Scope} {env : Env} {x : Str} (h : (x, NameKind.free) ∈ scope.names) : (clOf scope env).lookup x = some ((env.cells.lookup x).getD 0) :=
 q1X (f := fun x => (env.cells.lookup x).getD 0) (k := .free) (List.mem_reverse.mpr (List.mem_filter.mpr ⟨h, rfl⟩))
theorem q1U {scope : Scope} {env : Env} {x : Str} : (relabel scope env).names.lookup x = (scope.names.lookup x).map fun k => if (k == .free && env.scope.kind == .function && env.kindOf x == some .cell) = true then .cell else k := by
 unfold relabel
 show List.lookup x (scope.names.map _) = _
 induction scope.names with
 | nil => rfl
 | cons y l ih =>
  obtain ⟨n, k⟩ := y
  rw [List.map_cons]
  show List.lookup x ((if (k == NameKind.free && env.scope.kind == ScopeKind.function && env.kindOf n == some NameKind.cell) = true then (n, NameKind.cell) else (n, k)) :: _) = _
  cases e : x == n with
  | true =>
   have e' : x = n := by simpa using e
   subst e'
   by_cases hc : (k == NameKind.free && env.scope.kind == ScopeKind.function && env.kindOf x == some NameKind.cell) = true
   ·rw [if_pos hc, List.lookup_cons, List.lookup_cons, e]
    show some _ = some (if _ then _ else _)
    rw [if_pos hc]
   ·rw [if_neg hc, List.lookup_cons, List.lookup_cons, e]
    show some _ = some (if _ then _ else _)
    rw [if_neg hc]
  | false =>
   by_cases hc : (k == NameKind.free && env.scope.kind == ScopeKind.function && env.kindOf n == some NameKind.cell) = true
   ·rw [if_pos hc, List.lookup_cons, List.lookup_cons, e]
    exact ih
   ·rw [if_neg hc, List.lookup_cons, List.lookup_cons, e]
    exact ih
def q0h (X : Cx) (N : List Str) (scope : Scope) (C : Addr) (s : Shared) (H : Hp) (fp : List Addr) : Cx where
 prog := X.prog
 w := X.w
 K := X.K
 mg := X.mg
 base := X.base
 A := X.A
 N := N
 s₀ := s
 H₀ := H
 env := compEnvC scope (clOf scope X.env) C X.env
 outer := X.stack
 stack := X.stack
 ex := fp
 fn := fun _ => false
 calm := X.calm
 pn := []
 xe := fun _ _ => False
def q2K (own : Nat) (caps : List Nat) (σ : St) : St := List.replicate own none ++ caps.map fun j => (σ[j]?).getD none
structure CompOk (X : Cx) (N : List Str) (scope : Scope) (own : Nat) (caps : List Nat) : Prop where
 kind : scope.kind = .function
 names : ∀ y ∈ scope.names, y.2 = .local -> scope.names.lookup y.1 = some .local
 nocell : ∀ y ∈ scope.names, y.2 ≠ .cell
 free : ∀ y ∈ scope.names, y.2 = .free -> X.env.kindOf y.1 = some .cell \/ X.env.kindOf y.1 = some .free
 len : N.length = own + caps.length
 cap : ∀ (i j : Nat) (x : Str), caps[i]? = some j -> N[own + i]? = some x -> X.N[j]? = some x /\ scope.names.lookup x = some .free
theorem CompOk.cells {X : Cx} {N : List Str} {scope : Scope} {own : Nat} {caps : List Nat} (O : CompOk X N scope own caps) (ok : X.Ok) : ∀ y ∈ scope.names, y.2 = .free -> ∃ c, X.env.cells.lookup y.1 = some c :=
 fun y hy hf => ok.has y.1 (O.free y hy hf)
section
variable {X : Cx} {pins : List (Addr × Obj)} {σ : St} {H : Hp} {s : Shared} {N : List Str} {scope : Scope} {own : Nat} {caps : List Nat}
theorem Inv.block {h₁ : Heap} {tk : Nat} {fp : List Addr} (O : CompOk X N scope own caps) (I : Inv X pins σ H s) (hf : ∀ b ∈ fp, FpOk X pins H b) (hlt : ∀ b ∈ fp, b < s.heap.objs.size) {m : Str -> Option Value} (hns : h₁.Ns s.heap.objs.size m)
  (hk : ∀ b o, s.heap.get? b = some o -> h₁.get? b = some o) : Inv (q0h X N scope s.heap.objs.size s H fp) [] (q2K own caps σ) H { s with heap := h₁, toks := tk } := by
 have hcl := O.cells I.ok
 have sub : ∀ x c, (clOf scope X.env).lookup x = some c -> X.env.cells.lookup x = some c := fun x c e => q6z hcl e
 have stk : ∀ b ∈ fp, b ∉ frs X.stack := fun b hb z => by
  obtain ⟨_, f1, f2, _⟩ := hf b hb
  rcases List.mem_cons.mp (I.stkSub b z) with q | q
  ·exact f1 q
  ·exact f2 q
 have nocl : ∀ x, (relabel scope X.env).names.lookup x = some .cell \/ (relabel scope X.env).names.lookup x = some .free -> (x, NameKind.free) ∈ scope.names := fun x hx => by
  rw [q1U] at hx
  cases e : scope.names.lookup x with
  | none => rw [e] at hx; rcases hx with hx | hx <;> cases hx
  | some k =>
   have hm := PySem.mem_of_lookup e
   have hc := O.nocell _ hm
   cases k with
   | free => exact hm
   | cell => exact absurd rfl hc
   | _ => rw [e] at hx; rcases hx with hx | hx <;> simp at hx
 have ok : (q0h X N scope s.heap.objs.size s H fp).Ok :=
  {mod := I.ok.mod
   kind := O.kind
   glob := I.ok.glob
   blt := I.ok.blt
   above := Nat.le_refl _
   inj := fun x y c h1 h2 => I.ok.inj x y c (sub x c h1) (sub y c h2)
   has := fun x hx => ⟨_, q6A (nocl x hx)⟩
   cab := fun x c h _ => by cases h
   hd := I.ok.hd
   frames := I.ok.frames
   stk := .inl rfl
   exf := fun b hb => ⟨Nat.ne_of_lt (hlt b hb), fun x c e => (hf b hb).2.2.2.2.1 x c (sub x c e)⟩
   bs := I.bs
   bsz := Nat.le_trans I.ok.bsz I.sz
   noex := fun b o e hb => by
    rcases (hf b hb).2.2.2.1 with z | z
    ·exact I.ok.noex b o e z
    ·exact absurd (Nat.lt_of_lt_of_le (Heap.lt_size e) (Nat.le_trans I.ok.bsz z)) (Nat.lt_irrefl _)
   exfs := stk
   funs := I.stack
   frf := I.stkFree }
 have hC : H s.heap.objs.size = none := I.hok.fresh (Nat.le_refl _)
 refine ⟨ok, rfl, I.bare, Un.kept hk, ⟨m, hns, fun i x v h1 h2 h3 => ?_⟩, fun x c e => ?_, hC, fun x c e => I.freeC x c (sub x c e), fun p hp => absurd (show p ∈ ([] : List (Addr × Obj)) from hp) (by simp), I.hok.kept hk, ?_⟩
 ·-- a name of the def
  have hi : own <= i := by
   by_cases q : own <= i
   ·exact q
   ·unfold q2K at h2
    rw [List.getElem?_append_left (by simp; omega), List.getElem?_replicate] at h2
    split at h2 <;> cases h2
  obtain ⟨k, rfl⟩ : ∃ k, i = own + k := ⟨i - own, by omega⟩
  unfold q2K at h2
  rw [List.getElem?_append_right (by simp), List.length_replicate, Nat.add_sub_cancel_left, List.getElem?_map] at h2
  cases e : caps[k]? with
  | none => rw [e] at h2; cases h2
  | some j =>
   rw [e] at h2
   have h2' : (σ[j]?).getD none = some v := Option.some.inj h2
   obtain ⟨e1, e2⟩ := O.cap k j x e h1
   have e3 := PySem.mem_of_lookup e2
   have hkd := O.free _ e3 rfl
   have h4 : σ[j]? = some (some v) := by
    cases q : σ[j]? with
    | none => rw [q] at h2'; cases h2'
    | some o => rw [q] at h2'; rw [show o = some v from h2']
   have hvis : Vis X.env.scope x := .inr hkd
   obtain ⟨mo, _, hl⟩ := I.loc
   obtain ⟨u, r, l⟩ := hl j x v e1 h4 hvis
   refine ⟨u, r, .inr ⟨?_, ?_⟩⟩
   ·show (relabel scope X.env).names.lookup x = some .cell \/ (relabel scope X.env).names.lookup x = some .free
    rw [q1U, e2]
    show some (if _ then NameKind.cell else NameKind.free) = _ \/ some (if _ then NameKind.cell else NameKind.free) = _
    split
    ·exact .inl rfl
    ·exact .inr rfl
   ·rcases l with ⟨q, _⟩ | ⟨_, c, hc, z⟩
    ·have hkd' : X.env.kindOf x = some .cell \/ X.env.kindOf x = some .free := hkd
     rw [q] at hkd'
     rcases hkd' with hkd' | hkd' <;> cases hkd'
    ·refine ⟨c, ?_, z.keeps hk⟩
     show (clOf scope X.env).lookup x = some c
     rw [q6A e3, hc]
     rfl
 ·obtain ⟨v, z⟩ := I.cell x c (sub x c e)
  exact ⟨v, z.keeps hk⟩
 ·show (q2K own caps σ).length = N.length
  unfold q2K
  rw [List.length_append, List.length_replicate, List.length_map, O.len]
theorem Inv.blockEnd {fp : List Addr} {σ' : St} {H' : Hp} {s' : Shared} (I : Inv X pins σ H s) (hf : ∀ b ∈ fp, FpOk X pins H b) (J : Inv (q0h X N scope s.heap.objs.size s H fp) [] σ' H' s') : Inv X pins σ H' s' :=
 I.call' (ch := fp) J.os J.base J.hok J.bare fun b hb => ⟨(hf b hb).2.2.2.1, (hf b hb).2.1, (hf b hb).2.2.2.2.1, (hf b hb).2.2.2.2.2⟩
theorem Inv.off {h' : Heap} {C : Addr} (I : Inv X pins σ H s) (hC : H C = none) (hL : C ≠ X.env.locals) (h1 : X.s₀.heap.objs.size <= C) (h2 : ∀ x c, X.env.cells.lookup x = some c -> c ≠ C) (h3 : ∀ p ∈ X.pn ++ pins, p.1 ≠ C) (sb : Heap.SameBut C s.heap h') :
  Inv X pins σ H { s with heap := h' } :=
 I.turned (t' := s.toks) (it := C) (fun b o hb e => (sb.2 b hb).trans e) hC hL (.inr h1) h2 h3
end
def PIfs (X : Cx) (ifs : List Expr) (t : TT) : Prop :=
 ∀ (pins : List (Addr × Obj)) (s : Shared) (σ : St) (H : Hp) (Q : Bool -> Hp -> Prop), Inv X pins σ H s -> t σ H Q ->
  wpAny (model X.prog X.w) X.A (forIn ifs true fun c r => if r = true then do let ok <- isTrue c X.env (eval c X.env); pure (ForInStep.yield ok) else pure (ForInStep.yield r)) (TP X pins σ Q) X.xe s
def tYes : TT := fun _ H Q => Q true H
theorem q0y {X : Cx} : PIfs X [] tYes := fun _ _ _ H _ I h => wpAny_tests_nil ⟨H, I, h⟩
theorem q7L {X : Cx} {c : Expr} {t : TT} (h : PT X c t) : PIfs X [c] t := fun pins s σ H Q I hw => wpAny_tests_one (h pins s σ H Q I hw)
def q8Z (wi : TI) (g : TG) (tc : TT) (te : TE) (own : Nat) (caps : List Nat) : TE := fun σ H Q => wi σ H fun J H1 => ∀ D, H1 D = none -> ∃ W : Nat -> Nat -> St -> Hp -> Prop, (∃ m, W 0 m (q2K own caps σ) (upd H1 D (.lst []))) /\ ∀ i m σ' H', W i m σ' H' ->
 (J.stop i H' /\ Q (.ref D) H') \/ (J.go i H' /\ ∃ N : St -> Hp -> Prop, (∀ σ'' H'', N σ'' H'' -> ∃ m', m' < m /\ W (i + 1) m' σ'' H'') /\ ∀ x H2, J.yld i H' x H2 -> g x σ' H2 fun σ3 H3 => tc σ3 H3 fun b H4 =>
  if b = true then te σ3 H4 fun y H5 => ∃ ys, H5 D = some (.lst ys) /\ ys.length < sizeLine /\ N σ3 (upd H5 D (.lst (ys ++ [y]))) else N σ3 H4)
section
variable {X : Cx} {N : List Str} {scope : Scope} {own : Nat} {caps : List Nat} {tg iter elt : Expr} {ifs : List Expr} {wi : TI} {g : TG} {tc : TT} {te : TE} {pos : Pos}
theorem q6x {use : Option (Value -> Sem Unit)} {QQ : Value -> Shared -> Prop} (O : CompOk X N scope own caps) (hc : X.calm = true) (hi : PI X tg iter wi) (hg : ∀ C s H fp, PG (q0h X N scope C s H fp) tg g) (ht : ∀ C s H fp, PIfs (q0h X N scope C s H fp) ifs tc)
  (he : ∀ C s H fp, PE (q0h X N scope C s H fp) elt te) (hs : ∀ x, foldedSetIterable iter X.env x = pure x)
  {pins : List (Addr × Obj)} {s : Shared} {σ : St} {H : Hp} {Q : VK} (I : Inv X pins σ H s) (h : q8Z wi g tc te own caps σ H Q)
  (fin : ∀ D C H' s' m, Inv X pins σ H' s' -> Q (.ref D) H' -> s'.heap.Ns C m -> H' C = none -> C ≠ X.env.locals -> X.s₀.heap.objs.size <= C -> (∀ x c, X.env.cells.lookup x = some c -> c ≠ C) -> (∀ p ∈ X.pn ++ pins, p.1 ≠ C) ->
   compPost (model X.prog X.w) X.A X.xe use QQ (.ref D) C (.ok .next) s') :
  wpAny (model X.prog X.w) X.A (comprehension (.ListComp elt [⟨tg, iter, ifs, 0⟩] scope pos) scope X.env (firstIterPos [⟨tg, iter, ifs, 0⟩] pos) (newList []) false (eval iter X.env) use) QQ X.xe s := by
 refine wpAny_comprehension_free (use := use) rfl hs (q3l (O.cells I.ok)) O.kind O.names (thn (hi pins s σ H _ I h) fun v s1 h1 => thn h1 fun itv s2 h2 => ?_)
 obtain ⟨it, fp, tn, J, H2, e, I2, T, st2, f2, q⟩ := h2
 subst e
 refine wpAny_newObj_type (wpAny_newFunctionEnv O.nocell (by intro y hy; simp at hy) (fun h₁ hns hsb => ?_) O.kind)
 dsimp only at hns hsb ⊢
 have hD : H2 s2.heap.objs.size = none := I2.hok.fresh (Nat.le_refl _)
 obtain ⟨W, ⟨m0, w0⟩, turn⟩ := q s2.heap.objs.size hD
 have I3 : Inv X pins σ (upd H2 s2.heap.objs.size (.lst [])) { s2 with heap := s2.heap.push { cls := .type "list", dict := none, data := .seq ([] : List Value).toArray } } :=
  I2.lnew (its := []) (t' := s2.toks) .nil (Nat.zero_le _)
 generalize hs3 : ({ s2 with heap := s2.heap.push { cls := .type "list", dict := none, data := .seq ([] : List Value).toArray } } : Shared) = s3 at I3
 have hsz3 : s3.heap.objs.size = s2.heap.objs.size + 1 := by rw [<- hs3]; exact Heap.size_push ..
 have hns' : h₁.Ns s3.heap.objs.size (fun x => ([] : List (Str × Value)).reverse.lookup x) := by rw [<- hs3]; exact hns
 have hk : ∀ b o, s3.heap.get? b = some o -> h₁.get? b = some o := fun b o e => by
  rw [<- hs3] at e
  exact hsb.extBut b o (Nat.ne_of_lt (Heap.lt_size e)) (Heap.get?_push_of_some _ e)
 have f3 : ∀ b ∈ fp, FpOk X pins (upd H2 s2.heap.objs.size (.lst [])) b := fun b hb => by
  obtain ⟨o, ho, _⟩ := T.obj _ _ st2 b hb
  exact ⟨by rw [ql (Nat.ne_of_lt (Heap.lt_size ho))]; exact (f2 b hb).1, (f2 b hb).2⟩
 have hlt : ∀ b ∈ fp, b < s3.heap.objs.size := fun b hb => by
  obtain ⟨o, ho, _⟩ := T.obj _ _ st2 b hb
  rw [hsz3]
  exact Nat.lt_succ_of_lt (Heap.lt_size ho)
 have st3 : tn 0 h₁ := T.keep _ _ _ st2 fun b hb o e => hk b o (by rw [<- hs3]; exact Heap.get?_push_of_some _ e)
 have C3 : ∀ tk, Inv (q0h X N scope s3.heap.objs.size s3 (upd H2 s2.heap.objs.size (.lst [])) fp) [] (q2K own caps σ) (upd H2 s2.heap.objs.size (.lst [])) { s3 with heap := h₁, toks := tk } := fun tk => I3.block O f3 hlt hns' hk
 have nf3 : ∀ b ∈ fp, (upd H2 s2.heap.objs.size (.lst [])) b = none := fun b hb => (f3 b hb).1
 have hCL : s3.heap.objs.size ≠ X.env.locals := Nat.ne_of_gt I3.lt
 have hC1 : X.s₀.heap.objs.size <= s3.heap.objs.size := I3.sz
 have hC2 : ∀ x c, X.env.cells.lookup x = some c -> c ≠ s3.heap.objs.size := fun x c e => by
  obtain ⟨v, z⟩ := I3.cell x c e
  exact Nat.ne_of_lt z.lt
 have hC3 : ∀ p ∈ X.pn ++ pins, p.1 ≠ s3.heap.objs.size := fun p hp => Nat.ne_of_lt (Heap.lt_size (I3.pin p hp).1)
 have hst : ∀ {H' : Hp}, (∀ b ∈ fp, H' b = none) -> ∀ b ∈ fp, FpOk (q0h X N scope s3.heap.objs.size s3 (upd H2 s2.heap.objs.size (.lst [])) fp) [] H' b := fun hn b hb => by
  refine ⟨hn b hb, Nat.ne_of_lt (hlt b hb), fun z => ?_, .inl hb, fun x c e => (f3 b hb).2.2.2.2.1 x c (q6z (O.cells I.ok) e), fun p hp => absurd (show p ∈ ([] : List (Addr × Obj)) from hp) (by simp)⟩
  exact (C3 0).ok.exfs b hb z
 have loop : ∀ s4 : Shared, (∃ tk, s4 = { s3 with heap := h₁, toks := tk }) ->
   codeAny (model X.prog X.w) X.A (.compLoop (.ListComp elt [⟨tg, iter, ifs, 0⟩] scope pos) 0 (.ref it) (.ref s2.heap.objs.size) (compEnvC scope (clOf scope X.env) s3.heap.objs.size X.env))
    (compPost (model X.prog X.w) X.A X.xe use QQ (.ref s2.heap.objs.size) s3.heap.objs.size) s4 := by
  rintro s4 ⟨tk, rfl⟩
  refine q5m (fun n s' => ∃ i σ' H', Inv (q0h X N scope s3.heap.objs.size s3 (upd H2 s2.heap.objs.size (.lst [])) fp) [] σ' H' s' /\ tn i s'.heap /\ (∀ b ∈ fp, H' b = none) /\ W i n σ' H') ?_ m0 ⟨0, _, _, C3 tk, st3, nf3, w0⟩
  rintro n s5 ⟨i, σ5, H5, I5, st5, fr5, w5⟩
  rcases turn i n σ5 H5 w5 with ⟨stop, qn⟩ | ⟨go, NN, hN, step⟩
  ·refine thn (T.done (q0h X N scope s3.heap.objs.size s3 (upd H2 s2.heap.objs.size (.lst [])) fp) rfl rfl rfl hc i [] s5 σ5 H5 _ I5 (hst fr5) st5 stop) fun r s6 ⟨hr, I6⟩ => ?_
   subst hr
   obtain ⟨m6, hn6, _⟩ := id I6.loc
   exact fin _ _ H5 s6 m6 (I3.blockEnd f3 I6) qn hn6 I6.free hCL hC1 hC2 hC3
  ·refine thn (T.item (q0h X N scope s3.heap.objs.size s3 (upd H2 s2.heap.objs.size (.lst [])) fp) rfl rfl rfl hc i [] s5 σ5 H5 _ I5 (hst fr5) st5 go) fun r s6 ⟨u, hr, h6⟩ => ?_
   subst hr
   refine thn h6 fun _ s7 ⟨x, H7, I7, r7, y7, st7, fr7⟩ => ?_
   have I7' := I7.pinned (hst fr7) (T.obj _ _ st7)
   refine thn (hg _ _ _ _ _ s7 σ5 H7 x u _ I7' r7 (step x H7 y7)) fun _ s8 ⟨σ8, H8, I8, q8⟩ => ?_
   refine thn (ht _ _ _ _ _ s8 σ8 H8 _ I8 q8) fun ok s9 ⟨H9, I9, q9⟩ => ?_
   have again : ∀ {s10 : Shared} {σ10 : St} {H10 : Hp}, Inv (q0h X N scope s3.heap.objs.size s3 (upd H2 s2.heap.objs.size (.lst [])) fp) ([] ++ q55 fp s7.heap) σ10 H10 s10 -> NN σ10 H10 ->
     ∃ m, m < n /\ ∃ i σ' H', Inv (q0h X N scope s3.heap.objs.size s3 (upd H2 s2.heap.objs.size (.lst [])) fp) [] σ' H' s10 /\ tn i s10.heap /\ (∀ b ∈ fp, H' b = none) /\ W i m σ' H' := fun {s10 σ10 H10} I10 n10 => by
    obtain ⟨m', hm, w10⟩ := hN σ10 H10 n10
    refine ⟨m', hm, i + 1, σ10, H10, I10.unpinned, T.keep _ _ _ st7 fun b hb o e => (I10.pin (b, o) (List.mem_append_right _ (List.mem_append_right _ (q1O hb e)))).1, fun b hb => ?_, w10⟩
    obtain ⟨o, e, d⟩ := T.obj _ _ st7 b hb
    exact (I10.pin (b, o) (List.mem_append_right _ (List.mem_append_right _ (q1O hb e)))).2.1
   cases ok with
   | false =>
    rw [if_neg Bool.false_ne_true] at q9 ⊢
    exact again I9 q9
   | true =>
    rw [if_pos rfl] at q9 ⊢
    refine thn (he _ _ _ _ _ s9 σ8 H9 _ I9 q9) fun y s10 ⟨vy, H10, I10, r10, ys, hys, hyl, q10⟩ => ?_
    refine thn (q13 (X := q0h X N scope s3.heap.objs.size s3 (upd H2 s2.heap.objs.size (.lst [])) fp) _ s10 σ8 H10 (.ref s2.heap.objs.size) [vy] (.ref s2.heap.objs.size) [y] (fun _ H11 => NN σ8 H11) I10 rfl (.cons r10 .nil) ⟨_, ys, vy, rfl, rfl, hys, hyl, q10⟩) fun _ s11 ⟨_, H11, I11, _, q11⟩ => ?_
    exact again I11 q11
 subst hs3
 exact codeAny_compStart_list (loop _ ⟨_, rfl⟩) (T.self _ _ _ _ _ st3 (loop _ ⟨_, rfl⟩))
theorem q0w (O : CompOk X N scope own caps) (hc : X.calm = true) (hi : PI X tg iter wi) (hg : ∀ C s H fp, PG (q0h X N scope C s H fp) tg g) (ht : ∀ C s H fp, PIfs (q0h X N scope C s H fp) ifs tc)
  (he : ∀ C s H fp, PE (q0h X N scope C s H fp) elt te) (hs : ∀ x, foldedSetIterable iter X.env x = pure x := by intro _; rfl) : PE X (.ListComp elt [⟨tg, iter, ifs, 0⟩] scope pos) (q8Z wi g tc te own caps) := by
 intro pins s σ H Q I h
 rw [eval_ListComp]
 refine q6x (use := none) O hc hi hg ht he hs I h fun D C H' s' m I' q hn h0 h1 h2 h3 h4 => ?_
 exact ⟨m, hn, fun h' sb => ⟨.ref D, H', I'.off h0 h1 h2 h3 h4 sb, rfl, q⟩⟩
theorem q22 {i : Nat} {y : Str} {py spos : Pos} (hN : X.N.Nodup) (hi' : X.N[i]? = some y) (hy : X.env.scope.names.lookup y = some .local) (O : CompOk X N scope own caps) (hc : X.calm = true) (hi : PI X tg iter wi) (hg : ∀ C s H fp, PG (q0h X N scope C s H fp) tg g)
  (ht : ∀ C s H fp, PIfs (q0h X N scope C s H fp) ifs tc) (he : ∀ C s H fp, PE (q0h X N scope C s H fp) elt te)
  (hsw : swapsWith (.ListComp elt [⟨tg, iter, ifs, 0⟩] scope pos) (some (.Name y py)) spos.line X.env = pure true := by rfl) (hs : ∀ x, foldedSetIterable iter X.env x = pure x := by intro _; rfl) :
  PS X (.Assign [.Name y py] (.ListComp elt [⟨tg, iter, ifs, 0⟩] scope pos) spos) (tAsg (q8Z wi g tc te own caps) (q9Q i)) := by
 intro pins s σ H D I h
 rw [exec_Assign_Name_used _ _ _ _ hsw]
 refine wpAny_bind (wpAny_standAt (wpAny_bind ?_))
 show wpAny _ _ (do let _ <- comprehension (.ListComp elt [⟨tg, iter, ifs, 0⟩] scope pos) scope X.env _ (newList []) false (eval iter X.env) (some (assign (.Name y py) X.env))) _ _ s
 refine wpAny_bind (wpAny_mono (q6x (use := some (assign (.Name y py) X.env)) (QQ := fun _ s' => SP X pins D .next s') O hc hi hg ht he hs I h fun L C H' s' m I' q hn h0 h1 h2 h3 h4 => ?_) (fun _ s' hq => wpAny_pure (wpAny_pure hq)) fun _ _ e => e)
 refine wpAny_assign_Name (q4G I' hN hi' (.inl hy) (v := .ref L) rfl (fun s2 I2 ⟨a, sb, ha⟩ => ?_) (.inr hy))
 have hac : C ≠ a := by
  rcases ha with ha | ha
  ·rw [ha]; exact h1
  ·exact (h3 _ _ ha).symm
 exact ⟨m, hn.sameBut sb hac, fun h' sb' => ⟨_, H', I2.off h0 h1 h2 h3 h4 sb', q⟩⟩
end
end L2
namespace PySem
open Sem (wp)
section
variable {prog : Program} {w : World} {A : Around} {E : Value -> Shared -> Prop} {s : Shared}
theorem q1N {I T : Addr} {k : Nat} {vals : Array Value} {y : Value} {Q : Value -> Shared -> Prop} (st : s.heap.IsTupleIter I T k) (tp : s.heap.IsTuple T vals) (hy : vals[k]? = some y)
  (hQ : ∀ h', h'.IsTupleIter I T (k + 1) -> Heap.SameBut I s.heap h' -> Q y { s with heap := h' }) : wpAny (model prog w) A (Builtin.SmallTypes.nextOf (.ref I)) Q E s := by
 obtain ⟨oI, eI, cI, dI⟩ := id st
 obtain ⟨oT, eT, _, nT, dT⟩ := tp
 unfold Builtin.SmallTypes.nextOf
 refine wpAny_bind (wpAny_callSpecial?_slot (name := Str.ofString "__next__") st.typeIs F.slot_tuple_iterator_next (wpAny_call_entry F.slot_tuple_iterator_next st.typeIs F.entry_tuple_iterator_next ?_ (F.args_tuple_iterator_next_1 _)))
 show wpAny _ _ (field (.ref I) 0 >>= _) _ _ s
 refine wpAny_bind (wpAny_field eI dI (x := .ref T) rfl ?_)
 show wpAny _ _ (if (Value.ref T == Value.none) = true then _ else _) _ _ s
 rw [if_neg (show ¬ ((Value.ref T == Value.none) = true) from Bool.false_ne_true)]
 show wpAny _ _ (field (.ref I) 1 >>= _) _ _ s
 refine wpAny_bind (wpAny_field eI dI (x := .int k 0) rfl ?_)
 show wpAny _ _ (seqItems? (.ref T) >>= _) _ _ s
 refine wpAny_bind (wpAny_seqItems eT dT ?_)
 simp only [Int.toNat_natCast, hy]
 refine wpAny_bind (wpAny_setField eI dI (by simp) (wpAny_pure ⟨y, rfl, wpAny_pure (hQ _ ?_ (Heap.SameBut.update ..))⟩))
 exact ⟨_, Heap.get?_update_self _ eI (Obj.isFreed_of_fields (Obj.data_mapFields dI _)), (Obj.cls_mapFields ..).trans cI, by rw [Obj.data_mapFields dI]; simp [rawInt]⟩
theorem q0p {I T : Addr} {k : Nat} {vals : Array Value} {Q : Value -> Shared -> Prop} (hh : A.handled = none) (st : s.heap.IsTupleIter I T k) (tp : s.heap.IsTuple T vals) (hy : vals[k]? = none)
  (hE : ∀ h' e, Heap.ExtBut I s.heap h' -> (∃ o, h'.get? e = some o /\ o.cls = .type "StopIteration") -> E (.ref e) { s with heap := h' }) : wpAny (model prog w) A (Builtin.SmallTypes.nextOf (.ref I)) Q E s := by
 obtain ⟨oI, eI, cI, dI⟩ := id st
 obtain ⟨oT, eT, _, nT, dT⟩ := tp
 unfold Builtin.SmallTypes.nextOf
 refine wpAny_bind (wpAny_callSpecial?_slot (name := Str.ofString "__next__") st.typeIs F.slot_tuple_iterator_next (wpAny_call_entry F.slot_tuple_iterator_next st.typeIs F.entry_tuple_iterator_next ?_ (F.args_tuple_iterator_next_1 _)))
 show wpAny _ _ (field (.ref I) 0 >>= _) _ _ s
 refine wpAny_bind (wpAny_field eI dI (x := .ref T) rfl ?_)
 show wpAny _ _ (if (Value.ref T == Value.none) = true then _ else _) _ _ s
 rw [if_neg (show ¬ ((Value.ref T == Value.none) = true) from Bool.false_ne_true)]
 show wpAny _ _ (field (.ref I) 1 >>= _) _ _ s
 refine wpAny_bind (wpAny_field eI dI (x := .int k 0) rfl ?_)
 show wpAny _ _ (seqItems? (.ref T) >>= _) _ _ s
 refine wpAny_bind (wpAny_seqItems eT dT ?_)
 simp only [Int.toNat_natCast, hy]
 refine wpAny_bind (wpAny_rule (wpAny_bind (wpAny_setField eI dI (by simp) ?_)))
 show wpAny _ _ (newExc (.type "StopIteration") [] >>= _) _ _ _
 refine wpAny_bind ?_
 simp only [newExc, newTuple]
 refine wpAny_bind (wpAny_newObj_type ?_ (by size_fits))
 refine wpAny_bind (m := firstArgMember _ _) (wpAny_of_eq (a := Value.none) (by first | rfl | (simp only [firstArgMember]; rfl)) ?_)
 refine wpAny_newObj_type ?_ (by size_fits)
 simp only [raiseNew]
 refine wpAny_bind (wpAny_handled ?_)
 first | rw [show A.in1.handled = none from hh] | rw [hh]
 refine wpAny_bind (wpAny_pure (wpAny_throw ?_))
 exact hE _ _ (((Heap.SameBut.update ..).extBut.push _).push _) ⟨_, Heap.get?_push_size _ rfl, rfl⟩
end
theorem Heap.IsTuple.at2 {h h' : Heap} {a : Addr} {vals : Array Value} (x : h.IsTuple a vals) (e : ∀ o, h.get? a = some o -> h'.get? a = some o) : h'.IsTuple a vals := let ⟨o, q, r⟩ := x; ⟨o, e o q, r⟩
theorem Heap.IsTupleIter.at2 {h h' : Heap} {a t : Addr} {i : Nat} (x : h.IsTupleIter a t i) (e : ∀ o, h.get? a = some o -> h'.get? a = some o) : h'.IsTupleIter a t i := let ⟨o, q, r⟩ := x; ⟨o, e o q, r⟩
theorem Draws.tup {prog : Program} {w : World} {A : Around} (hh : A.handled = none) (I T : Addr) (hne : T ≠ I) (vals : Array Value) :
  Draws prog w A I [I, T] vals.size (fun i v => vals[i]? = some v) (fun i h => h.IsTupleIter I T i /\ h.IsTuple T vals) where
 live := fun _ _ st => let ⟨o, ho, _⟩ := st.1; ⟨o, ho⟩
 frame := fun _ _ _ st hk => ⟨st.1.at2 fun o e => hk I (by simp) o e, st.2.at2 fun o e => hk T (by simp) o e⟩
 item := fun i s Q E hi st hQ => q1N st.1 st.2 (y := vals[i]) (by simp [hi]) fun h' st' sb => hQ _ h' s.toks (by simp [hi]) ⟨st', st.2.extBut sb.extBut hne⟩ sb
 done := fun s Q E st hE => q0p hh st.1 st.2 (by simp) hE
section
open AutoSeq1 (wpAny_loadPart')
theorem q3b (l : Addr) (items : Array Value) (n : Nat) (dct : Option Addr) (sl : Array (Option Value)) :
  Meets (Builtin.«enumerate.__new__» ⟨[.type "enumerate", .ref l], []⟩) (fun _ R s => s.heap.get? l = some { cls := .type "tuple", dict := dct, data := .seq items n, slots := sl } /\
   R (.ok (.ret (.ref (s.heap.push { cls := .type "tuple_iterator", data := .fields #[.ref l, .int 0 0] }).objs.size)))
    {s with heap := (s.heap.push { cls := .type "tuple_iterator", data := .fields #[.ref l, .int 0 0] }).push { cls := .type "enumerate", data := .fields #[.none, .bool false, .ref s.heap.objs.size, rawInt 0, .none, .none] } }) :=
 .of_wp fun prog w A R s h => by
  obtain ⟨hp, g, d, tk, os⟩ := s; obtain ⟨hl, h⟩ := h
  have hsub := sub_enumerate
  have hL : Heap.IsTuple (Shared.heap ⟨hp, g, d, tk, os⟩) l items := ⟨_, hl, rfl, n, rfl⟩
  wp_walk using wpAny_loadPart' hl
  refine wpAny_stack_any fun st => wpAny_pure ?_
  split
  ·rename_i c _ _ _ _ _
   cases (c == Value.type "enumerate")
   ·wp_walk using wpAny_loadPart' hl, wpAny_pyIter_tuple hL
    exact ⟨_, rfl, h⟩
   ·wp_walk using wpAny_loadPart' hl, wpAny_pyIter_tuple hL
    exact ⟨_, rfl, h⟩
  ·wp_walk using wpAny_loadPart' hl, wpAny_pyIter_tuple hL
   exact ⟨_, rfl, h⟩
variable {prog : Program} {w : World} {A : Around} {E : Value -> Shared -> Prop} {s : Shared}
theorem q3m {l : Addr} {items : Array Value} {Q : Value -> Shared -> Prop} (hL : s.heap.IsTuple l items)
  (h : ∀ h', IsEnum h' (s.heap.objs.size + 1) s.heap.objs.size 0 .none -> h'.IsTupleIter s.heap.objs.size l 0 -> h'.objs.size = s.heap.objs.size + 2 ->
   (∀ b o, s.heap.get? b = some o -> h'.get? b = some o) -> Q (.ref (s.heap.objs.size + 1)) { s with heap := h' }) :
  wpAny (model prog w) A (call (.type "enumerate") [.ref l]) Q E s := by
 obtain ⟨⟨c, dct, dt, sl⟩, hl, hc, n, hd⟩ := hL
 replace hc : c = .type "tuple" := hc
 replace hd : dt = .seq items n := hd
 subst hc hd
 refine callType_new F.called_enumerate (by decide) (F.typeCall_enumerate_1 _) (F.newCall_enumerate_1 _) (fun obj => F.args_object_init_2 obj _) F.entry_enumerate_new (q3b l items n dct sl) ⟨hl, ?_⟩
 have hz : (s.heap.push { cls := .type "tuple_iterator", data := .fields #[.ref l, .int 0 0] }).objs.size = s.heap.objs.size + 1 := Heap.size_push ..
 show _ /\ _
 rw [hz]
 have he : IsEnum ((s.heap.push { cls := .type "tuple_iterator", data := .fields #[.ref l, .int 0 0] }).push
   {cls := .type "enumerate", data := .fields #[.none, .bool false, .ref s.heap.objs.size, rawInt 0, .none, .none] }) (s.heap.objs.size + 1) s.heap.objs.size 0 .none := by
  have q := Heap.get?_push_size (s.heap.push { cls := .type "tuple_iterator", data := .fields #[.ref l, .int 0 0] })
   (o := { cls := .type "enumerate", data := .fields #[.none, .bool false, .ref s.heap.objs.size, rawInt 0, .none, .none] }) rfl
  rw [hz] at q; exact q
 refine ⟨⟨_, he, rfl⟩, h _ he ⟨_, Heap.get?_push_of_some _ (Heap.get?_push_size _ rfl), rfl, rfl⟩ (by rw [Heap.size_push, hz]) fun b o x => Heap.get?_push_of_some _ (Heap.get?_push_of_some _ x)⟩
end
end PySem
namespace L2
open PySem PySem.Spec PyProof.Rows
section
variable {X : Cx} {pins : List (Addr × Obj)} {σ : St} {H : Hp} {s : Shared}
theorem Inv.turnedL {h' : Heap} {t' : Nat} {ch : List Addr} (I : Inv X pins σ H s) (hf : ∀ b ∈ ch, FpOk X pins H b) (k : ∀ b o, b ∉ ch -> s.heap.get? b = some o -> h'.get? b = some o) : Inv X pins σ H { s with heap := h', toks := t' } := by
 have nit : ∀ b u, H b = some u -> b ∉ ch := fun b u e z => by rw [(hf b z).1] at e; cases e
 refine I.step (g' := s.gens) (d' := s.drawn) (ch := ch) (fun b hb => ⟨(hf b hb).2.2.2.1, (hf b hb).2.1, (hf b hb).2.2.2.2.1, (hf b hb).2.2.2.2.2⟩) (fun b o _ _ hc e _ => k b o hc e) (fun b o _ _ hc e _ => ⟨o.slots, k b o hc e⟩) (fun _ _ _ _ n => n)
  (fun b o hc e => ⟨o, k b o hc e⟩) (fun _ _ e => e) (fun _ _ _ e => e) (fun b ps e => ⟨#[], by rw [e]; simp⟩) (fun m hm => ?_) (fun b u e => ?_) I.bare
 ·obtain ⟨o, es, ep, ho, r⟩ := hm
  exact ⟨o, es, ep, k _ o (fun z => (hf _ z).2.1 rfl) ho, r⟩
 ·refine (I.hok b u e).stay (fun c v hc q => k c v ?_ q) (fun _ q => q) fun _ _ q => q
  rcases hc with z | z
  ·rw [z]; exact nit b u e
  ·exact nit c _ z
theorem Inv.track {a : Addr} {o : HO} (I : Inv X pins σ H s) (ha : X.s₀.heap.objs.size <= a) (hn : H a = none) (hL : a ≠ X.env.locals) (hc : ∀ x c, X.env.cells.lookup x = some c -> c ≠ a) (hp : ∀ p ∈ X.pn ++ pins, p.1 ≠ a)
  (new : q06 X.prog X.w (upd H a o) s.heap a o) : Inv X pins σ (upd H a o) s := by
 have ne : ∀ b ob, X.s₀.heap.get? b = some ob -> b ≠ a := fun b ob e => Nat.ne_of_lt (Nat.lt_of_lt_of_le (Heap.lt_size e) ha)
 refine ⟨I.ok, I.os, I.bare, ⟨I.base.keep, I.base.slot, fun b ob e n hx => by rw [ql (ne b ob e)]; exact I.base.free b ob e n hx, I.base.there, fun b xs e => ?_, fun b ob u e => ?_, fun b ps e => ?_⟩, I.loc, I.cell, by rw [ql hL.symm]; exact I.free,
  fun x c e => by rw [ql (hc x c e)]; exact I.freeC x c e, fun p hpp => ?_, fun b u e => ?_, I.len⟩
 ·have q := I.base.tups b xs e
  rw [ql (qk q hn)]; exact q
 ·have q := I.base.frzs b ob u e
  rw [ql (qk q hn)]; exact q
 ·obtain ⟨more, q⟩ := I.base.tbls b ps e
  exact ⟨more, by rw [ql (qk q hn)]; exact q⟩
 ·obtain ⟨e1, n1, r⟩ := I.pin p hpp
  exact ⟨e1, by rw [ql (hp p hpp)]; exact n1, r⟩
 ·by_cases hb : b = a
  ·subst hb; rw [qb] at e; cases e; exact new
  ·rw [ql hb] at e
   exact (I.hok b u e).stay (fun c v _ q => q) (fun c q => by rw [ql (qk q hn)]; exact q) fun c xs q => by rw [ql (qk q hn)]; exact q
theorem Inv.yields {h' : Heap} {t' : Nat} {ch : List Addr} {T : Addr} {xs : List V} {vals : List Value} (I : Inv X pins σ H s) (hf : ∀ b ∈ ch, FpOk X pins H b) (k : ∀ b o, b ∉ ch -> s.heap.get? b = some o -> h'.get? b = some o)
  (hT : s.heap.objs.size <= T) (tp : h'.IsTuple T vals.toArray) (r : Vals xs vals) (hz : xs.length <= sizeLine) : Inv X pins σ (upd H T (.tup xs)) { s with heap := h', toks := t' } := by
 have f : FpOk X pins H T := I.fpOk hT (I.hok.fresh hT)
 have I1 : Inv X pins σ H { s with heap := h', toks := t' } := I.turnedL hf k
 exact I1.track (Nat.le_trans I.sz hT) f.1 f.2.1 f.2.2.2.2.1 f.2.2.2.2.2 ⟨hz, vals, r, tp⟩
theorem q6p {ch : List Addr} {T : Addr} {o : HO} (hf : ∀ b ∈ ch, FpOk X pins H b) (hT : ∀ b ∈ ch, b ≠ T) : ∀ b ∈ ch, FpOk X pins (upd H T o) b := fun b hb => ⟨by rw [ql (hT b hb)]; exact (hf b hb).1, (hf b hb).2⟩
end
def Ite (Sq : Hp -> List V -> Prop) : It :=
 ⟨fun i H => ∃ xs x, Sq H xs /\ xs[i]? = some x, fun i H y H' => ∃ T, H T = none /\ y = .ref T /\ ∀ xs x, Sq H xs -> xs[i]? = some x -> H' = upd H T (.tup [.int i, x]), fun i H => ∃ xs, Sq H xs /\ xs.length <= i⟩
theorem q6J {P : Program} {w : World} {K : PySem.W.Frag} {elts : List Expr} {k : Nat} {tp : Pos} (a e it : Addr) (hei : e ≠ it) : Turn P w K (.Tuple elts k tp) (Ite fun H xs => SqL K H a xs) [e, it] e (fun i h => (∃ old, IsEnum h e it i old) /\ h.IsListIter it a i) where
 mem := by simp
 obj := fun i h st b hb => by
  obtain ⟨⟨old, q⟩, o, q2, c, d⟩ := st
  rcases List.mem_cons.mp hb with rfl | hb
  ·exact ⟨_, q, fun v z => by cases z⟩
  ·rw [List.mem_singleton.mp hb]
   exact ⟨o, q2, fun v z => by rw [d] at z; cases z⟩
 keep := fun i h h' st kk => ⟨⟨st.1.choose, kk e (by simp) _ st.1.choose_spec⟩, st.2.at fun o q => kk it (by simp) o q⟩
 item := by
  intro X hP hw hK hc i pins s σ H E I hf st hg
  subst hP hw hK
  obtain ⟨xs, x, hq, hx⟩ := hg
  obtain ⟨⟨old, he⟩, hit⟩ := st
  obtain ⟨its, rv, p, hz⟩ := I.list hq
  obtain ⟨u, hu, ru⟩ := rv.get hx
  have hlen := rv.length
  have hi : i < its.toArray.size := by rw [List.size_toArray]; exact (List.getElem?_eq_some_iff.mp hu).1
  have hai : a ≠ it := fun z => by
   obtain ⟨o, q, c, d⟩ := hit
   obtain ⟨o', q', c', _⟩ := p.isList
   rw [z] at q'; rw [q] at q'; cases q'; rw [c] at c'; simp at c'
  have hae : e ≠ a := fun z => by
   obtain ⟨o', q', c', _⟩ := p.isList
   rw [<- z, he] at q'; cases q'; simp at c'
  refine wpAny_pyNext_enum_itemD (Draws.list (A := X.A.in1) (I.ok.hd hc) it a hai its.toArray) he ⟨hit, p.isList⟩ hi hei (by simp [hei, hae]) fun y h' tk hy ho st' hT hsz hk => ?_
  have hyu : y = u := by
   have : its[i]? = some y := by simpa using hy
   rw [hu] at this; exact (Option.some.inj this).symm
  subst hyu
  have ne : ∀ b ∈ [e, it], b ≠ s.heap.objs.size := fun b hb => by
   rcases List.mem_cons.mp hb with rfl | hb
   ·exact Nat.ne_of_lt (Heap.lt_size he)
   ·rw [List.mem_singleton.mp hb]; obtain ⟨o, q, _⟩ := hit; exact Nat.ne_of_lt (Heap.lt_size q)
  have kk : ∀ b o, b ∉ [e, it] -> s.heap.get? b = some o -> h'.get? b = some o := fun b o hb q => hk b o (fun z => hb (by simp [z])) (fun z => hb (by simp [z])) q
  have I1 : Inv X pins σ (upd H s.heap.objs.size (.tup [.int i, x])) { s with heap := h', toks := tk + 1 } := I.yields (vals := [.int i tk, y]) hf kk (Nat.le_refl _) ⟨_, hT, rfl, _, rfl⟩ (.cons ⟨tk, rfl⟩ (.cons ru .nil)) (by show 2 <= sizeLine; decide)
  have hf1 := q6p (o := .tup [.int i, x]) hf ne
  refine ⟨_, rfl, wpAny_letOwnedTupleGo_enum ho fun h'' he'' sb => ?_⟩
  have I2 : Inv X pins σ (upd H s.heap.objs.size (.tup [.int i, x])) { s with heap := h'', toks := tk + 1 } := I1.turnedL (t' := tk + 1) hf1 fun b o hb q => (sb.2 b fun z => hb (by simp [z])).trans q
  refine ⟨.ref s.heap.objs.size, _, I2, rfl, ⟨_, I.hok.fresh (Nat.le_refl _), rfl, fun ys y' hy' hx' => ?_⟩, ⟨⟨_, by simpa using he''⟩, st'.1.at fun o q => (sb.2 it hei.symm).trans q⟩, fun b hb => (hf1 b hb).1⟩
  have := I.list_inj hy' hq
  subst this
  rw [hx] at hx'
  rw [Option.some.inj hx']
 done := by
  intro X hP hw hK hc i pins s σ H E I hf st hg
  subst hP hw hK
  obtain ⟨xs, hq, hx⟩ := hg
  obtain ⟨⟨old, he⟩, hit⟩ := st
  obtain ⟨its, rv, p, hz⟩ := I.list hq
  have hlen := rv.length
  have hai : a ≠ it := fun z => by
   obtain ⟨o, q, c, d⟩ := hit
   obtain ⟨o', q', c', _⟩ := p.isList
   rw [z] at q'; rw [q] at q'; cases q'; rw [c] at c'; simp at c'
  have D : Draws X.prog X.w X.A.in1 it [it, a] i (fun _ _ => False) (fun k h => k = i /\ h.IsListIter it a i /\ h.IsList a its.toArray) :=
   {live := fun _ _ st => let ⟨o, ho, _⟩ := st.2.1; ⟨o, ho⟩
    frame := fun _ _ _ st hk => ⟨st.1, st.2.1.at fun o q => hk it (by simp) o q, st.2.2.at fun o q => hk a (by simp) o q⟩
    item := fun k s Q E hk st _ => absurd st.1 (Nat.ne_of_lt hk)
    done := fun s Q E st hE => wpAny_nextOf_list_end (I.ok.hd hc) st.2.1 st.2.2 (by simp; omega) hE }
  refine wpAny_pyNext_enum_endD D he ⟨rfl, hit, p.isList⟩ fun h' eb => ⟨rfl, I.turnedL (t' := s.toks) (ch := [e, it]) hf fun b o hb q => eb b o (fun z => hb (by simp [z])) q⟩
 self := fun _ _ _ _ _ st h => wpAny_pyIter_enum st.1.choose_spec h
theorem q6I {P : Program} {w : World} {K : PySem.W.Frag} {elts : List Expr} {k : Nat} {tp : Pos} (a e it : Addr) (hei : e ≠ it) : Turn P w K (.Tuple elts k tp) (Ite fun H xs => SqT K H a xs) [e, it] e (fun i h => (∃ old, IsEnum h e it i old) /\ h.IsTupleIter it a i) where
 mem := by simp
 obj := fun i h st b hb => by
  obtain ⟨⟨old, q⟩, o, q2, c, d⟩ := st
  rcases List.mem_cons.mp hb with rfl | hb
  ·exact ⟨_, q, fun v z => by cases z⟩
  ·rw [List.mem_singleton.mp hb]
   exact ⟨o, q2, fun v z => by rw [d] at z; cases z⟩
 keep := fun i h h' st kk => ⟨⟨st.1.choose, kk e (by simp) _ st.1.choose_spec⟩, st.2.at2 fun o q => kk it (by simp) o q⟩
 item := by
  intro X hP hw hK hc i pins s σ H E I hf st hg
  subst hP hw hK
  obtain ⟨xs, x, hq, hx⟩ := hg
  obtain ⟨⟨old, he⟩, hit⟩ := st
  obtain ⟨its, rv, p, hz⟩ := I.tuple hq
  have p : s.heap.IsTuple a its.toArray := p
  obtain ⟨u, hu, ru⟩ := rv.get hx
  have hlen := rv.length
  have hi : i < its.toArray.size := by rw [List.size_toArray]; exact (List.getElem?_eq_some_iff.mp hu).1
  have hai : a ≠ it := fun z => by
   obtain ⟨o, q, c, d⟩ := hit
   obtain ⟨o', q', c', _⟩ := p
   rw [z] at q'; rw [q] at q'; cases q'; rw [c] at c'; simp at c'
  have hae : e ≠ a := fun z => by
   obtain ⟨o', q', c', _⟩ := p
   rw [<- z, he] at q'; cases q'; simp at c'
  refine wpAny_pyNext_enum_itemD (Draws.tup (A := X.A.in1) (I.ok.hd hc) it a hai its.toArray) he ⟨hit, p⟩ hi hei (by simp [hei, hae]) fun y h' tk hy ho st' hT hsz hk => ?_
  have hyu : y = u := by
   have : its[i]? = some y := by simpa using hy
   rw [hu] at this; exact (Option.some.inj this).symm
  subst hyu
  have ne : ∀ b ∈ [e, it], b ≠ s.heap.objs.size := fun b hb => by
   rcases List.mem_cons.mp hb with rfl | hb
   ·exact Nat.ne_of_lt (Heap.lt_size he)
   ·rw [List.mem_singleton.mp hb]; obtain ⟨o, q, _⟩ := hit; exact Nat.ne_of_lt (Heap.lt_size q)
  have kk : ∀ b o, b ∉ [e, it] -> s.heap.get? b = some o -> h'.get? b = some o := fun b o hb q => hk b o (fun z => hb (by simp [z])) (fun z => hb (by simp [z])) q
  have I1 : Inv X pins σ (upd H s.heap.objs.size (.tup [.int i, x])) { s with heap := h', toks := tk + 1 } := I.yields (vals := [.int i tk, y]) hf kk (Nat.le_refl _) ⟨_, hT, rfl, _, rfl⟩ (.cons ⟨tk, rfl⟩ (.cons ru .nil)) (by show 2 <= sizeLine; decide)
  have hf1 := q6p (o := .tup [.int i, x]) hf ne
  refine ⟨_, rfl, wpAny_letOwnedTupleGo_enum ho fun h'' he'' sb => ?_⟩
  have I2 : Inv X pins σ (upd H s.heap.objs.size (.tup [.int i, x])) { s with heap := h'', toks := tk + 1 } := I1.turnedL (t' := tk + 1) hf1 fun b o hb q => (sb.2 b fun z => hb (by simp [z])).trans q
  refine ⟨.ref s.heap.objs.size, _, I2, rfl, ⟨_, I.hok.fresh (Nat.le_refl _), rfl, fun ys y' hy' hx' => ?_⟩, ⟨⟨_, by simpa using he''⟩, st'.1.at2 fun o q => (sb.2 it hei.symm).trans q⟩, fun b hb => (hf1 b hb).1⟩
  have := I.tuple_inj hy' hq
  subst this
  rw [hx] at hx'
  rw [Option.some.inj hx']
 done := by
  intro X hP hw hK hc i pins s σ H E I hf st hg
  subst hP hw hK
  obtain ⟨xs, hq, hx⟩ := hg
  obtain ⟨⟨old, he⟩, hit⟩ := st
  obtain ⟨its, rv, p, hz⟩ := I.tuple hq
  have p : s.heap.IsTuple a its.toArray := p
  have hlen := rv.length
  have D : Draws X.prog X.w X.A.in1 it [it, a] i (fun _ _ => False) (fun k h => k = i /\ h.IsTupleIter it a i /\ h.IsTuple a its.toArray) :=
   {live := fun _ _ st => let ⟨o, ho, _⟩ := st.2.1; ⟨o, ho⟩
    frame := fun _ _ _ st hk => ⟨st.1, st.2.1.at2 fun o q => hk it (by simp) o q, st.2.2.at2 fun o q => hk a (by simp) o q⟩
    item := fun k s Q E hk st _ => absurd st.1 (Nat.ne_of_lt hk)
    done := fun s Q E st hE => q0p (I.ok.hd hc) st.2.1 st.2.2 (by simp; omega) hE }
  refine wpAny_pyNext_enum_endD D he ⟨rfl, hit, p⟩ fun h' eb => ⟨rfl, I.turnedL (t' := s.toks) (ch := [e, it]) hf fun b o hb q => eb b o (fun z => hb (by simp [z])) q⟩
 self := fun _ _ _ _ _ st h => wpAny_pyIter_enum st.1.choose_spec h
theorem q1Z : bootBuiltins "enumerate" = some (.type "enumerate") := by decide +kernel
section
variable {X : Cx} {elts : List Expr} {k : Nat} {tp : Pos}
def q8h (K : PySem.W.Frag) (ta : TA) : TI := fun σ H R => ta σ H fun vs H1 => ∃ a, vs = [.ref a] /\ (∃ xs, SqL K H1 a xs) /\ R (Ite fun H xs => SqL K H a xs) H1
def q8g (K : PySem.W.Frag) (ta : TA) : TI := fun σ H R => ta σ H fun vs H1 => ∃ a, vs = [.ref a] /\ (∃ xs, SqT K H1 a xs) /\ R (Ite fun H xs => SqT K H a xs) H1
theorem q9k {a : Expr} {ta : TA} {p pos : Pos} (hg : Gl X "enumerate") (hm : X.mg "enumerate" = none) (ha : PA X [a] ta) (hs : starEach [a] X.env = [(false, eval a X.env)] := by rfl) : PI X (.Tuple elts k tp) (.Call (.Name "enumerate" p) [a] [] pos) (q8h X.K ta) := by
 intro pins s σ H R I h
 refine Call_ (q3f I hg hm q1Z (PyProof.Rows.callWith_type1 (thn (ha pos pins s σ H _ I h) fun us s1 ⟨vs, H1, I1, r1, q1⟩ => ?_) hs rfl))
 obtain ⟨l, e, ⟨xs, hq⟩, q⟩ := q1
 subst e
 obtain ⟨u, rfl, rx⟩ := q3s r1
 cases rx
 obtain ⟨its, rv, pl, hz⟩ := I1.list hq
 refine call_enumerate_list pl.isList fun h' he hit hsz hk => wpAny_pyIter_enum he ?_
 refine ⟨_, [s1.heap.objs.size + 1, s1.heap.objs.size], _, _, H1, rfl, I1.kept (t' := s1.toks) hk, q6J l _ _ (Nat.succ_ne_self _), ⟨⟨_, he⟩, hit⟩, fun b hb => ?_, q⟩
 rcases List.mem_cons.mp hb with rfl | hb
 ·exact I1.fpOk (Nat.le_succ _) (I1.hok.fresh (Nat.le_succ _))
 ·rw [List.mem_singleton.mp hb]; exact I1.fpOk (Nat.le_refl _) (I1.hok.fresh (Nat.le_refl _))
theorem q9j {a : Expr} {ta : TA} {p pos : Pos} (hg : Gl X "enumerate") (hm : X.mg "enumerate" = none) (ha : PA X [a] ta) (hs : starEach [a] X.env = [(false, eval a X.env)] := by rfl) : PI X (.Tuple elts k tp) (.Call (.Name "enumerate" p) [a] [] pos) (q8g X.K ta) := by
 intro pins s σ H R I h
 refine Call_ (q3f I hg hm q1Z (PyProof.Rows.callWith_type1 (thn (ha pos pins s σ H _ I h) fun us s1 ⟨vs, H1, I1, r1, q1⟩ => ?_) hs rfl))
 obtain ⟨l, e, ⟨xs, hq⟩, q⟩ := q1
 subst e
 obtain ⟨u, rfl, rx⟩ := q3s r1
 cases rx
 obtain ⟨its, rv, pl, hz⟩ := I1.tuple hq
 refine q3m (show s1.heap.IsTuple l its.toArray from pl) fun h' he hit hsz hk => wpAny_pyIter_enum he ?_
 refine ⟨_, [s1.heap.objs.size + 1, s1.heap.objs.size], _, _, H1, rfl, I1.kept (t' := s1.toks) hk, q6I l _ _ (Nat.succ_ne_self _), ⟨⟨_, he⟩, hit⟩, fun b hb => ?_, q⟩
 rcases List.mem_cons.mp hb with rfl | hb
 ·exact I1.fpOk (Nat.le_succ _) (I1.hok.fresh (Nat.le_succ _))
 ·rw [List.mem_singleton.mp hb]; exact I1.fpOk (Nat.le_refl _) (I1.hok.fresh (Nat.le_refl _))
end
end L2
namespace PySem
open Sem (wp)
section
variable {prog : Program} {w : World} {A : Around} {E : Value -> Shared -> Prop} {s : Shared}
theorem q7b {z TI TO i1 i2 t1 t2 : Addr} {k : Nat} {xs ys : Array Value} {x y a b : Value} {Q : Value -> Shared -> Prop} (D : ZipApart z TI TO i1 i2 t1 t2) (Z0 : IsZip s.heap z TI TO .none) (PI0 : IsPair s.heap TI (.ref i1) (.ref i2)) (PO0 : IsPair s.heap TO a b)
  (w1 : s.heap.IsTupleIter i1 t1 k) (w2 : s.heap.IsTupleIter i2 t2 k) (p1 : s.heap.IsTuple t1 xs) (p2 : s.heap.IsTuple t2 ys) (ex : xs[k]? = some x) (ey : ys[k]? = some y)
  (fin : ∀ h', IsZip h' z TI TO (rawInt s.heap.objs.size) -> IsPair h' TO x y -> h'.IsTupleIter i1 t1 (k + 1) -> h'.IsTupleIter i2 t2 (k + 1) -> IsPair h' s.heap.objs.size x y ->
   (∀ c o, c ≠ z -> c ≠ TO -> c ≠ i1 -> c ≠ i2 -> s.heap.get? c = some o -> h'.get? c = some o) -> Q (.ref s.heap.objs.size) { s with heap := h' }) :
  wpAny (model prog w) A (Builtin.«zip.__next__» ⟨[.ref z], []⟩) (fun fn s' => ∃ v, fn = .done (.ret v) /\ Q v s') E s := by
 show wpAny _ _ (field (.ref z) 2 >>= _) _ _ _
 refine wpAny_bind (wpAny_field Z0 rfl (x := .bool false) rfl ?_)
 show wpAny _ _ (field (.ref z) 3 >>= _) _ _ _
 refine wpAny_bind (wpAny_field Z0 rfl (x := .ref TI) rfl (wpAny_bind (wpAny_seqItems PI0 rfl ?_)))
 show wpAny _ _ (Builtin.SmallTypes.ownedTupleIsFree (.ref z) >>= _) _ _ _
 refine wpAny_bind ?_
 unfold Builtin.SmallTypes.ownedTupleIsFree
 refine wpAny_bind (wpAny_field Z0 rfl (x := .none) rfl (wpAny_pure ?_))
 simp only [if_true]
 refine wpAny_bind (wpAny_rule (wpAny_bind (wpAny_field Z0 rfl (x := .ref TO) rfl ?_)))
 refine wpAny_bind (wpAny_setField_rec Z0 (by simp) fun g1 Z1 b1 => ?_)
 replace Z1 : IsZip g1 z TI TO .ellipsis := Z1
 refine wpAny_bind ?_
 simp only [List.zipIdx_cons, List.zipIdx_nil, List.forIn_cons, List.forIn_nil]
 refine wpAny_bind (wpAny_bind (wpAny_onRaise ?_))
 show wpAny _ _ (Builtin.SmallTypes.nextOf (.ref i1) >>= _) _ _ _
 refine wpAny_bind (q1N (w1.extBut b1.extBut D.i1z) (p1.extBut b1.extBut D.l1z) ex fun g2 v1 b2 => wpAny_pure ?_)
 have PO2 : IsPair g2 TO a b := b2.extBut _ _ D.TOi1 (b1.extBut _ _ D.TOz PO0)
 refine wpAny_bind (wpAny_seqItems PO2 rfl (wpAny_bind (wpAny_updateSeq_pair PO2 fun g3 PO3 b3 => ?_)))
 replace PO3 : IsPair g3 TO x b := PO3
 refine wpAny_bind (wpAny_letGo (wpAny_pure (wpAny_bind (wpAny_bind (wpAny_onRaise ?_)))))
 show wpAny _ _ (Builtin.SmallTypes.nextOf (.ref i2) >>= _) _ _ _
 have w2' : g3.IsTupleIter i2 t2 k := ((w2.extBut b1.extBut D.i2z).extBut b2.extBut D.i12.symm).extBut b3.extBut D.TOi2.symm
 have p2' : g3.IsTuple t2 ys := ((p2.extBut b1.extBut D.l2z).extBut b2.extBut D.l2i1).extBut b3.extBut D.l2TO
 refine wpAny_bind (q1N w2' p2' ey fun g4 v2 b4 => wpAny_pure ?_)
 have PO4 : IsPair g4 TO x b := b4.extBut _ _ D.TOi2 PO3
 refine wpAny_bind (wpAny_seqItems PO4 rfl (wpAny_bind (wpAny_updateSeq_pair PO4 fun g5 PO5 b5 => ?_)))
 replace PO5 : IsPair g5 TO x y := PO5
 refine wpAny_bind (wpAny_letGo (wpAny_pure (wpAny_pure ?_)))
 refine wpAny_bind (wpAny_seqItems PO5 rfl (wpAny_bind (wpAny_newTuple ?_)))
 have e5 : g5.objs.size = s.heap.objs.size := by rw [b5.1, b4.1, b3.1, b2.1, b1.1]
 have Z5 : IsZip g5 z TI TO .ellipsis := b5.extBut _ _ D.TOz.symm (b4.extBut _ _ D.i2z.symm (b3.extBut _ _ D.TOz.symm (b2.extBut _ _ D.i1z.symm Z1)))
 have k5 : ∀ c o, c ≠ z -> c ≠ TO -> c ≠ i1 -> c ≠ i2 -> s.heap.get? c = some o -> g5.get? c = some o := fun c o c1 c2 c3 c4 q => b5.extBut _ _ c2 (b4.extBut _ _ c4 (b3.extBut _ _ c2 (b2.extBut _ _ c3 (b1.extBut _ _ c1 q))))
 have u1 : g5.IsTupleIter i1 t1 (k + 1) := ((v1.extBut b3.extBut D.TOi1.symm).extBut b4.extBut D.i12).extBut b5.extBut D.TOi1.symm
 have u2 : g5.IsTupleIter i2 t2 (k + 1) := v2.extBut b5.extBut D.TOi2.symm
 have lz : z < g5.objs.size := Heap.lt_size Z5
 show wpAny _ _ (Builtin.SmallTypes.ownedTupleHandOut (.ref z) (.ref g5.objs.size) >>= _) _ _ _
 refine wpAny_bind ?_
 unfold Builtin.SmallTypes.ownedTupleHandOut
 have Z6 : IsZip (g5.push { cls := .type "tuple", data := .seq #[x, y] }) z TI TO .ellipsis := Heap.get?_push_of_some _ Z5
 refine wpAny_bind (wpAny_setField_rec Z6 (by simp) fun g7 Z7 b7 => ?_)
 replace Z7 : IsZip g7 z TI TO (rawInt g5.objs.size) := Z7
 refine wpAny_setField_rec Z7 (by simp) fun g8 Z8 b8 => ?_
 replace Z8 : IsZip g8 z TI TO (rawInt g5.objs.size) := Z8
 have up : ∀ c o, c ≠ z -> g5.get? c = some o -> g8.get? c = some o := fun c o c1 q => b8.extBut _ _ c1 (b7.extBut _ _ c1 (Heap.get?_push_of_some _ q))
 have T8 : IsPair g8 g5.objs.size x y := b8.extBut _ _ (Nat.ne_of_gt lz) (b7.extBut _ _ (Nat.ne_of_gt lz) (Heap.get?_push_size _ rfl))
 rw [e5] at Z8 T8
 refine wpAny_pure ⟨_, rfl, ?_⟩
 show Q (.ref g5.objs.size) _
 rw [e5]
 exact fin g8 Z8 (up _ _ D.TOz PO5) (u1.at2 fun o q => up _ o D.i1z q) (u2.at2 fun o q => up _ o D.i2z q) T8 fun c o c1 c2 c3 c4 q => up c o c1 (k5 c o c1 c2 c3 c4 q)
theorem q8W {z TI TO i1 i2 t1 t2 : Addr} {k : Nat} {xs ys : Array Value} {a b : Value} {Q : Fin -> Shared -> Prop} (hh : A.handled = none) (D : ZipApart z TI TO i1 i2 t1 t2) (Z0 : IsZip s.heap z TI TO .none) (PI0 : IsPair s.heap TI (.ref i1) (.ref i2)) (PO0 : IsPair s.heap TO a b)
  (w1 : s.heap.IsTupleIter i1 t1 k) (w2 : s.heap.IsTupleIter i2 t2 k) (p1 : s.heap.IsTuple t1 xs) (p2 : s.heap.IsTuple t2 ys) (over : xs[k]? = none \/ ys[k]? = none)
  (fin : ∀ h' e, (∀ c o, c ≠ z -> c ≠ TO -> c ≠ i1 -> c ≠ i2 -> s.heap.get? c = some o -> h'.get? c = some o) -> (∃ o, h'.get? e = some o /\ o.cls = .type "StopIteration") -> E (.ref e) { s with heap := h' }) :
  wpAny (model prog w) A (Builtin.«zip.__next__» ⟨[.ref z], []⟩) Q E s := by
 show wpAny _ _ (field (.ref z) 2 >>= _) _ _ _
 refine wpAny_bind (wpAny_field Z0 rfl (x := .bool false) rfl ?_)
 show wpAny _ _ (field (.ref z) 3 >>= _) _ _ _
 refine wpAny_bind (wpAny_field Z0 rfl (x := .ref TI) rfl (wpAny_bind (wpAny_seqItems PI0 rfl ?_)))
 show wpAny _ _ (Builtin.SmallTypes.ownedTupleIsFree (.ref z) >>= _) _ _ _
 refine wpAny_bind ?_
 unfold Builtin.SmallTypes.ownedTupleIsFree
 refine wpAny_bind (wpAny_field Z0 rfl (x := .none) rfl (wpAny_pure ?_))
 simp only [if_true]
 refine wpAny_bind (wpAny_rule (wpAny_bind (wpAny_field Z0 rfl (x := .ref TO) rfl ?_)))
 refine wpAny_bind (wpAny_setField_rec Z0 (by simp) fun g1 Z1 b1 => ?_)
 replace Z1 : IsZip g1 z TI TO .ellipsis := Z1
 refine wpAny_bind ?_
 simp only [List.zipIdx_cons, List.zipIdx_nil, List.forIn_cons, List.forIn_nil]
 refine wpAny_bind (wpAny_bind (wpAny_onRaise ?_))
 show wpAny _ _ (Builtin.SmallTypes.nextOf (.ref i1) >>= _) _ _ _
 cases ex : xs[k]? with
 | none =>
  refine wpAny_bind (q0p hh (w1.extBut b1.extBut D.i1z) (p1.extBut b1.extBut D.l1z) ex fun g2 e b2 ee => ?_)
  obtain ⟨oe, he, ce⟩ := ee
  have Z2 : IsZip g2 z TI TO .ellipsis := b2 _ _ D.i1z.symm Z1
  have nz : e ≠ z := fun q => by subst q; rw [Z2] at he; cases he; simp at ce
  exact wpAny_setField_rec Z2 (by simp) fun g3 _ b3 => fin g3 e (fun c o c1 _ c3 _ q => b3.extBut _ _ c1 (b2 _ _ c3 (b1.extBut _ _ c1 q))) ⟨oe, b3.extBut _ _ nz he, ce⟩
 | some x =>
  have ey : ys[k]? = none := by rcases over with q | q; rw [ex] at q; cases q; exact q
  refine wpAny_bind (q1N (w1.extBut b1.extBut D.i1z) (p1.extBut b1.extBut D.l1z) ex fun g2 v1 b2 => wpAny_pure ?_)
  have PO2 : IsPair g2 TO a b := b2.extBut _ _ D.TOi1 (b1.extBut _ _ D.TOz PO0)
  refine wpAny_bind (wpAny_seqItems PO2 rfl (wpAny_bind (wpAny_updateSeq_pair PO2 fun g3 PO3 b3 => ?_)))
  refine wpAny_bind (wpAny_letGo (wpAny_pure (wpAny_bind (wpAny_bind (wpAny_onRaise ?_)))))
  show wpAny _ _ (Builtin.SmallTypes.nextOf (.ref i2) >>= _) _ _ _
  have w2' : g3.IsTupleIter i2 t2 k := ((w2.extBut b1.extBut D.i2z).extBut b2.extBut D.i12.symm).extBut b3.extBut D.TOi2.symm
  have p2' : g3.IsTuple t2 ys := ((p2.extBut b1.extBut D.l2z).extBut b2.extBut D.l2i1).extBut b3.extBut D.l2TO
  refine wpAny_bind (q0p hh w2' p2' ey fun g4 e b4 ee => ?_)
  obtain ⟨oe, he, ce⟩ := ee
  have Z4 : IsZip g4 z TI TO .ellipsis := b4 _ _ D.i2z.symm (b3.extBut _ _ D.TOz.symm (b2.extBut _ _ D.i1z.symm Z1))
  have nz : e ≠ z := fun q => by subst q; rw [Z4] at he; cases he; simp at ce
  exact wpAny_setField_rec Z4 (by simp) fun g5 _ b5 => fin g5 e (fun c o c1 c2 c3 c4 q => b5.extBut _ _ c1 (b4 _ _ c4 (b3.extBut _ _ c2 (b2.extBut _ _ c3 (b1.extBut _ _ c1 q))))) ⟨oe, b5.extBut _ _ nz he, ce⟩
theorem q7Z {z TI TO i1 i2 t1 t2 : Addr} {k : Nat} {xs ys : Array Value} {x y a b : Value} {Q : Option Value -> Shared -> Prop} (D : ZipApart z TI TO i1 i2 t1 t2) (Z0 : IsZip s.heap z TI TO .none) (PI0 : IsPair s.heap TI (.ref i1) (.ref i2)) (PO0 : IsPair s.heap TO a b)
  (w1 : s.heap.IsTupleIter i1 t1 k) (w2 : s.heap.IsTupleIter i2 t2 k) (p1 : s.heap.IsTuple t1 xs) (p2 : s.heap.IsTuple t2 ys) (ex : xs[k]? = some x) (ey : ys[k]? = some y)
  (fin : ∀ h', IsZip h' z TI TO (rawInt s.heap.objs.size) -> IsPair h' TO x y -> h'.IsTupleIter i1 t1 (k + 1) -> h'.IsTupleIter i2 t2 (k + 1) -> IsPair h' s.heap.objs.size x y ->
   (∀ c o, c ≠ z -> c ≠ TO -> c ≠ i1 -> c ≠ i2 -> s.heap.get? c = some o -> h'.get? c = some o) -> Q (some (.ref s.heap.objs.size)) { s with heap := h' }) :
  wpAny (model prog w) A (pyNext (.ref z)) Q E s := by
 have ty : s.TypeIs (.ref z) "zip" := ⟨_, Z0, rfl⟩
 unfold pyNext
 exact wpAny_bind (wpAny_attempt (wpAny_callSpecial?_slot (name := Str.ofString "__next__") ty F.slot_zip_next (wpAny_call_entry F.slot_zip_next ty F.entry_zip_next
  (q7b D Z0 PI0 PO0 w1 w2 p1 p2 ex ey fun h' a1 a2 a3 a4 a5 a6 => wpAny_pure (fin h' a1 a2 a3 a4 a5 a6)) (F.args_zip_next_1 _))))
theorem q4d {z TI TO i1 i2 t1 t2 : Addr} {k : Nat} {xs ys : Array Value} {a b : Value} {Q : Option Value -> Shared -> Prop} (hh : A.handled = none) (D : ZipApart z TI TO i1 i2 t1 t2) (Z0 : IsZip s.heap z TI TO .none) (PI0 : IsPair s.heap TI (.ref i1) (.ref i2)) (PO0 : IsPair s.heap TO a b)
  (w1 : s.heap.IsTupleIter i1 t1 k) (w2 : s.heap.IsTupleIter i2 t2 k) (p1 : s.heap.IsTuple t1 xs) (p2 : s.heap.IsTuple t2 ys) (over : xs[k]? = none \/ ys[k]? = none)
  (fin : ∀ h', (∀ c o, c ≠ z -> c ≠ TO -> c ≠ i1 -> c ≠ i2 -> s.heap.get? c = some o -> h'.get? c = some o) -> Q none { s with heap := h' }) : wpAny (model prog w) A (pyNext (.ref z)) Q E s := by
 have ty : s.TypeIs (.ref z) "zip" := ⟨_, Z0, rfl⟩
 unfold pyNext
 refine wpAny_bind (wpAny_attempt (wpAny_callSpecial?_slot (name := Str.ofString "__next__") ty F.slot_zip_next (wpAny_call_entry F.slot_zip_next ty F.entry_zip_next (q8W hh D Z0 PI0 PO0 w1 w2 p1 p2 over fun h' e hk he => ?_) (F.args_zip_next_1 _))))
 obtain ⟨o, ho, hc⟩ := he
 exact wpAny_bind (wpAny_isInstance (T := "StopIteration") (b := true) ⟨o, ho, hc⟩ isSubtype_stop (wpAny_pure (fin _ hk)))
end
abbrev zT1 (h : Heap) (t1 : Addr) : Heap := h.push { cls := .type "tuple_iterator", data := .fields #[.ref t1, .int 0 0] }
abbrev zT2 (h : Heap) (t1 t2 : Addr) : Heap := (zT1 h t1).push { cls := .type "tuple_iterator", data := .fields #[.ref t2, .int 0 0] }
abbrev zT3 (h : Heap) (t1 t2 : Addr) : Heap := (zT2 h t1 t2).push { cls := .type "tuple", data := .seq #[.ref h.objs.size, .ref (zT1 h t1).objs.size] }
abbrev zT4 (h : Heap) (t1 t2 : Addr) : Heap := (zT3 h t1 t2).push { cls := .type "tuple", data := .seq #[.none, .none] }
abbrev zT5 (h : Heap) (t1 t2 : Addr) : Heap := (zT4 h t1 t2).push { cls := .type "zip", data := .fields #[.none, .bool false, .bool false, .ref (zT2 h t1 t2).objs.size, .ref (zT3 h t1 t2).objs.size] }
theorem q3z (t1 t2 : Addr) (xs ys : Array Value) :
  Meets (Builtin.«zip.__new__» ⟨[.type "zip", .ref t1, .ref t2], []⟩) (fun _ R s => s.heap.IsTuple t1 xs /\ s.heap.IsTuple t2 ys /\ R (.ok (.ret (.ref (zT4 s.heap t1 t2).objs.size))) { s with heap := zT5 s.heap t1 t2 }) :=
 .of_wp fun prog w A R s h => by
  obtain ⟨hp, g, d, tk, os⟩ := s; obtain ⟨q1, q2, h⟩ := h
  have hsub := sub_zip
  have T1 : Heap.IsTuple (Shared.heap ⟨hp, g, d, tk, os⟩) t1 xs := q1
  have T2 : Heap.IsTuple (Shared.heap ⟨hp.push { cls := .type "tuple_iterator", data := .fields #[.ref t1, .int 0 0] }, g, d, tk, os⟩) t2 ys := Heap.IsTuple.push q2 _
  wp_walk using wpAny_pyIter_tuple T1, wpAny_pyIter_tuple T2
  exact ⟨_, rfl, h⟩
section
variable {prog : Program} {w : World} {A : Around} {E : Value -> Shared -> Prop} {s : Shared}
theorem q8P {t1 t2 : Addr} {xs ys : Array Value} {Q : Value -> Shared -> Prop} (q1 : s.heap.IsTuple t1 xs) (q2 : s.heap.IsTuple t2 ys)
  (h : ∀ h', IsZip h' (s.heap.objs.size + 4) (s.heap.objs.size + 2) (s.heap.objs.size + 3) .none -> IsPair h' (s.heap.objs.size + 2) (.ref s.heap.objs.size) (.ref (s.heap.objs.size + 1)) ->
   IsPair h' (s.heap.objs.size + 3) .none .none -> h'.IsTupleIter s.heap.objs.size t1 0 -> h'.IsTupleIter (s.heap.objs.size + 1) t2 0 ->
   (∀ c o, s.heap.get? c = some o -> h'.get? c = some o) -> Q (.ref (s.heap.objs.size + 4)) { s with heap := h' }) :
  wpAny (model prog w) A (call (.type "zip") [.ref t1, .ref t2]) Q E s := by
 refine callType_new F.called_zip (by decide) (F.typeCall_zip_2 _ _) (F.newCall_zip_2 _ _) (fun obj => F.args_object_init_3 obj _ _) F.entry_zip_new (q3z t1 t2 xs ys) ⟨q1, q2, ?_⟩
 have z1 : (zT1 s.heap t1).objs.size = s.heap.objs.size + 1 := Heap.size_push ..
 have z2 : (zT2 s.heap t1 t2).objs.size = s.heap.objs.size + 2 := by rw [Heap.size_push, z1]
 have z3 : (zT3 s.heap t1 t2).objs.size = s.heap.objs.size + 3 := by rw [Heap.size_push, z2]
 have z4 : (zT4 s.heap t1 t2).objs.size = s.heap.objs.size + 4 := by rw [Heap.size_push, z3]
 have g5 : (zT5 s.heap t1 t2).get? (zT4 s.heap t1 t2).objs.size = some _ := Heap.get?_push_size _ rfl
 have g4 : (zT5 s.heap t1 t2).get? (zT3 s.heap t1 t2).objs.size = some _ := Heap.get?_push_of_some _ (Heap.get?_push_size _ rfl)
 have g3 : (zT5 s.heap t1 t2).get? (zT2 s.heap t1 t2).objs.size = some _ := Heap.get?_push_of_some _ (Heap.get?_push_of_some _ (Heap.get?_push_size _ rfl))
 have g2 : (zT5 s.heap t1 t2).get? (zT1 s.heap t1).objs.size = some _ := Heap.get?_push_of_some _ (Heap.get?_push_of_some _ (Heap.get?_push_of_some _ (Heap.get?_push_size _ rfl)))
 have g1 : (zT5 s.heap t1 t2).get? s.heap.objs.size = some _ := Heap.get?_push_of_some _ (Heap.get?_push_of_some _ (Heap.get?_push_of_some _ (Heap.get?_push_of_some _ (Heap.get?_push_size _ rfl))))
 show _ /\ _
 rw [z2, z3, z4] at g5
 rw [z1, z2] at g3
 rw [z3] at g4
 rw [z1] at g2
 rw [z4]
 exact ⟨⟨_, g5, rfl⟩, h _ g5 g3 g4 ⟨_, g1, rfl, rfl⟩ ⟨_, g2, rfl, rfl⟩ fun c o q => Heap.get?_push_of_some _ (Heap.get?_push_of_some _ (Heap.get?_push_of_some _ (Heap.get?_push_of_some _ (Heap.get?_push_of_some _ q))))⟩
end
end PySem
namespace L2
open PySem PySem.Spec PyProof.Rows
def Itz (K : PySem.W.Frag) (a b : Addr) : It :=
 ⟨fun i H => ∃ xs ys x y, SqT K H a xs /\ SqT K H b ys /\ xs[i]? = some x /\ ys[i]? = some y, fun i H v H' => ∃ T, H T = none /\ v = .ref T /\ ∀ xs ys x y, SqT K H a xs -> SqT K H b ys -> xs[i]? = some x -> ys[i]? = some y -> H' = upd H T (.tup [x, y]),
  fun i H => ∃ xs ys, SqT K H a xs /\ SqT K H b ys /\ (xs.length <= i \/ ys.length <= i)⟩
theorem q7f {P : Program} {w : World} {K : PySem.W.Frag} {elts : List Expr} {k : Nat} {tp : Pos} (a b z TI TO i1 i2 : Addr) (D : ZipApart z TI TO i1 i2 a b) :
  Turn P w K (.Tuple elts k tp) (Itz K a b) [z, TI, TO, i1, i2] z (fun i h => IsZip h z TI TO .none /\ IsPair h TI (.ref i1) (.ref i2) /\ (∃ u v, IsPair h TO u v) /\ h.IsTupleIter i1 a i /\ h.IsTupleIter i2 b i) where
 mem := by simp
 obj := fun i h st c hc => by
  obtain ⟨q1, q2, ⟨u, v, q3⟩, ⟨o4, q4, _, d4⟩, ⟨o5, q5, _, d5⟩⟩ := st
  simp only [List.mem_cons, List.not_mem_nil, or_false] at hc
  rcases hc with rfl | rfl | rfl | rfl | rfl
  ·exact ⟨_, q1, fun v z => by cases z⟩
  ·exact ⟨_, q2, fun v z => by cases z⟩
  ·exact ⟨_, q3, fun v z => by cases z⟩
  ·exact ⟨_, q4, fun v z => by rw [d4] at z; cases z⟩
  ·exact ⟨_, q5, fun v z => by rw [d5] at z; cases z⟩
 keep := fun i h h' st kk => by
  obtain ⟨q1, q2, ⟨u, v, q3⟩, q4, q5⟩ := st
  exact ⟨kk z (by simp) _ q1, kk TI (by simp) _ q2, ⟨u, v, kk TO (by simp) _ q3⟩, q4.at2 fun o q => kk i1 (by simp) o q, q5.at2 fun o q => kk i2 (by simp) o q⟩
 item := by
  intro X hP hw hK hc i pins s σ H E I hf st hg
  subst hP hw hK
  obtain ⟨xs, ys, x, y, hqa, hqb, hx, hy⟩ := hg
  obtain ⟨q1, q2, ⟨u0, v0, q3⟩, q4, q5⟩ := st
  obtain ⟨ia, ra, pa, hza⟩ := I.tuple hqa
  obtain ⟨ib, rb, pb, hzb⟩ := I.tuple hqb
  have pa : s.heap.IsTuple a ia.toArray := pa
  have pb : s.heap.IsTuple b ib.toArray := pb
  obtain ⟨u, hu, ru⟩ := ra.get hx
  obtain ⟨v, hv, rv⟩ := rb.get hy
  refine q7Z D q1 q2 q3 q4 q5 pa pb (x := u) (y := v) (by simpa using hu) (by simpa using hv) fun h' a1 a2 a3 a4 a5 kk => ?_
  have kf : ∀ c o, c ∉ [z, TI, TO, i1, i2] -> s.heap.get? c = some o -> h'.get? c = some o := fun c o hcc q => kk c o (fun e => hcc (by simp [e])) (fun e => hcc (by simp [e])) (fun e => hcc (by simp [e])) (fun e => hcc (by simp [e])) q
  have ne : ∀ c ∈ [z, TI, TO, i1, i2], c ≠ s.heap.objs.size := fun c hcc => by
   obtain ⟨o4, e4, _⟩ := q4
   obtain ⟨o5, e5, _⟩ := q5
   simp only [List.mem_cons, List.not_mem_nil, or_false] at hcc
   rcases hcc with rfl | rfl | rfl | rfl | rfl
   ·exact Nat.ne_of_lt (Heap.lt_size q1)
   ·exact Nat.ne_of_lt (Heap.lt_size q2)
   ·exact Nat.ne_of_lt (Heap.lt_size q3)
   ·exact Nat.ne_of_lt (Heap.lt_size e4)
   ·exact Nat.ne_of_lt (Heap.lt_size e5)
  have I1 : Inv X pins σ (upd H s.heap.objs.size (.tup [x, y])) { s with heap := h', toks := s.toks } := I.yields (vals := [u, v]) hf kf (Nat.le_refl _) ⟨_, a5, rfl, _, rfl⟩ (.cons ru (.cons rv .nil)) (by show 2 <= sizeLine; decide)
  have hf1 := q6p (o := .tup [x, y]) hf ne
  refine ⟨_, rfl, wpAny_letOwnedTupleGo_zip a1 fun h'' Z2 sb => ?_⟩
  have I2 : Inv X pins σ (upd H s.heap.objs.size (.tup [x, y])) { s with heap := h'', toks := s.toks } := I1.turnedL (t' := s.toks) hf1 fun c o hcc q => (sb.2 c fun e => hcc (by simp [e])).trans q
  refine ⟨.ref s.heap.objs.size, _, I2, rfl, ⟨_, I.hok.fresh (Nat.le_refl _), rfl, fun xs' ys' x' y' hxs hys hx' hy' => ?_⟩, ⟨Z2, sb.extBut _ _ D.TIz (kk _ _ D.TIz D.TITO D.TIi1 D.TIi2 q2), ⟨u, v, sb.extBut _ _ D.TOz a2⟩, a3.extBut sb.extBut D.i1z, a4.extBut sb.extBut D.i2z⟩, fun c hcc => (hf1 c hcc).1⟩
  have e1 := I.tuple_inj hxs hqa
  have e2 := I.tuple_inj hys hqb
  subst e1 e2
  rw [hx] at hx'; rw [hy] at hy'
  rw [Option.some.inj hx', Option.some.inj hy']
 done := by
  intro X hP hw hK hc i pins s σ H E I hf st hg
  subst hP hw hK
  obtain ⟨xs, ys, hqa, hqb, over⟩ := hg
  obtain ⟨q1, q2, ⟨u0, v0, q3⟩, q4, q5⟩ := st
  obtain ⟨ia, ra, pa, hza⟩ := I.tuple hqa
  obtain ⟨ib, rb, pb, hzb⟩ := I.tuple hqb
  have la := ra.length
  have lb := rb.length
  refine q4d (I.ok.hd hc) D q1 q2 q3 q4 q5 (show s.heap.IsTuple a ia.toArray from pa) (show s.heap.IsTuple b ib.toArray from pb) ?_ fun h' kk => ⟨rfl, I.turnedL (t' := s.toks) hf fun c o hcc q => kk c o (fun e => hcc (by simp [e])) (fun e => hcc (by simp [e])) (fun e => hcc (by simp [e])) (fun e => hcc (by simp [e])) q⟩
  rcases over with q | q
  ·exact .inl (by simp; omega)
  ·exact .inr (by simp; omega)
 self := fun _ _ _ _ _ st h => wpAny_pyIter_zip st.1 h
section
variable {X : Cx} {elts : List Expr} {k : Nat} {tp : Pos}
def iZipT (K : PySem.W.Frag) (ta : TA) : TI := fun σ H R => ta σ H fun vs H1 => ∃ a b, vs = [.ref a, .ref b] /\ (∃ xs, SqT K H1 a xs) /\ (∃ ys, SqT K H1 b ys) /\ R (Itz K a b) H1
theorem qaS {a b : Expr} {ta : TA} {p pos : Pos} (hg : Gl X "zip") (hm : X.mg "zip" = none) (ha : PA X [a, b] ta) (hs : starEach [a, b] X.env = [(false, eval a X.env), (false, eval b X.env)] := by rfl) (hs2 : starEach [b] X.env = [(false, eval b X.env)] := by rfl) :
  PI X (.Tuple elts k tp) (.Call (.Name "zip" p) [a, b] [] pos) (iZipT X.K ta) := by
 intro pins s σ H R I h
 refine Call_ (q3f I hg hm boot_zip (PyProof.Rows.callWith_type1 (thn (ha pos pins s σ H _ I h) fun us s1 ⟨vs, H1, I1, r1, q1⟩ => ?_) (by rw [hs, hs2]) (by rw [hs2]; rfl)))
 obtain ⟨t1, t2, e, ⟨xs, hqa⟩, ⟨ys, hqb⟩, q⟩ := q1
 subst e
 obtain ⟨u, v, rfl, rx, ry⟩ := q8Y r1
 cases rx
 cases ry
 obtain ⟨ia, ra, pa, hza⟩ := I1.tuple hqa
 obtain ⟨ib, rb, pb, hzb⟩ := I1.tuple hqb
 have pa : s1.heap.IsTuple t1 ia.toArray := pa
 have pb : s1.heap.IsTuple t2 ib.toArray := pb
 have l1 : t1 < s1.heap.objs.size := by obtain ⟨o, q, _⟩ := pa; exact Heap.lt_size q
 have l2 : t2 < s1.heap.objs.size := by obtain ⟨o, q, _⟩ := pb; exact Heap.lt_size q
 refine q8P pa pb fun h' a1 a2 a3 a4 a5 kk => wpAny_pyIter_zip a1 ?_
 refine ⟨_, [s1.heap.objs.size + 4, s1.heap.objs.size + 2, s1.heap.objs.size + 3, s1.heap.objs.size, s1.heap.objs.size + 1], _, _, H1, rfl, I1.kept (t' := s1.toks) kk, q7f t1 t2 _ _ _ _ _ (zipApart_new l1 l2), ⟨a1, a2, ⟨_, _, a3⟩, a4, a5⟩, fun c hc => ?_, q⟩
 have up : ∀ n, FpOk X pins H1 (s1.heap.objs.size + n) := fun n => I1.fpOk (Nat.le_add_right _ _) (I1.hok.fresh (Nat.le_add_right _ _))
 simp only [List.mem_cons, List.not_mem_nil, or_false] at hc
 rcases hc with rfl | rfl | rfl | rfl | rfl
 ·exact up 4
 ·exact up 2
 ·exact up 3
 ·exact up 0
 ·exact up 1
end
end L2
namespace L2
open PySem PySem.Spec PyProof.Rows
section
variable {X : Cx}
def rIsiT (K : PySem.W.Frag) : List V -> Hp -> VK -> Prop := fun xs H Q => ∃ x n t b, xs = [x, .ty n] /\ TyOf K H x t /\ PySem.W.kitOne K t (.type n) = some b /\ Q (.bl b) H
theorem q8Q : q1S X (.builtin "isinstance") (rIsiT X.K) := by
 intro pins s σ H xs us Q I r h
 obtain ⟨x, n, t, b, rfl, ty, e, q⟩ := h
 obtain ⟨u, v, rfl, rx, ry⟩ := q8Y r
 cases ry
 exact q8e I rx ty e fun tk => ⟨.bl b, H, I.tok _, rfl, q⟩
theorem q8X {bs : List Bool} : ∀ {us : List Value}, Vals (bs.map V.bl) us -> us = bs.map Value.bool := by
 induction bs with
 | nil => intro us r; cases r; rfl
 | cons b bs ih =>
  intro us r
  rw [List.map_cons] at r
  cases r with
  | cons r1 r2 =>
   cases (show _ = Value.bool b from r1)
   rw [ih r2]
   rfl
theorem q4q (bs : List Bool) : ((List.range bs.length).all fun i => bs.getD i true) = bs.all id := by
 rw [Bool.eq_iff_iff]
 simp only [List.all_eq_true, List.mem_range, id]
 constructor
 ·intro h x hx
  obtain ⟨i, hi, rfl⟩ := List.mem_iff_getElem.mp hx
  have := h i hi
  simpa [List.getD, hi] using this
 ·intro h i hi
  have := h bs[i] (List.getElem_mem hi)
  simpa [List.getD, hi] using this
def rAll (K : PySem.W.Frag) : List V -> Hp -> VK -> Prop := fun xs H Q => ∃ (p : Addr) (bs : List Bool), xs = [.ref p] /\ SqL K H p (bs.map V.bl) /\ Q (.bl (bs.all id)) H
theorem qa2 (hc : X.calm = true) : q1S X (.builtin "all") (rAll X.K) := by
 intro pins s σ H xs us Q I r h
 obtain ⟨p, bs, rfl, hq, q⟩ := h
 obtain ⟨u, rfl, rx⟩ := q3s r
 cases rx
 obtain ⟨its, rv, pl, hz⟩ := I.list hq
 have hits := q8X rv
 have hl := pl.isList
 have hlt : p < s.heap.objs.size := by obtain ⟨o, e, _⟩ := hl; exact Heap.lt_size e
 have hh : X.A.in1.handled = none := I.ok.hd hc
 refine call_all_walk (wpAny_pyIter_list hl ?_)
 refine ⟨s.heap.objs.size, _, _, _, _, _, fun i => bs.getD i true, rfl, Walks.list hh s.heap.objs.size p (Nat.ne_of_lt hlt) its.toArray, ⟨⟨_, Heap.get?_push_size _ rfl, rfl, rfl⟩, hl.push _⟩, ?_, fun h' tk hk => ?_⟩
 ·intro i v s' Q' E' hv hQ
  have e : v = .bool (bs.getD i true) := by
   have hv' : its[i]? = some v := by simpa using hv
   rw [hits, List.getElem?_map] at hv'
   cases e : bs[i]? with
   | none => rw [e] at hv'; cases hv'
   | some b => rw [e] at hv'; simp [List.getD, e]; exact (Option.some.inj hv').symm
  subst e
  first
   | exact wpAny_pure hQ
   | exact hQ
 ·have e : its.toArray.size = bs.length := by rw [hits]; simp
  have I1 : Inv X pins σ H { s with heap := s.heap.push { cls := .type "list_iterator", data := .fields #[.ref p, .int 0 0] } } := I.kept (t' := s.toks) fun b o e => Heap.get?_push_of_some _ e
  have f : ∀ b ∈ [s.heap.objs.size], FpOk X pins H b := fun b hb => by rw [List.mem_singleton.mp hb]; exact I.fpOk (Nat.le_refl _) (I.hok.fresh (Nat.le_refl _))
  refine ⟨.bl (bs.all id), H, I1.turnedL (t' := tk) (ch := [s.heap.objs.size]) f fun b o hb e => hk b o hb e, ?_, q⟩
  show Value.bool _ = Value.bool _
  rw [e, q4q]
end
end L2
namespace HT
open PySem PyProof.Rows
section
variable {prog : Program} {w : World} {A : Around} {E : Value -> Shared -> Prop} {s : Shared}
theorem q2B {t sl : Addr} {items : Array Value} {vl vu : Value} {lo hi : Option Int} {Q : Value -> Shared -> Prop} (ht : IsTup s.heap t items) (hs : s.heap.IsSliceOf sl vl vu .none) (pl : IsPart vl lo) (pu : IsPart vu hi)
  (hw : sIx items.size 0 lo = 0 /\ sIx items.size items.size hi = items.size) (h : Q (.ref t) s) : wpAny (model prog w) A (getItem (.ref t) (.ref sl)) Q E s := by
 obtain ⟨os, hos, hcs, hds⟩ := id hs
 have hTs : s.TypeIs (.ref sl) "slice" := ⟨os, hos, hcs⟩
 unfold getItem
 try with_reducible refine wpAny_holding ?_
 first | refine wpAny_bind (wpAny_pure ?_) | skip
 refine wpAny_bind (wpAny_sequenceKey ht.typeIs (by decide) ?_)
 refine wpAny_bind (wpAny_callSpecial?_slot (name := Str.ofString "__getitem__") ht.typeIs PyProof.Rows.slot_tuple_getitem (wpAny_call_entry PyProof.Rows.slot_tuple_getitem ht.typeIs entry_tuple_getitem ?_ (args_tuple_getitem _ _)))
 show wpAny _ _ (Builtin.Tuple.tupleItemsOf (.ref t) >>= _) _ _ s
 refine wpAny_bind (tupleItemsOf_ ht (wpAny_bind (wpAny_typeOf hTs ?_)))
 rw [if_pos (by decide)]
 refine wpAny_bind (q1v hs pl pu ?_)
 have yes : (((sIx items.size 0 lo : Nat) : Int) == 0 && (1 : Int) == 1 && (sIx items.size items.size hi - sIx items.size 0 lo) == items.size) = true := by
  rw [hw.1, hw.2]; simp
 show wpAny _ _ (if (((sIx items.size 0 lo : Nat) : Int) == 0 && (1 : Int) == 1 && (sIx items.size items.size hi - sIx items.size 0 lo) == items.size) = true then _ else _) _ _ s
 rw [if_pos yes]
 refine wpAny_bind (m := Builtin.Tuple.tupleIsExact _) ?_
 unfold Builtin.Tuple.tupleIsExact
 refine wpAny_bind (wpAny_typeOf ht.typeIs (wpAny_pure ?_))
 simp only [beq_self_eq_true, if_true]
 first
  | exact wpAny_bind (wpAny_rule (wpAny_pure ⟨_, rfl, wpAny_pure h⟩))
  | exact wpAny_bind (wpAny_rule (wpAny_bind (wpAny_pure (wpAny_pure ⟨_, rfl, wpAny_pure h⟩))))
  | exact wpAny_bind (wpAny_rule (wpAny_bind (wpAny_pure ⟨_, rfl, wpAny_pure h⟩)))
  |(trace_state; fail)
end
end HT
namespace L2
open PySem PySem.Spec PyProof.Rows
section
variable {X : Cx}
def rSlTA (K : PySem.W.Frag) : V -> Option Int -> Option Int -> Hp -> VK -> Prop := fun x lo hi H Q => ∃ a xs, x = .ref a /\ SqT K H a xs /\ (cutV xs lo hi = xs -> Q (.ref a) H) /\ ∀ p, H p = none -> Q (.ref p) (upd H p (.tup (cutV xs lo hi)))
theorem qaH : SlR X (rSlTA X.K) := by
 intro pins s σ H x v vl vu lo hi sl Q I rx hs pl pu h
 obtain ⟨a, xs, rfl, hx, h1, h2⟩ := h
 by_cases hw : HT.sIx xs.length 0 lo = 0 /\ HT.sIx xs.length xs.length hi = xs.length
 ·have e : cutV xs lo hi = xs := by unfold cutV; rw [hw.1, hw.2]; simp
  cases rx
  obtain ⟨its, r, ht, hz⟩ := I.tuple hx
  have hlen : its.toArray.size = xs.length := by rw [List.size_toArray]; exact r.length.symm
  exact ⟨"tuple", _, PyProof.Rows.slot_tuple_getitem.lookup, ht.typeIs, HT.q2B ht hs pl pu (by rw [hlen]; exact hw) ⟨.ref a, H, I, rfl, h1 e⟩⟩
 ·exact sl_tup pins s σ H (.ref a) v vl vu lo hi sl Q I rx hs pl pu ⟨a, xs, rfl, hx, hw, h2⟩
end
theorem q3k {J : It} {g : TG} {tc : TT} {te : TE} {R : Hp -> Prop} {σ : St} {H : Hp} {D : Addr} (n : Nat) (Pv : Nat -> St -> Hp -> Prop) (h0 : Pv 0 σ H)
  (go : ∀ i σ H, i < n -> Pv i σ H -> J.go i H /\ ∀ x H', J.yld i H x H' -> g x σ H' fun σ3 H3 => tc σ3 H3 fun b H4 =>
   if b = true then te σ3 H4 fun y H5 => ∃ ys, H5 D = some (.lst ys) /\ ys.length < sizeLine /\ Pv (i + 1) σ3 (upd H5 D (.lst (ys ++ [y]))) else Pv (i + 1) σ3 H4) (stop : ∀ σ H, Pv n σ H -> J.stop n H /\ R H) :
  ∃ W : Nat -> Nat -> St -> Hp -> Prop, (∃ m, W 0 m σ H) /\ ∀ i m σ H, W i m σ H ->
   (J.stop i H /\ R H) \/ (J.go i H /\ ∃ N : St -> Hp -> Prop, (∀ σ' H', N σ' H' -> ∃ m', m' < m /\ W (i + 1) m' σ' H') /\ ∀ x H', J.yld i H x H' -> g x σ H' fun σ3 H3 => tc σ3 H3 fun b H4 =>
    if b = true then te σ3 H4 fun y H5 => ∃ ys, H5 D = some (.lst ys) /\ ys.length < sizeLine /\ N σ3 (upd H5 D (.lst (ys ++ [y]))) else N σ3 H4) := by
 refine ⟨fun i m σ H => m = n - i /\ i <= n /\ Pv i σ H, ⟨n, by simp, Nat.zero_le _, h0⟩, ?_⟩
 rintro i m σ H ⟨rfl, hi, p⟩
 by_cases hlt : i < n
 ·obtain ⟨q1, q2⟩ := go i σ H hlt p
  exact .inr ⟨q1, Pv (i + 1), fun σ' H' p' => ⟨n - (i + 1), by omega, rfl, hlt, p'⟩, q2⟩
 ·have e : i = n := by omega
  subst e
  exact .inl (stop σ H p)
theorem Same.upd {H : Hp} {a : Addr} {o : HO} (h : H a = none) : Same H (upd H a o) := fun b u e => by rw [ql (qk e h)]; exact e
theorem Same.put {H H' : Hp} {a : Addr} {o : HO} (e : Same H H') (h : H a = none) : Same H (L2.upd H' a o) := fun b u q => by rw [ql (qk q h)]; exact e b u q
def isFun : ScopeKind -> Bool
 | .function => true
 | _ => false
theorem q9M {k : ScopeKind} (h : isFun k = true) : k = .function := by
 cases k <;> first | rfl | cases h
def q8I (Nx : List Str) (scx : Scope) (N : List Str) (scope : Scope) (own : Nat) (caps : List Nat) : Bool :=
 isFun scope.kind && scope.names.all (fun y => (y.2 != .local || scope.names.lookup y.1 == some .local) && y.2 != .cell && (y.2 != .free || scx.names.lookup y.1 == some .cell || scx.names.lookup y.1 == some .free)) &&
  N.length == own + caps.length && (caps.zip (N.drop own)).all fun p => decide (Nx[p.1]? = some p.2) && scope.names.lookup p.2 == some .free
theorem q0i {X : Cx} {N : List Str} {scope : Scope} {own : Nat} {caps : List Nat} (Nx : List Str) (scx : Scope) (h : q8I Nx scx N scope own caps = true) (hN : X.N = Nx := by rfl) (hs : X.env.scope = scx := by rfl) : CompOk X N scope own caps := by
 unfold q8I at h
 simp only [Bool.and_eq_true, List.all_eq_true] at h
 obtain ⟨⟨⟨h1, h2⟩, h3⟩, h4⟩ := h
 refine ⟨q9M h1, fun y hy hl => ?_, fun y hy hc => ?_, fun y hy hf => ?_, by simpa using h3, fun i j x e1 e2 => ?_⟩
 ·have := (h2 y hy).1.1
  simpa [hl] using this
 ·have := (h2 y hy).1.2
  simp [hc] at this
 ·have := (h2 y hy).2
  show X.env.scope.names.lookup y.1 = some .cell \/ X.env.scope.names.lookup y.1 = some .free
  rw [hs]
  simpa [hf] using this
 ·have hm : (j, x) ∈ caps.zip (N.drop own) := by
   have e3 : (N.drop own)[i]? = some x := by rw [List.getElem?_drop]; exact e2
   exact List.mem_iff_getElem?.mpr ⟨i, by rw [List.getElem?_zip_eq_some]; exact ⟨e1, e3⟩⟩
  have := h4 _ hm
  rw [hN]
  exact ⟨of_decide_eq_true this.1, by simpa using this.2⟩
structure Cal (P : Program) (w : World) (K : PySem.W.Frag) (mg : Str -> Option Value) (base : Heap) (k : Nat) (x : Str) (ps : List Str) (sp : Sp) : Prop where
 ex : ∃ f fd, FnOk P w K mg base CX0 k f fd ps sp /\ mg x = some (.ref f) /\ PySem.W.keepIn K (.ref f) = true /\ q1T K fd ps []
structure Laid (K : PySem.W.Frag) (mg : Str -> Option Value) (x : Str) (st : Stmt) (ps : List Str) : Prop where
 ex : ∃ f fd, Fun K x x st f fd /\ mg x = some (.ref f) /\ q1T K fd ps []
section
variable {P : Program} {w : World} {K : PySem.W.Frag} {mg : Str -> Option Value} {base : Heap}
theorem Laid.cal {x : Str} {st : Stmt} {N ps : List Str} {k : Nat} {sp : Sp} (L : Laid K mg x st ps) (S : FnScope N ps (qe st)) (len : ∀ vs H Q E, sp vs H Q E -> vs.length = ps.length)
  (hbody : ∀ (f : Addr) (cdv : Value) (A : Around) (outer : List Env) (s : Shared) (H : Hp) (vs : List V) (Q : VK) (E : XK), Room k (A.deeper (envOfC x (qe st) s.heap.objs.size f cdv)) -> sp vs H Q E ->
   ∃ t, PSs (cxOf CX0 P w K mg base N x (qe st) f cdv A outer s H E).nox (qK st) t /\ t { nx := fun _ H' => Q .non H', rt := Q } (start N vs) H) : Cal P w K mg base (k + 1) x ps sp := by
 obtain ⟨f, fd, F, m, b⟩ := L.ex
 exact ⟨f, fd, F.ok S len (fun cdv A outer s H vs Q E hr h => hbody f cdv A outer s H vs Q E hr h), m, F.kp, b⟩
theorem qbk {h : Heap} {x : Str} {st : Stmt} {ps : List Str} {f : Addr} {oc : Value} {od an : Option Addr} {osl : Array (Option Value)} {kV doc pm cdv ct : Value} (X : K.In h) (G : h.Ns mainGlobals mg) (a : PySem.W.nsIn K mainGlobals x = some (some (.ref f)))
  (l : K.lookup f = some ⟨oc, od, .func (PySem.W.fnOf x x (q05 st) (qK st) (qe st) .none kV doc pm an cdv ct), osl⟩) (c : PySem.W.codeIn K cdv x = true) (k : PySem.W.keepIn K (.ref f) = true)
  (hb : ∀ (kV doc pm : Value) (an : Option Addr) (cdv ct : Value) (us : List Value), us.length = ps.length -> bindArgs (PySem.W.fnOf x x (q05 st) (qK st) (qe st) .none kV doc pm an cdv ct) ⟨us, []⟩ = pure (ps.zip us)) : Laid K mg x st ps :=
 ⟨f, _, q2n l c k, PySem.W.mg_of X G a, (q2n l c k).binds hb⟩
end
section
variable {X : Cx} {k k' : Nat} {x : Str} {ps : List Str} {sp : Sp} {p pos : Pos} {e : Expr} {es : List Expr} {t : TA}
theorem qm (c : Cal X.prog X.w X.K X.mg X.base k x ps sp) (hr : Room k' X.A) (hk : k <= k') (hg : Gl X x) (ha : PA X (e :: es) t) (hdb : (x == ("__debug__" : Str)) = false := by decide) (he : starEach (e :: es) X.env = (false, eval e X.env) :: starEach es X.env := by rfl)
  (hpl : (backTo pos (starEach es X.env)).any (·.1) = false := by rfl) : PE X (.Call (.Name x p) (e :: es) [] pos) (q7l sp [] E0 t) := by
 obtain ⟨f, fd, F, m, kp, b⟩ := c.ex
 exact q7O F (hr.mono hk) hg m kp b .nil q5G ha hdb he hpl
end
def tyS (H : Hp) : V -> Option String
 | .non => some "NoneType"
 | .bl _ => some "bool"
 | .int _ => some "int"
 | .str _ => some "str"
 | .ref p => match H p with
  | some (.lst _) => some "list"
  | some (.tup _) => some "tuple"
  | some (.frz _ (.lst _)) => some "list"
  | _ => none
 | _ => none
def subS (a n : String) : Bool := a == n || (a == "bool" && n == "int")
def q87 (n : String) : Bool := n == "bool" || n == "int" || n == "str" || n == "list" || n == "tuple"
theorem qbm (K : PySem.W.Frag) : ∀ a ∈ ["NoneType", "bool", "int", "str", "list", "tuple"], ∀ n ∈ ["bool", "int", "str", "list", "tuple"], PySem.W.kitOne K (.type a) (.type n) = some (subS a n) := by
 intro a ha n hn
 simp only [List.mem_cons, List.not_mem_nil, or_false] at ha hn
 rcases ha with rfl | rfl | rfl | rfl | rfl | rfl <;> rcases hn with rfl | rfl | rfl | rfl | rfl <;> kernel_rfl
theorem tyS_ty {K : PySem.W.Frag} {H : Hp} {x : V} {a : String} (h : tyS H x = some a) : TyOf K H x (.type a) /\ a ∈ ["NoneType", "bool", "int", "str", "list", "tuple"] := by
 unfold tyS at h
 split at h
 ·cases h; exact ⟨.non, by simp⟩
 ·cases h; exact ⟨.bl _, by simp⟩
 ·cases h; exact ⟨.int _, by simp⟩
 ·cases h; exact ⟨.str _, by simp⟩
 ·split at h
  ·rename_i e; cases h; exact ⟨.lst e, by simp⟩
  ·rename_i e; cases h; exact ⟨.tup e, by simp⟩
  ·rename_i e; cases h; exact ⟨.frz e, by simp⟩
  ·cases h
 ·cases h
section
variable {X : Cx}
def q53 : List V -> Hp -> VK -> Prop := fun xs H Q => ∃ x n a, xs = [x, .ty n] /\ tyS H x = some a /\ q87 n = true /\ Q (.bl (subS a n)) H
theorem q0L : q1S X (.builtin "isinstance") q53 := by
 intro pins s σ H xs us Q I r h
 obtain ⟨x, n, a, rfl, ty, kn, q⟩ := h
 obtain ⟨t1, t2⟩ := tyS_ty (K := X.K) ty
 refine q8Q pins s σ H _ us Q I r ⟨x, n, _, _, rfl, t1, qbm X.K a t2 n ?_, q⟩
 unfold q87 at kn
 simp only [Bool.or_eq_true, beq_iff_eq] at kn
 simp only [List.mem_cons, List.not_mem_nil, or_false]
 rcases kn with (((kn | kn) | kn) | kn) | kn <;> simp [kn]
theorem q7e {H : Hp} {p : Addr} {xs : List V} (h : H p = some (.tup xs)) : tyS H (.ref p) = some "tuple" := by simp only [tyS, h]
theorem qay {H : Hp} {p : Addr} {xs : List V} (h : H p = some (.lst xs)) : tyS H (.ref p) = some "list" := by simp only [tyS, h]
end
theorem q02 : bootBuiltins "isinstance" = some (.builtin "isinstance") := by decide +kernel
theorem q0k : bootBuiltins "len" = some (.builtin "len") := by decide +kernel
theorem bt_all : bootBuiltins "all" = some (.builtin "all") := by decide +kernel
theorem q3n : bootBuiltins "sorted" = some (.builtin "sorted") := by decide +kernel
theorem qas : bootBuiltins "int" = some (.type "int") := by decide +kernel
theorem qbF : bootBuiltins "bool" = some (.type "bool") := by decide +kernel
theorem q8T : bootBuiltins "list" = some (.type "list") := by decide +kernel
theorem q0q : bootBuiltins "tuple" = some (.type "tuple") := by decide +kernel
end L2
namespace L2
open PySem PySem.Spec PyProof.Rows
structure VMeth (P : Program) (w : World) (K : PySem.W.Frag) (mg : Str -> Option Value) (base : Heap) (k : Nat) (C : Addr) (m : Str) (ps : List Str) (sp : Sp) : Prop where
 cl : Cls K C
 ex : ∃ f fd, Meth K C m f /\ FnOk P w K mg base CX0 k f fd ps sp /\ q1T K fd ps []
def tVM (P : Program) (w : World) (K : PySem.W.Frag) (mg : Str -> Option Value) (base : Heap) (k : Nat) (m : Str) (ta : TE) (t : TA) : TE := fun σ H Q => ta σ H fun x H1 => ∃ a C dx fs ps sp, x = .ref a /\ H1 a = some (.ins C dx fs) /\ VMeth P w K mg base k C m ps sp /\ fs.lookup m = none /\
 t σ H1 fun vs H2 => sp (x :: vs) H2 Q E0
structure CMeth (K : PySem.W.Frag) (C : Addr) (m : Str) (f : Addr) : Prop where
 rd : PySem.W.readsIn K C (.type "type") = true
 fc : PySem.W.findCls K (.ref C) (.type "type") m = some (.val (.ref f))
 sg : PySem.W.specialIn K (.ref C) "__getattribute__" = some (some (.builtin "type.__getattribute__"))
 kp : PySem.W.keepIn K (.ref f) = true
structure CCal (P : Program) (w : World) (K : PySem.W.Frag) (mg : Str -> Option Value) (base : Heap) (k : Nat) (x m : Str) (ps : List Str) (sp : Sp) : Prop where
 ex : ∃ C f fd, mg x = some (.ref C) /\ CMeth K C m f /\ FnOk P w K mg base CX0 k f fd ps sp /\ q1T K fd ps []
structure Makes (P : Program) (w : World) (K : PySem.W.Frag) (mg : Str -> Option Value) (base : Heap) (k : Nat) (x : Str) (C : Addr) (ps : List Str) (sp : Sp) : Prop where
 ex : ∃ f fd, Mk K C f /\ FnOk P w K mg base CX0 k f fd ps sp /\ q1T K fd ps []
 at_ : mg x = some (.ref C)
section
variable {X : Cx} {k k' : Nat} {C : Addr} {ps : List Str} {sp : Sp} {x m : Str} {p pos apos : Pos} {e o : Expr} {es : List Expr} {ta : TE} {t : TA}
theorem q2x {pl : Sem Bool} (hr : Room k X.A) (he : PE X o ta) (ha : PA X (e :: es) t) (hst : starEach (e :: es) X.env = (false, eval e X.env) :: starEach es X.env := by rfl) (hpl : (backTo pos (starEach es X.env)).any (·.1) = false := by rfl)
  (ht : eval (.Call (.Attribute o m apos) (e :: es) [] pos) X.env = (do
   let ov <- eval o X.env
   standAt apos.atName
   let (f, first) <- holding [ov] (getMethod ov m pl)
   callWith pos f first (backTo pos (starEach (e :: es) X.env)) (backToKw pos (keywordEach [] X.env))) := by rfl) :
  PE X (.Call (.Attribute o m apos) (e :: es) [] pos) (tVM X.prog X.w X.K X.mg X.base k m ta t) := by
 intro pins s σ H Q I h
 refine PySem.W.methodCall_KW (pl := pl) (thn (he pins s σ H _ I h) fun u s1 ⟨x, H1, I1, rx, a, C, dx, fs, ps, sp, ex, ea, vm, l, q⟩ => ?_) ht
 subst ex
 obtain rfl : u = Value.ref a := rx
 obtain ⟨f, fd, hm, F, hb⟩ := vm.ex
 refine q3L I1 ea vm.cl hm l ?_
 refine PySem.W.callWith_K (first := [.ref a]) (h₀ := X.base) I.ok.mod.kin hm.kp (thn (ha pos pins s1 σ H1 _ I1 q) fun us s2 ⟨vs, H2, I2, r, q2⟩ => ⟨I2.kIn, ?_⟩) hst hpl
 exact q6b (us := .ref a :: us) (vs := .ref a :: vs) (ds := []) (dvs := []) F hr hb .nil q5G I2 (.cons rfl r) (by rw [List.append_nil]; exact q2)
theorem pe_vm0 {pl : Sem Bool} (hr : Room k X.A) (he : PE X o ta)
  (ht : eval (.Call (.Attribute o m apos) [] [] pos) X.env = (do
   let ov <- eval o X.env
   standAt apos.atName
   let (f, first) <- holding [ov] (getMethod ov m pl)
   callWith pos f first (backTo pos (starEach [] X.env)) (backToKw pos (keywordEach [] X.env))) := by rfl) :
  PE X (.Call (.Attribute o m apos) [] [] pos) (tVM X.prog X.w X.K X.mg X.base k m ta tNil) := by
 intro pins s σ H Q I h
 refine PySem.W.methodCall_KW (pl := pl) (thn (he pins s σ H _ I h) fun u s1 ⟨x, H1, I1, rx, a, C, dx, fs, ps, sp, ex, ea, vm, l, q⟩ => ?_) ht
 subst ex
 obtain rfl : u = Value.ref a := rx
 obtain ⟨f, fd, hm, F, hb⟩ := vm.ex
 refine q3L I1 ea vm.cl hm l ?_
 exact PySem.W.callWith_K0 (first := [.ref a]) I1.kIn hm.kp (q6b (us := [.ref a]) (vs := [.ref a]) (ds := []) (dvs := []) F hr hb .nil q5G I1 (.cons rfl .nil) q)
theorem q39 {pl : Sem Bool} {op : Pos} (c : CCal X.prog X.w X.K X.mg X.base k x m ps sp) (hr : Room k' X.A) (hk : k <= k') (hg : Gl X x) (ha : PA X (e :: es) t) (hdb : (x == ("__debug__" : Str)) = false := by decide)
  (hst : starEach (e :: es) X.env = (false, eval e X.env) :: starEach es X.env := by rfl) (hpl : (backTo pos (starEach es X.env)).any (·.1) = false := by rfl)
  (ht : eval (.Call (.Attribute (.Name x op) m apos) (e :: es) [] pos) X.env = (do
   let ov <- eval (.Name x op) X.env
   standAt apos.atName
   let (f, first) <- holding [ov] (getMethod ov m pl)
   callWith pos f first (backTo pos (starEach (e :: es) X.env)) (backToKw pos (keywordEach [] X.env))) := by rfl) :
  PE X (.Call (.Attribute (.Name x op) m apos) (e :: es) [] pos) (q7l sp [] E0 t) := by
 intro pins s σ H Q I h
 obtain ⟨C, f, fd, hm, cm, F, hb⟩ := c.ex
 refine PySem.W.methodCall_KW (pl := pl) (q3e I hg hm ?_ hdb) ht
 refine PySem.W.method_cls I.kIn cm.sg (PySem.W.cls_value I.kIn cm.rd cm.fc rfl ?_)
 have I1 := I.tok (s.toks + 1)
 refine PySem.W.callWith_K (first := []) (h₀ := X.base) I.ok.mod.kin cm.kp (thn (ha pos pins _ σ H _ I1 h) fun us s2 ⟨vs, H2, I2, r, q2⟩ => ⟨I2.kIn, ?_⟩) hst hpl
 exact q6b F (hr.mono hk) hb .nil q5G I2 r q2
theorem q0J (c : Makes X.prog X.w X.K X.mg X.base k x C ps sp) (hr : Room k' X.A) (hk : k + 1 <= k') (hg : Gl X x) (ha : PA X (e :: es) t) (hdb : (x == ("__debug__" : Str)) = false := by decide) (he : starEach (e :: es) X.env = (false, eval e X.env) :: starEach es X.env := by rfl)
  (hpl : (backTo pos (starEach es X.env)).any (·.1) = false := by rfl) : PE X (.Call (.Name x p) (e :: es) [] pos) (q7j C sp [] E0 t) := by
 obtain ⟨f, fd, M, F, b⟩ := c.ex
 exact qaU M F (hr.mono hk) hg c.at_ b .nil q5G ha hdb he hpl
theorem qaV (c : Makes X.prog X.w X.K X.mg X.base k x C ps sp) (hr : Room k' X.A) (hk : k + 1 <= k') (hg : Gl X x) (hdb : (x == ("__debug__" : Str)) = false := by decide) : PE X (.Call (.Name x p) [] [] pos) (q7j C sp [] E0 tNil) := by
 obtain ⟨f, fd, M, F, b⟩ := c.ex
 exact q9m M F (hr.mono hk) hg c.at_ b .nil q5G hdb
def eqVs (xs ys : List V) : Bool := xs.length == ys.length && (List.zipWith eqV xs ys).all id
theorem q4p (xs ys : List V) : ((List.range (min xs.length ys.length)).all fun j => eqV (xs.getD j .non) (ys.getD j .non)) = (List.zipWith eqV xs ys).all id := by
 rw [Bool.eq_iff_iff]
 simp only [List.all_eq_true, List.mem_range, id]
 constructor
 ·intro h b hb
  obtain ⟨i, hi, rfl⟩ := List.mem_iff_getElem.mp hb
  rw [List.length_zipWith] at hi
  have := h i hi
  simpa [List.getD, show i < xs.length by omega, show i < ys.length by omega] using this
 ·intro h i hi
  have := h _ (List.mem_iff_getElem.mpr ⟨i, by rw [List.length_zipWith]; exact hi, rfl⟩)
  simpa [List.getD, show i < xs.length by omega, show i < ys.length by omega] using this
theorem q0v {xs : List V} {us : List Value} (r : Vals xs us) {j : Nat} (h : j < us.toArray.size) : RelV (xs.getD j .non) us.toArray[j] := by
 have hj : j < us.length := by simpa using h
 have hx : j < xs.length := by rw [r.length]; exact hj
 obtain ⟨u, hu, ru⟩ := r.get (i := j) (x := xs[j]) (by simp [hx])
 have e1 : us.toArray[j] = u := by
  have : us[j]? = some us[j] := by simp [hj]
  rw [this] at hu
  simpa using Option.some.inj hu
 rw [e1]
 simpa [List.getD, hx] using ru
theorem q8t {xs : List V} (h : xs.all q3i = true) (j : Nat) : q3i (xs.getD j .non) = true := by
 by_cases hj : j < xs.length
 ·rw [List.all_eq_true] at h
  have := h xs[j] (List.getElem_mem hj)
  simpa [List.getD, hj] using this
 ·simp [List.getD, show xs.length <= j by omega, q3i]
end
section
variable {X : Cx} {e o : Expr} {es : List Expr} {ta : TE} {t : TA} {pos apos : Pos} {m f : Str}
theorem qS (K : PySem.W.Frag) (h : X.K = K := by rfl) : IxR X (rIxL K) := by subst h; exact qbn
theorem qi (K : PySem.W.Frag) (h : X.K = K := by rfl) : IxR X (rIxT K) := by subst h; exact ix_tup
theorem q3Z (K : PySem.W.Frag) (h : X.K = K := by rfl) : SlR X (rSlTA K) := by subst h; exact qaH
theorem q1E {k : Nat} {g : TGs} {n : Nat} (K : PySem.W.Frag) (hc : X.calm = true) (h : PGs X es g) (hK : X.K = K := by rfl) (hn : (assignEach es X.env).length = n := by rfl) (hst : (assignEach es X.env).findIdx? (·.1) = none := by rfl) : PG X (.Tuple es k pos) (gTup K n g) := by
 subst hK
 exact pg_tup hc h hn hst
theorem q0a (K : PySem.W.Frag) (he : PE X e ta) (hb : attributeBase e f X.env (eval e X.env) = eval e X.env) (hK : X.K = K := by rfl) : PE X (.Attribute e f pos) (tFld K ta f) := by
 subst hK
 exact pe_fld he hb
end
end L2
namespace L2
open PySem PySem.Spec PyProof.Rows
section
variable {X : Cx} {pos : Pos}
theorem q9P : PGet X (rIxL X.K) := by
 intro pins s σ H o i ov iv Q I ro ri h
 obtain ⟨p, xs, i, z, rfl, rfl, hq, he, q⟩ := h
 cases ro
 obtain ⟨t, rfl⟩ := ri
 obtain ⟨its, r, pl, hz⟩ := I.list hq
 obtain ⟨j, h1, h2, h3, h4, h5⟩ := q61 he
 obtain ⟨w, ew, rw'⟩ := r.get h2
 have hl := r.length
 have hn := q5c
 have fin : EP X pins σ Q w s := ⟨z, H, I, rw', q⟩
 by_cases h0 : 0 <= i
 ·have hj : i.toNat = j := by
   rw [seqIndex_of h0 h5] at h1
   exact Option.some.inj h1
  exact wpAny_getItem_list pl.isList h0 (by omega) (by rw [hj]; simpa using ew) fin
 ·have hj : (i + (its.toArray.size : Int)).toNat = j := by
   rw [seqIndex_neg (by omega) h4] at h1
   rw [List.size_toArray, <- hl]
   exact Option.some.inj h1
  exact wpAny_getItem_list_neg pl.isList (by omega) (by rw [List.size_toArray] <;> omega) (by omega) (by rw [hj]; simpa using ew) fin
end
def rLen (K : PySem.W.Frag) : List V -> Hp -> VK -> Prop := fun xs H Q => ∃ p ys, xs = [.ref p] /\ (SqL K H p ys \/ SqT K H p ys) /\ Q (.int ys.length) H
def q7E (K : PySem.W.Frag) : List V -> Hp -> VK -> Prop := fun xs H Q => ∃ p ys, xs = [.ref p] /\ ((SqL K H p ys /\ ∀ l, H l = none -> Q (.ref l) (upd H l (.tup ys))) \/ (SqT K H p ys /\ Q (.ref p) H))
def rLstOf (K : PySem.W.Frag) : List V -> Hp -> VK -> Prop := fun xs H Q => ∃ p ys, xs = [.ref p] /\ (SqL K H p ys \/ SqT K H p ys) /\ ∀ l, H l = none -> Q (.ref l) (upd H l (.lst ys))
def rInt1 : List V -> Hp -> VK -> Prop := fun xs H Q => (∃ i, xs = [.int i] /\ Q (.int i) H) \/ ∃ k, xs = [.bl k] /\ Q (.int (if k then 1 else 0)) H
section
variable {X : Cx}
theorem lenK (K : PySem.W.Frag) (h : X.K = K := by rfl) : q1S X (.builtin "len") (rLen K) := by subst h; exact q5o
theorem q3D (K : PySem.W.Frag) (h : X.K = K := by rfl) : q1S X (.type "tuple") (q7E K) := by subst h; exact q4o
theorem lstOfK (K : PySem.W.Frag) (h : X.K = K := by rfl) : q1S X (.type "list") (rLstOf K) := by subst h; exact q5n
theorem int1 : q1S X (.type "int") rInt1 := q8R
end
section
variable {σ : St} {H : Hp} {Q : VK} {B : Bool -> Hp -> Prop} {L : List V -> Hp -> Prop} {ta tb : TE} {t : TA} {c d : TT} {nx bk ct : St -> Hp -> Prop} {rt : VK} {g : TG} {K : PySem.W.Frag}
theorem r_var {i : Nat} {v : V} (h : σ[i]? = some (some v)) (q : Q v H) : tVar i σ H Q := ⟨v, h, q⟩
theorem r_c {v : V} (q : Q v H) : tC v σ H Q := q
theorem r_op {r : R2} (q : ta σ H fun x H1 => tb σ H1 fun y H2 => r x y H2 Q) : tOp r ta tb σ H Q := q
theorem r_un {r : V -> Hp -> VK -> Prop} (q : ta σ H fun x H1 => r x H1 Q) : tUn r ta σ H Q := q
theorem r_I0 {f : Int -> Int -> V} {i j : Int} (q : Q (f i j) H) : rI0 f (.int i) (.int j) H Q := ⟨i, j, rfl, rfl, q⟩
theorem r_I {C : Int -> Int -> Prop} {f : Int -> Int -> V} {i j : Int} (h : C i j) (q : Q (f i j) H) : rI C f (.int i) (.int j) H Q := ⟨i, j, rfl, rfl, h, q⟩
theorem r_U {f : Int -> V} {i : Int} (q : Q (f i) H) : rU f (.int i) H Q := ⟨i, rfl, q⟩
theorem r_isN (q : ta σ H fun x H1 => Q (.bl (decide (x = .non))) H1) : tIsN ta σ H Q := q
theorem r_B (q : ta σ H fun x H1 => ∃ k, x = .bl k /\ B k H1) : tB ta σ H B := q
theorem r_test (q : ta σ H fun x H1 => ∃ k, x = .bl k /\ B k H1) : tTest ta σ H B := q
theorem r_bl {b : Bool} {P : Bool -> Prop} (q : P b) : ∃ k, V.bl b = V.bl k /\ P k := ⟨b, rfl, q⟩
theorem r_and (q : c σ H fun k H1 => if k = true then d σ H1 B else B false H1) : tAnd c d σ H B := q
theorem r_or (q : c σ H fun k H1 => if k = true then B true H1 else d σ H1 B) : tOr c d σ H B := q
theorem r_not (q : c σ H fun k H1 => B (!k) H1) : tNot c σ H B := q
theorem r_andV (q : ta σ H fun x H1 => ∃ k, x = .bl k /\ if k = true then tb σ H1 Q else Q (.bl false) H1) : tAndV ta tb σ H Q := q
theorem r_orV (q : ta σ H fun x H1 => ∃ k, x = .bl k /\ if k = true then Q (.bl true) H1 else tb σ H1 Q) : tOrV ta tb σ H Q := q
theorem r_notV (q : ta σ H fun x H1 => ∃ k, x = .bl k /\ Q (.bl (!k)) H1) : tNotV ta σ H Q := q
theorem r_if (q : c σ H fun k H1 => if k = true then ta σ H1 Q else tb σ H1 Q) : tIf c ta tb σ H Q := q
theorem r_cons (q : ta σ H fun x H1 => t σ H1 fun xs H2 => L (x :: xs) H2) : tCons ta t σ H L := q
theorem r_nil (q : L [] H) : tNil σ H L := q
theorem r_tup (q : t σ H fun xs H1 => xs.length <= sizeLine /\ ∀ p, H1 p = none -> Q (.ref p) (upd H1 p (.tup xs))) : tTup t σ H Q := q
theorem r_lst (q : t σ H fun xs H1 => xs.length <= sizeLine /\ ∀ p, H1 p = none -> Q (.ref p) (upd H1 p (.lst xs))) : tLst t σ H Q := q
theorem r_al {n : Nat} {P : Prop} (h : Nat.ble n sizeLine = true) (q : P) : n <= sizeLine /\ P := ⟨Nat.le_of_ble_eq_true h, q⟩
theorem r_call {sp : Sp} {E : XK} (q : t σ H fun vs H1 => sp (vs ++ []) H1 Q E) : q7l sp [] E t σ H Q := q
theorem r_cb {r : List V -> Hp -> VK -> Prop} (q : t σ H fun vs H1 => r vs H1 Q) : tCB r t σ H Q := q
theorem r_bm {T : String} {r : V -> List V -> Hp -> VK -> Prop} (q : ta σ H fun x H1 => tyV K T x H1 /\ t σ H1 fun xs H2 => r x xs H2 Q) : tBM K T r ta t σ H Q := q
theorem r_sl {r : V -> Option Int -> Option Int -> Hp -> VK -> Prop} {tl th : TO} (q : ta σ H fun x H1 => tl σ H1 fun l H2 => th σ H2 fun u H3 => r x l u H3 Q) : tSl r ta tl th σ H Q := q
theorem r_np {P : Option Int -> Hp -> Prop} (q : P none H) : q7i σ H P := q
theorem r_pt {P : Option Int -> Hp -> Prop} (q : ta σ H fun x H1 => ∃ i, x = .int i /\ P (some i) H1) : tPart ta σ H P := q
theorem r_int {i : Int} {P : Int -> Prop} (q : P i) : ∃ k, V.int i = V.int k /\ P k := ⟨i, rfl, q⟩
theorem r_eqI {i j : Int} (q : Q (.bl (decide (i = j))) H) : rEq (.int i) (.int j) H Q := ⟨rfl, by rw [show decide (V.int i = V.int j) = decide (i = j) by simp]; exact q⟩
theorem r_eqS {i j : Str} (q : Q (.bl (decide (i = j))) H) : rEq (.str i) (.str j) H Q := ⟨rfl, by rw [show decide (V.str i = V.str j) = decide (i = j) by simp]; exact q⟩
theorem r_neI {i j : Int} (q : Q (.bl (!decide (i = j))) H) : rNe (.int i) (.int j) H Q := ⟨rfl, by rw [show decide (V.int i = V.int j) = decide (i = j) by simp]; exact q⟩
theorem r_neS {i j : Str} (q : Q (.bl (!decide (i = j))) H) : rNe (.str i) (.str j) H Q := ⟨rfl, by rw [show decide (V.str i = V.str j) = decide (i = j) by simp]; exact q⟩
theorem q2M {p : Addr} {xs : List V} {i : Int} {v : V} (h : SqT K H p xs) (e : atI xs i = some v) (q : Q v H) : rIxT K (.ref p) (.int i) H Q := ⟨p, xs, i, v, rfl, rfl, h, e, q⟩
theorem q47 {p : Addr} {xs : List V} {i : Int} {v : V} (h : SqL K H p xs) (e : atI xs i = some v) (q : Q v H) : rIxL K (.ref p) (.int i) H Q := ⟨p, xs, i, v, rfl, rfl, h, e, q⟩
theorem r_lenT {p : Addr} {xs : List V} (h : SqT K H p xs) (q : Q (.int xs.length) H) : rLen K [.ref p] H Q := ⟨p, xs, rfl, .inr h, q⟩
theorem r_lenL {p : Addr} {xs : List V} (h : SqL K H p xs) (q : Q (.int xs.length) H) : rLen K [.ref p] H Q := ⟨p, xs, rfl, .inl h, q⟩
theorem atI0 {v : V} {l : List V} : atI (v :: l) 0 = some v := q0x (j := 0) rfl
theorem qbH {xs : List V} {j : Nat} {v : V} (h : xs[j]? = some v) : atI xs (0 + (j : Int)) = some v := by rw [Int.zero_add]; exact q0x h
theorem q7h {α β : Type} (f : α -> β) (xs : List α) {i : Nat} (hi : i < xs.length) : (xs.take i).map f ++ [f xs[i]] = (xs.take (i + 1)).map f := by rw [List.take_succ_eq_append_getElem hi, List.map_append]; rfl
theorem q6S {x : V} {n a : String} {b : Bool} (h : tyS H x = some a) (k : q87 n = true) (e : subS a n = b) (q : Q (.bl b) H) : q53 [x, .ty n] H Q := ⟨x, n, a, rfl, h, k, by rw [e]; exact q⟩
theorem q9g {i : Int} (q : Q (.bl false) H) : q53 [.int i, .ty "bool"] H Q := q6S rfl (by decide +kernel) (by decide +kernel) q
theorem q9f {i : Int} (q : Q (.bl true) H) : q53 [.int i, .ty "int"] H Q := q6S rfl (by decide +kernel) (by decide +kernel) q
theorem q9c {i : Str} (q : Q (.bl false) H) : q53 [.str i, .ty "tuple"] H Q := q6S rfl (by decide +kernel) (by decide +kernel) q
theorem q9d (q : Q (.bl false) H) : q53 [.non, .ty "list"] H Q := q6S rfl (by decide +kernel) (by decide +kernel) q
theorem q9b {p : Addr} {xs : List V} (h : H p = some (.tup xs)) (q : Q (.bl true) H) : q53 [.ref p, .ty "tuple"] H Q := q6S (q7e h) (by decide +kernel) (by decide +kernel) q
theorem q9e {p : Addr} {xs : List V} (h : H p = some (.lst xs)) (q : Q (.bl true) H) : q53 [.ref p, .ty "list"] H Q := q6S (qay h) (by decide +kernel) (by decide +kernel) q
theorem r_seq {t u : TS} (q : t ⟨u ⟨nx, rt, bk, ct⟩, rt, bk, ct⟩ σ H) : tSeq t u ⟨nx, rt, bk, ct⟩ σ H := q
theorem r_asg (q : ta σ H fun x H1 => g x σ H1 nx) : tAsg ta g ⟨nx, rt, bk, ct⟩ σ H := q
theorem r_name {i : Nat} {v : V} {N : St -> Hp -> Prop} (q : N (σ.set i (some v)) H) : q9Q i v σ H N := q
theorem r_ifS {t u : TS} {D : Ends} (q : c σ H fun k H1 => if k = true then t D σ H1 else u D σ H1) : tIfS c t u D σ H := q
theorem r_ret (q : ta σ H rt) : tRet ta ⟨nx, rt, bk, ct⟩ σ H := q
theorem r_next (q : nx σ H) : tNext ⟨nx, rt, bk, ct⟩ σ H := q
theorem r_drop (q : ta σ H fun _ H1 => nx σ H1) : tDrop ta ⟨nx, rt, bk, ct⟩ σ H := q
theorem r_augS {to ti te : TE} {tget : V -> V -> Hp -> VK -> Prop} {tip : TIp} {tset : TSet} (q : to σ H fun o H1 => ti σ H1 fun i H2 => tget o i H2 fun x H3 => te σ H3 fun y H4 => tip x y H4 fun z H5 => tset o i z H5 fun H6 => nx σ H6) : tAugS to ti te tget tip tset ⟨nx, rt, bk, ct⟩ σ H := q
theorem r_ipI {f : Int -> Int -> Int} {i j : Int} (q : Q (.int (f i j)) H) : ipI f (.int i) (.int j) H Q := ⟨i, j, rfl, rfl, q⟩
theorem qac {p : Addr} {xs : List V} {k : Int} {j : Nat} {v : V} {R : Hp -> Prop} (h : H p = some (.lst xs)) (e : ixN xs.length k = some j) (q : R (upd H p (.lst (xs.set j v)))) : rSetL (.ref p) (.int k) v H R := ⟨p, xs, k, j, rfl, rfl, h, e, q⟩
theorem r_gT {n : Nat} {gs : TGs} {p : Addr} {xs : List V} {N : St -> Hp -> Prop} (h : SqT K H p xs) (e : xs.length = n) (q : gs xs σ H N) : gTup K n gs (.ref p) σ H N := ⟨p, xs, rfl, h, e, q⟩
theorem r_gc {gs : TGs} {v : V} {vs : List V} {N : St -> Hp -> Prop} (q : g v σ H fun σ' H' => gs vs σ' H' N) : gCons g gs (v :: vs) σ H N := ⟨v, vs, rfl, q⟩
theorem r_gn {N : St -> Hp -> Prop} (q : N σ H) : gNil [] σ H N := ⟨rfl, q⟩
theorem qaQ {p : Addr} {xs : List V} {y : V} (h : H p = some (.lst xs)) (hz : xs.length < sizeLine) (q : Q .non (upd H p (.lst (xs ++ [y])))) : q7F (.ref p) [y] H Q := ⟨p, xs, y, rfl, rfl, h, hz, q⟩
theorem r_tyL {p : Addr} {xs : List V} {P : Prop} (h : H p = some (.lst xs)) (q : P) : tyV K "list" (.ref p) H /\ P := ⟨.inl ⟨rfl, _, SqL.of h⟩, q⟩
theorem ifd {p : Prop} [Decidable p] {A B : Prop} (h1 : p -> A) (h2 : ¬ p -> B) : if decide p = true then A else B := by
 by_cases h : p
 ·rw [if_pos (decide_eq_true h)]; exact h1 h
 ·rw [if_neg (by simp [h])]; exact h2 h
theorem ifn {p : Prop} [Decidable p] {A B : Prop} (h1 : ¬ p -> A) (h2 : p -> B) : if (!decide p) = true then A else B := by
 by_cases h : p
 ·rw [if_neg (by simp [h])]; exact h2 h
 ·rw [if_pos (by simp [h])]; exact h1 h
theorem r_intb {x : Bool} (q : Q (.int (if x then 1 else 0)) H) : rInt1 [.bl x] H Q := .inr ⟨x, rfl, q⟩
theorem r_tol {p : Addr} {ys : List V} (h : SqL K H p ys) (q : ∀ l, H l = none -> Q (.ref l) (upd H l (.tup ys))) : q7E K [.ref p] H Q := ⟨p, ys, rfl, .inl ⟨h, q⟩⟩
theorem r_tot {p : Addr} {ys : List V} (h : SqT K H p ys) (q : Q (.ref p) H) : q7E K [.ref p] H Q := ⟨p, ys, rfl, .inr ⟨h, q⟩⟩
theorem ifnT {A B : Prop} (h : B) : if (!true) = true then A else B := iteF h
theorem ifnF {A B : Prop} (h : A) : if (!false) = true then A else B := iteT h
theorem q0c {a b : Addr} {o u : HO} (h : H b = some u) (n : H a = none) : upd H a o b = some u := by rw [ql (qk h n)]; exact h
theorem up_oth {a b : Addr} {o u : HO} (h : H b = some u) (n : b ≠ a) : upd H a o b = some u := by rw [ql n]; exact h
end
section
variable {σ : St} {H : Hp} {g : TG} {tb : TS} {nx bk ct : St -> Hp -> Prop} {rt : VK} {t : TA} {wi : TI}
theorem r_for (q : wi σ H fun J H1 => ∃ W : Nat -> Nat -> St -> Hp -> Prop, (∃ m, W 0 m σ H1) /\ ∀ i m σ H, W i m σ H ->
  (J.stop i H /\ nx σ H) \/ (J.go i H /\ ∃ N : St -> Hp -> Prop, (∀ σ' H', N σ' H' -> ∃ m', m' < m /\ W (i + 1) m' σ' H') /\ ∀ x H', J.yld i H x H' -> g x σ H' fun σ2 H2 => tb ⟨N, rt, nx, N⟩ σ2 H2)) : tFor wi g tb ⟨nx, rt, bk, ct⟩ σ H := q
def rRg (R : It -> Hp -> Prop) : List V -> Hp -> Prop := fun vs H1 => ∃ j : Int, vs = [.int j] /\ -(2 ^ 62) <= j /\ j < 2 ^ 62 /\ R (Itr 0 j.toNat) H1
theorem r_rng1 {R : It -> Hp -> Prop} (q : t σ H (rRg R)) : iRng1 t σ H R := q
theorem r_comp {tc : TT} {te : TE} {own : Nat} {caps : List Nat} {Q : VK} (q : wi σ H fun J H1 => ∀ D, H1 D = none -> ∃ W : Nat -> Nat -> St -> Hp -> Prop, (∃ m, W 0 m (q2K own caps σ) (upd H1 D (.lst []))) /\ ∀ i m σ' H', W i m σ' H' ->
  (J.stop i H' /\ Q (.ref D) H') \/ (J.go i H' /\ ∃ N : St -> Hp -> Prop, (∀ σ'' H'', N σ'' H'' -> ∃ m', m' < m /\ W (i + 1) m' σ'' H'') /\ ∀ x H2, J.yld i H' x H2 -> g x σ' H2 fun σ3 H3 => tc σ3 H3 fun b H4 =>
   if b = true then te σ3 H4 fun y H5 => ∃ ys, H5 D = some (.lst ys) /\ ys.length < sizeLine /\ N σ3 (upd H5 D (.lst (ys ++ [y]))) else N σ3 H4)) : q8Z wi g tc te own caps σ H Q := q
theorem r_yes {B : Bool -> Hp -> Prop} (q : B true H) : tYes σ H B := q
theorem r_iL {K : PySem.W.Frag} {tl : TE} {R : It -> Hp -> Prop} (q : tl σ H fun x H1 => ∃ a, x = .ref a /\ (∃ xs, SqL K H1 a xs) /\ R (Itl K a) H1) : qbp K tl σ H R := q
theorem r_iT {K : PySem.W.Frag} {tl : TE} {R : It -> Hp -> Prop} (q : tl σ H fun x H1 => ∃ a, x = .ref a /\ (∃ xs, SqT K H1 a xs) /\ R (Itt K a) H1) : iTup K tl σ H R := q
theorem r_eL {K : PySem.W.Frag} {R : It -> Hp -> Prop} (q : t σ H fun vs H1 => ∃ a, vs = [.ref a] /\ (∃ xs, SqL K H1 a xs) /\ R (Ite fun H xs => SqL K H a xs) H1) : q8h K t σ H R := q
theorem r_eT {K : PySem.W.Frag} {R : It -> Hp -> Prop} (q : t σ H fun vs H1 => ∃ a, vs = [.ref a] /\ (∃ xs, SqT K H1 a xs) /\ R (Ite fun H xs => SqT K H a xs) H1) : q8g K t σ H R := q
theorem r_refL {K : PySem.W.Frag} {p : Addr} {xs : List V} {R : Addr -> Prop} (h : SqL K H p xs) (q : R p) : ∃ a, V.ref p = .ref a /\ (∃ xs, SqL K H a xs) /\ R a := ⟨p, rfl, ⟨xs, h⟩, q⟩
theorem r_refT {K : PySem.W.Frag} {p : Addr} {xs : List V} {R : Addr -> Prop} (h : SqT K H p xs) (q : R p) : ∃ a, V.ref p = .ref a /\ (∃ xs, SqT K H a xs) /\ R a := ⟨p, rfl, ⟨xs, h⟩, q⟩
theorem qaM {K : PySem.W.Frag} {p : Addr} {xs : List V} {R : Addr -> Prop} (h : SqL K H p xs) (q : R p) : ∃ a, [V.ref p] = [.ref a] /\ (∃ xs, SqL K H a xs) /\ R a := ⟨p, rfl, ⟨xs, h⟩, q⟩
theorem qaL {K : PySem.W.Frag} {p : Addr} {xs : List V} {R : Addr -> Prop} (h : SqT K H p xs) (q : R p) : ∃ a, [V.ref p] = [.ref a] /\ (∃ xs, SqT K H a xs) /\ R a := ⟨p, rfl, ⟨xs, h⟩, q⟩
theorem r_rg {j : Int} {R : It -> Hp -> Prop} (h : -1000000 <= j /\ j <= 1000000) (q : R (Itr 0 j.toNat) H) : rRg R [.int j] H := ⟨j, rfl, by omega, by omega, q⟩
end
section
variable {J : It} {g : TG} {tb : TS} {nx : St -> Hp -> Prop} {rt : VK} {σ : St} {H : Hp} {K : PySem.W.Frag} {a : Addr} {xs : List V} {tc : TT} {te : TE} {R : Hp -> Prop} {D : Addr}
abbrev ForG (J : It) (g : TG) (tb : TS) (nx : St -> Hp -> Prop) (rt : VK) (σ : St) (H : Hp) : Prop := ∃ W : Nat -> Nat -> St -> Hp -> Prop, (∃ m, W 0 m σ H) /\ ∀ i m σ H, W i m σ H ->
  (J.stop i H /\ nx σ H) \/ (J.go i H /\ ∃ N : St -> Hp -> Prop, (∀ σ' H', N σ' H' -> ∃ m', m' < m /\ W (i + 1) m' σ' H') /\ ∀ x H', J.yld i H x H' -> g x σ H' fun σ2 H2 => tb ⟨N, rt, nx, N⟩ σ2 H2)
theorem q2C (n : Nat) (Pv : Nat -> St -> Hp -> Prop) (h0 : Pv 0 σ H)
  (go : ∀ i σ H, i < n -> Pv i σ H -> J.go i H /\ ∀ x H', J.yld i H x H' -> g x σ H' fun σ2 H2 => tb ⟨Pv (i + 1), rt, nx, Pv (i + 1)⟩ σ2 H2) (stop : ∀ σ H, Pv n σ H -> J.stop n H /\ nx σ H) : ForG J g tb nx rt σ H := by
 refine ⟨fun i m σ H => m = n - i /\ i <= n /\ Pv i σ H, ⟨n, by simp, Nat.zero_le _, h0⟩, ?_⟩
 rintro i m σ H ⟨rfl, hi, p⟩
 by_cases hlt : i < n
 ·obtain ⟨q1, q2⟩ := go i σ H hlt p
  exact .inr ⟨q1, Pv (i + 1), fun σ' H' p' => ⟨n - (i + 1), by omega, rfl, hlt, p'⟩, q2⟩
 ·have e : i = n := by omega
  subst e
  exact .inl (stop σ H p)
theorem q8r {lo : Int} {n : Nat} (Pv : Nat -> St -> Hp -> Prop) (h0 : Pv 0 σ H) (go : ∀ i σ H, i < n -> Pv i σ H -> g (.int (lo + (i : Nat))) σ H fun σ2 H2 => tb ⟨Pv (i + 1), rt, nx, Pv (i + 1)⟩ σ2 H2) (stop : ∀ σ H, Pv n σ H -> nx σ H) : ForG (Itr lo n) g tb nx rt σ H :=
 q2C n Pv h0 (fun i σ H hi p => ⟨hi, fun x H' ⟨e1, e2⟩ => by subst e1 e2; exact go i σ _ hi p⟩) fun σ H p => ⟨Nat.le_refl _, stop σ H p⟩
theorem q1t (xs : List V) (Pv : Nat -> St -> Hp -> Prop) (h0 : Pv 0 σ H) (hl : ∀ i σ H, Pv i σ H -> SqL K H a xs) (go : ∀ i x σ H, xs[i]? = some x -> Pv i σ H -> g x σ H fun σ2 H2 => tb ⟨Pv (i + 1), rt, nx, Pv (i + 1)⟩ σ2 H2) (stop : ∀ σ H, Pv xs.length σ H -> nx σ H) : ForG (Itl K a) g tb nx rt σ H :=
 q2C xs.length Pv h0 (fun i σ H hi p => ⟨⟨xs, xs[i], hl i σ H p, by simp [hi]⟩, fun x H' ⟨e1, e2⟩ => by subst e1; exact go i x σ _ (e2 xs (hl i σ _ p)) p⟩) fun σ H p => ⟨⟨xs, hl _ σ H p, Nat.le_refl _⟩, stop σ H p⟩
theorem q8q (xs : List V) (Pv : Nat -> St -> Hp -> Prop) (h0 : Pv 0 σ H) (hl : ∀ i σ H, Pv i σ H -> SqT K H a xs) (go : ∀ i x σ H, xs[i]? = some x -> Pv i σ H -> g x σ H fun σ2 H2 => tb ⟨Pv (i + 1), rt, nx, Pv (i + 1)⟩ σ2 H2) (stop : ∀ σ H, Pv xs.length σ H -> nx σ H) : ForG (Itt K a) g tb nx rt σ H :=
 q2C xs.length Pv h0 (fun i σ H hi p => ⟨⟨xs, xs[i], hl i σ H p, by simp [hi]⟩, fun x H' ⟨e1, e2⟩ => by subst e1; exact go i x σ _ (e2 xs (hl i σ _ p)) p⟩) fun σ H p => ⟨⟨xs, hl _ σ H p, Nat.le_refl _⟩, stop σ H p⟩
theorem q8s {Sq : Hp -> List V -> Prop} (xs : List V) (Pv : Nat -> St -> Hp -> Prop) (h0 : Pv 0 σ H) (hl : ∀ i σ H, Pv i σ H -> Sq H xs) (go : ∀ i x σ H T, xs[i]? = some x -> Pv i σ H -> H T = none -> g (.ref T) σ (upd H T (.tup [.int (i : Nat), x])) fun σ2 H2 => tb ⟨Pv (i + 1), rt, nx, Pv (i + 1)⟩ σ2 H2)
  (stop : ∀ σ H, Pv xs.length σ H -> nx σ H) : ForG (Ite Sq) g tb nx rt σ H :=
 q2C xs.length Pv h0 (fun i σ H hi p => ⟨⟨xs, xs[i], hl i σ H p, by simp [hi]⟩, fun x H' ⟨T, hT, e1, e2⟩ => by
  have hx : xs[i]? = some xs[i] := by simp [hi]
  have e3 := e2 xs xs[i] (hl i σ _ p) hx
  subst e1 e3
  exact go i _ σ _ T hx p hT⟩) fun σ H p => ⟨⟨xs, hl _ σ H p, Nat.le_refl _⟩, stop σ H p⟩
abbrev qa5 (J : It) (g : TG) (tc : TT) (te : TE) (R : Hp -> Prop) (D : Addr) (σ : St) (H : Hp) : Prop := ∃ W : Nat -> Nat -> St -> Hp -> Prop, (∃ m, W 0 m σ H) /\ ∀ i m σ H, W i m σ H ->
   (J.stop i H /\ R H) \/ (J.go i H /\ ∃ N : St -> Hp -> Prop, (∀ σ' H', N σ' H' -> ∃ m', m' < m /\ W (i + 1) m' σ' H') /\ ∀ x H', J.yld i H x H' -> g x σ H' fun σ3 H3 => tc σ3 H3 fun b H4 =>
    if b = true then te σ3 H4 fun y H5 => ∃ ys, H5 D = some (.lst ys) /\ ys.length < sizeLine /\ N σ3 (upd H5 D (.lst (ys ++ [y]))) else N σ3 H4)
theorem q0G {lo : Int} {n : Nat} (Pv : Nat -> St -> Hp -> Prop) (h0 : Pv 0 σ H) (go : ∀ i σ H, i < n -> Pv i σ H -> g (.int (lo + (i : Nat))) σ H fun σ3 H3 => tc σ3 H3 fun b H4 =>
   if b = true then te σ3 H4 fun y H5 => ∃ ys, H5 D = some (.lst ys) /\ ys.length < sizeLine /\ Pv (i + 1) σ3 (upd H5 D (.lst (ys ++ [y]))) else Pv (i + 1) σ3 H4) (stop : ∀ σ H, Pv n σ H -> R H) : qa5 (Itr lo n) g tc te R D σ H :=
 q3k n Pv h0 (fun i σ H hi p => ⟨hi, fun x H' ⟨e1, e2⟩ => by subst e1 e2; exact go i σ _ hi p⟩) fun σ H p => ⟨Nat.le_refl _, stop σ H p⟩
theorem q2p (xs : List V) (Pv : Nat -> St -> Hp -> Prop) (h0 : Pv 0 σ H) (hl : ∀ i σ H, Pv i σ H -> SqL K H a xs) (go : ∀ i x σ H, xs[i]? = some x -> Pv i σ H -> g x σ H fun σ3 H3 => tc σ3 H3 fun b H4 =>
   if b = true then te σ3 H4 fun y H5 => ∃ ys, H5 D = some (.lst ys) /\ ys.length < sizeLine /\ Pv (i + 1) σ3 (upd H5 D (.lst (ys ++ [y]))) else Pv (i + 1) σ3 H4) (stop : ∀ σ H, Pv xs.length σ H -> R H) : qa5 (Itl K a) g tc te R D σ H :=
 q3k xs.length Pv h0 (fun i σ H hi p => ⟨⟨xs, xs[i], hl i σ H p, by simp [hi]⟩, fun x H' ⟨e1, e2⟩ => by subst e1; exact go i x σ _ (e2 xs (hl i σ _ p)) p⟩) fun σ H p => ⟨⟨xs, hl _ σ H p, Nat.le_refl _⟩, stop σ H p⟩
theorem q6w (xs : List V) (Pv : Nat -> St -> Hp -> Prop) (h0 : Pv 0 σ H) (hl : ∀ i σ H, Pv i σ H -> SqT K H a xs) (go : ∀ i x σ H, xs[i]? = some x -> Pv i σ H -> g x σ H fun σ3 H3 => tc σ3 H3 fun b H4 =>
   if b = true then te σ3 H4 fun y H5 => ∃ ys, H5 D = some (.lst ys) /\ ys.length < sizeLine /\ Pv (i + 1) σ3 (upd H5 D (.lst (ys ++ [y]))) else Pv (i + 1) σ3 H4) (stop : ∀ σ H, Pv xs.length σ H -> R H) : qa5 (Itt K a) g tc te R D σ H :=
 q3k xs.length Pv h0 (fun i σ H hi p => ⟨⟨xs, xs[i], hl i σ H p, by simp [hi]⟩, fun x H' ⟨e1, e2⟩ => by subst e1; exact go i x σ _ (e2 xs (hl i σ _ p)) p⟩) fun σ H p => ⟨⟨xs, hl _ σ H p, Nat.le_refl _⟩, stop σ H p⟩
end
section
variable {X : Cx} {pos : Pos} {tg : Expr} {es : List Expr} {e o l : Expr} {ta te tl : TE} {t : TA} {K : PySem.W.Frag}
theorem q5f (K : PySem.W.Frag) (h : X.K = K := by rfl) : PGet X (rIxL K) := by subst h; exact q9P
theorem q00 (K : PySem.W.Frag) (hl : PE X l tl) (h : X.K = K := by rfl) : PI X tg l (qbp K tl) := by subst h; exact qaT hl
theorem q49 (K : PySem.W.Frag) (hl : PE X l tl) (h : X.K = K := by rfl) : PI X tg l (iTup K tl) := by subst h; exact pi_tup hl
theorem q7K {elts : List Expr} {k : Nat} {tp : Pos} {a : Expr} {p pos : Pos} (K : PySem.W.Frag) (hg : Gl X "enumerate") (hm : X.mg "enumerate" = none) (ha : PA X [a] t) (h : X.K = K := by rfl) (hs : starEach [a] X.env = [(false, eval a X.env)] := by rfl) : PI X (.Tuple elts k tp) (.Call (.Name "enumerate" p) [a] [] pos) (q8h K t) := by subst h; exact q9k hg hm ha hs
theorem q7J {elts : List Expr} {k : Nat} {tp : Pos} {a : Expr} {p pos : Pos} (K : PySem.W.Frag) (hg : Gl X "enumerate") (hm : X.mg "enumerate" = none) (ha : PA X [a] t) (h : X.K = K := by rfl) (hs : starEach [a] X.env = [(false, eval a X.env)] := by rfl) : PI X (.Tuple elts k tp) (.Call (.Name "enumerate" p) [a] [] pos) (q8g K t) := by subst h; exact q9j hg hm ha hs
theorem q9i {elts : List Expr} {k : Nat} {tp : Pos} {a b : Expr} {p pos : Pos} (K : PySem.W.Frag) (hg : Gl X "zip") (hm : X.mg "zip" = none) (ha : PA X [a, b] t) (h : X.K = K := by rfl) (hs : starEach [a, b] X.env = [(false, eval a X.env), (false, eval b X.env)] := by rfl) (hs2 : starEach [b] X.env = [(false, eval b X.env)] := by rfl) :
  PI X (.Tuple elts k tp) (.Call (.Name "zip" p) [a, b] [] pos) (iZipT K t) := by subst h; exact qaS hg hm ha hs hs2
theorem q8S (K : PySem.W.Frag) (hc : X.calm = true) (h : X.K = K := by rfl) : q1S X (.builtin "all") (rAll K) := by subst h; exact qa2 hc
theorem qD : 1000000 < sizeLine := by decide
end
def q03 (H H' : Hp) : Prop := ∀ p xs, H p = some (.tup xs) -> H' p = some (.tup xs)
theorem q03.trans {H H1 H2 : Hp} (a : q03 H H1) (b : q03 H1 H2) : q03 H H2 := fun p xs h => b p xs (a p xs h)
theorem Same.ts {H H' : Hp} (s : Same H H') : q03 H H' := fun p _ h => s p _ h
theorem q03.new {H : Hp} {a : Addr} {o : HO} (h : H a = none) : q03 H (upd H a o) := (Same.upd h).ts
theorem q03.lst {H : Hp} {a : Addr} {ys : List V} {o : HO} (h : H a = some (.lst ys)) : q03 H (upd H a o) := fun p xs e => by rw [ql (q3y e h (by intro z; cases z))]; exact e
end L2
namespace Ce
open PySem L2
def bit (x : Int) (t : Nat) : Bool := decide (x / 2 ^ t % 2 = 1)
def cnt (P : Nat -> Bool) : Nat -> Nat
 | 0 => 0
 | n + 1 => cnt P n + (if P n = true then 1 else 0)
theorem q6y {P : Nat -> Bool} : ∀ {n : Nat}, (∀ i, i < n -> P i = false) -> cnt P n = 0
 | 0, _ => rfl
 | n + 1, h => by
  show cnt P n + _ = 0
  rw [q6y fun i hi => h i (Nat.lt_succ_of_lt hi), h n (Nat.lt_succ_self n)]
  rfl
theorem q1M (w : Nat) : (0 : Int) < 2 ^ w := Int.pow_pos (by decide)
theorem q2Y (t : Nat) : bit 0 t = false := by simp [bit]
theorem set_map {α : Type} (f : Nat -> α) (n j : Nat) (v : α) : ((List.range n).map f).set j v = (List.range n).map fun k => if k = j then v else f k := by
 apply List.ext_getElem?
 intro i
 rw [List.getElem?_set]
 simp only [List.getElem?_map, List.length_map, List.length_range]
 by_cases h : j = i
 ·subst h
  by_cases hj : j < n
  ·simp [hj]
  ·simp [hj]
 ·have h' : ¬ i = j := fun e => h e.symm
  by_cases hi : i < n
  ·simp [h, h', hi]
  ·simp [h, hi]
def dP (ds : Nat -> Option Int) (op k : Int) (w : Nat) : Bool := decide (ds w = some k) && bit op w
theorem q8H (ds : Nat -> Option Int) (k : Int) (w : Nat) : dP ds 0 k w = false := by simp [dP, q2Y]
theorem qW (x : Int) {n : Int} (h : 0 < n) : 0 <= x % n := Int.emod_nonneg _ (by omega)
theorem qY (x : Int) {n : Int} (h : 0 < n) : x % n < n := Int.emod_lt_of_pos _ h
theorem qbb (x : Int) (n : Nat) (h : 0 < n) : ∃ j : Nat, j < n /\ x % (n : Int) = (j : Int) := ⟨(x % n).toNat, by have := qW x (n := n) (by omega); have := qY x (n := n) (by omega); omega, by have := qW x (n := n) (by omega); omega⟩
theorem q79 (x : Int) (t : Nat) : decide (Builtin.bitAnd (x / 2 ^ t) 1 = 1) = bit x t := by
 unfold bit
 rw [PyProof.Rows.bitAnd_m1]
inductive Gt where
 | plain | door (k : Int) | need (k : Int) | bar (b : Int) | wade (h k : Int) | float (h : Int)
def Gt.vs : Gt -> List V
 | .plain => [.str "plain"]
 | .door k => [.str "door", .int k]
 | .need k => [.str "need", .int k]
 | .bar b => [.str "bar", .int b]
 | .wade h k => [.str "wade", .int h, .int k]
 | .float h => [.str "float", .int h]
def Gt.ok : Gt -> Prop
 | .plain => True
 | .door k => 0 <= k /\ k < 12
 | .need k => 0 <= k /\ k < 12
 | .bar b => 0 <= b /\ b < 8
 | .wade h k => (0 <= h /\ h < 10) /\ 0 <= k /\ k < 12
 | .float h => 0 <= h /\ h < 10
def Gt.dk : Gt -> Option Int
 | .door k => some k
 | _ => none
def Gt.word : Gt -> Str
 | .plain => "plain"
 | .door _ => "door"
 | .need _ => "need"
 | .bar _ => "bar"
 | .wade _ _ => "wade"
 | .float _ => "float"
def Gt.ns : Gt -> List Int
 | .plain => []
 | .door k => [k]
 | .need k => [k]
 | .bar b => [b]
 | .wade h k => [h, k]
 | .float h => [h]
theorem Gt.vs_eq (g : Gt) : g.vs = .str g.word :: g.ns.map V.int := by cases g <;> rfl
theorem Gt.ns_len (g : Gt) : g.ns.length <= 2 := by cases g <;> simp [Gt.ns]
theorem q91 : ("need" : Str) ≠ "door" := by decide +kernel
theorem qaD : ("bar" : Str) ≠ "door" := by decide +kernel
theorem q7n : ("float" : Str) ≠ "door" := by decide +kernel
theorem q7m : ("plain" : Str) ≠ "door" := by decide +kernel
theorem q90 : ("wade" : Str) ≠ "door" := by decide +kernel
theorem q4t (g : Gt) : decide (g.word = "door") = g.dk.isSome := by
 cases g with
 | plain => exact decide_eq_false q7m
 | door k => exact decide_eq_true rfl
 | need k => exact decide_eq_false q91
 | bar k => exact decide_eq_false qaD
 | wade h k => exact decide_eq_false q90
 | float k => exact decide_eq_false q7n
theorem q8w {g : Gt} (h : g.word = "door") : ∃ k, g = .door k := by
 have := q4t g
 rw [h] at this
 cases g with
 | door k => exact ⟨k, rfl⟩
 | _ => simp [Gt.dk] at this
structure Way where
 a : Int
 b : Int
 g : Gt
 back : Bool
structure Cl where
 rooms : Int
 fst : Int
 lst : Int
 ways : List Way
 things : List (Int × Int)
 levers : List (Int × Int)
 wheels : List (Int × Int)
 bars : Int
 water : Int
structure ClOk (C : Cl) : Prop where
 r1 : 1 <= C.rooms
 r2 : C.rooms <= 14
 f : 0 <= C.fst /\ C.fst < C.rooms
 l : 0 <= C.lst /\ C.lst < C.rooms
 wl : C.ways.length <= 20
 tl : C.things.length <= 8
 ll : C.levers.length <= 4
 vl : C.wheels.length <= 4
 w : ∀ x ∈ C.ways, (0 <= x.a /\ x.a < C.rooms) /\ (0 <= x.b /\ x.b < C.rooms) /\ x.a ≠ x.b /\ x.g.ok
 t : ∀ x ∈ C.things, (0 <= x.1 /\ x.1 < C.rooms) /\ 0 <= x.2 /\ x.2 < 12
 lv : ∀ x ∈ C.levers, (0 <= x.1 /\ x.1 < C.rooms) /\ 1 <= x.2 /\ x.2 <= 255
 wh : ∀ x ∈ C.wheels, (0 <= x.1 /\ x.1 < C.rooms) /\ 0 <= x.2 /\ x.2 <= 9
 b : 0 <= C.bars /\ C.bars <= 255
 wa : 0 <= C.water /\ C.water <= 9
def q15 (H : Hp) (p : Addr) (x : Int × Int) : Prop := H p = some (.tup [.int x.1, .int x.2])
def q4r (H : Hp) (p : Addr) (x : Way) : Prop := ∃ g, H p = some (.tup [.int x.a, .int x.b, .ref g, .bl x.back]) /\ H g = some (.tup x.g.vs)
def Rows {α : Type} (At : Hp -> Addr -> α -> Prop) (H : Hp) (ps : List Addr) (xs : List α) : Prop := ps.length = xs.length /\ ∀ (i : Nat) (p : Addr) (x : α), ps[i]? = some p -> xs[i]? = some x -> At H p x
def q4s {α : Type} (At : Hp -> Addr -> α -> Prop) (H : Hp) (q : Addr) (xs : List α) : Prop := ∃ ps, H q = some (.tup (ps.map V.ref)) /\ Rows At H ps xs
def qT {α : Type} (At : Hp -> Addr -> α -> Prop) (H : Hp) (q : Addr) (xs : List α) : Prop := ∃ ps, H q = some (.lst (ps.map V.ref)) /\ Rows At H ps xs
section
variable {α : Type} {At : Hp -> Addr -> α -> Prop} {H H' : Hp} {ps : List Addr} {xs : List α} {p q : Addr} {x : α}
theorem q15.mono (s : q03 H H') {p : Addr} {x : Int × Int} (h : q15 H p x) : q15 H' p x := s _ _ h
theorem q4r.mono (s : q03 H H') {p : Addr} {x : Way} (h : q4r H p x) : q4r H' p x := let ⟨g, h1, h2⟩ := h; ⟨g, s _ _ h1, s _ _ h2⟩
theorem Rows.mono (m : ∀ p x, At H p x -> At H' p x) (h : Rows At H ps xs) : Rows At H' ps xs := ⟨h.1, fun i p x h1 h2 => m p x (h.2 i p x h1 h2)⟩
theorem Rows.nil : Rows At H [] [] := ⟨rfl, fun i p x h _ => by simp at h⟩
theorem Rows.snoc (h : Rows At H ps xs) (hx : At H p x) : Rows At H (ps ++ [p]) (xs ++ [x]) := by
 refine ⟨by simp [h.1], fun i q y h1 h2 => ?_⟩
 by_cases hi : i < ps.length
 ·rw [List.getElem?_append_left hi] at h1
  rw [List.getElem?_append_left (by rw [<- h.1]; exact hi)] at h2
  exact h.2 i q y h1 h2
 ·have e : i = ps.length := by
   have := (List.getElem?_eq_some_iff.mp h1).1
   simp at this
   omega
  subst e
  rw [List.getElem?_append_right (Nat.le_refl _)] at h1
  rw [List.getElem?_append_right (by rw [h.1]; exact Nat.le_refl _), <- h.1] at h2
  simp at h1 h2
  rw [<- h1, <- h2]
  exact hx
theorem Rows.get (h : Rows At H ps xs) {i : Nat} (hi : i < xs.length) : ∃ p, (ps.map V.ref)[i]? = some (.ref p) /\ At H p xs[i] := by
 have hp : i < ps.length := by rw [h.1]; exact hi
 exact ⟨ps[i], by simp [hp], h.2 i _ _ (by simp [hp]) (by simp [hi])⟩
theorem q4s.mono (s : q03 H H') (m : ∀ p x, At H p x -> At H' p x) (h : q4s At H q xs) : q4s At H' q xs := let ⟨ps, h1, h2⟩ := h; ⟨ps, s _ _ h1, h2.mono m⟩
theorem q4s.get (h : q4s At H q xs) : ∃ vs, H q = some (.tup vs) /\ vs.length = xs.length /\ ∀ i (hi : i < xs.length), ∃ p, vs[i]? = some (.ref p) /\ At H p xs[i] := by
 obtain ⟨ps, h1, h2⟩ := h
 exact ⟨_, h1, by simp [h2.1], fun i hi => h2.get hi⟩
end
structure ClAt (H : Hp) (c : Addr) (C : Cl) : Prop where
 ex : ∃ w t l v, H c = some (.tup [.int C.rooms, .int C.fst, .int C.lst, .ref w, .ref t, .ref l, .ref v, .int C.bars, .int C.water]) /\ q4s q4r H w C.ways /\ q4s q15 H t C.things /\ q4s q15 H l C.levers /\ q4s q15 H v C.wheels
theorem ClAt.mono {H H' : Hp} (s : q03 H H') {c : Addr} {C : Cl} (h : ClAt H c C) : ClAt H' c C := by
 obtain ⟨w, t, l, v, h0, h1, h2, h3, h4⟩ := h.ex
 exact ⟨w, t, l, v, s _ _ h0, h1.mono s (fun _ _ => q4r.mono s), h2.mono s (fun _ _ => q15.mono s), h3.mono s (fun _ _ => q15.mono s), h4.mono s (fun _ _ => q15.mono s)⟩
def tP (C : Cl) (tk k : Int) (t : Nat) : Bool := decide ((C.things.getD t (0, 0)).2 = k) && bit tk t
def dsOf (C : Cl) (w : Nat) : Option Int := (C.ways[w]?).bind fun x => x.g.dk
def hold (C : Cl) (tk op k : Int) : Int := (cnt (tP C tk k) C.things.length : Int) - (cnt (dP (dsOf C) op k) C.ways.length : Int)
def cl (f : Int -> Int) : List V := (List.range 12).map fun k : Nat => V.int (f k)
theorem q8k (C : Cl) (k : Int) : hold C 0 0 k = 0 := by
 unfold hold
 rw [q6y fun i _ => by simp [tP, q2Y], q6y fun i _ => q8H _ _ _]
 rfl
theorem cl_len (f : Int -> Int) : (cl f).length = 12 := by simp [cl]
theorem q8M {f : Int -> Int} {k : Int} (h0 : 0 <= k) (h1 : k < 12) : atI (cl f) k = some (.int (f k)) := by
 obtain ⟨j, rfl⟩ : ∃ j : Nat, k = (j : Int) := ⟨k.toNat, by omega⟩
 exact q0x (by simp [cl, show j < 12 by omega])
theorem cl_ix {f : Int -> Int} {k : Int} (h0 : 0 <= k) (h1 : k < 12) : ixN (cl f).length k = some k.toNat := by
 rw [cl_len]
 unfold ixN
 rw [if_pos h0, if_pos (by omega)]
theorem qar {f : Int -> Int} {k v : Int} (h0 : 0 <= k) (h1 : k < 12) : (cl f).set k.toNat (.int v) = cl fun j => if j = k then v else f j := by
 unfold cl
 rw [set_map]
 refine List.map_congr_left fun j _ => ?_
 by_cases e : (j : Int) = k
 ·rw [if_pos (by omega)]
  show _ = V.int (if (j : Int) = k then v else f j)
  rw [if_pos e]
 ·rw [if_neg (by omega)]
  show _ = V.int (if (j : Int) = k then v else f j)
  rw [if_neg e]
theorem q2q {f g : Int -> Int} (h : ∀ k, 0 <= k -> k < 12 -> f k = g k) : cl f = cl g := by
 unfold cl
 refine List.map_congr_left fun j hj => ?_
 rw [List.mem_range] at hj
 rw [h j (by omega) (by omega)]
structure StOk (C : Cl) (rm tk op b wt : Int) : Prop where
 hrm : 0 <= rm /\ rm < C.rooms
 htk : 0 <= tk /\ tk < 2 ^ C.things.length
 hop : 0 <= op /\ op < 2 ^ C.ways.length
 dr : ∀ i, i < C.ways.length -> bit op i = true -> (dsOf C i).isSome = true
 hb : 0 <= b /\ b <= 255
 hwt : 0 <= wt /\ wt <= 9
 held : ∀ k, 0 <= k -> k < 12 -> 0 <= hold C tk op k
end Ce
namespace L2
open PySem PySem.Spec PyProof.Rows
section
variable {H : Hp} {Q : VK} {K : PySem.W.Frag} {σ : St}
theorem qaN {r r' : R2} {ta tb tc : TE} (q : ta σ H fun x H1 => tb σ H1 fun y H2 => r x y H2 fun z H3 => ∃ k, z = .bl k /\ (if k = true then tc σ H3 fun w' H4 => r' y w' H4 Q else Q (.bl false) H3)) : qa8 r r' ta tb tc σ H Q := q
end
end L2
namespace Ce
open PySem L2
theorem q2Z {x : Int} (h : 0 <= x) (t : Nat) : bit x t = x.toNat.testBit t := by
 unfold bit
 rw [Nat.testBit_eq_decide_div_mod_eq]
 obtain ⟨n, rfl⟩ : ∃ n : Nat, x = (n : Int) := ⟨x.toNat, by omega⟩
 rw [Int.toNat_natCast]
 congr 1
 have e : ((n : Int) / 2 ^ t % 2 = 1) = ((((n / 2 ^ t % 2 : Nat) : Int)) = ((1 : Nat) : Int)) := by
  rw [Int.natCast_emod, Int.natCast_ediv, Int.natCast_pow]
  rfl
 rw [e, Int.natCast_inj]
theorem q93 {C : Cl} (ok : ClOk C) : StOk C C.fst 0 0 C.bars C.water :=
 ⟨ok.f, ⟨by decide, q1M _⟩, ⟨by decide, q1M _⟩, fun i _ hb => (by rw [q2Y] at hb; cases hb), ok.b, ok.wa, fun k _ _ => (by rw [q8k]; exact Int.le_refl 0)⟩
end Ce
namespace L2
open PySem PySem.Spec PyProof.Rows
structure LaidM (K : PySem.W.Frag) (C : Addr) (m qual : Str) (st : Stmt) (ps : List Str) : Prop where
 ex : ∃ f fd, Fun K m qual st f fd /\ Meth K C m f /\ q1T K fd ps []
structure LaidI (K : PySem.W.Frag) (mg : Str -> Option Value) (x : Str) (C : Addr) (qual : Str) (st : Stmt) (ps : List Str) : Prop where
 ex : ∃ f fd, Fun K "__init__" qual st f fd /\ Mk K C f /\ q1T K fd ps []
 at_ : mg x = some (.ref C)
structure LaidC (K : PySem.W.Frag) (mg : Str -> Option Value) (x m qual : Str) (st : Stmt) (ps : List Str) : Prop where
 ex : ∃ C f fd, mg x = some (.ref C) /\ Fun K m qual st f fd /\ CMeth K C m f /\ q1T K fd ps []
section
variable {P : Program} {w : World} {K : PySem.W.Frag} {mg : Str -> Option Value} {base : Heap}
theorem LaidM.vm {C : Addr} {m qual : Str} {st : Stmt} {N ps : List Str} {k : Nat} {sp : Sp} (L : LaidM K C m qual st ps) (cl : Cls K C) (S : FnScope N ps (qe st)) (len : ∀ vs H Q E, sp vs H Q E -> vs.length = ps.length)
  (hbody : ∀ (f : Addr) (cdv : Value) (A : Around) (outer : List Env) (s : Shared) (H : Hp) (vs : List V) (Q : VK) (E : XK), Room k (A.deeper (envOfC qual (qe st) s.heap.objs.size f cdv)) -> sp vs H Q E ->
   ∃ t, PSs (cxOf CX0 P w K mg base N qual (qe st) f cdv A outer s H E).nox (qK st) t /\ t { nx := fun _ H' => Q .non H', rt := Q } (start N vs) H) : VMeth P w K mg base (k + 1) C m ps sp := by
 obtain ⟨f, fd, F, hm, b⟩ := L.ex
 exact ⟨cl, f, fd, hm, F.ok S len (fun cdv A outer s H vs Q E hr h => hbody f cdv A outer s H vs Q E hr h), b⟩
theorem LaidI.makes {x : Str} {C : Addr} {qual : Str} {st : Stmt} {N ps : List Str} {k : Nat} {sp : Sp} (L : LaidI K mg x C qual st ps) (S : FnScope N ps (qe st)) (len : ∀ vs H Q E, sp vs H Q E -> vs.length = ps.length)
  (hbody : ∀ (f : Addr) (cdv : Value) (A : Around) (outer : List Env) (s : Shared) (H : Hp) (vs : List V) (Q : VK) (E : XK), Room k (A.deeper (envOfC qual (qe st) s.heap.objs.size f cdv)) -> sp vs H Q E ->
   ∃ t, PSs (cxOf CX0 P w K mg base N qual (qe st) f cdv A outer s H E).nox (qK st) t /\ t { nx := fun _ H' => Q .non H', rt := Q } (start N vs) H) : Makes P w K mg base (k + 1) x C ps sp := by
 obtain ⟨f, fd, F, M, b⟩ := L.ex
 exact ⟨⟨f, fd, M, F.ok S len (fun cdv A outer s H vs Q E hr h => hbody f cdv A outer s H vs Q E hr h), b⟩, L.at_⟩
theorem LaidC.cc {x m qual : Str} {st : Stmt} {N ps : List Str} {k : Nat} {sp : Sp} (L : LaidC K mg x m qual st ps) (S : FnScope N ps (qe st)) (len : ∀ vs H Q E, sp vs H Q E -> vs.length = ps.length)
  (hbody : ∀ (f : Addr) (cdv : Value) (A : Around) (outer : List Env) (s : Shared) (H : Hp) (vs : List V) (Q : VK) (E : XK), Room k (A.deeper (envOfC qual (qe st) s.heap.objs.size f cdv)) -> sp vs H Q E ->
   ∃ t, PSs (cxOf CX0 P w K mg base N qual (qe st) f cdv A outer s H E).nox (qK st) t /\ t { nx := fun _ H' => Q .non H', rt := Q } (start N vs) H) : CCal P w K mg base (k + 1) x m ps sp := by
 obtain ⟨C, f, fd, hm, F, cm, b⟩ := L.ex
 exact ⟨C, f, fd, hm, cm, F.ok S len (fun cdv A outer s H vs Q E hr h => hbody f cdv A outer s H vs Q E hr h), b⟩
end
def rFld (K : PySem.W.Frag) (f : Str) (x : V) (H : Hp) (Q : VK) : Prop := ∃ a C dx fs v, x = .ref a /\ H a = some (.ins C dx fs) /\ Cls K C /\ qz K C f /\ fs.lookup f = some v /\ Q v H
def rSetF (K : PySem.W.Frag) (f : Str) (x y : V) (H : Hp) (R : Hp -> Prop) : Prop := ∃ a C dx fs, x = .ref a /\ H a = some (.ins C dx fs) /\ Cls K C /\ qz K C f /\ fs.length < 1000 /\ R (upd H a (.ins C dx (putF f y fs)))
def rVM (P : Program) (w : World) (K : PySem.W.Frag) (mg : Str -> Option Value) (base : Heap) (k : Nat) (m : Str) (σ : St) (t : TA) (x : V) (H : Hp) (Q : VK) : Prop := ∃ a C dx fs ps sp, x = .ref a /\ H a = some (.ins C dx fs) /\ VMeth P w K mg base k C m ps sp /\ fs.lookup m = none /\ t σ H fun vs H2 => sp (x :: vs) H2 Q E0
section
variable {σ : St} {H : Hp} {Q : VK} {K : PySem.W.Frag} {ta tv : TE} {t : TA} {f m : Str} {nx bk ct : St -> Hp -> Prop} {rt : VK} {P : Program} {w : World} {mg : Str -> Option Value} {base : Heap} {k : Nat}
theorem r_fld0 (q : ta σ H fun x H1 => rFld K f x H1 Q) : tFld K ta f σ H Q := q
theorem qaK (q : tv σ H fun y H1 => ta σ H1 fun x H2 => rSetF K f x y H2 fun H3 => nx σ H3) : sFld K ta tv f ⟨nx, rt, bk, ct⟩ σ H := q
theorem r_vm0 (q : ta σ H fun x H1 => rVM P w K mg base k m σ t x H1 Q) : tVM P w K mg base k m ta t σ H Q := q
theorem q12 {a C dx : Addr} {fs : List (Str × V)} {v : V} (h : H a = some (.ins C dx fs)) (c : Cls K C) (n : qz K C f) (l : fs.lookup f = some v) (q : Q v H) : rFld K f (.ref a) H Q := ⟨a, C, dx, fs, v, rfl, h, c, n, l, q⟩
theorem q1V {a C dx : Addr} {fs : List (Str × V)} {y : V} {R : Hp -> Prop} (h : H a = some (.ins C dx fs)) (c : Cls K C) (n : qz K C f) (l : fs.length < 1000) (q : R (upd H a (.ins C dx (putF f y fs)))) : rSetF K f (.ref a) y H R := ⟨a, C, dx, fs, rfl, h, c, n, l, q⟩
theorem r_vm {a C dx : Addr} {fs : List (Str × V)} {ps : List Str} {sp : Sp} (h : H a = some (.ins C dx fs)) (v : VMeth P w K mg base k C m ps sp) (l : fs.lookup m = none) (q : t σ H fun vs H2 => sp (.ref a :: vs) H2 Q E0) : rVM P w K mg base k m σ t (.ref a) H Q := ⟨a, C, dx, fs, ps, sp, rfl, h, v, l, q⟩
theorem r_make {C : Addr} {sp : Sp} {E : XK} (q : t σ H fun vs H1 => ∀ x dx, H1 x = none -> H1 dx = none -> dx ≠ x -> sp (.ref x :: (vs ++ [])) (upd (upd H1 dx (.own x)) x (.ins C dx [])) (fun v H2 => v = .non /\ Q (.ref x) H2) E) : q7j C sp [] E t σ H Q := q
end
section
variable {X : Cx}
theorem q0V {o value : Expr} {ta tv : TE} {f : Str} {pos pos' : Pos} (K : PySem.W.Frag) (ha : PE X o ta) (hv : PE X value tv) (hs : swapsWith value (some (.Attribute o f pos')) pos.line X.env = pure false) (hK : X.K = K := by rfl) : PS X (.Assign [.Attribute o f pos'] value pos) (sFld K ta tv f) := by subst hK; exact ps_fld ha hv hs
end
end L2
namespace L2
open PySem PySem.Spec PyProof.Rows
inductive Deq (K : PySem.W.Frag) (H : Hp) : Nat -> V -> V -> Bool -> Prop where
 | flat {n : Nat} {x y : V} (fx : q3i x = true) (fy : q3i y = true) : Deq K H n x y (eqV x y)
 | same {n : Nat} (a : Addr) : Deq K H n (.ref a) (.ref a) true
 | tup {n : Nat} {a b : Addr} {xs ys : List V} {e : Nat -> Bool} (hne : a ≠ b) (ha : SqT K H a xs) (hb : SqT K H b ys) (h : ∀ j, j < xs.length -> j < ys.length -> Deq K H n (xs.getD j .non) (ys.getD j .non) (e j)) :
   Deq K H (n + 1) (.ref a) (.ref b) ((List.range (min xs.length ys.length)).all e && xs.length == ys.length)
 | lst {n : Nat} {a b : Addr} {xs ys : List V} {e : Nat -> Bool} (hne : a ≠ b) (ha : SqL K H a xs) (hb : SqL K H b ys) (hl : xs.length = ys.length) (h : ∀ j, j < xs.length -> j < ys.length -> Deq K H n (xs.getD j .non) (ys.getD j .non) (e j)) :
   Deq K H (n + 1) (.ref a) (.ref b) ((List.range xs.length).all e)
 | lstn {n : Nat} {a b : Addr} {xs ys : List V} (hne : a ≠ b) (ha : SqL K H a xs) (hb : SqL K H b ys) (hl : xs.length ≠ ys.length) : Deq K H (n + 1) (.ref a) (.ref b) false
section
variable {X : Cx} {pins : List (Addr × Obj)} {σ : St} {H : Hp} {s : Shared}
theorem q6s (I : Inv X pins σ H s) {n : Nat} {x y : V} {b : Bool} (d : Deq X.K H n x y b) : ∀ {A : Around} {u v : Value}, A.units + n < cLine -> RelV x u -> RelV y v -> SeqAt.EqAt A s u v b := by
 induction d with
 | flat fx fy => intro A u v _ rx ry; exact q6r rx ry fx fy
 | same a => intro A u v _ rx ry; cases rx; cases ry; exact SeqAt.EqAt.same _
 | @tup n a b xs ys e hne ha hb h ih =>
  intro A u v hu rx ry
  cases rx
  cases ry
  obtain ⟨ia, ra, pa, _⟩ := I.tuple ha
  obtain ⟨ib, rb, pb, _⟩ := I.tuple hb
  have la := ra.length
  have lb := rb.length
  refine SeqAt.EqAt.of_refs hne ?_
  have q := SeqAt.RcAt.tuples (A := A) (e := e) (show s.heap.IsTuple a ia.toArray from pa) (show s.heap.IsTuple b ib.toArray from pb) (by omega) (fun j h1 h2 => ih j (by simpa [la] using h1) (by simpa [lb] using h2) (by show A.units + 1 + n < cLine; omega) (q0v ra h1) (q0v rb h2))
  simpa [la, lb] using q
 | @lst n a b xs ys e hne ha hb hl h ih =>
  intro A u v hu rx ry
  cases rx
  cases ry
  obtain ⟨ia, ra, pa, _⟩ := I.list ha
  obtain ⟨ib, rb, pb, _⟩ := I.list hb
  have la := ra.length
  have lb := rb.length
  refine SeqAt.EqAt.of_refs hne ?_
  have q := SeqAt.RcAt.lists (A := A) (e := e) pa.isList pb.isList (by simp; omega) (by omega) (fun j h1 h2 => ih j (by simpa [la] using h1) (by simpa [lb] using h2) (by show A.units + 1 + n < cLine; omega) (q0v ra h1) (q0v rb h2))
  simpa [la] using q
 | @lstn n a b xs ys hne ha hb hl =>
  intro A u v hu rx ry
  cases rx
  cases ry
  obtain ⟨ia, ra, pa, _⟩ := I.list ha
  obtain ⟨ib, rb, pb, _⟩ := I.list hb
  have la := ra.length
  have lb := rb.length
  exact SeqAt.EqAt.of_refs hne (SeqAt.RcAt.lists_lengths pa.isList pb.isList (by simp; omega) (by omega))
end
def rEqD (K : PySem.W.Frag) (n : Nat) : R2 := fun x y H Q =>
 (∃ p q xs ys e, x = .ref p /\ y = .ref q /\ SqT K H p xs /\ SqT K H q ys /\ (∀ j, j < xs.length -> j < ys.length -> Deq K H n (xs.getD j .non) (ys.getD j .non) (e j)) /\ Q (.bl ((List.range (min xs.length ys.length)).all e && xs.length == ys.length)) H) \/
 (∃ p q xs ys e, x = .ref p /\ y = .ref q /\ SqL K H p xs /\ SqL K H q ys /\ xs.length = ys.length /\ (∀ j, j < xs.length -> j < ys.length -> Deq K H n (xs.getD j .non) (ys.getD j .non) (e j)) /\ Q (.bl ((List.range xs.length).all e)) H) \/
 (∃ p q xs ys, x = .ref p /\ y = .ref q /\ SqL K H p xs /\ SqL K H q ys /\ xs.length ≠ ys.length /\ Q (.bl false) H)
def rNeD (K : PySem.W.Frag) (n : Nat) : R2 := fun x y H Q =>
 (∃ p q xs ys e, x = .ref p /\ y = .ref q /\ SqL K H p xs /\ SqL K H q ys /\ xs.length = ys.length /\ (∀ j, j < xs.length -> j < ys.length -> Deq K H n (xs.getD j .non) (ys.getD j .non) (e j)) /\ Q (.bl (!(List.range xs.length).all e)) H) \/
 (∃ p q xs ys, x = .ref p /\ y = .ref q /\ SqL K H p xs /\ SqL K H q ys /\ xs.length ≠ ys.length /\ Q (.bl true) H)
section
variable {X : Cx}
theorem op_eqD (K : PySem.W.Frag) (n : Nat) (hu : X.A.units + n + 1 < cLine) (hK : X.K = K := by rfl) : OpR X (compareOp .Eq) (rEqD K n) := by
 subst hK
 intro pins s σ H x y v u Q I rx ry h
 rcases h with ⟨p, q, xs, ys, e, rfl, rfl, hp, hq, hd, k⟩ | ⟨p, q, xs, ys, e, rfl, rfl, hp, hq, hl, hd, k⟩ | ⟨p, q, xs, ys, rfl, rfl, hp, hq, hl, k⟩
 ·cases rx
  cases ry
  obtain ⟨ia, ra, pa, _⟩ := I.tuple hp
  obtain ⟨ib, rb, pb, _⟩ := I.tuple hq
  have la := ra.length
  have lb := rb.length
  refine SeqAt.eq_tupleAt (e := e) (show s.heap.IsTuple p ia.toArray from pa) (show s.heap.IsTuple q ib.toArray from pb) (by omega) (fun j h1 h2 => q6s I (hd j (by simpa [la] using h1) (by simpa [lb] using h2)) (by show X.A.units + 1 + n < cLine; omega) (q0v ra h1) (q0v rb h2)) ⟨.bl _, H, I, ?_, k⟩
  show Value.bool _ = Value.bool _
  simp [la, lb]
 ·cases rx
  cases ry
  obtain ⟨ia, ra, pa, _⟩ := I.list hp
  obtain ⟨ib, rb, pb, _⟩ := I.list hq
  have la := ra.length
  have lb := rb.length
  refine SeqAt.eq_listAt (e := e) pa.isList pb.isList (by simp; omega) (by omega) (fun j h1 h2 => q6s I (hd j (by simpa [la] using h1) (by simpa [lb] using h2)) (by show X.A.units + 1 + n < cLine; omega) (q0v ra h1) (q0v rb h2)) ⟨.bl _, H, I, ?_, k⟩
  show Value.bool _ = Value.bool _
  simp [la]
 ·cases rx
  cases ry
  obtain ⟨ia, ra, pa, _⟩ := I.list hp
  obtain ⟨ib, rb, pb, _⟩ := I.list hq
  have la := ra.length
  have lb := rb.length
  exact SeqAt.eq_list_lengthsAt pa.isList pb.isList (by simp; omega) (by omega) ⟨.bl false, H, I, rfl, k⟩
theorem qag (K : PySem.W.Frag) (n : Nat) (hu : X.A.units + n + 1 < cLine) (hK : X.K = K := by rfl) : OpR X (compareOp .NotEq) (rNeD K n) := by
 subst hK
 intro pins s σ H x y v u Q I rx ry h
 rcases h with ⟨p, q, xs, ys, e, rfl, rfl, hp, hq, hl, hd, k⟩ | ⟨p, q, xs, ys, rfl, rfl, hp, hq, hl, k⟩
 ·cases rx
  cases ry
  obtain ⟨ia, ra, pa, _⟩ := I.list hp
  obtain ⟨ib, rb, pb, _⟩ := I.list hq
  have la := ra.length
  have lb := rb.length
  refine SeqAt.RcNeAt.lists (e := e) pa.isList pb.isList (by simp; omega) (by omega) (fun j h1 h2 => q6s I (hd j (by simpa [la] using h1) (by simpa [lb] using h2)) (by show X.A.units + 1 + n < cLine; omega) (q0v ra h1) (q0v rb h2)) _ _ _ _ ⟨.bl _, H, I, ?_, k⟩
  show Value.bool _ = Value.bool _
  simp [la]
 ·cases rx
  cases ry
  obtain ⟨ia, ra, pa, _⟩ := I.list hp
  obtain ⟨ib, rb, pb, _⟩ := I.list hq
  have la := ra.length
  have lb := rb.length
  exact SeqAt.RcNeAt.lists_lengths pa.isList pb.isList (by simp; omega) (by omega) _ _ _ _ ⟨.bl true, H, I, rfl, k⟩
end
def tFs (ta tb : TE) : TE := fun σ H Q => ta σ H fun x H1 => ∃ z1 : Str, x = .str z1 /\ z1.length <= sizeLine /\ tb σ H1 fun y H2 => ∃ z2 : Str, y = .str z2 /\ z1.length + z2.length <= sizeLine /\ ∀ z : Str, z.length = z1.length + z2.length -> Q (.str z) H2
def tFv (te : TE) : TE := fun σ H Q => te σ H fun x H1 => ∃ z : Str, x = .str z /\ z.length <= sizeLine /\ Q (.str z) H1
section
variable {X : Cx} {a b e : Expr} {ta tb te : TE} {pos : Pos}
theorem pe_fv (he : PE X e te) : PE X (.FormattedValue e (-1) none pos) (tFv te) := by
 intro pins s σ H Q I h
 refine FormattedValue_plain (thn (he pins s σ H _ I h) fun v s1 ⟨x, H1, I1, rx, z, ez, hz, q⟩ => ?_)
 subst ez
 obtain ⟨t, rfl⟩ := rx
 exact formatField_str (fun t' tk => ⟨.str z, H1, I1.tok _, ⟨_, rfl⟩, q⟩) hz
theorem q84 (x y : Str) : (x ++ y).length = x.length + y.length := strLen_append x y
theorem pe_fs (ha : PE X a ta) (hb : PE X b tb) (he : evalEach [a, b] X.env = [eval a X.env, eval b X.env] := by rfl) : PE X (.JoinedStr [a, b] pos) (tFs ta tb) := by
 intro pins s σ H Q I h
 refine JoinedStr_many (joinParts_cons (thn (ha pins s σ H _ I h) fun v s1 ⟨x, H1, I1, rx, z1, e1, hz1, q⟩ => ?_))
 subst e1
 obtain ⟨t, rfl⟩ := rx
 have el : (Str.empty ++ z1).length = z1.length := by rw [q84]; simp [Str.empty, Str.length]
 refine ⟨by rw [el]; exact hz1, ?_⟩
 refine joinParts_cons (thn (hb pins s1 σ H1 _ I1 q) fun v s2 ⟨y, H2, I2, ry, z2, e2, hz2, q2⟩ => ?_)
 subst e2
 obtain ⟨t', rfl⟩ := ry
 have el2 : (Str.empty ++ z1 ++ z2).length = z1.length + z2.length := by rw [q84, el]
 refine ⟨by rw [el2]; exact hz2, ?_⟩
 exact joinParts_nil ⟨.str _, H2, I2.tok _, ⟨_, rfl⟩, q2 _ el2⟩ (by rw [el2]; exact hz2)
end
section
variable {σ : St} {H : Hp} {Q : VK} {ta tb te : TE}
theorem r_fv (q : te σ H fun x H1 => ∃ z : Str, x = .str z /\ z.length <= sizeLine /\ Q (.str z) H1) : tFv te σ H Q := q
theorem r_fs (q : ta σ H fun x H1 => ∃ z1 : Str, x = .str z1 /\ z1.length <= sizeLine /\ tb σ H1 fun y H2 => ∃ z2 : Str, y = .str z2 /\ z1.length + z2.length <= sizeLine /\ ∀ z : Str, z.length = z1.length + z2.length -> Q (.str z) H2) : tFs ta tb σ H Q := q
end
end L2
namespace L2
open PySem PySem.Spec PyProof.Rows
structure FunD (K : PySem.W.Frag) (x : Str) (st : Stmt) (ds : List Value) (f : Addr) (fd : FuncData) : Prop where
 ex : ∃ (T : Addr) (o : Obj) (n : Nat) (oc : Value) (od : Option Addr) (kV doc pm : Value) (an : Option Addr) (cdv ct : Value) (osl : Array (Option Value)),
  fd = PySem.W.fnOf x x (q05 st) (qK st) (qe st) (.ref T) kV doc pm an cdv ct /\ K.lookup f = some ⟨oc, od, .func fd, osl⟩ /\ PySem.W.codeIn K cdv x = true /\ K.lookup T = some o /\ o.data = .seq ds.toArray n
 kp : PySem.W.keepIn K (.ref f) = true
structure LaidD (K : PySem.W.Frag) (mg : Str -> Option Value) (x : Str) (st : Stmt) (ds : List Value) : Prop where
 ex : ∃ f fd, FunD K x st ds f fd /\ mg x = some (.ref f)
structure CalD (P : Program) (w : World) (K : PySem.W.Frag) (mg : Str -> Option Value) (base : Heap) (k : Nat) (x : Str) (ps : List Str) (sp : Sp) (st : Stmt) (ds : List Value) : Prop where
 ex : ∃ f fd, FnOk P w K mg base CX0 k f fd ps sp /\ mg x = some (.ref f) /\ FunD K x st ds f fd
def BnD (x : Str) (st : Stmt) (ds : List Value) (args : Args) (binds : List (Str × Value)) : Prop :=
 ∀ (T : Addr) (kV doc pm : Value) (an : Option Addr) (cdv ct : Value), ∃ k, bindArgs (PySem.W.fnOf x x (q05 st) (qK st) (qe st) (.ref T) kV doc pm an cdv ct) args = seqItems? (.ref T) >>= k /\ k (some ds.toArray) = pure binds
section
variable {P : Program} {w : World} {K : PySem.W.Frag} {mg : Str -> Option Value} {base : Heap} {x : Str} {st : Stmt} {ds : List Value}
theorem FunD.bind {f : Addr} {fd : FuncData} {args : Args} {binds : List (Str × Value)} {s : Shared} (F : FunD K x st ds f fd) (X : K.In s.heap) (h : BnD x st ds args binds) : BindsTo s fd args binds := by
 obtain ⟨T, o, n, oc, od, kV, doc, pm, an, cdv, ct, osl, rfl, lk, hcd, ho, hs⟩ := F.ex
 obtain ⟨k, h1, h2⟩ := h T kV doc pm an cdv ct
 exact PySem.W.binds_K X rfl ho hs h1 h2
theorem LaidD.cal {N ps : List Str} {k : Nat} {sp : Sp} (L : LaidD K mg x st ds) (S : FnScope N ps (qe st)) (len : ∀ vs H Q E, sp vs H Q E -> vs.length = ps.length)
  (hbody : ∀ (f : Addr) (cdv : Value) (A : Around) (outer : List Env) (s : Shared) (H : Hp) (vs : List V) (Q : VK) (E : XK), Room k (A.deeper (envOfC x (qe st) s.heap.objs.size f cdv)) -> sp vs H Q E ->
   ∃ t, PSs (cxOf CX0 P w K mg base N x (qe st) f cdv A outer s H E).nox (qK st) t /\ t { nx := fun _ H' => Q .non H', rt := Q } (start N vs) H) : CalD P w K mg base (k + 1) x ps sp st ds := by
 obtain ⟨f, fd, F, m⟩ := L.ex
 refine ⟨f, fd, ?_, m, F⟩
 obtain ⟨T, o, n, oc, od, kV, doc, pm, an, cdv, ct, osl, rfl, lk, hcd, ho, hs⟩ := F.ex
 refine fn_of lk hcd S len fun A outer s H vs Q E hr hsp => ?_
 obtain ⟨t, h, q⟩ := hbody f cdv A outer s H vs Q E hr hsp
 exact ⟨t, h.nox, q⟩
theorem q9J {h : Heap} {f T : Addr} {oc : Value} {od an : Option Addr} {osl : Array (Option Value)} {kV doc pm cdv ct : Value} {o : Obj} {n : Nat} (X : K.In h) (G : h.Ns mainGlobals mg) (a : PySem.W.nsIn K mainGlobals x = some (some (.ref f)))
  (l : K.lookup f = some ⟨oc, od, .func (PySem.W.fnOf x x (q05 st) (qK st) (qe st) (.ref T) kV doc pm an cdv ct), osl⟩) (c : PySem.W.codeIn K cdv x = true) (k : PySem.W.keepIn K (.ref f) = true)
  (ho : K.lookup T = some o) (hs : o.data = .seq ds.toArray n) : LaidD K mg x st ds :=
 ⟨f, _, ⟨⟨T, o, n, oc, od, kV, doc, pm, an, cdv, ct, osl, rfl, l, c, ho, hs⟩, k⟩, PySem.W.mg_of X G a⟩
end
section
variable {X : Cx} {k k' : Nat} {x : Str} {ps ks : List Str} {sp : Sp} {p pos : Pos} {e : Expr} {es : List Expr} {kws : List Keyword} {t tk : TA} {st : Stmt} {ds ds' : List Value} {dvs : List V}
theorem qaW (c : CalD X.prog X.w X.K X.mg X.base k x ps sp st ds) (hb : ∀ us : List Value, (us ++ ds').length = ps.length -> BnD x st ds ⟨us, []⟩ (ps.zip (us ++ ds'))) (hd : Vals dvs ds') (hr : Room k' X.A) (hk : k <= k') (hg : Gl X x) (ha : PA X (e :: es) t)
  (hdb : (x == ("__debug__" : Str)) = false := by decide) (he : starEach (e :: es) X.env = (false, eval e X.env) :: starEach es X.env := by rfl)
  (hpl : (backTo pos (starEach es X.env)).any (·.1) = false := by rfl) : PE X (.Call (.Name x p) (e :: es) [] pos) (q7l sp dvs E0 t) := by
 obtain ⟨f, fd, F, m, D⟩ := c.ex
 exact q7O F (hr.mono hk) hg m D.kp (fun s us hX hl => D.bind hX (hb us hl)) hd q5G ha hdb he hpl
end
end L2
namespace HT
open PySem PyProof.Rows
section
variable {prog : Program} {w : World} {A : Around} {E : Value -> Shared -> Prop} {s : Shared}
theorem qa1 {t b : Addr} {vs ws : List Value} {Q : Value -> Shared -> Prop} (ht : IsTup s.heap t vs.toArray) (hb : IsTup s.heap b ws.toArray) (hv : vs = []) (h : Q (.ref b) s) : wpAny (model prog w) A (binaryOp .Add (.ref t) (.ref b)) Q E s := by
 obtain ⟨⟨cls, dd, data, sl⟩, ho, hc, n, hd⟩ := id ht
 obtain ⟨⟨cls2, dd2, data2, sl2⟩, ho2, hc2, n2, hd2⟩ := id hb
 simp only at hc hd hc2 hd2
 subst hc hd hc2 hd2
 exact concat_meets ⟨_, ho, rfl⟩ ⟨_, ho2, rfl⟩ noFill_tuple_add seq_tuple_add PySem.F.slot_tuple_add PySem.F.entry_tuple_add (PySem.F.args_tuple_add_2 _ _)
   (tuple_addW0 t b vs.toArray ws.toArray n n2 dd dd2 sl sl2 (by simp [hv])) ⟨ho, ho2, h⟩
end
end HT
namespace L2
open PySem PySem.Spec PyProof.Rows
def q6d (K : PySem.W.Frag) : R2 := fun x y H Q => ∃ a b xs ys, x = .ref a /\ y = .ref b /\ SqT K H a xs /\ SqT K H b ys /\ xs.length + ys.length <= sizeLine /\
 (xs = [] -> Q (.ref b) H) /\ (xs ≠ [] -> ys = [] -> Q (.ref a) H) /\ (xs ≠ [] -> ys ≠ [] -> ∀ p, H p = none -> Q (.ref p) (upd H p (.tup (xs ++ ys))))
def rNeTs (K : PySem.W.Frag) : R2 := fun x y H Q => ∃ p q xs ys, x = .ref p /\ y = .ref q /\ SqT K H p xs /\ SqT K H q ys /\ xs.all q3i = true /\ ys.all q3i = true /\ Q (.bl (!eqVs xs ys)) H
section
variable {X : Cx}
theorem q6j (K : PySem.W.Frag) (hK : X.K = K := by rfl) : OpR X (binaryOp .Add) (q6d K) := by
 subst hK
 intro pins s σ H x y v u Q I rx ry h
 obtain ⟨a, b, xs, ys, e1, e2, ha, hb, hz, q0, q1, q2⟩ := h
 by_cases hx : xs = []
 ·subst e1 e2
  cases rx
  cases ry
  obtain ⟨its, r1, p1, _⟩ := I.tuple ha
  obtain ⟨its2, r2, p2, _⟩ := I.tuple hb
  exact HT.qa1 p1 p2 (r1.nil_iff.mpr hx) ⟨.ref b, H, I, rfl, q0 hx⟩
 ·exact qb0 pins s σ H x y v u Q I rx ry ⟨a, b, xs, ys, e1, e2, ha, hb, hx, hz, q1 hx, q2 hx⟩
theorem qaX (K : PySem.W.Frag) (hu : X.A.units < cLine) (hK : X.K = K := by rfl) : OpR X (compareOp .NotEq) (rNeTs K) := by
 subst hK
 intro pins s σ H x y v u Q I rx ry h
 obtain ⟨p, q, xs, ys, rfl, rfl, hp, hq, fx, fy, k⟩ := h
 cases rx
 cases ry
 obtain ⟨ia, ra, pa, _⟩ := I.tuple hp
 obtain ⟨ib, rb, pb, _⟩ := I.tuple hq
 have la := ra.length
 have lb := rb.length
 refine SeqAt.RcNeAt.tuples (e := fun j => eqV (xs.getD j .non) (ys.getD j .non)) (show s.heap.IsTuple p ia.toArray from pa) (show s.heap.IsTuple q ib.toArray from pb) hu (fun j h1 h2 => q6r (q0v ra h1) (q0v rb h2) (q8t fx j) (q8t fy j)) _ _ _ _ ⟨.bl (!eqVs xs ys), H, I, ?_, k⟩
 show Value.bool _ = Value.bool _
 unfold eqVs
 rw [<- q4p, Bool.and_comm]
 simp [la, lb]
end
section
variable {H : Hp} {Q : VK} {K : PySem.W.Frag}
theorem r_neT {p q : Addr} {xs ys : List V} (h1 : SqT K H p xs) (h2 : SqT K H q ys) (f1 : xs.all q3i = true) (f2 : ys.all q3i = true) (k : Q (.bl (!eqVs xs ys)) H) : rNeTs K (.ref p) (.ref q) H Q := ⟨p, q, xs, ys, rfl, rfl, h1, h2, f1, f2, k⟩
theorem qaP {p q : Addr} {ys : List V} (h1 : SqT K H p []) (h2 : SqT K H q ys) (hz : ys.length <= sizeLine) (k : Q (.ref q) H) : q6d K (.ref p) (.ref q) H Q :=
 ⟨p, q, [], ys, rfl, rfl, h1, h2, by simpa using hz, fun _ => k, fun e => (e rfl).elim, fun e => (e rfl).elim⟩
theorem qaO {p q : Addr} {x : V} {xs : List V} (h1 : SqT K H p (x :: xs)) (h2 : SqT K H q []) (hz : (x :: xs).length <= sizeLine) (k : Q (.ref p) H) : q6d K (.ref p) (.ref q) H Q :=
 ⟨p, q, x :: xs, [], rfl, rfl, h1, h2, by simpa using hz, fun e => by simp at e, fun _ _ => k, fun _ e => (e rfl).elim⟩
theorem q1C {p q : Addr} {x y : V} {xs ys : List V} (h1 : SqT K H p (x :: xs)) (h2 : SqT K H q (y :: ys)) (hz : Nat.ble ((x :: xs).length + (y :: ys).length) sizeLine = true) (k : ∀ r, H r = none -> Q (.ref r) (upd H r (.tup (x :: xs ++ y :: ys)))) : q6d K (.ref p) (.ref q) H Q :=
 ⟨p, q, x :: xs, y :: ys, rfl, rfl, h1, h2, Nat.le_of_ble_eq_true hz, fun e => by simp at e, fun _ e => by simp at e, fun _ _ => k⟩
end
end L2
namespace Ce
open PySem L2
def q9H (g : Gt) (f : Int -> Int) (op : Bool) (bars wt : Int) : Bool := match g with
 | .plain => true
 | .door _ => op
 | .need k => decide (0 < f k)
 | .bar b => bit bars b.toNat
 | .wade h k => decide (wt <= h) || decide (0 < f k)
 | .float h => decide (h <= wt)
inductive Wd where
 | go | pull | take | turn | unlock
 deriving DecidableEq
def Wd.str : Wd -> Str
 | .go => "go"
 | .pull => "pull"
 | .take => "take"
 | .turn => "turn"
 | .unlock => "unlock"
def Wd.part : Wd -> Int
 | .go => 3
 | .pull => 5
 | .take => 4
 | .turn => 6
 | .unlock => 3
structure Sd where
 rm : Int
 tk : Int
 op : Int
 b : Int
 wt : Int
def Sd.vs (s : Sd) : List V := [.int s.rm, .int s.tk, .int s.op, .int s.b, .int s.wt]
def Sd.ok (C : Cl) (s : Sd) : Prop := StOk C s.rm s.tk s.op s.b s.wt
def q2o (x : Way) (rm : Int) : Bool := decide (rm = x.a) || (decide (rm = x.b) && x.back)
def canB (C : Cl) (s : Sd) (i : Nat) : Wd -> Bool
 | .go => match C.ways[i]? with
  | some x => q2o x s.rm && q9H x.g (hold C s.tk s.op) (bit s.op i) s.b s.wt
  | none => false
 | .pull => match C.levers[i]? with
  | some x => decide (s.rm = x.1)
  | none => false
 | .take => match C.things[i]? with
  | some x => decide (s.rm = x.1) && !bit s.tk i
  | none => false
 | .turn => match C.wheels[i]? with
  | some x => decide (s.rm = x.1) && !decide (s.wt = x.2)
  | none => false
 | .unlock => match C.ways[i]? with
  | some x => match x.g.dk with
   | some k => (q2o x s.rm && !bit s.op i) && decide (0 < hold C s.tk s.op k)
   | none => false
  | none => false
def q2D (C : Cl) (s : Sd) (i : Nat) : Wd -> Sd
 | .go => match C.ways[i]? with
  | some x => { s with rm := if s.rm = x.a then x.b else x.a }
  | none => s
 | .pull => match C.levers[i]? with
  | some x => { s with b := Builtin.bitXor s.b x.2 }
  | none => s
 | .take => { s with tk := s.tk + 2 ^ i }
 | .turn => match C.wheels[i]? with
  | some x => { s with wt := x.2 }
  | none => s
 | .unlock => { s with op := s.op + 2 ^ i }
def Cl.num (C : Cl) : Wd -> Nat
 | .go => C.ways.length
 | .pull => C.levers.length
 | .take => C.things.length
 | .turn => C.wheels.length
 | .unlock => C.ways.length
def canD (C : Cl) (s : Sd) (d : Wd) (n : Int) : Bool := !decide (s.rm = C.lst) && (decide (0 <= n) && canB C s n.toNat d)
def q0K (C : Cl) (s : Sd) (d : Wd) (n : Int) : Sd := q2D C s n.toNat d
theorem q8O {C : Cl} {s : Sd} {i : Nat} {d : Wd} (h : canB C s i d = true) : i < C.num d := by
 cases d <;> simp only [canB] at h
 ·cases e : C.ways[i]? with
  | none => rw [e] at h; simp at h
  | some x => exact (List.getElem?_eq_some_iff.mp e).1
 ·cases e : C.levers[i]? with
  | none => rw [e] at h; simp at h
  | some x => exact (List.getElem?_eq_some_iff.mp e).1
 ·cases e : C.things[i]? with
  | none => rw [e] at h; simp at h
  | some x => exact (List.getElem?_eq_some_iff.mp e).1
 ·cases e : C.wheels[i]? with
  | none => rw [e] at h; simp at h
  | some x => exact (List.getElem?_eq_some_iff.mp e).1
 ·cases e : C.ways[i]? with
  | none => rw [e] at h; simp at h
  | some x => exact (List.getElem?_eq_some_iff.mp e).1
theorem q8N {C : Cl} {s : Sd} {d : Wd} {n : Int} (h : s.rm = C.lst) : canD C s d n = false := by simp [canD, h]
theorem q6C {C : Cl} {s : Sd} {d : Wd} {n : Int} (h : n < 0) : canD C s d n = false := by
 have : ¬ 0 <= n := by omega
 simp [canD, this]
theorem q5Y {C : Cl} {s : Sd} {d : Wd} {n : Int} (h : ¬ n < C.num d) : canD C s d n = false := by
 by_cases h0 : 0 <= n
 ·have : canB C s n.toNat d = false := by
   cases e : canB C s n.toNat d with
   | false => rfl
   | true => have := q8O e; omega
  simp [canD, this]
 ·exact q6C (by omega)
theorem qbE {C : Cl} {s : Sd} {d : Wd} {i : Nat} (h : ¬ s.rm = C.lst) : canD C s d (i : Int) = canB C s i d := by
 have : (0 : Int) <= (i : Int) := by omega
 simp [canD, h, this]
theorem q1u {C : Cl} {s : Sd} {d : Wd} {n : Int} (h : canD C s d n = true) : ¬ s.rm = C.lst /\ ∃ i : Nat, n = (i : Int) /\ i < C.num d /\ canB C s i d = true := by
 unfold canD at h
 simp only [Bool.and_eq_true, Bool.not_eq_true', decide_eq_false_iff_not, decide_eq_true_eq] at h
 exact ⟨h.1, n.toNat, by omega, q8O h.2.2, h.2.2⟩
theorem q8U {x : Int} {w : Nat} (h : bit x w = false) : Builtin.bitOr x (2 ^ w) = x + 2 ^ w := by
 rw [PyProof.Rows.bitOr_and, PySem.W.kbt_bit]
 have : x / 2 ^ w % 2 = 0 := by
  unfold bit at h
  have h' := of_decide_eq_false h
  omega
 rw [this]
 simp
theorem q3p (x y : Nat) : x + y = (x ^^^ y) + 2 * (x &&& y) := by
 have key : ∀ n x y, x < 2 ^ n -> y < 2 ^ n -> x + y = (x ^^^ y) + 2 * (x &&& y) := by
  intro n
  induction n with
  | zero => intro x y hx hy; have : x = 0 := by simpa using hx
            have : y = 0 := by simpa using hy
            subst_vars; rfl
  | succ n ih =>
   intro x y hx hy
   have h := ih (x / 2) (y / 2) (by rw [Nat.pow_succ] at hx; omega) (by rw [Nat.pow_succ] at hy; omega)
   have e1 : (x ^^^ y) / 2 = (x / 2) ^^^ (y / 2) := Nat.xor_div_two
   have e2 : (x &&& y) / 2 = (x / 2) &&& (y / 2) := Nat.and_div_two
   have m1 : (x ^^^ y) % 2 = (x % 2 + y % 2) % 2 := by
    have h1 : (x ^^^ y) % 2 = (x % 2) ^^^ (y % 2) := Nat.xor_mod_two_pow (n := 1)
    rw [h1]
    have a : x % 2 = 0 \/ x % 2 = 1 := by omega
    have b : y % 2 = 0 \/ y % 2 = 1 := by omega
    rcases a with a | a <;> rcases b with b | b <;> simp [a, b]
   have m2 : (x &&& y) % 2 = (x % 2) * (y % 2) := by
    have h1 : (x &&& y) % 2 = (x % 2) &&& (y % 2) := Nat.and_mod_two_pow (n := 1)
    rw [h1]
    have a : x % 2 = 0 \/ x % 2 = 1 := by omega
    have b : y % 2 = 0 \/ y % 2 = 1 := by omega
    rcases a with a | a <;> rcases b with b | b <;> simp [a, b]
   have a : x % 2 = 0 \/ x % 2 = 1 := by omega
   have b : y % 2 = 0 \/ y % 2 = 1 := by omega
   rw [<- e1, <- e2] at h
   rcases a with a | a <;> rcases b with b | b <;> rw [a, b] at m1 m2 <;> omega
 exact key (x + y) x y (Nat.lt_of_le_of_lt (Nat.le_add_right x y) Nat.lt_two_pow_self) (Nat.lt_of_le_of_lt (Nat.le_add_left y x) Nat.lt_two_pow_self)
theorem qaw {x y : Int} (hx : 0 <= x) (hy : 0 <= y) : Builtin.bitXor x y = ((x.toNat ^^^ y.toNat : Nat) : Int) := by
 rw [PyProof.Rows.bitXor_and, PyProof.Rows.bitAnd_pp hx hy]
 have := q3p x.toNat y.toNat
 omega
theorem q7c {x y : Int} (hx : 0 <= x) (hx' : x <= 255) (hy : 0 <= y) (hy' : y <= 255) : 0 <= Builtin.bitXor x y /\ Builtin.bitXor x y <= 255 := by
 rw [qaw hx hy]
 have : x.toNat ^^^ y.toNat < 2 ^ 8 := Nat.xor_lt_two_pow (by omega) (by omega)
 omega
theorem q8V {x i : Nat} (h : x.testBit i = false) : x + 2 ^ i = x ^^^ 2 ^ i := by
 have h1 := q3p x (2 ^ i)
 have h2 : x &&& 2 ^ i = 0 := by
  apply Nat.eq_of_testBit_eq
  intro j
  rw [Nat.testBit_and, Nat.testBit_two_pow, Nat.zero_testBit]
  by_cases e : i = j
  ·rw [<- e, h]; simp
  ·simp [e]
 omega
theorem q3o {x : Int} {i : Nat} (h0 : 0 <= x) (h : bit x i = false) (j : Nat) : bit (x + 2 ^ i) j = (decide (i = j) ^^ bit x j) := by
 obtain ⟨n, rfl⟩ : ∃ n : Nat, x = (n : Int) := ⟨x.toNat, by omega⟩
 have hp := q1M i
 have e : ((n : Int) + 2 ^ i) = ((n + 2 ^ i : Nat) : Int) := by rw [Int.natCast_add, Int.natCast_pow]; rfl
 rw [q2Z h0, Int.toNat_natCast] at h
 rw [e, q2Z (by omega), q2Z h0, Int.toNat_natCast, Int.toNat_natCast, q8V h, Nat.testBit_xor, Nat.testBit_two_pow, Bool.xor_comm]
theorem qav {x : Int} {i m : Nat} (h0 : 0 <= x) (h1 : x < 2 ^ m) (hi : i < m) (h : bit x i = false) : 0 <= x + 2 ^ i /\ x + 2 ^ i < 2 ^ m := by
 obtain ⟨n, rfl⟩ : ∃ n : Nat, x = (n : Int) := ⟨x.toNat, by omega⟩
 have hp := q1M i
 have e : ((n : Int) + 2 ^ i) = ((n + 2 ^ i : Nat) : Int) := by rw [Int.natCast_add, Int.natCast_pow]; rfl
 have em : (2 : Int) ^ m = ((2 ^ m : Nat) : Int) := by rw [Int.natCast_pow]; rfl
 rw [q2Z h0, Int.toNat_natCast] at h
 rw [em] at h1
 have hn : n < 2 ^ m := by omega
 have : n ^^^ 2 ^ i < 2 ^ m := Nat.xor_lt_two_pow hn (Nat.pow_lt_pow_right (by decide) hi)
 rw [e, em, q8V h]
 omega
theorem q5X {P R : Nat -> Bool} {i : Nat} (h : ∀ j, j ≠ i -> R j = P j) (hi : P i = false) : ∀ m, cnt R m = cnt P m + (if i < m then (if R i = true then 1 else 0) else 0)
 | 0 => by simp [cnt]
 | m + 1 => by
  show cnt R m + _ = cnt P m + _ + _
  rw [q5X h hi m]
  by_cases e : m = i
  ·subst e
   rw [if_neg (Nat.lt_irrefl _), if_pos (Nat.lt_succ_self _), hi]
   simp
  ·rw [h m e]
   by_cases h2 : i < m
   ·rw [if_pos h2, if_pos (show i < m + 1 by omega), Nat.add_right_comm]
   ·rw [if_neg h2, if_neg (show ¬ i < m + 1 by omega), Nat.add_right_comm]
theorem q8l {C : Cl} {tk op : Int} {i : Nat} (h0 : 0 <= tk) (hi : i < C.things.length) (hb : bit tk i = false) (k : Int) : hold C (tk + 2 ^ i) op k = hold C tk op k + (if C.things[i].2 = k then 1 else 0) := by
 unfold hold
 have e : cnt (tP C (tk + 2 ^ i) k) C.things.length = cnt (tP C tk k) C.things.length + (if C.things[i].2 = k then 1 else 0) := by
  rw [q5X (P := tP C tk k) (i := i) (fun j hj => by simp [tP, q3o h0 hb, show ¬ i = j from fun z => hj z.symm]) (by simp [tP, hb]), if_pos hi]
  congr 1
  simp only [tP, q3o h0 hb, hb]
  by_cases ek : C.things[i].2 = k
  ·simp [ek, hi]
  ·simp [ek, hi]
 rw [e]
 split <;> omega
theorem q5M {C : Cl} {tk op : Int} {i : Nat} (h0 : 0 <= op) (hi : i < C.ways.length) (hb : bit op i = false) (k : Int) : hold C tk (op + 2 ^ i) k = hold C tk op k - (if C.ways[i].g.dk = some k then 1 else 0) := by
 unfold hold
 have eds : dsOf C i = C.ways[i].g.dk := by simp [dsOf, hi]
 have e : cnt (dP (dsOf C) (op + 2 ^ i) k) C.ways.length = cnt (dP (dsOf C) op k) C.ways.length + (if C.ways[i].g.dk = some k then 1 else 0) := by
  rw [q5X (P := dP (dsOf C) op k) (i := i) (fun j hj => by simp [dP, q3o h0 hb, show ¬ i = j from fun z => hj z.symm]) (by simp [dP, hb]), if_pos hi]
  congr 1
  simp only [dP, q3o h0 hb, hb, eds]
  by_cases ek : C.ways[i].g.dk = some k
  ·simp [ek]
  ·simp [ek]
 rw [e]
 split <;> omega
theorem q4l {C : Cl} {s : Sd} {d : Wd} {n : Int} (ok : ClOk C) (h : s.ok C) (hc : canD C s d n = true) : (q0K C s d n).ok C := by
 obtain ⟨hl, i, rfl, hi, hb⟩ := q1u hc
 unfold q0K
 rw [Int.toNat_natCast]
 obtain ⟨h1, h2, h3, h4, h5, h6, h7⟩ := id h
 cases d with
 | go =>
  have hi' : i < C.ways.length := hi
  have w := ok.w _ (List.getElem_mem hi')
  simp only [q2D, List.getElem?_eq_getElem hi']
  refine ⟨?_, h2, h3, h4, h5, h6, h7⟩
  by_cases e : s.rm = C.ways[i].a
  ·simp only [e, if_true]
   exact w.2.1
  ·simp only [e, if_false]
   exact w.1
 | pull =>
  have hi' : i < C.levers.length := hi
  have w := ok.lv _ (List.getElem_mem hi')
  simp only [q2D, List.getElem?_eq_getElem hi']
  exact ⟨h1, h2, h3, h4, q7c h5.1 h5.2 (by omega) w.2.2, h6, h7⟩
 | take =>
  have hi' : i < C.things.length := hi
  have ho : bit s.tk i = false := by
   simp only [canB, List.getElem?_eq_getElem hi', Bool.and_eq_true, Bool.not_eq_true'] at hb
   exact hb.2
  refine ⟨h1, qav h2.1 h2.2 hi' ho, h3, h4, h5, h6, fun k k0 k1 => ?_⟩
  show 0 <= hold C (s.tk + 2 ^ i) s.op k
  rw [q8l h2.1 hi' ho]
  have := h7 k k0 k1
  split <;> omega
 | turn =>
  have hi' : i < C.wheels.length := hi
  have w := ok.wh _ (List.getElem_mem hi')
  simp only [q2D, List.getElem?_eq_getElem hi']
  exact ⟨h1, h2, h3, h4, h5, w.2, h7⟩
 | unlock =>
  have hi' : i < C.ways.length := hi
  have eds : dsOf C i = C.ways[i].g.dk := by simp [dsOf, hi']
  cases hk : C.ways[i].g.dk with
  | none => simp [canB, hi', hk] at hb
  | some kd =>
   simp only [canB, List.getElem?_eq_getElem hi', hk, Bool.and_eq_true, Bool.not_eq_true', decide_eq_true_eq] at hb
   refine ⟨h1, h2, qav h3.1 h3.2 hi' hb.1.2, fun j hj hbj => ?_, h5, h6, fun k k0 k1 => ?_⟩
   ·replace hbj : bit (s.op + 2 ^ i) j = true := hbj
    rw [q3o h3.1 hb.1.2] at hbj
    by_cases e : i = j
    ·rw [<- e, eds, hk]; rfl
    ·have : bit s.op j = true := by simpa [e] using hbj
     exact h4 j hj this
   ·show 0 <= hold C s.tk (s.op + 2 ^ i) k
    rw [q5M h3.1 hi' hb.1.2, hk]
    have := h7 k k0 k1
    by_cases e : kd = k
    ·rw [if_pos (by rw [e]), <- e]; omega
    ·rw [if_neg (by intro z; exact e (Option.some.inj z))]; omega
def rowD (d : Wd) (n : Nat) : List (Wd × Nat) := (List.range n).map fun i => (d, i)
theorem q1L (d : Wd) (n : Nat) : (rowD d n).length = n := by simp [rowD]
theorem q7B (d : Wd) (n : Nat) : rowD d (n + 1) = rowD d n ++ [(d, n)] := by simp [rowD, List.range_succ]
def allD (C : Cl) : List (Wd × Nat) := rowD .go C.ways.length ++ rowD .pull C.levers.length ++ rowD .take C.things.length ++ rowD .turn C.wheels.length ++ rowD .unlock C.ways.length
def fitD (C : Cl) (s : Sd) : List (Wd × Nat) := (allD C).filter fun x => canD C s x.1 (x.2 : Int)
theorem q6D {C : Cl} (ok : ClOk C) : (allD C).length <= 56 := by
 have := ok.wl
 have := ok.tl
 have := ok.ll
 have := ok.vl
 simp only [allD, List.length_append, q1L]
 omega
theorem q4k {C : Cl} (ok : ClOk C) (s : Sd) : (fitD C s).length <= 56 := Nat.le_trans (List.length_filter_le _ _) (q6D ok)
theorem q9E {d d' : Wd} {n i : Nat} : (d', i) ∈ rowD d n ↔ d' = d /\ i < n := by
 simp only [rowD, List.mem_map, List.mem_range, Prod.mk.injEq]
 constructor
 ·rintro ⟨j, h, rfl, rfl⟩; exact ⟨rfl, h⟩
 ·rintro ⟨rfl, h⟩; exact ⟨i, h, rfl, rfl⟩
theorem q9F {C : Cl} {d : Wd} {i : Nat} : (d, i) ∈ allD C ↔ i < C.num d := by
 simp only [allD, List.mem_append, q9E]
 cases d <;> simp [Cl.num]
theorem q2W {C : Cl} {s : Sd} {d : Wd} {i : Nat} : (d, i) ∈ fitD C s ↔ canD C s d (i : Int) = true := by
 simp only [fitD, List.mem_filter, q9F]
 constructor
 ·exact fun h => h.2
 ·intro h
  obtain ⟨_, j, e, hj, _⟩ := q1u h
  have : i = j := by omega
  exact ⟨by rw [this]; exact hj, h⟩
theorem go_of {C : Cl} {s : Sd} {i : Nat} (hc : canD C s .go (i : Int) = true) : ∃ x, C.ways[i]? = some x /\ q2o x s.rm = true /\ q9H x.g (hold C s.tk s.op) (bit s.op i) s.b s.wt = true /\ ¬ s.rm = C.lst /\ q0K C s .go (i : Int) = { s with rm := if s.rm = x.a then x.b else x.a } := by
 obtain ⟨hl, j, e, hi, hb⟩ := q1u hc
 have e' : i = j := by omega
 subst e'
 have hi' : i < C.ways.length := hi
 have hx : C.ways[i]? = some C.ways[i] := List.getElem?_eq_getElem hi'
 simp only [canB, hx, Bool.and_eq_true] at hb
 exact ⟨C.ways[i], hx, hb.1, hb.2, hl, by unfold q0K; rw [Int.toNat_natCast]; simp [q2D, hi']⟩
end Ce
namespace L2
open PySem PySem.Spec PyProof.Rows
section
variable {X : Cx} {o e : Expr} {es : List Expr} {m : Str} {apos pos : Pos} {k k' : Nat} {ta : TE} {t : TA}
theorem q6g {pl : Sem Bool} (P : Program) (w : World) (K : PySem.W.Frag) (mg : Str -> Option Value) (base : Heap) (hr : Room k' X.A) (hk : k <= k') (he : PE X o ta) (ha : PA X (e :: es) t)
  (e1 : X.prog = P := by rfl) (e2 : X.w = w := by rfl) (e3 : X.K = K := by rfl) (e4 : X.mg = mg := by rfl) (e5 : X.base = base := by rfl)
  (hst : starEach (e :: es) X.env = (false, eval e X.env) :: starEach es X.env := by rfl) (hpl : (backTo pos (starEach es X.env)).any (·.1) = false := by rfl)
  (ht : eval (.Call (.Attribute o m apos) (e :: es) [] pos) X.env = (do
   let ov <- eval o X.env
   standAt apos.atName
   let (f, first) <- holding [ov] (getMethod ov m pl)
   callWith pos f first (backTo pos (starEach (e :: es) X.env)) (backToKw pos (keywordEach [] X.env))) := by rfl) :
  PE X (.Call (.Attribute o m apos) (e :: es) [] pos) (tVM P w K mg base k m ta t) := by
 subst e1 e2 e3 e4 e5
 exact q2x (hr.mono hk) he ha hst hpl ht
theorem q7M {pl : Sem Bool} (P : Program) (w : World) (K : PySem.W.Frag) (mg : Str -> Option Value) (base : Heap) (hr : Room k' X.A) (hk : k <= k') (he : PE X o ta)
  (e1 : X.prog = P := by rfl) (e2 : X.w = w := by rfl) (e3 : X.K = K := by rfl) (e4 : X.mg = mg := by rfl) (e5 : X.base = base := by rfl)
  (ht : eval (.Call (.Attribute o m apos) [] [] pos) X.env = (do
   let ov <- eval o X.env
   standAt apos.atName
   let (f, first) <- holding [ov] (getMethod ov m pl)
   callWith pos f first (backTo pos (starEach [] X.env)) (backToKw pos (keywordEach [] X.env))) := by rfl) :
  PE X (.Call (.Attribute o m apos) [] [] pos) (tVM P w K mg base k m ta tNil) := by
 subst e1 e2 e3 e4 e5
 exact pe_vm0 (hr.mono hk) he ht
end
end L2
namespace L2
open PySem PySem.Spec PyProof.Rows
end L2
namespace L2
open PySem PySem.Spec PyProof.Rows
end L2
namespace L2
open PySem PySem.Spec PyProof.Rows
end L2
namespace L2
open PySem PySem.Spec PyProof.Rows
end L2
namespace L2
open PySem PySem.Spec PyProof.Rows
end L2
namespace L2
open PySem PySem.Spec PyProof.Rows
end L2
namespace L2
open PySem PySem.Spec PyProof.Rows
end L2
namespace L2
open PySem PySem.Spec PyProof.Rows
end L2
namespace L2
open PySem PySem.Spec PyProof.Rows
end L2
namespace L2
open PySem PySem.Spec PyProof.Rows
end L2
namespace L2
open PySem PySem.Spec PyProof.Rows
section
variable {κ : Type} [DecidableEq κ]
def valV (kvs : List (κ × V)) (k : κ) : Option V := (kvs.find? fun kv => decide (kv.1 = k)).map (·.2)
def putK (kvs : List (κ × V)) (k : κ) (v : V) : List (κ × V) :=
 if (kvs.any fun kv => decide (kv.1 = k)) = true then kvs.map (fun kv => if kv.1 = k then (kv.1, v) else kv) else kvs ++ [(k, v)]
theorem q2O {p : κ × V} {r : List (κ × V)} {k : κ} (e : p.1 = k) : valV (p :: r) k = some p.2 := by simp [valV, List.find?_cons, e]
theorem q2P {p : κ × V} {r : List (κ × V)} {k : κ} (e : ¬ p.1 = k) : valV (p :: r) k = valV r k := by simp [valV, List.find?_cons, e]
theorem q3Q (k : κ) : ∀ kvs : List (κ × V), (kvs.any fun kv => decide (kv.1 = k)) = (valV kvs k).isSome
 | [] => rfl
 | p :: r => by
  rw [List.any_cons]
  by_cases e : p.1 = k
  ·simp only [q2O e, decide_eq_true e, Bool.true_or, Option.isSome_some]
  ·rw [q2P e, decide_eq_false e, Bool.false_or]; exact q3Q k r
theorem q3c (kvs : List (κ × V)) (k : κ) (v : V) : (putK kvs k v).length <= kvs.length + 1 := by
 unfold putK
 split
 ·rw [List.length_map]; omega
 ·rw [List.length_append, List.length_cons, List.length_nil]; omega
theorem RelO.isSome_eq {o : Option V} {u : Option Value} (r : RelO o u) : o.isSome = u.isSome := by
 cases o with
 | none => cases u with
  | none => rfl
  | some _ => exact (show False from r).elim
 | some _ => cases u with
  | none => exact (show False from r).elim
  | some _ => rfl
theorem KV.val {kvs : List (κ × V)} {vs : List (κ × Value)} (r : KV kvs vs) (k : κ) : RelO (valV kvs k) (valueAt vs k) := by
 unfold KV at r
 induction r with
 | nil => exact True.intro
 | @cons p q ps qs h t ih =>
  obtain ⟨h1, h2⟩ := h
  by_cases e : p.1 = k
  ·have e' : q.1 = k := h1.symm.trans e
   have b : valueAt (q :: qs) k = some q.2 := by simp [valueAt, List.find?_cons, e']
   rw [q2O e, b]; exact h2
  ·have e' : ¬ q.1 = k := fun z => e (h1.trans z)
   have b : valueAt (q :: qs) k = valueAt qs k := by simp [valueAt, List.find?_cons, e']
   rw [q2P e, b]; exact ih
theorem KV.any {kvs : List (κ × V)} {vs : List (κ × Value)} (r : KV kvs vs) (k : κ) : (kvs.any fun kv => decide (kv.1 = k)) = vs.any fun kv => decide (kv.1 = k) := by
 unfold KV at r
 induction r with
 | nil => rfl
 | cons h t ih => rw [List.any_cons, List.any_cons, ih, h.1]
theorem KV.repl {kvs : List (κ × V)} {vs : List (κ × Value)} (r : KV kvs vs) (k : κ) {y : V} {u : Value} (ry : RelV y u) :
  KV (kvs.map fun kv => if kv.1 = k then (kv.1, y) else kv) (vs.map fun kv => if kv.1 = k then (kv.1, u) else kv) := by
 unfold KV at r ⊢
 induction r with
 | nil => exact .nil
 | @cons p q ps qs h t ih =>
  rw [List.map_cons, List.map_cons]
  refine .cons ?_ ih
  obtain ⟨h1, h2⟩ := h
  by_cases e : p.1 = k
  ·rw [if_pos e, if_pos (h1.symm.trans e)]; exact ⟨h1, ry⟩
  ·rw [if_neg e, if_neg (fun z => e (h1.trans z))]; exact ⟨h1, h2⟩
theorem KV.put {kvs : List (κ × V)} {vs : List (κ × Value)} (r : KV kvs vs) (k : κ) {y : V} {u : Value} (ry : RelV y u) : KV (putK kvs k y) (stored vs k u) := by
 unfold putK stored
 rw [r.any k]
 by_cases e : (vs.any fun kv => decide (kv.1 = k)) = true
 ·rw [if_pos e, if_pos e]; exact r.repl k ry
 ·rw [if_neg e, if_neg e]; exact Paired.snoc r ⟨rfl, ry⟩
theorem KV.length {kvs : List (κ × V)} {vs : List (κ × Value)} (r : KV kvs vs) : kvs.length = vs.length := Paired.length r
end
theorem q8c {P : Program} {w : World} {k : Key} {u : Value} (r : RelV (kV k) u) : (qE P w).is k u = true := by
 cases k with
 | inl i => obtain ⟨t, e⟩ := (show ∃ t, u = Value.int i t from r); subst e; exact q5I P w i t
 | inr x => obtain ⟨t, e⟩ := (show ∃ t, u = Value.str x t from r); subst e; exact q5H P w x t
theorem q5d {P : Program} {w : World} : ∀ {ks : List Key} {us : List Value}, Vals (ks.map kV) us -> ItemsAre (qE P w) ks us
 | [], _, r => by rw [List.map_nil] at r; cases r; exact .nil
 | k :: ks, _, r => by
  rw [List.map_cons] at r
  cases r with
  | cons h t => exact .cons (q8c h) (q5d t)
abbrev KT (H : Hp) : List (List Key × V) -> List (List Key × Addr × Value) -> Prop := Paired fun p q => p.1 = q.1 /\ H q.2.1 = some (.tup (p.1.map kV)) /\ RelV p.2 q.2.2
theorem KT.val {H : Hp} {kvs : List (List Key × V)} {xs : List (List Key × Addr × Value)} (r : KT H kvs xs) (k : List Key) : RelO (valV kvs k) ((atKey xs k).map (·.2)) := by
 induction r with
 | nil => exact True.intro
 | @cons p q ps qs h t ih =>
  obtain ⟨h1, _, h2⟩ := h
  by_cases e : p.1 = k
  ·have e' : q.1 = k := h1.symm.trans e
   have b : atKey (q :: qs) k = some q.2 := by simp [atKey, List.find?_cons, e']
   rw [q2O e, b]; exact h2
  ·have e' : ¬ q.1 = k := fun z => e (h1.trans z)
   have b : atKey (q :: qs) k = atKey qs k := by simp [atKey, List.find?_cons, e']
   rw [q2P e, b]; exact ih
theorem KT.repl {H : Hp} {kvs : List (List Key × V)} {xs : List (List Key × Addr × Value)} (r : KT H kvs xs) (k : List Key) {y : V} {u : Value} (ry : RelV y u) :
  KT H (kvs.map fun kv => if kv.1 = k then (kv.1, y) else kv) (xs.map (putAt k u)) := by
 induction r with
 | nil => exact .nil
 | @cons p q ps qs h t ih =>
  rw [List.map_cons, List.map_cons]
  refine .cons ?_ ih
  obtain ⟨h1, h2, h3⟩ := h
  unfold putAt
  by_cases e : p.1 = k
  ·rw [if_pos e, if_pos (h1.symm.trans e)]; exact ⟨h1, h2, ry⟩
  ·rw [if_neg e, if_neg (fun z => e (h1.trans z))]; exact ⟨h1, h2, h3⟩
theorem KT.put {H : Hp} {kvs : List (List Key × V)} {xs : List (List Key × Addr × Value)} (r : KT H kvs xs) (k : List Key) {b : Addr} {y : V} {u : Value} (hb : H b = some (.tup (k.map kV))) (ry : RelV y u) :
  KT H (putK kvs k y) (storedH xs k b u) := by
 have e : (kvs.any fun kv => decide (kv.1 = k)) = (atKey xs k).isSome := by
  rw [q3Q, (r.val k).isSome_eq, Option.isSome_map]
 unfold putK storedH
 rw [e]
 by_cases q : (atKey xs k).isSome = true
 ·rw [if_pos q, if_pos q]; exact r.repl k ry
 ·rw [if_neg q, if_neg q]; exact Paired.snoc r ⟨rfl, hb, ry⟩
theorem KT.keeps {H H' : Hp} {kvs : List (List Key × V)} {xs : List (List Key × Addr × Value)} (r : KT H kvs xs) (ht : ∀ b ys, H b = some (.tup ys) -> H' b = some (.tup ys)) : KT H' kvs xs :=
 Paired.mapP r fun _ _ z => ⟨z.1, ht _ _ z.2.1, z.2.2⟩
section
variable {P : Program} {w : World} {H : Hp} {h : Heap} {a : Addr}
theorem rd_of {u : HO} (ok : HOk P w H h) (e : Rd H a u) : q06 P w H h a u := e.ok ok
theorem q8y {kvs : List (Key × V)} (ok : HOk P w H h) (e : Rd H a (.dK kvs)) : kvs.length <= sizeLine /\ (a == sysModules) = false /\ ∃ vs, KV kvs vs /\ h.DictOf (qE P w) a vs :=
 show q06 P w H h a (.dK kvs) from rd_of ok e
theorem dk_of {kvs : List (Key × V)} (ok : HOk P w H h) (e : H a = some (.dK kvs)) : kvs.length <= sizeLine /\ (a == sysModules) = false /\ ∃ vs, KV kvs vs /\ h.DictOf (qE P w) a vs := q8y ok (.inl e)
theorem q1F {ks : List Key} (ok : HOk P w H h) (e : H a = some (.tup (ks.map kV))) : (tupleKind (qE P w)).is h ks a := by
 obtain ⟨_, its, r, o, h1, h2, n, h3⟩ := (show q06 P w H h a (.tup (ks.map kV)) from ok a _ e)
 exact ⟨o, its.toArray, n, h1, h2, h3, by simpa using q5d r⟩
theorem q8v {kvs : List (List Key × V)} (ok : HOk P w H h) (e : Rd H a (.dT kvs)) : kvs.length <= sizeLine /\ (a == sysModules) = false /\
  ∃ xs, KT H kvs xs /\ h.DictOfH (tupleKind (qE P w)) a xs := by
 obtain ⟨z, y, xs, r, o, es, ep, h1, h2, h3, h4, h5⟩ := (show q06 P w H h a (.dT kvs) from rd_of ok e)
 refine ⟨z, y, xs, r, o, es, ep, h1, h2, h3, h4, fun x hx => ?_, h5⟩
 have all : ∀ {l : List (List Key × V)} {m : List (List Key × Addr × Value)}, KT H l m -> ∀ x ∈ m, (tupleKind (qE P w)).is h x.1 x.2.1 := by
  intro l m q
  induction q with
  | nil => intro x hx; exact nomatch hx
  | @cons p q ps qs hq t ih =>
   intro x hx
   rcases List.mem_cons.mp hx with e | hx
   ·subst e
    exact q1F ok (by rw [<- hq.1]; exact hq.2.1)
   ·exact ih x hx
 exact all r x hx
theorem dt_of {kvs : List (List Key × V)} (ok : HOk P w H h) (e : H a = some (.dT kvs)) : kvs.length <= sizeLine /\ (a == sysModules) = false /\
  ∃ xs, KT H kvs xs /\ h.DictOfH (tupleKind (qE P w)) a xs := q8v ok (.inl e)
end
def DGet (H : Hp) (a : Addr) (y : V) (r : Option V) : Prop :=
 (∃ kvs k, Rd H a (.dK kvs) /\ y = kV k /\ r = valV kvs k) \/ ∃ kvs k b, Rd H a (.dT kvs) /\ y = .ref b /\ H b = some (.tup (k.map kV)) /\ r = valV kvs k
def DPut (H : Hp) (a : Addr) (y v : V) (H' : Hp) : Prop :=
 (∃ kvs k, H a = some (.dK kvs) /\ y = kV k /\ kvs.length < sizeLine /\ H' = upd H a (.dK (putK kvs k v))) \/
 ∃ kvs k b, H a = some (.dT kvs) /\ y = .ref b /\ H b = some (.tup (k.map kV)) /\ kvs.length < sizeLine /\ H' = upd H a (.dT (putK kvs k v))
theorem DPut.t {H : Hp} {a b : Addr} {kvs : List (List Key × V)} {k : List Key} {v : V} (e : H a = some (.dT kvs)) (eb : H b = some (.tup (k.map kV))) (hl : kvs.length < sizeLine) :
  DPut H a (.ref b) v (upd H a (.dT (putK kvs k v))) := .inr ⟨kvs, k, b, e, rfl, eb, hl, rfl⟩
section
variable {X : Cx} {pins : List (Addr × Obj)} {σ : St} {H : Hp} {s : Shared} {a : Addr} {y v : V} {u r : Value} {o : Option V} {A : Around} {E : Value -> Shared -> Prop}
theorem Inv.big (I : Inv X pins σ H s) : sysModules < s.heap.objs.size := by
 have h : mainGlobals < s.heap.objs.size := (I.mod.glob.keeps I.bk).lt
 exact Nat.lt_trans (by decide) h
theorem q8G {Q : Value -> Shared -> Prop} (hu : A.units + 1 < cLine) (I : Inv X pins σ H s) (g : DGet H a y (some v)) (ry : RelV y u) (h : ∀ w' s', Inv X pins σ H s' -> RelV v w' -> Q w' s') :
  wpAny (model X.prog X.w) A (getItem (.ref a) u) Q E s := by
 rcases g with ⟨kvs, k, e, ey, l⟩ | ⟨kvs, k, b, e, ey, eb, l⟩
 ·subst ey
  obtain ⟨z, hd, vs, rel, dd⟩ := q8y I.hok e
  obtain ⟨w', hw, rw'⟩ := RelO.some_of (v := v) (o := valueAt vs k) (by rw [l]; exact rel.val k)
  exact wpAny_getItem_of (q8c ry) dd.mapOf hw (h w' _ (I.tok _) rw')
 ·subst ey
  cases (show u = Value.ref b from ry)
  obtain ⟨z, hd, xs, rel, dd⟩ := q8v I.hok e
  obtain ⟨w', hw, rw'⟩ := RelO.some_of (v := v) (o := (atKey xs k).map (·.2)) (by rw [l]; exact rel.val k)
  obtain ⟨p, hp, hp2⟩ := Option.map_eq_some_iff.mp hw
  refine wpAny_getItem_heap (tupleKind_room_in1 hu) (q1F I.hok eb) dd hp ?_
  rw [hp2]
  exact h w' _ (I.tok _) rw'
theorem d_in {Q : Value -> Shared -> Prop} (hu : A.units + 1 < cLine) (I : Inv X pins σ H s) (g : DGet H a y o) (ry : RelV y u) (h : ∀ s', Inv X pins σ H s' -> Q (.bool o.isSome) s') :
  wpAny (model X.prog X.w) A (compareOp .In u (.ref a)) Q E s := by
 rcases g with ⟨kvs, k, e, ey, l⟩ | ⟨kvs, k, b, e, ey, eb, l⟩
 ·subst ey
  obtain ⟨z, hd, vs, rel, dd⟩ := q8y I.hok e
  refine wpAny_in_of (q8c ry) hd dd.mapOf ?_
  rw [<- (rel.val k).isSome_eq, <- l]
  exact h _ (I.tok _)
 ·subst ey
  cases (show u = Value.ref b from ry)
  obtain ⟨z, hd, xs, rel, dd⟩ := q8v I.hok e
  refine wpAny_in_heap (tupleKind_room_in1 hu) (q1F I.hok eb) hd dd ?_
  have q := (rel.val k).isSome_eq
  rw [Option.isSome_map] at q
  rw [<- q, <- l]
  exact h _ (I.tok _)
theorem qbA {Q : Value -> Shared -> Prop} (hu : A.units + 1 < cLine) (I : Inv X pins σ H s) (g : DGet H a y o) (ry : RelV y u) (h : ∀ s', Inv X pins σ H s' -> Q (.bool (!o.isSome)) s') :
  wpAny (model X.prog X.w) A (compareOp .NotIn u (.ref a)) Q E s := by
 rcases g with ⟨kvs, k, e, ey, l⟩ | ⟨kvs, k, b, e, ey, eb, l⟩
 ·subst ey
  obtain ⟨z, hd, vs, rel, dd⟩ := q8y I.hok e
  refine wpAny_notIn_of (q8c ry) hd dd.mapOf ?_
  rw [<- (rel.val k).isSome_eq, <- l]
  exact h _ (I.tok _)
 ·subst ey
  cases (show u = Value.ref b from ry)
  obtain ⟨z, hd, xs, rel, dd⟩ := q8v I.hok e
  refine wpAny_notIn_heap (tupleKind_room_in1 hu) (q1F I.hok eb) hd dd ?_
  have q := (rel.val k).isSome_eq
  rw [Option.isSome_map] at q
  rw [<- q, <- l]
  exact h _ (I.tok _)
theorem q5V {h' : Heap} {t' : Nat} {ob : HO} (I : Inv X pins σ H s) (mu : Mut (H a)) (hs : Heap.SameBut a s.heap h') (he : ∃ q, h'.get? a = some q) (new : q06 X.prog X.w (upd H a ob) h' a ob) :
  Inv X pins σ (upd H a ob) { s with heap := h', toks := t' } :=
 I.write (x := a) (e := a) mu (.inl rfl) (fun b q hb z => (hs.2 b hb).trans z) he new
theorem dk_new {P : Program} {w : World} {H' : Hp} {h' : Heap} {kvs : List (Key × V)} {vs : List (Key × Value)} (z : kvs.length <= sizeLine) (hd : (a == sysModules) = false) (rel : KV kvs vs) (dd : h'.DictOf (qE P w) a vs) :
  q06 P w H' h' a (.dK kvs) := ⟨z, hd, vs, rel, dd⟩
theorem q8F {H' : Hp} {Q : Unit -> Shared -> Prop} (hu : A.units + 1 < cLine) (I : Inv X pins σ H s) (g : DPut H a y v H') (ry : RelV y u) (rv : RelV v r) (h : ∀ s', Inv X pins σ H' s' -> Q () s') :
  wpAny (model X.prog X.w) A (setItem (.ref a) u r) Q E s := by
 rcases g with ⟨kvs, k, e, ey, l, eH⟩ | ⟨kvs, k, b, e, ey, eb, l, eH⟩
 ·subst ey eH
  obtain ⟨z, hd, vs, rel, dd⟩ := dk_of I.hok e
  have hz : vs.length <= sizeLine := by rw [<- rel.length]; exact z
  have hl : (putK kvs k v).length <= sizeLine := by have := q3c kvs k v; omega
  refine wpAny_setItem_pairs (hsz := hz) (q8c ry) dd fun h' dd' hs => h _ ?_
  have he : ∃ q, h'.get? a = some q := let ⟨q, _, _, hq, _⟩ := dd'; ⟨q, hq⟩
  exact q5V I (by rw [e]; exact True.intro) hs he (dk_new hl hd (rel.put k rv) dd')
 ·subst ey eH
  cases (show u = Value.ref b from ry)
  obtain ⟨z, hd, xs, rel, dd⟩ := dt_of I.hok e
  have hz : xs.length <= sizeLine := by rw [<- Paired.length rel]; exact z
  have hl : (putK kvs k v).length <= sizeLine := by have := q3c kvs k v; omega
  refine wpAny_setItem_heap (hsz := hz) (tupleKind_room_in1 hu) (q1F I.hok eb) dd fun h' dd' hs => h _ ?_
  obtain ⟨q, es, ep, hq, h2, h3, h4, _, h5⟩ := dd'
  refine q5V I (by rw [e]; exact True.intro) hs ⟨q, hq⟩ ⟨hl, hd, _, (rel.put k eb rv).keeps fun c ys ec => ?_, q, es, ep, hq, h2, h3, h4, h5⟩
  rw [ql (q3y ec e (fun z => nomatch z))]
  exact ec
end
def NoSl (i : Expr) : Prop := ∀ ov iv, subscripted i false ov iv = operate [ov, iv] (getItem ov iv)
theorem qaC {prog : Program} {w : World} {A : Around} {E : Value -> Shared -> Prop} {s : Shared} {env : Env} {value slice : Expr} {pos : Pos} {T id : String} {Q : Value -> Shared -> Prop}
  (hl : typeLookup (.type T) "__getitem__" = pure (some (.builtin id))) (hs : NoSl slice)
  (h : wpAny (model prog w) A (eval value env) (fun o s₁ => wpAny (model prog w) A (eval slice env) (fun i s₂ => s₂.TypeIs o T /\ wpAny (model prog w) A (getItem o i) Q E s₂) E s₁) E s) :
  wpAny (model prog w) A (eval (.Subscript value slice pos) env) Q E s := by
 refine Subscript_ (wpAny_mono h (fun o s₁ h₁ => wpAny_mono h₁ (fun i s₂ h₂ => ?_) fun _ _ x => x) fun _ _ x => x)
 obtain ⟨hT, h₂⟩ := h₂
 unfold subscriptTail
 refine wpAny_bind ?_
 rw [getitemInPython_of_ne hT.not_modules]
 refine wpAny_bind (wpAny_specialOf hT hl ?_)
 have fin : wpAny (model prog w) A (subscripted slice false o i) (fun r s₃ => wpAny (model prog w) A (letTemporaryGo value o r >>= fun _ => pure r) Q E s₃) E s₂ := by
  rw [hs o i]
  exact wpAny_operating (wpAny_mono h₂ (fun r s₃ h₃ => wpAny_bind (wpAny_letTemporaryGo (wpAny_pure h₃))) fun _ _ x => x)
 first
  | exact wpAny_pure (wpAny_bind fin)
  | exact wpAny_bind (wpAny_pure (wpAny_bind fin))
  | exact wpAny_bind fin
theorem q5S {X : Cx} {pins : List (Addr × Obj)} {σ : St} {H : Hp} {s : Shared} {a : Addr} {y : V} {o : Option V} (I : Inv X pins σ H s) (g : DGet H a y o) : s.TypeIs (.ref a) "dict" := by
 rcases g with ⟨kvs, k, e, _, _⟩ | ⟨kvs, k, b, e, _, _, _⟩
 ·obtain ⟨_, _, vs, _, dd⟩ := q8y I.hok e
  exact dd.typeIs
 ·obtain ⟨_, _, xs, _, dd⟩ := q8v I.hok e
  exact dd.typeIs
def tDGet (td ty : TE) : TE := fun σ H Q => td σ H fun x H1 => ty σ H1 fun y H2 => ∃ a v, x = .ref a /\ DGet H2 a y (some v) /\ Q v H2
def tDIn (ty td : TE) : TE := fun σ H Q => ty σ H fun y H1 => td σ H1 fun x H2 => ∃ a o, x = .ref a /\ DGet H2 a y o /\ Q (.bl o.isSome) H2
def q7k (ty td : TE) : TE := fun σ H Q => ty σ H fun y H1 => td σ H1 fun x H2 => ∃ a o, x = .ref a /\ DGet H2 a y o /\ Q (.bl (!o.isSome)) H2
def sDPut (td ty tv : TE) : TS := fun D σ H => tv σ H fun v H1 => td σ H1 fun x H2 => ty σ H2 fun y H3 => ∃ a H4, x = .ref a /\ DPut H3 a y v H4 /\ D.nx σ H4
section
variable {X : Cx} {o i e value : Expr} {pos pos' tpos : Pos} {td ty tv : TE}
theorem q5F (hu : X.A.units + 1 < cLine) (ho : PE X o td) (hi : PE X i ty) (hs : NoSl i) : PE X (.Subscript o i pos) (tDGet td ty) := by
 intro pins s σ H Q I h
 refine qaC PySem.F.slot_dict_getitem.lookup hs (thn (ho pins s σ H _ I h) fun u s1 ⟨x, H1, I1, rx, q1⟩ => thn (hi pins s1 σ H1 _ I1 q1) fun iv s2 ⟨y, H2, I2, ry, a, v, ex, g, q2⟩ => ?_)
 subst ex
 obtain rfl : u = Value.ref a := rx
 exact ⟨q5S I2 g, q8G hu I2 g ry fun w' s3 I3 rw' => ⟨v, H2, I3, rw', q2⟩⟩
theorem pc_din (hu : X.A.units + 1 < cLine) (hi : PE X i ty) (ho : PE X o td) : PC X .In i o (tDIn ty td) := by
 intro pins s σ H Q I h
 refine thn (hi pins s σ H _ I h) fun iv s1 ⟨y, H1, I1, ry, q1⟩ => thn (ho pins s1 σ H1 _ I1 q1) fun u s2 ⟨x, H2, I2, rx, a, ov, ex, g, q2⟩ => ?_
 subst ex
 obtain rfl : u = Value.ref a := rx
 exact d_in hu I2 g ry fun s3 I3 => ⟨.bl ov.isSome, H2, I3, rfl, q2⟩
theorem q7R (hu : X.A.units + 1 < cLine) (hi : PE X i ty) (ho : PE X o td) : PC X .NotIn i o (q7k ty td) := by
 intro pins s σ H Q I h
 refine thn (hi pins s σ H _ I h) fun iv s1 ⟨y, H1, I1, ry, q1⟩ => thn (ho pins s1 σ H1 _ I1 q1) fun u s2 ⟨x, H2, I2, rx, a, ov, ex, g, q2⟩ => ?_
 subst ex
 obtain rfl : u = Value.ref a := rx
 exact qbA hu I2 g ry fun s3 I3 => ⟨.bl (!ov.isSome), H2, I3, rfl, q2⟩
theorem q48 (hu : X.A.units + 1 < cLine) (ho : PE X o td) (hi : PE X i ty) (hv : PE X value tv) (hs : swapsWith value (some (.Subscript o i pos')) pos.line X.env = pure false) :
  PS X (.Assign [.Subscript o i pos'] value pos) (sDPut td ty tv) := by
 intro pins s σ H D I h
 refine wpAny_Assign_Subscript (thn (hv pins s σ H _ I h) fun r s1 ⟨v, H1, I1, rv, q1⟩ => thn (ho pins s1 σ H1 _ I1 q1) fun u s2 ⟨x, H2, I2, rx, q2⟩ => thn (hi pins s2 σ H2 _ I2 q2) fun iv s3 ⟨y, H3, I3, ry, a, H4, ex, g, q3⟩ => ?_) hs
 subst ex
 obtain rfl : u = Value.ref a := rx
 exact q8F hu I3 g ry rv fun s4 I4 => ⟨σ, H4, I4, q3⟩
end
theorem q9Y {P : Program} {w : World} {H : Hp} (h : Heap) (hb : sysModules < h.objs.size) : q06 P w H (h.push { cls := .type "dict", data := .dict #[] }) h.objs.size (.dT []) :=
 ⟨Nat.zero_le _, beq_eq_false_iff_ne.mpr (Ne.symm (Nat.ne_of_lt hb)), [], .nil, _, #[], 0, Heap.get?_push_size _ rfl, ⟨rfl, rfl, rfl⟩, rfl, rfl, List.nodup_nil⟩
def qa7 : TE := fun _ H Q => ∀ p, H p = none -> Q (.ref p) (upd H p (.dT []))
section
variable {X : Cx} {pos : Pos}
theorem q4b : PE X (.Dict [] [] pos) qa7 := fun pins s σ H Q I h =>
 wpAny_Dict_empty ⟨.ref s.heap.objs.size, _, I.laid (a := s.heap.objs.size) (o := .dT []) (t' := s.toks) (fun _ _ q => Heap.get?_push_of_some _ q) (Nat.le_refl _) (q9Y s.heap I.big), rfl, h _ (I.hok.fresh (Nat.le_refl _))⟩
end
end L2
namespace Att
open PySem PySem.W PySem.Calls PyProof.Rows
end Att
namespace L2
open PySem PySem.Spec PyProof.Rows
end L2
namespace L2
open PySem PySem.Spec PyProof.Rows
end L2
namespace L2
open PySem PySem.Spec PyProof.Rows
end L2
namespace L2
open PySem PySem.Spec PyProof.Rows
def rInD (K : PySem.W.Frag) (n : Nat) (neg : Bool) : R2 := fun x y H Q => ∃ (p : Addr) (ps : List Addr) (e : Addr -> Bool), y = .ref p /\ SqL K H p (ps.map V.ref) /\ (∀ b ∈ ps, Deq K H n (.ref b) x (e b)) /\ Q (.bl (if neg then !ps.any e else ps.any e)) H
def refB (e : Addr -> Bool) : Value -> Bool
 | .ref b => e b
 | _ => false
theorem q25 : ∀ {ps : List Addr} {us : List Value}, Vals (ps.map V.ref) us -> us = ps.map Value.ref
 | [], _, .nil => rfl
 | p :: ps, _, .cons r t => by
  have r' := (show _ = Value.ref p from r)
  rw [r', q25 t]
  rfl
theorem qa4 (e : Addr -> Bool) (ps : List Addr) : (ps.map Value.ref).any (refB e) = ps.any e := by
 rw [List.any_map]
 rfl
section
variable {X : Cx}
theorem q58 (K : PySem.W.Frag) (n : Nat) (hu : X.A.units + n + 1 < cLine) (hK : X.K = K := by rfl) : OpR X (compareOp .NotIn) (rInD K n true) := by
 subst hK
 intro pins s σ H x y v u Q I rx ry h
 obtain ⟨p, ps, e, rfl, hq, hd, q⟩ := h
 cases ry
 obtain ⟨its, r, pl, hz⟩ := I.list hq
 have ei := q25 r
 subst ei
 refine SeqAt.notIn_listAt (refB e) pl.isList (fun w hw => ?_) ⟨.bl _, H, I, rfl, ?_⟩
 ·obtain ⟨b, hb, rfl⟩ := List.mem_map.mp (show w ∈ ps.map Value.ref by simpa using hw)
  exact q6s I (hd b hb) (by first | omega | (show X.A.units + 1 + n < cLine; omega)) rfl rx
 ·rw [show (ps.map Value.ref).toArray.any (refB e) = (ps.map Value.ref).any (refB e) by simp, qa4]
  exact q
end
end L2
namespace DI
open PySem PyProof.Rows
section
variable {prog : Program} {w : World} {A : Around} {E : Value -> Shared -> Prop} {s : Shared} {d it v : Addr} {o : Obj} {es : Array DictEntry} {ep i : Nat}
theorem ty (ho : s.heap.get? d = some o) (hx : o.ExactDict) : s.TypeIs (.ref d) "dict" := ⟨o, ho, hx.1⟩
theorem keys {Q : Value -> Shared -> Prop} (hd : (d == sysModules) = false) (ho : s.heap.get? d = some o) (hx : o.ExactDict) (hdat : o.data = .dict es ep)
  (hQ : Q (.ref s.heap.objs.size) { s with heap := s.heap.push { cls := .type "dict_keyiterator", data := .fields #[.ref d, .int 0 0, .int es.size 0, .int ep 0] } }) : wpAny (model prog w) A (pyIter (.ref d)) Q E s := by
 have hT := ty ho hx
 refine wpAny_pyIter_slot hT F.slot_dict_iter (wpAny_call_entry F.slot_dict_iter hT F.entry_dict_iter ?_ (F.args_dict_iter_1 _))
 unfold Builtin.«dict.__iter__» Builtin.Dict.dictSlotNone Builtin.Dict.showsAll
 refine wpAny_bind (wpAny_bind (wpAny_notOrdered_dict hT (wpAny_pure (wpAny_bind ?_))))
 refine wpAny_pure (wpAny_bind ?_)
 dsimp only
 rw [if_neg (by intro z; rw [hd] at z; cases z)]
 refine wpAny_pure (wpAny_bind (wpAny_dictEntries ho hdat (wpAny_bind (wpAny_dictEpoch ho hdat ?_))))
 refine wpAny_bind (wpAny_newObj_type (wpAny_pure ⟨_, rfl, "dict_keyiterator", _, ⟨_, Heap.get?_push_size _ rfl, rfl⟩, F.slot_dict_keyiterator_next.lookup, ?_⟩))
 simpa [rawInt] using hQ
theorem q89 {Q : Option Value -> Shared -> Prop} (hit : s.heap.IsKeyIter it d i es.size ep) (ho : s.heap.get? d = some o) (hdat : o.data = .dict es ep) (hi : i < es.size)
  (hQ : ∀ h', h'.IsKeyIter it d (i + 1) es.size ep -> Heap.SameBut it s.heap h' -> Q (some es[i].key) { s with heap := h' }) : wpAny (model prog w) A (pyNext (.ref it)) Q E s := by
 obtain ⟨oi, hoi, hc, hf⟩ := id hit
 have hT := hit.typeIs
 unfold pyNext
 refine wpAny_bind (wpAny_attempt (wpAny_callSpecial?_slot (name := Str.ofString "__next__") hT F.slot_dict_keyiterator_next (wpAny_call_entry F.slot_dict_keyiterator_next hT F.entry_dict_keyiterator_next ?_ (F.args_dict_keyiterator_next_1 _))))
 refine wpAny_bind (wpAny_pure (wpAny_bind (wpAny_bind ?_)))
 first | refine wpAny_bind (wpAny_typeNameOfWhole_keyiter hT (wpAny_pure (wpAny_bind (wpAny_fieldsOf hoi hf ?_)))) | refine wpAny_bind (wpAny_typeNameOf_keyiter hT (wpAny_pure (wpAny_bind (wpAny_fieldsOf hoi hf ?_))))
 simp only [show Builtin.Dict_items.ownsTuple "dict_keyiterator" = false by decide, Bool.false_eq_true, if_false]
 show wpAny _ _ (if (Value.ref d == Value.none) = true then _ else _) _ _ s
 rw [if_neg (by exact Bool.false_ne_true)]
 refine wpAny_bind (wpAny_pure (wpAny_bind (wpAny_dictEntries ho hdat ?_)))
 rw [if_neg (by simp)]
 refine wpAny_bind (wpAny_pure (wpAny_bind (wpAny_dictEpoch ho hdat ?_)))
 rw [if_neg (by simp)]
 refine wpAny_pure ?_
 simp only [show ¬ ((i : Int) < 0) by omega, if_false, Int.toNat_natCast, Array.getElem?_eq_getElem hi]
 refine wpAny_bind ?_
 first | refine wpAny_bind (wpAny_typeNameOfWhole_keyiter hT (wpAny_pure (wpAny_bind (wpAny_isOneOf_keyiter hT ?_)))) | refine wpAny_bind (wpAny_typeNameOf_keyiter hT (wpAny_pure (wpAny_bind (wpAny_isOneOf_keyiter hT ?_))))
 show wpAny _ _ (setField (.ref it) 1 (rawInt ((i : Int) + 1)) >>= _) _ _ s
 refine wpAny_bind (wpAny_setField hoi hf (by simp) ?_)
 have hit' : (s.heap.update it (Obj.mapFields (·.setIfInBounds 1 (rawInt ((i : Int) + 1))))).IsKeyIter it d (i + 1) es.size ep :=
  ⟨_, Heap.get?_update_self _ hoi (Obj.isFreed_of_fields (Obj.data_mapFields hf _)), (Obj.cls_mapFields ..).trans hc, by rw [Obj.data_mapFields hf]; simp [rawInt]⟩
 refine wpAny_bind (wpAny_holding (wpAny_bind (wpAny_isOneOf_keyiter (s := { s with heap := s.heap.update it (Obj.mapFields (·.setIfInBounds 1 (rawInt ((i : Int) + 1)))) }) hit'.typeIs ?_)))
 show wpAny _ _ (pure es[i].key) _ _ _
 exact wpAny_pure (wpAny_pure ⟨_, rfl, wpAny_pure (hQ _ hit' (Heap.SameBut.update ..))⟩)
theorem qai {Q : Option Value -> Shared -> Prop} (hh : A.handled = none) (hit : s.heap.IsKeyIter it d i es.size ep) (ho : s.heap.get? d = some o) (hdat : o.data = .dict es ep) (hi : es.size <= i)
  (hQ : ∀ h', Heap.ExtBut it s.heap h' -> Q none { s with heap := h' }) : wpAny (model prog w) A (pyNext (.ref it)) Q E s := by
 obtain ⟨oi, hoi, hc, hf⟩ := id hit
 have hT := hit.typeIs
 unfold pyNext
 refine wpAny_bind (wpAny_attempt (wpAny_callSpecial?_slot (name := Str.ofString "__next__") hT F.slot_dict_keyiterator_next (wpAny_call_entry F.slot_dict_keyiterator_next hT F.entry_dict_keyiterator_next ?_ (F.args_dict_keyiterator_next_1 _))))
 refine wpAny_bind (wpAny_pure (wpAny_bind (wpAny_bind ?_)))
 first | refine wpAny_bind (wpAny_typeNameOfWhole_keyiter hT (wpAny_pure (wpAny_bind (wpAny_fieldsOf hoi hf ?_)))) | refine wpAny_bind (wpAny_typeNameOf_keyiter hT (wpAny_pure (wpAny_bind (wpAny_fieldsOf hoi hf ?_))))
 simp only [show Builtin.Dict_items.ownsTuple "dict_keyiterator" = false by decide, Bool.false_eq_true, if_false]
 show wpAny _ _ (if (Value.ref d == Value.none) = true then _ else _) _ _ s
 rw [if_neg (by exact Bool.false_ne_true)]
 refine wpAny_bind (wpAny_pure (wpAny_bind (wpAny_dictEntries ho hdat ?_)))
 rw [if_neg (by simp)]
 refine wpAny_bind (wpAny_pure (wpAny_bind (wpAny_dictEpoch ho hdat ?_)))
 rw [if_neg (by simp)]
 refine wpAny_pure ?_
 simp only [show ¬ ((i : Int) < 0) by omega, if_false, Int.toNat_natCast, Array.getElem?_eq_none hi]
 refine wpAny_bind ?_
 first | refine wpAny_bind (wpAny_typeNameOfWhole_keyiter hT (wpAny_pure ?_)) | refine wpAny_bind (wpAny_typeNameOf_keyiter hT (wpAny_pure ?_))
 show wpAny _ _ (setField (.ref it) 0 .none >>= _) _ _ s
 refine wpAny_bind (wpAny_setField hoi hf (by simp) ?_)
 show wpAny _ _ (newExc (.type "StopIteration") [] >>= _) _ _ _
 refine wpAny_bind ?_
 simp only [newExc, newTuple]
 refine wpAny_bind (wpAny_newObj_type (wpAny_bind (m := firstArgMember _ _) (wpAny_of_eq (a := Value.none) (by first | rfl | (simp only [firstArgMember]; rfl)) (wpAny_newObj_type ?_ (by size_fits)))) (by size_fits))
 simp only [raiseNew]
 refine wpAny_bind (wpAny_handled ?_)
 rw [show A.in1.handled = none from hh]
 refine wpAny_bind (wpAny_pure (wpAny_throw ?_))
 refine wpAny_bind (wpAny_isInstance (b := true) (T := "StopIteration") ⟨_, Heap.get?_push_size _ rfl, rfl⟩ isSubtype_stop ?_)
 exact wpAny_pure (hQ _ (((Heap.SameBut.update ..).extBut.push _).push _))
theorem view (d : Addr) (hd : (d == sysModules) = false) : MeetsIn prog w (Builtin.«dict.items» ⟨[.ref d], []⟩) (fun _ R s => (∃ o, s.heap.get? d = some o /\ o.ExactDict) /\
   R (.ok (.ret (.ref s.heap.objs.size))) { s with heap := s.heap.push { cls := .type "dict_items", data := .fields #[.ref d] } }) :=
 .of_wp fun A R s ⟨⟨o, ho, hx⟩, h⟩ => by
  unfold Builtin.«dict.items» Builtin.Dict.noArgs Builtin.Dict.showsAll
  refine wpAny_bind (wpAny_bind (wpAny_notOrdered_dict (ty ho hx) (wpAny_pure (wpAny_bind ?_))))
  rw [if_neg (by intro z; rw [hd] at z; cases z)]
  exact wpAny_pure (wpAny_bind (wpAny_newObj_type (wpAny_pure ⟨_, rfl, h⟩)))
theorem items {Q : Value -> Shared -> Prop} (hv : s.heap.IsItemsView v d) (ho : s.heap.get? d = some o) (hdat : o.data = .dict es ep)
  (hQ : Q (.ref s.heap.objs.size) { s with heap := s.heap.push { cls := .type "dict_itemiterator", data := .fields #[.none, .bool false, .ref d, .int 0 0, .int es.size 0, .int ep 0, .none, .none] } }) : wpAny (model prog w) A (pyIter (.ref v)) Q E s := by
 obtain ⟨ov, hov, hcv, hdv⟩ := id hv
 refine wpAny_pyIter_slot hv.typeIs F.slot_dict_items_iter (wpAny_call_entry F.slot_dict_items_iter hv.typeIs F.entry_dict_items_iter ?_ (F.args_dict_items_iter_1 _))
 unfold Builtin.«dict_items.__iter__» Builtin.Dict_items.dictOf Builtin.Dict_items.newIterator
 refine wpAny_bind (wpAny_pure (wpAny_bind (wpAny_bind (wpAny_field hov hdv (x := .ref d) rfl (wpAny_pure ?_)))))
 refine wpAny_bind (wpAny_bind (wpAny_dictEntries ho hdat (wpAny_bind (wpAny_dictEpoch ho hdat ?_))))
 simp only [show Builtin.Dict_items.ownsTuple "dict_itemiterator" = true by decide, if_true]
 refine wpAny_newObj_type (wpAny_pure ⟨_, rfl, "dict_itemiterator", _, ⟨_, Heap.get?_push_size _ rfl, rfl⟩, F.slot_dict_itemiterator_next.lookup, ?_⟩)
  (by simp only [sizeOk, Builtin.Dict_items.ownedTupleFields, List.size_toArray, List.length_append, List.length_cons, List.length_nil, sizeLine_eq]; omega)
 simpa [rawInt, Builtin.Dict_items.ownedTupleFields] using hQ
theorem q9L {ok ov : Value} {Q : Option Value -> Shared -> Prop} (hit : IsItemIter s.heap it d i es.size ep ok ov) (ho : s.heap.get? d = some o) (hdat : o.data = .dict es ep) (hi : i < es.size)
  (hQ : ∀ h', IsItemIterOut h' it d (i + 1) es.size ep es[i].key es[i].val s.heap.objs.size -> h'.get? s.heap.objs.size = some { cls := .type "tuple", data := .seq #[es[i].key, es[i].val] } ->
   (∀ b o, b ≠ it -> s.heap.get? b = some o -> h'.get? b = some o) -> Q (some (.ref s.heap.objs.size)) { s with heap := h' }) : wpAny (model prog w) A (pyNext (.ref it)) Q E s := by
 obtain ⟨hp, g, dr, tk, os⟩ := s
 have hT : Shared.TypeIs ⟨hp, g, dr, tk, os⟩ (.ref it) "dict_itemiterator" := ⟨_, hit, rfl⟩
 unfold pyNext
 refine wpAny_bind (wpAny_attempt (wpAny_callSpecial?_slot (name := Str.ofString "__next__") hT F.slot_dict_itemiterator_next (wpAny_call_entry F.slot_dict_itemiterator_next hT F.entry_dict_itemiterator_next ?_ (F.args_dict_itemiterator_next_1 _))))
 refine wpAny_bind (wpAny_pure (wpAny_bind (wpAny_bind ?_)))
 first | refine wpAny_bind (wpAny_typeNameOfWhole_itemiter hT (wpAny_pure (wpAny_bind (wpAny_fieldsOf hit rfl ?_)))) | refine wpAny_bind (wpAny_typeNameOf_itemiter hT (wpAny_pure (wpAny_bind (wpAny_fieldsOf hit rfl ?_))))
 simp only [show Builtin.Dict_items.ownsTuple "dict_itemiterator" = true by decide, if_true]
 show wpAny _ _ (if (Value.ref d == Value.none) = true then _ else _) _ _ _
 rw [if_neg (by exact Bool.false_ne_true)]
 refine wpAny_bind (wpAny_pure (wpAny_bind (wpAny_dictEntries ho hdat ?_)))
 rw [if_neg (by simp)]
 refine wpAny_bind (wpAny_pure (wpAny_bind (wpAny_dictEpoch ho hdat ?_)))
 rw [if_neg (by simp)]
 refine wpAny_pure ?_
 simp only [show ¬ ((i : Int) < 0) by omega, if_false, Int.toNat_natCast, Array.getElem?_eq_getElem hi]
 refine wpAny_bind ?_
 first | refine wpAny_bind (wpAny_typeNameOfWhole_itemiter hT (wpAny_pure (wpAny_bind (wpAny_isOneOf_itemiter hT ?_)))) | refine wpAny_bind (wpAny_typeNameOf_itemiter hT (wpAny_pure (wpAny_bind (wpAny_isOneOf_itemiter hT ?_))))
 show wpAny _ _ (setField (.ref it) 3 (rawInt ((i : Int) + 1)) >>= _) _ _ _
 refine wpAny_bind (wpAny_setField_rec hit (by simp) fun h1 e1 b1 => ?_)
 replace b1 : Heap.SameBut it hp h1 := b1
 replace e1 : IsItemIter h1 it d (i + 1) es.size ep ok ov := by
  unfold IsItemIter
  rw [show ((i + 1 : Nat) : Int) = (i : Int) + 1 by omega]
  simpa [rawInt] using e1
 have T1 : Shared.TypeIs ⟨h1, g, dr, tk, os⟩ (.ref it) "dict_itemiterator" := ⟨_, e1, rfl⟩
 refine wpAny_bind (wpAny_holding (wpAny_bind (wpAny_isOneOf_itemiter T1 (wpAny_bind (wpAny_isOneOf_itemiter T1 ?_)))))
 show wpAny _ _ (Builtin.Dict_items.pairFromOwner (.ref it) 6 es[i].key es[i].val) _ _ _
 unfold Builtin.Dict_items.pairFromOwner
 refine wpAny_bind (wpAny_newTuple ?_)
 have z1 : h1.objs.size = hp.objs.size := b1.1
 have lt : it < hp.objs.size := Heap.lt_size hit
 have ne : hp.objs.size ≠ it := Nat.ne_of_gt lt
 obtain ⟨h2, eh2⟩ : ∃ h2, h2 = h1.push { cls := .type "tuple", data := .seq #[es[i].key, es[i].val] } := ⟨_, rfl⟩
 have e2 : IsItemIter h2 it d (i + 1) es.size ep ok ov := by rw [eh2]; exact Heap.get?_push_of_some _ e1
 have t2 : h2.get? hp.objs.size = some { cls := .type "tuple", data := .seq #[es[i].key, es[i].val] } := by rw [eh2, <- z1]; exact Heap.get?_push_size _ rfl
 have k2 : ∀ b o, b ≠ it -> hp.get? b = some o -> h2.get? b = some o := fun b o hb e => by rw [eh2]; exact Heap.get?_push_of_some _ (b1.extBut b o hb e)
 show wpAny _ _ (Builtin.Dict_items.ownedTupleIsFree (.ref it) >>= _) _ _ ⟨h1.push _, g, dr, tk, os⟩
 rw [z1, <- eh2]
 refine wpAny_bind ?_
 unfold Builtin.Dict_items.ownedTupleIsFree
 refine wpAny_bind (wpAny_field e2 rfl (x := .none) rfl (wpAny_pure ?_))
 simp only [if_true]
 refine wpAny_bind (wpAny_field e2 rfl (x := ok) rfl (wpAny_bind (wpAny_field e2 rfl (x := ov) rfl (wpAny_bind (wpAny_setField_rec e2 (by simp) fun h3 e3 b3 => ?_)))))
 replace b3 : Heap.SameBut it h2 h3 := b3
 replace e3 : IsItemIter h3 it d (i + 1) es.size ep es[i].key ov := e3
 refine wpAny_bind (wpAny_setField_rec e3 (by simp) fun h4 e4 b4 => ?_)
 replace b4 : Heap.SameBut it h3 h4 := b4
 replace e4 : IsItemIter h4 it d (i + 1) es.size ep es[i].key es[i].val := e4
 refine wpAny_bind (wpAny_setField_rec e4 (by simp) fun h5 e5 b5 => ?_)
 replace b5 : Heap.SameBut it h4 h5 := b5
 replace e5 : IsItemIterOut h5 it d (i + 1) es.size ep es[i].key es[i].val hp.objs.size := e5
 refine wpAny_bind (wpAny_setField_rec e5 (by simp) fun h6 e6 b6 => ?_)
 replace b6 : Heap.SameBut it h5 h6 := b6
 replace e6 : IsItemIterOut h6 it d (i + 1) es.size ep es[i].key es[i].val hp.objs.size := e6
 have kk : ∀ b o, b ≠ it -> h2.get? b = some o -> h6.get? b = some o := fun b o hb e => b6.extBut b o hb (b5.extBut b o hb (b4.extBut b o hb (b3.extBut b o hb e)))
 exact wpAny_bind (wpAny_letGo (wpAny_pure (wpAny_pure ⟨_, rfl, wpAny_pure (hQ h6 e6 (kk _ _ ne t2) fun b o hb e => kk b o hb (k2 b o hb e))⟩)))
theorem qbo {ok ov : Value} {Q : Option Value -> Shared -> Prop} (hh : A.handled = none) (hit : IsItemIter s.heap it d i es.size ep ok ov) (ho : s.heap.get? d = some o) (hdat : o.data = .dict es ep) (hi : es.size <= i)
  (hQ : ∀ h', Heap.ExtBut it s.heap h' -> Q none { s with heap := h' }) : wpAny (model prog w) A (pyNext (.ref it)) Q E s := by
 have hT : s.TypeIs (.ref it) "dict_itemiterator" := ⟨_, hit, rfl⟩
 unfold pyNext
 refine wpAny_bind (wpAny_attempt (wpAny_callSpecial?_slot (name := Str.ofString "__next__") hT F.slot_dict_itemiterator_next (wpAny_call_entry F.slot_dict_itemiterator_next hT F.entry_dict_itemiterator_next ?_ (F.args_dict_itemiterator_next_1 _))))
 refine wpAny_bind (wpAny_pure (wpAny_bind (wpAny_bind ?_)))
 first | refine wpAny_bind (wpAny_typeNameOfWhole_itemiter hT (wpAny_pure (wpAny_bind (wpAny_fieldsOf hit rfl ?_)))) | refine wpAny_bind (wpAny_typeNameOf_itemiter hT (wpAny_pure (wpAny_bind (wpAny_fieldsOf hit rfl ?_))))
 simp only [show Builtin.Dict_items.ownsTuple "dict_itemiterator" = true by decide, if_true]
 show wpAny _ _ (if (Value.ref d == Value.none) = true then _ else _) _ _ s
 rw [if_neg (by exact Bool.false_ne_true)]
 refine wpAny_bind (wpAny_pure (wpAny_bind (wpAny_dictEntries ho hdat ?_)))
 rw [if_neg (by simp)]
 refine wpAny_bind (wpAny_pure (wpAny_bind (wpAny_dictEpoch ho hdat ?_)))
 rw [if_neg (by simp)]
 refine wpAny_pure ?_
 simp only [show ¬ ((i : Int) < 0) by omega, if_false, Int.toNat_natCast, Array.getElem?_eq_none hi]
 refine wpAny_bind ?_
 first | refine wpAny_bind (wpAny_typeNameOfWhole_itemiter hT (wpAny_pure ?_)) | refine wpAny_bind (wpAny_typeNameOf_itemiter hT (wpAny_pure ?_))
 show wpAny _ _ (setField (.ref it) 2 .none >>= _) _ _ s
 refine wpAny_bind (wpAny_setField hit rfl (by simp) ?_)
 show wpAny _ _ (newExc (.type "StopIteration") [] >>= _) _ _ _
 refine wpAny_bind ?_
 simp only [newExc, newTuple]
 refine wpAny_bind (wpAny_newObj_type (wpAny_bind (m := firstArgMember _ _) (wpAny_of_eq (a := Value.none) (by first | rfl | (simp only [firstArgMember]; rfl)) (wpAny_newObj_type ?_ (by size_fits)))) (by size_fits))
 simp only [raiseNew]
 refine wpAny_bind (wpAny_handled ?_)
 rw [show A.in1.handled = none from hh]
 refine wpAny_bind (wpAny_pure (wpAny_throw ?_))
 refine wpAny_bind (wpAny_isInstance (b := true) (T := "StopIteration") ⟨_, Heap.get?_push_size _ rfl, rfl⟩ isSubtype_stop ?_)
 exact wpAny_pure (hQ _ (((Heap.SameBut.update ..).extBut.push _).push _))
end
end DI
namespace L2
open PySem PySem.Spec PyProof.Rows
theorem Paired.at' {α β : Type} {F : α -> β -> Prop} : ∀ {l : List α} {m : List β} {i : Nat} {x : α} {y : β}, Paired F l m -> l[i]? = some x -> m[i]? = some y -> F x y
 | _, _, 0, _, _, .cons r _, hx, hy => by cases hx; cases hy; exact r
 | _, _, i + 1, _, _, .cons _ t, hx, hy => Paired.at' (i := i) t hx hy
section
variable {X : Cx} {pins : List (Addr × Obj)} {σ : St} {H : Hp} {s : Shared} {a : Addr}
theorem Inv.hold {kvs : List (List Key × V)} (I : Inv X pins σ H s) (e : H a = some (.dT kvs)) : ∃ o, Inv X pins σ (upd H a (.frz o (.dT kvs))) s := by
 obtain ⟨z, y, xs, r, o, es, ep, h1, h2⟩ := (show q06 X.prog X.w H s.heap a (.dT kvs) from I.hok a _ e)
 have ne : ∀ {b : Addr} {u : HO}, H b = some u -> (∀ k, u ≠ .dT k) -> b ≠ a := fun {b u} q n z => by rw [z, e] at q; cases q; exact n _ rfl
 refine ⟨o, I.un (h' := s.heap) (t' := s.toks) ⟨fun b ob q n _ _ => q, fun b ob q n _ _ => ⟨ob.slots, q⟩, fun b ob q n _ => ?_, fun b ob q _ => ⟨ob, q⟩, fun b ts q => ?_, fun b ob u q => ?_, fun b ps q => ⟨#[], ?_⟩⟩ fun b u q => ?_⟩
 ·rw [ql (fun z => by rw [z, e] at n; cases n)]; exact n
 ·rw [ql (ne q fun k z => by cases z)]; exact q
 ·rw [ql (ne q fun k z => by cases z)]; exact q
 ·rw [ql (ne q fun k z => by cases z)]; simpa using q
 ·have ht : ∀ c ts, H c = some (.tup ts) -> upd H a (.frz o (.dT kvs)) c = some (.tup ts) := fun c ts q => by rw [ql (ne q fun k z => by cases z)]; exact q
  have ho : ∀ c x, H c = some (.own x) -> upd H a (.frz o (.dT kvs)) c = some (.own x) := fun c x q => by rw [ql (ne q fun k z => by cases z)]; exact q
  by_cases hb : b = a
  ·subst hb
   rw [qb] at q
   cases q
   exact ⟨h1, (I.hok b _ e).stay (fun c v _ q => q) (fun c q => ho c b q) ht⟩
  ·rw [ql hb] at q
   exact (I.hok b u q).stay (fun c v _ q => q) (fun c q => ho c b q) ht
theorem Inv.heldAt {o : Obj} {kvs : List (List Key × V)} {es : Array DictEntry} {ep : Nat} (I : Inv X pins σ H s) (e : H a = some (.frz o (.dT kvs))) (hd : o.data = .dict es ep) : s.heap.get? a = some o /\ o.ExactDict /\ (a == sysModules) = false /\ es.size = kvs.length /\
  ∀ (i : Nat) (hi : i < kvs.length) (hj : i < es.size), ∃ b, es[i].key = .ref b /\ H b = some (.tup (kvs[i].1.map kV)) /\ RelV kvs[i].2 es[i].val := by
 obtain ⟨h0, z, y, xs, r, o', es', ep', h1, h2, h3, h4, h5⟩ := (show q06 X.prog X.w H s.heap a (.frz o (.dT kvs)) from I.hok a _ e)
 rw [h0] at h1
 cases h1
 rw [hd] at h3
 cases h3
 have hl : kvs.length = xs.length := r.length
 have hs : es.size = xs.length := size_of_entries h4
 refine ⟨h0, h2, y, by omega, fun i hi hj => ?_⟩
 have e1 := entry_at h4 i
 have hx : xs[i]? = some (xs[i]'(by omega)) := List.getElem?_eq_getElem _
 rw [Array.getElem?_eq_getElem hj, hx] at e1
 have e2 := Option.some.inj e1
 have rq := Paired.at' r (List.getElem?_eq_getElem hi) hx
 refine ⟨(xs[i]'(by omega)).2.1, by rw [e2]; rfl, ?_, ?_⟩
 ·exact rq.2.1
 ·rw [e2]; exact rq.2.2
end
def Itd (a : Addr) (o : Obj) (kvs : List (List Key × V)) : It :=
 ⟨fun i H => H a = some (.frz o (.dT kvs)) /\ i < kvs.length, fun i H x H' => H' = H /\ ∃ b p, kvs[i]? = some p /\ x = .ref b /\ H b = some (.tup (p.1.map kV)), fun i H => H a = some (.frz o (.dT kvs)) /\ kvs.length <= i⟩
def Itp (a : Addr) (o : Obj) (kvs : List (List Key × V)) : It :=
 ⟨fun i H => H a = some (.frz o (.dT kvs)) /\ i < kvs.length, fun i H x H' => ∃ T b p, H T = none /\ kvs[i]? = some p /\ x = .ref T /\ H b = some (.tup (p.1.map kV)) /\ H' = upd H T (.tup [.ref b, p.2]), fun i H => H a = some (.frz o (.dT kvs)) /\ kvs.length <= i⟩
theorem qaA {P : Program} {w : World} {K : PySem.W.Frag} {tg : Expr} {a it : Addr} {o : Obj} {kvs : List (List Key × V)} {es : Array DictEntry} {ep : Nat} (hd : o.data = .dict es ep) : Turn P w K tg (Itd a o kvs) [it] it (fun i h => h.IsKeyIter it a i es.size ep) where
 mem := by simp
 obj := fun i h st b hb => by
  have e : b = it := by simpa using hb
  subst e
  obtain ⟨o, e, c, d⟩ := st
  exact ⟨o, e, fun v z => by rw [d] at z; cases z⟩
 keep := fun i h h' st k => st.at fun o e => k it (by simp) o e
 item := by
  intro X hP hw hK hc i pins s σ H E I hf st hg
  subst hP hw hK
  obtain ⟨ha, hi⟩ := hg
  obtain ⟨f0, f1, f2, f3, f4, f5⟩ := hf it (by simp)
  obtain ⟨g0, gx, gm, gs, gi⟩ := I.heldAt ha hd
  have hj : i < es.size := by omega
  obtain ⟨b, kb, tb, _⟩ := gi i hi hj
  refine DI.q89 st g0 hd hj fun h' st' sb => ?_
  have I1 : Inv X pins σ H { s with heap := h' } := I.turned (t' := s.toks) (fun b o hb e => (sb.2 b hb).trans e) f0 f1 f3 f4 f5
  obtain ⟨o', e, c, d⟩ := id st'
  exact ⟨_, rfl, go_of (s := { s with heap := h' }) e c d (by decide) ⟨.ref b, H, I1, kb, ⟨rfl, b, _, List.getElem?_eq_getElem hi, rfl, tb⟩, st', fun b hb => (hf b hb).1⟩⟩
 done := by
  intro X hP hw hK hc i pins s σ H E I hf st hg
  subst hP hw hK
  obtain ⟨ha, hi⟩ := hg
  obtain ⟨f0, f1, f2, f3, f4, f5⟩ := hf it (by simp)
  obtain ⟨g0, gx, gm, gs, gi⟩ := I.heldAt ha hd
  exact DI.qai (I.ok.hd hc) st g0 hd (by omega) fun h' eb => ⟨rfl, I.turned (t' := s.toks) (fun b o hb e => eb b o hb e) f0 f1 f3 f4 f5⟩
 self := fun _ _ _ _ _ st h => wpAny_pyIter_keyiter st h
theorem q5i : entryFor table "dict_itemiterator.__iter__" = some Builtin.«dict_keyiterator.__iter__» := entryFor_alias (id' := "dict_keyiterator.__iter__") (by kernel_rfl) rfl (by decide +kernel) (by kernel_rfl)
theorem q5L {prog : Program} {w : World} {A : Around} {E : Value -> Shared -> Prop} {s : Shared} {it d : Addr} {i n ep : Nat} {ok ov : Value} {Q : Value -> Shared -> Prop} (hit : IsItemIter s.heap it d i n ep ok ov) (h : Q (.ref it) s) : wpAny (model prog w) A (pyIter (.ref it)) Q E s := by
 have hT : s.TypeIs (.ref it) "dict_itemiterator" := ⟨_, hit, rfl⟩
 refine wpAny_pyIter_slot hT F.slot_dict_itemiterator_iter (wpAny_call_entry F.slot_dict_itemiterator_iter hT q5i ?_ (F.args_dict_itemiterator_iter_1 _))
 show wpAny _ _ (ret (.ref it)) _ _ s
 exact wpAny_pure ⟨_, rfl, "dict_itemiterator", _, hT, F.slot_dict_itemiterator_next.lookup, h⟩
theorem qaz {P : Program} {w : World} {K : PySem.W.Frag} {elts : List Expr} {k : Nat} {tp : Pos} {a it : Addr} {o : Obj} {kvs : List (List Key × V)} {es : Array DictEntry} {ep : Nat} (hd : o.data = .dict es ep) : Turn P w K (.Tuple elts k tp) (Itp a o kvs) [it] it (fun i h => ∃ ok ov, IsItemIter h it a i es.size ep ok ov) where
 mem := by simp
 obj := fun i h st b hb => by
  have e : b = it := by simpa using hb
  subst e
  obtain ⟨_, _, e⟩ := st
  exact ⟨_, e, fun v z => by cases z⟩
 keep := fun i h h' st kk => let ⟨ok, ov, e⟩ := st; ⟨ok, ov, kk it (by simp) _ e⟩
 item := by
  intro X hP hw hK hc i pins s σ H E I hf st hg
  subst hP hw hK
  obtain ⟨ha, hi⟩ := hg
  obtain ⟨ok, ov, st⟩ := st
  obtain ⟨g0, gx, gm, gs, gi⟩ := I.heldAt ha hd
  have hj : i < es.size := by omega
  obtain ⟨b, kb, tb, rb⟩ := gi i hi hj
  refine DI.q9L st g0 hd hj fun h' ho hT hk => ?_
  have ne : ∀ b ∈ [it], b ≠ s.heap.objs.size := fun b hb => by rw [List.mem_singleton.mp hb]; exact Nat.ne_of_lt (Heap.lt_size st)
  have kk : ∀ b o, b ∉ [it] -> s.heap.get? b = some o -> h'.get? b = some o := fun b o hb q => hk b o (fun z => hb (by simp [z])) q
  have I1 : Inv X pins σ (upd H s.heap.objs.size (.tup [.ref b, kvs[i].2])) { s with heap := h', toks := s.toks } := I.yields (vals := [es[i].key, es[i].val]) hf kk (Nat.le_refl _) ⟨_, hT, rfl, _, rfl⟩ (.cons kb (.cons rb .nil)) (by show 2 <= sizeLine; decide)
  have hf1 := q6p (o := .tup [.ref b, kvs[i].2]) hf ne
  refine ⟨_, rfl, wpAny_letOwnedTupleGo_items ho fun h'' he'' sb => ?_⟩
  have I2 : Inv X pins σ (upd H s.heap.objs.size (.tup [.ref b, kvs[i].2])) { s with heap := h'', toks := s.toks } := I1.turnedL (t' := s.toks) hf1 fun b o hb q => (sb.2 b fun z => hb (by simp [z])).trans q
  exact ⟨.ref s.heap.objs.size, _, I2, rfl, ⟨_, b, _, I.hok.fresh (Nat.le_refl _), List.getElem?_eq_getElem hi, rfl, tb, rfl⟩, ⟨_, _, he''⟩, fun b hb => (hf1 b hb).1⟩
 done := by
  intro X hP hw hK hc i pins s σ H E I hf st hg
  subst hP hw hK
  obtain ⟨ha, hi⟩ := hg
  obtain ⟨ok, ov, st⟩ := st
  obtain ⟨g0, gx, gm, gs, gi⟩ := I.heldAt ha hd
  exact DI.qbo (I.ok.hd hc) st g0 hd (by omega) fun h' eb => ⟨rfl, I.turnedL (t' := s.toks) (ch := [it]) hf fun b o hb q => eb b o (fun z => hb (by simp [z])) q⟩
 self := fun _ _ _ _ _ st h => by obtain ⟨_, _, st⟩ := st; exact q5L st h
section
variable {X : Cx} {tg : Expr}
def iDk (tl : TE) : TI := fun σ H R => tl σ H fun x H1 => ∃ a o kvs, x = .ref a /\ H1 a = some (.frz o (.dT kvs)) /\ R (Itd a o kvs) H1
theorem pi_dk {l : Expr} {tl : TE} (hl : PE X l tl) : PI X tg l (iDk tl) := by
 intro pins s σ H R I h
 refine thn (hl pins s σ H _ I h) fun v s1 ⟨x, H1, I1, r1, q1⟩ => ?_
 obtain ⟨a, o, kvs, e, ha, q⟩ := q1
 subst e
 cases r1
 obtain ⟨es, ep, hd⟩ : ∃ es ep, o.data = .dict es ep := by
  obtain ⟨h0, z, y, xs, r, o', es', ep', h1, h2, h3, h4, h5⟩ := (show q06 X.prog X.w H1 s1.heap a (.frz o (.dT kvs)) from I1.hok a _ ha)
  rw [h0] at h1
  cases h1
  exact ⟨_, _, h3⟩
 obtain ⟨g0, gx, gm, gs, gi⟩ := I1.heldAt ha hd
 refine DI.keys gm g0 gx hd ?_
 refine ⟨s1.heap.objs.size, [s1.heap.objs.size], _, _, H1, rfl, I1.kept (t' := s1.toks) fun b o e => Heap.get?_push_of_some _ e, qaA hd, ⟨_, Heap.get?_push_size _ rfl, rfl, rfl⟩, fun b hb => ?_, q⟩
 have e : b = s1.heap.objs.size := by simpa using hb
 subst e
 exact I1.fpOk (Nat.le_refl _) (I1.hok.fresh (Nat.le_refl _))
def iDp (tl : TE) : TI := fun σ H R => tl σ H fun x H1 => ∃ a o kvs, x = .ref a /\ H1 a = some (.frz o (.dT kvs)) /\ R (Itp a o kvs) H1
theorem pi_dp {elts : List Expr} {k : Nat} {tp : Pos} {l : Expr} {tl : TE} {apos cpos : Pos} (hl : PE X l tl) (hbase : attributeBase l "items" X.env (eval l X.env) = eval l X.env := by rfl) (hline : (apos.endLine == cpos.line) = true := by rfl) : PI X (.Tuple elts k tp) (.Call (.Attribute l "items" apos) [] [] cpos) (iDp tl) := by
 intro pins s σ H R I h
 refine wpAny_Call_method0_late hbase hline (thn (hl pins s σ H _ I h) fun v s1 ⟨x, H1, I1, r1, q1⟩ => ?_)
 obtain ⟨a, o, kvs, e, ha, q⟩ := q1
 subst e
 cases r1
 obtain ⟨es, ep, hd⟩ : ∃ es ep, o.data = .dict es ep := by
  obtain ⟨h0, z, y, xs, r, o', es', ep', h1, h2, h3, h4, h5⟩ := (show q06 X.prog X.w H1 s1.heap a (.frz o (.dT kvs)) from I1.hok a _ ha)
  rw [h0] at h1
  cases h1
  exact ⟨_, _, h3⟩
 obtain ⟨g0, gx, gm, gs, gi⟩ := I1.heldAt ha hd
 refine ⟨"dict", "dict.items", F.plainAttrs_dict, F.slot_dict_items, F.type_dict_items, DI.ty g0 gx, fun b z => by cases z; exact ⟨o, g0, gx.2.1⟩, Calls.callWith_builtin rfl (PySem.evalArgs_none ?_)⟩
 refine call_meetsIn F.slot_dict_items (DI.ty g0 gx) F.entry_dict_items (F.args_dict_items_1 _) (DI.view a gm) ⟨⟨o, g0, gx⟩, ?_⟩
 have I2 : Inv X pins σ H1 { s1 with heap := s1.heap.push { cls := .type "dict_items", data := .fields #[.ref a] } } := I1.kept (t' := s1.toks) fun b o e => Heap.get?_push_of_some _ e
 refine DI.items (s := { s1 with heap := s1.heap.push { cls := .type "dict_items", data := .fields #[.ref a] } }) ⟨_, Heap.get?_push_size _ rfl, rfl, rfl⟩ (Heap.get?_push_of_some _ g0) hd ?_
 refine ⟨_, [_], _, _, H1, rfl, I2.kept (t' := s1.toks) fun b o e => Heap.get?_push_of_some _ e, qaz hd, ⟨_, _, Heap.get?_push_size _ rfl⟩, fun b hb => ?_, q⟩
 rw [List.mem_singleton.mp hb]
 exact I2.fpOk (Nat.le_refl _) (I2.hok.fresh (Nat.le_refl _))
end
def sHold (t : TS) : TS := fun D σ H => ∃ a kvs, H a = some (.dT kvs) /\ ∀ o, t D σ (upd H a (.frz o (.dT kvs)))
theorem q7G {X : Cx} {s : Stmt} {t : TS} (h : PS X s t) : PS X s (sHold t) := by
 intro pins sh σ H D I q
 obtain ⟨a, kvs, e, k⟩ := q
 obtain ⟨o, I1⟩ := I.hold e
 exact h pins sh σ _ D I1 (k o)
section
variable {K : PySem.W.Frag} {g : TG} {tb : TS} {nx : St -> Hp -> Prop} {rt : V -> Hp -> Prop} {σ : St} {H : Hp} {a : Addr} {o : Obj} {kvs : List (List Key × V)}
theorem for_dk (Pv : Nat -> St -> Hp -> Prop) (h0 : Pv 0 σ H) (hl : ∀ i σ H, Pv i σ H -> H a = some (.frz o (.dT kvs)))
  (go : ∀ i b p σ H, kvs[i]? = some p -> H b = some (.tup (p.1.map kV)) -> Pv i σ H -> g (.ref b) σ H fun σ2 H2 => tb ⟨Pv (i + 1), rt, nx, Pv (i + 1)⟩ σ2 H2) (stop : ∀ σ H, Pv kvs.length σ H -> nx σ H) : ForG (Itd a o kvs) g tb nx rt σ H :=
 q2C kvs.length Pv h0 (fun i σ H hi p => ⟨⟨hl i σ H p, hi⟩, fun x H' ⟨e1, b, q, hq, ex, hb⟩ => by subst e1 ex; exact go i b q σ _ hq hb p⟩) fun σ H p => ⟨⟨hl _ σ H p, Nat.le_refl _⟩, stop σ H p⟩
theorem for_dp (Pv : Nat -> St -> Hp -> Prop) (h0 : Pv 0 σ H) (hl : ∀ i σ H, Pv i σ H -> H a = some (.frz o (.dT kvs)))
  (go : ∀ i b T p σ H, kvs[i]? = some p -> H b = some (.tup (p.1.map kV)) -> H T = none -> Pv i σ H -> g (.ref T) σ (upd H T (.tup [.ref b, p.2])) fun σ2 H2 => tb ⟨Pv (i + 1), rt, nx, Pv (i + 1)⟩ σ2 H2) (stop : ∀ σ H, Pv kvs.length σ H -> nx σ H) : ForG (Itp a o kvs) g tb nx rt σ H :=
 q2C kvs.length Pv h0 (fun i σ H hi p => ⟨⟨hl i σ H p, hi⟩, fun x H' ⟨T, b, q, hT, hq, ex, hb, e1⟩ => by subst e1 ex; exact go i b T q σ _ hq hb hT p⟩) fun σ H p => ⟨⟨hl _ σ H p, Nat.le_refl _⟩, stop σ H p⟩
variable {tc : TT} {te : TE} {R : Hp -> Prop} {D : Addr}
theorem qbB (Pv : Nat -> St -> Hp -> Prop) (h0 : Pv 0 σ H) (hl : ∀ i σ H, Pv i σ H -> H a = some (.frz o (.dT kvs))) (go : ∀ i b p σ H, kvs[i]? = some p -> H b = some (.tup (p.1.map kV)) -> Pv i σ H -> g (.ref b) σ H fun σ3 H3 => tc σ3 H3 fun b H4 =>
   if b = true then te σ3 H4 fun y H5 => ∃ ys, H5 D = some (.lst ys) /\ ys.length < sizeLine /\ Pv (i + 1) σ3 (upd H5 D (.lst (ys ++ [y]))) else Pv (i + 1) σ3 H4) (stop : ∀ σ H, Pv kvs.length σ H -> R H) : qa5 (Itd a o kvs) g tc te R D σ H :=
 q3k kvs.length Pv h0 (fun i σ H hi p => ⟨⟨hl i σ H p, hi⟩, fun x H' ⟨e1, b, q, hq, ex, hb⟩ => by subst e1 ex; exact go i b q σ _ hq hb p⟩) fun σ H p => ⟨⟨hl _ σ H p, Nat.le_refl _⟩, stop σ H p⟩
end
end L2
namespace Srt
open PySem PySem.W PyProof.Rows
section
variable {α β : Type} {n : Nat} {lt : Nat -> Nat -> Bool}
def Runs (n : Nat) (lt : Nat -> Nat -> Bool) : KasT α -> (α -> Prop) -> Prop
 | .ret a, Q => Q a
 | .ask i j k, Q => i < n /\ j < n /\ Runs n lt (k (lt i j)) Q
theorem Runs.bind {f : α -> KasT β} {Q : β -> Prop} : ∀ {t : KasT α}, Runs n lt t (fun a => Runs n lt (f a) Q) -> Runs n lt (t.bind f) Q
 | .ret _, h => h
 | .ask _ _ _, h => ⟨h.1, h.2.1, Runs.bind h.2.2⟩
theorem Runs.mono {Q Q' : α -> Prop} (hq : ∀ a, Q a -> Q' a) : ∀ {t : KasT α}, Runs n lt t Q -> Runs n lt t Q'
 | .ret _, h => hq _ h
 | .ask _ _ _, h => ⟨h.1, h.2.1, Runs.mono hq h.2.2⟩
theorem Runs.wp {cmp : Nat -> Nat -> (Bool -> Shared -> Prop) -> Shared -> Prop} {s : Shared} (hc : ∀ i j C, i < n -> j < n -> C (lt i j) s -> cmp i j C s) {Q : α -> Prop} {G : α -> Shared -> Prop} (hq : ∀ a, Q a -> G a s) : ∀ {t : KasT α}, Runs n lt t Q -> t.kasWp cmp G s
 | .ret _, h => hq _ h
 | .ask _ _ _, h => hc _ _ _ h.1 h.2.1 (Runs.wp hc hq h.2.2)
end
variable {O : KeyOrd} {key : Nat -> O.α} {n : Nat}
def ky (key : Nat -> O.α) (p : Array Nat) (k : Nat) : O.α := key (p.getD k 0)
abbrev ltk (O : KeyOrd) (key : Nat -> O.α) (i j : Nat) : Bool := O.blt (key i) (key j)
theorem q2l {p q : Array Nat} {i j : Nat} (h : p[i]? = q[j]?) : ky key p i = ky key q j := by
 unfold ky
 rw [Array.getD_eq_getD_getElem?, Array.getD_eq_getD_getElem?, h]
abbrev PO (n : Nat) (p : Array Nat) : Prop := p.Perm (List.range n).toArray
theorem PO.size {p : Array Nat} (h : PO n p) : p.size = n := by have := h.size_eq; simpa using this
theorem PO.lt {p : Array Nat} (h : PO n p) (h0 : 0 < n) (k : Nat) : p.getD k 0 < n := by
 rw [Array.getD_eq_getD_getElem?]
 cases e : p[k]? with
 | none => exact h0
 | some x =>
  have : x ∈ (List.range n).toArray := h.mem_iff.mp (Array.mem_of_getElem? e)
  simpa using this
theorem PO.rev {p : Array Nat} (h : PO n p) (i j : Nat) : PO n (kas_rev p i j) := (mirror_perm p i j _).trans h
theorem q85 {p : Array Nat} {i j : Nat} (hj : j <= p.size) (k : Nat) : ky key (kas_rev p i j) k = if i <= k /\ k < j then ky key p (i + j - 1 - k) else ky key p k := by
 have e := getElem?_mirror_all (i := i) hj k
 by_cases h1 : i <= k /\ k < j
 ·rw [if_pos h1] at e ⊢; exact q2l e
 ·rw [if_neg h1] at e ⊢; exact q2l e
theorem q4g {p : Array Nat} {i j : Nat} (hj : j <= p.size) (heq : ∀ k, i <= k -> k < j -> ky key p k = ky key p (j - 1)) (k : Nat) : ky key (kas_rev p i j) k = ky key p k := by
 rw [q85 hj]
 split
 ·rw [heq _ (by omega) (by omega), heq k (by omega) (by omega)]
 ·rfl
def Up (key : Nat -> O.α) (m : Nat) (p : Array Nat) : Prop := ∀ i j, i <= j -> j < m -> O.kle (ky key p i) (ky key p j)
def Dn (key : Nat -> O.α) (m : Nat) (p : Array Nat) : Prop := ∀ i j, i <= j -> j < m -> O.kle (ky key p j) (ky key p i)
theorem Up.one {p : Array Nat} : Up key 1 p := fun i j h1 h2 => by
 have : i = j := by omega
 subst this
 exact KeyOrd.kle_refl _
theorem Up.snoc {m : Nat} {p : Array Nat} (h : Up key m p) (h1 : 1 <= m) (hl : O.kle (ky key p (m - 1)) (ky key p m)) : Up key (m + 1) p := fun i j hij hj => by
 by_cases e : j = m
 ·subst e
  by_cases e2 : i = j
  ·subst e2; exact KeyOrd.kle_refl _
  ·exact KeyOrd.kle_trans (h i (j - 1) (by omega) (by omega)) hl
 ·exact h i j hij (by omega)
theorem Dn.snoc {m : Nat} {p : Array Nat} (h : Dn key m p) (h1 : 1 <= m) (hl : O.kle (ky key p m) (ky key p (m - 1))) : Dn key (m + 1) p := fun i j hij hj => by
 by_cases e : j = m
 ·subst e
  by_cases e2 : i = j
  ·subst e2; exact KeyOrd.kle_refl _
  ·exact KeyOrd.kle_trans hl (h i (j - 1) (by omega) (by omega))
 ·exact h i j hij (by omega)
theorem asc {p : Array Nat} (hp : PO n p) (h0 : 0 < n) : ∀ (f m : Nat), 1 <= m -> m + f <= n -> Up key m p -> Runs n (ltk O key) (kas_asc p f m) (fun r => m <= r /\ r <= m + f /\ Up key r p /\ (r = m + f \/ O.klt (ky key p r) (ky key p (r - 1))))
 | 0, m, h1, h2, h => ⟨Nat.le_refl _, Nat.le_refl _, h, .inl rfl⟩
 | f + 1, m, h1, h2, h => by
  refine ⟨hp.lt h0 _, hp.lt h0 _, ?_⟩
  cases e : ltk O key (p.getD m 0) (p.getD (m - 1) 0) with
  | true =>
   show Runs _ _ (if (true : Bool) = true then _ else _) _
   rw [if_pos rfl]
   exact ⟨Nat.le_refl _, by omega, h, .inr e⟩
  | false =>
   show Runs _ _ (if (false : Bool) = true then _ else _) _
   rw [if_neg (by decide)]
   refine (asc hp h0 f (m + 1) (by omega) (by omega) (h.snoc h1 e)).mono fun r ⟨a, b, c, d⟩ => ⟨by omega, by omega, c, ?_⟩
   rcases d with d | d
   ·exact .inl (by omega)
   ·exact .inr d
abbrev Eqs (key : Nat -> O.α) (p : Array Nat) (m q : Nat) : Prop := ∀ i, m - (q + 1) <= i -> i < m -> ky key p i = ky key p (m - 1)
theorem desc (h0 : 0 < n) : ∀ (f : Nat) (p : Array Nat) (m q : Nat), PO n p -> q + 1 <= m -> m + f <= n -> Dn key m p -> Eqs key p m q ->
  Runs n (ltk O key) (kas_desc f p m q) (fun r => PO n r.1 /\ r.2.2 + 1 <= r.2.1 /\ r.2.1 <= n /\ Dn key r.2.1 r.1 /\ Eqs key r.1 r.2.1 r.2.2)
 | 0, p, m, q, hp, h1, h2, h, he => ⟨hp, h1, by simpa using h2, h, he⟩
 | f + 1, p, m, q, hp, h1, h2, h, he => by
  refine ⟨hp.lt h0 _, hp.lt h0 _, ?_⟩
  have one : ∀ p', Eqs key p' (m + 1) 0 := fun p' i a b => by
   have : i = m := by omega
   subst this
   rfl
  cases e : ltk O key (p.getD m 0) (p.getD (m - 1) 0) with
  | true =>
   show Runs _ _ (if (true : Bool) = true then _ else _) _
   rw [if_pos rfl]
   have hn : Dn key (m + 1) p := h.snoc (by omega) (KeyOrd.kle_of_klt e)
   by_cases hq : q > 0
   ·rw [if_pos hq]
    have hk := q4g (key := key) (p := p) (i := m - (q + 1)) (j := m) (by rw [hp.size]; omega) he
    refine desc h0 f _ (m + 1) 0 (hp.rev _ _) (by omega) (by omega) (fun i j a b => ?_) (one _)
    rw [hk, hk]
    exact hn i j a b
   ·rw [if_neg hq]
    exact desc h0 f _ (m + 1) 0 hp (by omega) (by omega) hn (one _)
  | false =>
   show Runs _ _ (if (false : Bool) = true then _ else _) _
   rw [if_neg (by decide)]
   refine ⟨hp.lt h0 _, hp.lt h0 _, ?_⟩
   cases e2 : ltk O key (p.getD (m - 1) 0) (p.getD m 0) with
   | true =>
    show Runs _ _ (if (true : Bool) = true then _ else _) _
    rw [if_pos rfl]
    exact ⟨hp, h1, by show m <= n; omega, h, he⟩
   | false =>
    show Runs _ _ (if (false : Bool) = true then _ else _) _
    rw [if_neg (by decide)]
    have eq : ky key p m = ky key p (m - 1) := O.total _ _ e e2
    refine desc h0 f p (m + 1) (q + 1) hp (by omega) (by omega) (h.snoc (by omega) e2) fun i a b => ?_
    show ky key p i = ky key p m
    by_cases ei : i = m
    ·rw [ei]
    ·rw [eq]; exact he i (by omega) (by omega)
abbrev Done (key : Nat -> O.α) (n : Nat) (r : Nat × Array Nat) : Prop := PO n r.2 /\ 1 <= r.1 /\ r.1 <= n /\ Up key r.1 r.2
theorem tail3 {p : Array Nat} {m : Nat} (hp : PO n p) (h1 : 1 <= m) (h2 : m <= n) (h : Dn key m p) : Runs n (ltk O key) (kas_tail3 m n p) (Done key n) := by
 refine Runs.bind ((asc (hp.rev 0 m) (by omega) (n - m) m h1 (by omega) fun i j a b => ?_).mono fun r ⟨a, b, c, d⟩ => ?_)
 ·rw [q85 (by rw [hp.size]; omega), q85 (by rw [hp.size]; omega), if_pos (by omega), if_pos (by omega)]
  exact h _ _ (by omega) (by omega)
 ·exact ⟨hp.rev 0 m, by show 1 <= r; omega, by show r <= n; omega, c⟩
theorem q6u {p : Array Nat} {m : Nat} (hp : PO n p) (h1 : 1 <= m) (h2 : m + 1 <= n) (he : ∀ i, i < m -> ky key p i = ky key p (m - 1)) (hl : O.klt (ky key p m) (ky key p (m - 1))) : Runs n (ltk O key) (kas_descPart m n p) (Done key n) := by
 have hd : Dn key m p := fun i j a b => by rw [he i (by omega), he j b]; exact KeyOrd.kle_refl _
 refine Runs.bind ((desc (by omega) (n - (m + 1)) p (m + 1) 0 hp (by omega) (by omega) (hd.snoc h1 (KeyOrd.kle_of_klt hl)) fun i a b => ?_).mono fun r ⟨a, b, c, d, e⟩ => ?_)
 ·have : i = m := by omega
  subst this
  rfl
 ·split
  ·have hk := q4g (key := key) (p := r.1) (i := r.2.1 - (r.2.2 + 1)) (j := r.2.1) (by rw [a.size]; omega) e
   refine tail3 (a.rev _ _) (by omega) c fun i j x y => ?_
   rw [hk, hk]
   exact d i j x y
  ·exact tail3 a (by omega) c d
theorem count {p : Array Nat} (hp : PO n p) (h1 : 1 <= n) : Runs n (ltk O key) (kas_count n p) (Done key n) := by
 refine Runs.bind ((asc hp h1 (n - 1) 1 (Nat.le_refl _) (by omega) Up.one).mono fun m ⟨a, b, c, d⟩ => ?_)
 by_cases e : m = n
 ·rw [if_pos (by simpa using e)]
  exact ⟨hp, a, by show m <= n; omega, c⟩
 ·rw [if_neg (by simpa using e)]
  have hl : O.klt (ky key p m) (ky key p (m - 1)) := d.resolve_left (by omega)
  split
  ·refine ⟨hp.lt h1 _, hp.lt h1 _, ?_⟩
   cases e2 : ltk O key (p.getD 0 0) (p.getD (m - 1) 0) with
   | true => show Runs _ _ (if (true : Bool) = true then _ else _) _; rw [if_pos rfl]; exact ⟨hp, a, by show m <= n; omega, c⟩
   | false =>
    show Runs _ _ (if (false : Bool) = true then _ else _) _
    rw [if_neg (by decide)]
    have eqs : ∀ i, i < m -> ky key p i = ky key p (m - 1) := fun i hi =>
     KeyOrd.kle_antisymm (c i (m - 1) (by omega) (by omega)) (KeyOrd.kle_trans (show O.kle (ky key p (m - 1)) (ky key p 0) from e2) (c 0 i (by omega) hi))
    have hk := q4g (key := key) (p := p) (i := 0) (j := m) (by rw [hp.size]; omega) fun k _ hk => eqs k hk
    exact q6u (hp.rev _ _) a (by omega) (fun i hi => by rw [hk, hk]; exact eqs i hi) (by rw [hk, hk]; exact hl)
  ·have em : m = 1 := by omega
   subst em
   exact q6u hp (by omega) (by omega) (fun i hi => by rw [show i = 0 by omega]) hl
theorem place {p : Array Nat} {k : Nat} (hp : PO n p) (h0 : 0 < n) (hs : Up key k p) : ∀ (f l r : Nat), r - l <= f -> l <= r -> r <= k -> (∀ i, i < l -> O.kle (ky key p i) (ky key p k)) -> (∀ i, r <= i -> i < k -> O.klt (ky key p k) (ky key p i)) ->
  Runs n (ltk O key) (kas_place p k f l r) (fun l => l <= k /\ (∀ i, i < l -> O.kle (ky key p i) (ky key p k)) /\ ∀ i, l <= i -> i < k -> O.klt (ky key p k) (ky key p i))
 | 0, l, r, h1, h2, h3, ha, hb => ⟨by omega, ha, fun i x y => hb i (by omega) y⟩
 | f + 1, l, r, h1, h2, h3, ha, hb => by
  unfold kas_place
  by_cases e : l ≥ r
  ·rw [if_pos e]
   exact ⟨by omega, ha, fun i x y => hb i (by omega) y⟩
  ·rw [if_neg e]
   refine ⟨hp.lt h0 _, hp.lt h0 _, ?_⟩
   cases e2 : ltk O key (p.getD k 0) (p.getD ((l + r) / 2) 0) with
   | true =>
    show Runs _ _ (if (true : Bool) = true then _ else _) _
    rw [if_pos rfl]
    exact place hp h0 hs f l ((l + r) / 2) (by omega) (by omega) (by omega) ha fun i x y => KeyOrd.klt_of_klt_of_kle (show O.klt (ky key p k) (ky key p ((l + r) / 2)) from e2) (hs _ _ x y)
   | false =>
    show Runs _ _ (if (false : Bool) = true then _ else _) _
    rw [if_neg (by decide)]
    exact place hp h0 hs f ((l + r) / 2 + 1) r (by omega) (by omega) h3 (fun i x => KeyOrd.kle_trans (hs i ((l + r) / 2) (by omega) (by omega)) e2) hb
theorem q86 {p : Array Nat} {src d : Nat} (hs : src < p.size) (hd : d <= src) (k : Nat) : ky key (bubble p src d) k = if k = src - d then ky key p src else if src - d < k /\ k <= src then ky key p (k - 1) else ky key p k := by
 have e := getElem?_bubble hs d hd k
 split
 ·rename_i h; rw [if_pos h] at e; exact q2l e
 ·rename_i h
  rw [if_neg h] at e
  split
  ·rename_i h2; rw [if_pos h2] at e; exact q2l e
  ·rename_i h2; rw [if_neg h2] at e; exact q2l e
theorem bin (h0 : 0 < n) : ∀ (f : Nat) (p : Array Nat) (k : Nat), PO n p -> 1 <= k -> k + f = n -> Up key k p -> Runs n (ltk O key) (kas_bin f p k) (fun p => PO n p /\ Up key n p)
 | 0, p, k, hp, h1, h2, h => by
  have : k = n := by omega
  subst this
  exact ⟨hp, h⟩
 | f + 1, p, k, hp, h1, h2, h => by
  refine Runs.bind ((place hp h0 h k 0 k (by omega) (by omega) (Nat.le_refl _) (fun i z => absurd z (Nat.not_lt_zero _)) fun i x y => absurd x (by omega)).mono fun l ⟨a, b, c⟩ => ?_)
  have hk := q86 (key := key) (p := p) (src := k) (d := k - l) (by rw [hp.size]; omega) (by omega)
  refine bin h0 f _ (k + 1) ((bubble_perm _ _ _).trans hp) (by omega) (by omega) fun i j x y => ?_
  rw [hk, hk]
  have e : k - (k - l) = l := by omega
  rw [e]
  by_cases i1 : i = l
  ·rw [if_pos i1]
   by_cases j1 : j = l
   ·rw [if_pos j1]; exact KeyOrd.kle_refl _
   ·rw [if_neg j1, if_pos (by omega)]
    exact KeyOrd.kle_of_klt (c (j - 1) (by omega) (by omega))
  ·rw [if_neg i1]
   by_cases i2 : l < i /\ i <= k
   ·rw [if_pos i2, if_neg (by omega), if_pos (by omega)]
    exact h _ _ (by omega) (by omega)
   ·rw [if_neg i2]
    by_cases j1 : j = l
    ·rw [if_pos j1]; exact b i (by omega)
    ·rw [if_neg j1]
     by_cases j2 : l < j /\ j <= k
     ·rw [if_pos j2]
      exact h _ _ (by omega) (by omega)
     ·rw [if_neg j2]
      exact h _ _ x (by omega)
theorem all (h1 : 1 <= n) : Runs n (ltk O key) (kas_sort n) (fun p => PO n p /\ Up key n p) := by
 refine Runs.bind ((count (Array.Perm.refl _) h1).mono fun r ⟨a, b, c, d⟩ => ?_)
 split
 ·have e : max r.1 1 = r.1 := by omega
  rw [e]
  exact bin h1 _ _ _ a b (by omega) d
 ·have e : r.1 = n := by omega
  rw [e] at d
  exact ⟨a, d⟩
end Srt
namespace Srt
open PySem PySem.W PyProof.Rows
def LO : KeyOrd where
 α := List Int
 blt a b := decide (a < b)
 irrefl a := decide_eq_false (List.lt_irrefl a)
 trans a b c h1 h2 := decide_eq_true (List.lt_trans (of_decide_eq_true h1) (of_decide_eq_true h2))
 negTrans a b c h := by
  have h := of_decide_eq_true h
  by_cases h1 : a < b
  ·exact .inl (decide_eq_true h1)
  ·by_cases h2 : b < c
   ·exact .inr (decide_eq_true h2)
   ·exact absurd h (List.not_lt.mpr (List.le_trans (List.not_lt.mp h2) (List.not_lt.mp h1)))
 total a b h1 h2 := List.le_antisymm (List.not_lt.mp (of_decide_eq_false h2)) (List.not_lt.mp (of_decide_eq_false h1))
section
variable {prog : Program} {w : World} {A : Around} {E : Value -> Shared -> Prop} {s : Shared} {Q : Bool -> Shared -> Prop}
theorem lex : ∀ {us vs : List Value} {ks js : List Int} {i : Nat}, IntsAre us ks -> IntsAre vs js -> ks.length = js.length -> Q (decide (ks < js)) s -> KatLex prog w A true false Q (us.zip vs) i s
 | _, _, [], [], i, .nil, .nil, _, h => by
  have e : decide (([] : List Int) < []) = false := rfl
  rw [e] at h
  exact h
 | _, _, k :: ks, j :: js, i, .cons _ t hu, .cons _ t' hv, hl, h => by
  refine kat_cons (wpAny_eqBool_int ?_)
  by_cases e : k = j
  ·subst e
   rw [show (k == k) = true by simp]
   refine kat_yes (lex hu hv (by simpa using hl) ?_)
   have e2 : decide (k :: ks < k :: js) = decide (ks < js) := by simp [List.cons_lt_cons_iff]
   rw [e2] at h
   exact h
  ·rw [show (k == j) = false by simpa using e]
   have e2 : decide (k :: ks < j :: js) = decide (k < j) := by simp [List.cons_lt_cons_iff, e]
   rw [e2] at h
   refine kat_no ?_
   by_cases hi : i = 0
   ·subst hi
    exact oneLt_int h
   ·rw [show (true && i == 0) = false by simpa using hi]
    exact kat_one _ _ (lt_int h)
theorem q5b {κ : SortKind} {a : Addr} {vs : List Value} {n : Nat} {P : PySem.Fin -> Shared -> Prop} {lt : Nat -> Nat -> Bool} {G : Array Nat -> Prop} (ho : s.heap.get? a = some (seqObj "list" vs.toArray n)) (h64 : vs.length < 64) (hG : ∀ p, G p -> p.size = vs.length)
  (hk : 2 <= vs.length -> ∀ (h' : Heap), (∀ b o, b ≠ a -> s.heap.get? b = some o -> h'.get? b = some o) -> ∀ (R : SortKind -> Shared -> Prop), R κ { s with heap := h' } -> wpAny (model prog w) A (keyKind' vs.toArray) R (fun _ _ => False) { s with heap := h' })
  (ha : 2 <= vs.length -> ∀ (h' : Heap), (∀ b o, b ≠ a -> s.heap.get? b = some o -> h'.get? b = some o) -> ∀ i j C, i < vs.length -> j < vs.length -> C (lt i j) { s with heap := h' } -> kas_ask prog w A κ vs i j C { s with heap := h' })
  (hr : 2 <= vs.length -> Runs vs.length lt (kas_sort vs.length) G)
  (h : ∀ out : Array Value, (vs.length < 2 /\ out = vs.toArray \/ ∃ p, G p /\ out = (p.toList.map fun i => vs.getD i Value.none).toArray) -> P (.done (.ret .none)) { s with heap := sortedHeap s.heap a vs out }) :
  wpAny (model prog w) A (Builtin.«list.sort» ⟨[.ref a], []⟩) P E s := by
 have hlt : a < s.heap.objs.size := Heap.lt_size ho
 obtain ⟨e1, ho1⟩ : ∃ e1, (s.heap.update a (Obj.mapSeq fun _ => (#[] : Array Value))).get? a = some (seqObj "list" #[] e1) := ⟨_, get?_update_seq ho fun _ => #[]⟩
 have kp : ∀ b o, b ≠ a -> s.heap.get? b = some o -> (((s.heap.update a (Obj.mapSeq fun _ => (#[] : Array Value))).push (seqObj "tuple" vs.toArray 0)).push (seqObj "list" #[] 0)).get? b = some o := fun b o hb e =>
  Heap.get?_push_of_some _ (Heap.get?_push_of_some _ (((Heap.SameBut.update s.heap a (Obj.mapSeq fun _ => (#[] : Array Value))).2 b hb).trans e))
 have ho6 : (((s.heap.update a (Obj.mapSeq fun _ => (#[] : Array Value))).push (seqObj "tuple" vs.toArray 0)).push (seqObj "list" #[] 0)).get? a = some (seqObj "list" #[] e1) := Heap.get?_push_of_some _ (Heap.get?_push_of_some _ ho1)
 rw [list_sort_plain]
 refine wpAny_bind (listItems_at ho rfl (wpAny_bind (listUpdate_at ho rfl (wpAny_bind (seqEpoch_at ho1 rfl (wpAny_bind (wpAny_newTuple (wpAny_bind (wpAny_newList (wpAny_holding ?_) (Nat.zero_le _))) (by show vs.length <= _; rw [sizeLine_eq]; omega))))) (by rw [List.size_toArray, sizeLine_eq]; omega) (Nat.zero_le _))))
 show wpAny (model prog w) A _ P E { s with heap := ((s.heap.update a (Obj.mapSeq fun _ => (#[] : Array Value))).push (seqObj "tuple" vs.toArray 0)).push (seqObj "list" #[] 0) }
 dsimp only
 by_cases h2 : vs.length < 2
 ·have h2' : vs.toArray.size < 2 := by rw [List.size_toArray]; exact h2
  rw [if_pos h2', if_pos h2']
  refine wpAny_bind (wpAny_pure ?_)
  rw [StateT.run_pure]
  refine wpAny_bind (wpAny_pure ?_)
  dsimp only
  have eo : Array.map (fun x : Value × Value => x.2) (arrOf (SortSt.mk' general' (vs.toArray.zip vs.toArray) #[] 7 none)) = vs.toArray := by
   show Array.map (fun x : Value × Value => x.2) (vs.toArray.zip vs.toArray) = vs.toArray
   apply Array.toList_inj.mp
   rw [Array.toList_map, Array.toList_zip]
   exact List.map_snd_zip (Nat.le_refl _)
  rw [eo]
  refine wpAny_bind (seqEpoch_at ho6 rfl (wpAny_bind (listUpdate_at ho6 rfl ?_ (Nat.zero_le _) (by rw [List.size_toArray, sizeLine_eq]; omega))))
  simp only [bne_self_eq_false, Bool.false_eq_true, if_false]
  exact wpAny_pure (h _ (.inl ⟨h2, rfl⟩))
 ·have h2' : ¬ vs.toArray.size < 2 := by rw [List.size_toArray]; exact h2
  rw [if_neg h2', if_neg h2']
  obtain ⟨s6, es6⟩ : ∃ s6 : Shared, s6 = { s with heap := ((s.heap.update a (Obj.mapSeq fun _ => (#[] : Array Value))).push (seqObj "tuple" vs.toArray 0)).push (seqObj "list" #[] 0) } := ⟨_, rfl⟩
  have ho7 : s6.heap.get? a = some (seqObj "list" #[] e1) := by rw [es6]; exact ho6
  have hk' := hk (by omega) _ kp (fun κ' s0 => κ' = κ /\ s0 = s6) ⟨rfl, es6.symm⟩
  have ha' := ha (by omega) _ kp
  rw [<- es6] at hk' ha' ⊢
  refine wpAny_bind (wpAny_mono hk' (fun κ' s0 hκ => ?_) fun _ _ x => x.elim)
  obtain ⟨rfl, rfl⟩ := hκ
  refine wpAny_bind (wpAny_mono (kat_run (Q := fun st' s' => s' = s0 /\ ∃ p : Array Nat, arrOf st' = p.map (kas_item (vs.toArray.zip vs.toArray)) /\ failedOf st' = none /\ G p) (G := fun p s' => s' = s0 /\ G p)
   rfl (by omega) h64 (fun p' st' s' a1 a2 a3 a4 => ⟨a4.1, p', a2, a3, a4.2⟩) (Runs.wp ha' (fun p hp => ⟨rfl, hp⟩) (hr (by omega)))) ?_ fun _ _ e => e)
  rintro ⟨⟨⟩, st'⟩ s' ⟨rfl, p, har, hf, hp⟩
  dsimp only
  have hsz : (List.toArray (p.toList.map fun i => vs.getD i Value.none)).size = vs.length := by rw [List.size_toArray, List.length_map, Array.length_toList, hG p hp]
  rw [kat_snds rfl har]
  refine wpAny_bind (seqEpoch_at ho7 rfl (wpAny_bind (listUpdate_at ho7 rfl ?_ (Nat.zero_le _) (Nat.le_trans (Nat.le_of_eq hsz) (by rw [sizeLine_eq]; omega)))))
  rw [hf]
  simp only [bne_self_eq_false, Bool.false_eq_true, if_false]
  have hh := h _ (.inr ⟨p, hp, rfl⟩)
  rw [es6]
  exact wpAny_pure hh
theorem q6L {κ : SortKind} {l : Addr} {vs : List Value} {Q : Value -> Shared -> Prop} {lt : Nat -> Nat -> Bool} {G : Array Nat -> Prop} (hl : s.heap.IsList l vs.toArray) (h64 : vs.length < 64) (hG : ∀ p, G p -> p.size = vs.length)
  (hk : 2 <= vs.length -> ∀ (A : Around) (h' : Heap), (∀ b o, s.heap.get? b = some o -> h'.get? b = some o) -> ∀ (R : SortKind -> Shared -> Prop), R κ { s with heap := h' } -> wpAny (model prog w) A (keyKind' vs.toArray) R (fun _ _ => False) { s with heap := h' })
  (ha : 2 <= vs.length -> ∀ (A : Around) (h' : Heap), (∀ b o, s.heap.get? b = some o -> h'.get? b = some o) -> ∀ i j C, i < vs.length -> j < vs.length -> C (lt i j) { s with heap := h' } -> kas_ask prog w A κ vs i j C { s with heap := h' })
  (hr : 2 <= vs.length -> Runs vs.length lt (kas_sort vs.length) G)
  (h : ∀ out : Array Value, (vs.length < 2 /\ out = vs.toArray \/ ∃ p, G p /\ out = (p.toList.map fun i => vs.getD i Value.none).toArray) -> Q (.ref (s.heap.objs.size + 1)) { s with heap := sortedAll s.heap vs out }) :
  wpAny (model prog w) A (call (.builtin "sorted") [.ref l]) Q E s := by
 refine Calls.call_function_entry kind_sorted plain_sorted entry_sorted (args_sorted1 _) ?_
 unfold Builtin.«sorted»
 refine wpAny_bind (m := checkCount "sorted" 1 1 _) (wpAny_pure (wpAny_bind (collect_list hl (wpAny_bind (wpAny_newList ?_ (by rw [sizeLine_eq]; omega))) (by rw [sizeLine_eq]; omega))))
 have hsz : ((s.heap.push (seqObj "list" #[] 0)).update s.heap.objs.size (Obj.mapSeq (· ++ vs.toArray))).objs.size = s.heap.objs.size + 1 := by
  rw [Heap.size_update, size_push']
 have hoL : (((s.heap.push (seqObj "list" #[] 0)).update s.heap.objs.size (Obj.mapSeq (· ++ vs.toArray))).push (seqObj "list" vs.toArray 0)).get? (s.heap.objs.size + 1) = some (seqObj "list" vs.toArray 0) := by
  rw [<- hsz]; exact Heap.get?_push_size _ rfl
 have kp : ∀ b o, s.heap.get? b = some o -> (((s.heap.push (seqObj "list" #[] 0)).update s.heap.objs.size (Obj.mapSeq (· ++ vs.toArray))).push (seqObj "list" vs.toArray 0)).get? b = some o := fun b o q => by
  have hlt : b < s.heap.objs.size := Heap.lt_size q
  rw [Heap.get?_push_ne _ _ _ (by rw [hsz]; exact Nat.ne_of_lt (Nat.lt_succ_of_lt hlt)), Heap.get?_update_ne _ _ _ _ (Nat.ne_of_lt hlt), Heap.get?_push_ne _ _ _ (Nat.ne_of_lt hlt)]
  exact q
 have kq : ∀ b o, s.heap.get? b = some o -> b ≠ s.heap.objs.size + 1 := fun b o q => Nat.ne_of_lt (Nat.lt_succ_of_lt (Heap.lt_size q))
 show wpAny _ _ _ _ _ { s with heap := ((s.heap.push (seqObj "list" #[] 0)).update s.heap.objs.size (Obj.mapSeq (· ++ vs.toArray))).push (seqObj "list" vs.toArray 0) }
 rw [hsz]
 refine wpAny_bind (wpAny_holding (wpAny_call_entry slot_list_sort ⟨_, hoL, rfl⟩ entry_list_sort (q5b (s := { s with heap := _ }) hoL h64 hG (fun h2 h' k => hk h2 _ h' fun b o q => k b o (kq b o q) (kp b o q)) (fun h2 h' k => ha h2 _ h' fun b o q => k b o (kq b o q) (kp b o q)) hr fun out ho => ⟨_, rfl, ?_⟩) (args_list_sort _)))
 exact wpAny_pure ⟨_, rfl, h out ho⟩
end
end Srt
namespace L2
open PySem PySem.Spec PyProof.Rows PySem.W
theorem qae {α : Type} {R : α -> α -> Prop} : ∀ {l : List α}, l.length < 2 -> l.Pairwise R
 | [], _ => .nil
 | [_], _ => List.pairwise_singleton _ _
 | _ :: _ :: _, h => absurd h (by simp)
theorem q56 {α : Type} (l : List α) (d : α) : (List.range l.length).map (fun i => l.getD i d) = l := by
 apply List.ext_getElem
 ·simp
 ·intro i h1 h2
  simp [List.getD_eq_getElem?_getD, h2]
def rSortT (K : PySem.W.Frag) : List V -> Hp -> VK -> Prop := fun xs H Q => ∃ (p : Addr) (l : List (Addr × List Int)) (m : Nat), xs = [.ref p] /\ SqL K H p (l.map fun x => V.ref x.1) /\ l.length < 64 /\ 1 <= m /\ (∀ x ∈ l, H x.1 = some (.tup (x.2.map V.int)) /\ x.2.length = m) /\
 ∀ (q : Addr) (l' : List (Addr × List Int)), H q = none -> l'.Perm l -> l'.Pairwise (fun a b => ¬ b.2 < a.2) -> Q (.ref q) (upd H q (.lst (l'.map fun x => V.ref x.1)))
theorem q3S {X : Cx} {pins : List (Addr × Obj)} {σ : St} {H : Hp} {s : Shared} {b : Addr} {ks : List Int} (I : Inv X pins σ H s) (e : H b = some (.tup (ks.map V.int))) : ∃ (o : Obj) (us : List Value) (n : Nat), s.heap.get? b = some o /\ o.cls = .type "tuple" /\ o.data = .seq us.toArray n /\ IntsAre us ks := by
 obtain ⟨_, its, r, o, h1, h2, n, h3⟩ := (show q06 X.prog X.w H s.heap b (.tup (ks.map V.int)) from I.hok b _ e)
 exact ⟨o, its, n, h1, h2, h3, q2z r⟩
theorem q4h {us : List Value} {ks : List Int} (h : IntsAre us ks) : us.length = ks.length := by
 induction h with
 | nil => rfl
 | cons _ _ _ ih => simp [ih]
section
variable {X : Cx}
theorem sortTK (K : PySem.W.Frag) (hK : X.K = K := by rfl) : q1S X (.builtin "sorted") (rSortT K) := by
 subst hK
 intro pins s σ H xs us Q I r h
 obtain ⟨p, l, m, rfl, hq, h64, hm, hl, q⟩ := h
 obtain ⟨u, rfl, rx⟩ := q3s r
 cases rx
 obtain ⟨its, rv, pl, hz⟩ := I.list hq
 have ei : its = (l.map (·.1)).map Value.ref := q25 (by rw [List.map_map]; exact rv)
 have hn : its.length = l.length := by rw [ei]; simp
 have big := qD
 have gd : ∀ i (hi : i < l.length), its.getD i Value.none = .ref l[i].1 := fun i hi => by rw [ei]; simp [List.getD_eq_getElem?_getD, hi]
 refine Srt.q6L (κ := tuples' true) (lt := Srt.ltk Srt.LO fun i => (l.map (·.2)).getD i []) (G := fun p => Srt.PO its.length p /\ Srt.Up (O := Srt.LO) (fun i => (l.map (·.2)).getD i []) its.length p) pl.isList (by omega) (fun p hp => hp.1.size) ?_ ?_ (fun h2 => Srt.all (by omega)) ?_
 ·intro h2 A h' kp R hR
  have I' : Inv X pins σ H { s with heap := h' } := I.kept (t' := s.toks) kp
  obtain ⟨fs, kt, hf⟩ : ∃ fs : List Value, KatTups h' its fs /\ fs.length = its.length /\ ∀ v ∈ fs, ∃ n t, v = Value.int n t := by
   rw [ei]
   clear ei hn gd rv h2 q h64 hq hz pl
   induction l with
   | nil => exact ⟨[], trivial, rfl, fun v hv => nomatch hv⟩
   | cons x l ih =>
    obtain ⟨fs, a1, a2, a3⟩ := ih fun y hy => hl y (List.mem_cons_of_mem _ hy)
    obtain ⟨e1, e2⟩ := hl x (.head _)
    obtain ⟨o, us, n, g1, g2, g3, g4⟩ := q3S I' e1
    have hlen := q4h g4
    match us, x.2, g4, hlen, e2 with
    | _, _, .cons k t hr, _, _ =>
     refine ⟨.int k t :: fs, KatTups.cons g1 g2 g3 (by simp) a1, by simpa using a2, fun v hv => ?_⟩
     rcases List.mem_cons.mp hv with rfl | hv
     ·exact ⟨_, _, rfl⟩
     ·exact a3 v hv
    | _, _, .nil, _, e2 => simp at e2; omega
  refine kat_kind (s := { s with heap := h' }) kt (by omega) (T := .type "int") (fun v hv => ?_) (by decide) (by rw [show (Value.type "int" != Value.type "tuple") = true by decide]; exact hR)
  obtain ⟨n, t, rfl⟩ := hf.2 v hv
  exact .now
 ·intro h2 A h' kp i j C hi hj hC
  have I' : Inv X pins σ H { s with heap := h' } := I.kept (t' := s.toks) kp
  unfold kas_ask
  rw [gd i (by omega), gd j (by omega)]
  obtain ⟨a1, a2⟩ := hl l[i] (List.getElem_mem _)
  obtain ⟨b1, b2⟩ := hl l[j] (List.getElem_mem _)
  obtain ⟨o, us, n, g1, g2, g3, g4⟩ := q3S I' a1
  obtain ⟨o', us', n', g1', g2', g3', g4'⟩ := q3S I' b1
  have l1 := q4h g4
  have l2 := q4h g4'
  refine kat_lt (s := { s with heap := h' }) g1 g3 g1' g3' ?_
  rw [show decide (us.toArray.size < us'.toArray.size) = false by simp; omega]
  refine Srt.lex (s := { s with heap := h' }) g4 g4' (by omega) ?_
  have e1 : (l.map (·.2)).getD i [] = l[i].2 := by simp [List.getD_eq_getElem?_getD, show i < l.length by omega]
  have e2 : (l.map (·.2)).getD j [] = l[j].2 := by simp [List.getD_eq_getElem?_getD, show j < l.length by omega]
  have hC' : C (decide ((l.map (·.2)).getD i [] < (l.map (·.2)).getD j [])) { s with heap := h' } := hC
  rw [e1, e2] at hC'
  exact hC'
 ·intro out ho
  obtain ⟨l', hp, ho', hs⟩ : ∃ l' : List (Addr × List Int), l'.Perm l /\ out.toList = l'.map (fun x => Value.ref x.1) /\ l'.Pairwise (fun a b => ¬ b.2 < a.2) := by
   rcases ho with ⟨h2, rfl⟩ | ⟨pp, ⟨po, up⟩, rfl⟩
   ·refine ⟨l, List.Perm.refl _, by rw [ei]; simp, ?_⟩
    exact qae (by omega)
   ·have po' : pp.toList.Perm (List.range l.length) := by rw [<- hn]; simpa using po.toList
    refine ⟨pp.toList.map fun i => l.getD i (0, []), by have := po'.map fun i => l.getD i (0, []); rwa [q56] at this, ?_, ?_⟩
    ·rw [List.map_map]
     refine List.map_congr_left fun i hi => ?_
     have : i < l.length := by simpa using po'.mem_iff.mp hi
     rw [gd i this]
     simp [List.getD_eq_getElem?_getD, this]
    ·rw [List.pairwise_map]
     refine List.pairwise_iff_getElem.mpr fun i j hi hj hij => ?_
     have hs : pp.size = its.length := po.size
     have hi' : i < pp.size := by simpa using hi
     have hj' : j < pp.size := by simpa using hj
     have this : Srt.LO.blt _ _ = false := up i j (by omega) (by omega)
     have g : ∀ k (hk : k < pp.size), Srt.ky (O := Srt.LO) (fun i => (l.map (·.2)).getD i []) pp k = (l.getD (pp.toList[k]'(by simpa using hk)) (0, [])).2 := fun k hk => by
      unfold Srt.ky
      simp only [Array.getD, hk, dif_pos, Array.getElem_toList]
      have hb : pp[k] < l.length := by
       have : pp[k] ∈ pp.toList := by simp
       simpa using po'.mem_iff.mp this
      show (l.map (·.2)).getD pp[k] [] = _
      simp only [List.getD_eq_getElem?_getD, List.getElem?_map, List.getElem?_eq_getElem hb, Option.map_some, Option.getD_some]
     rw [g i hi', g j hj'] at this
     exact of_decide_eq_false this
  obtain ⟨e, he⟩ := sortedAll_at s.heap its out
  refine ⟨.ref (s.heap.objs.size + 1), upd H (s.heap.objs.size + 1) (.lst (l'.map fun x => V.ref x.1)), I.laid (t' := s.toks) (fun _ _ => sortedAll_old) (Nat.le_succ _) ⟨?_, out.toList, e, ?_, ?_⟩, rfl, q _ _ (I.hok.fresh (Nat.le_succ _)) hp hs⟩
  ·have := hp.length_eq
   rw [List.length_map]
   omega
  ·rw [ho']
   clear ho' hs hp
   induction l' with
   | nil => exact .nil
   | cons x l' ih => exact .cons rfl ih
  ·simpa [seqObj] using he
end
end L2
namespace L2
open PySem PySem.Spec PyProof.Rows
theorem q2m {k : Nat} {A : Around} (hr : Room k A) : A.units + 1 < cLine := by have := hr.un; omega
section
variable {σ : St} {H : Hp} {Q : VK} {td ty tv : TE} {nx : St -> Hp -> Prop} {rt : V -> Hp -> Prop} {bk ct : St -> Hp -> Prop}
theorem r_dnew (q : ∀ p, H p = none -> Q (.ref p) (upd H p (.dT []))) : qa7 σ H Q := q
theorem r_dget (q : td σ H fun x H1 => ty σ H1 fun y H2 => ∃ a v, x = .ref a /\ DGet H2 a y (some v) /\ Q v H2) : tDGet td ty σ H Q := q
theorem r_din (q : ty σ H fun y H1 => td σ H1 fun x H2 => ∃ a o, x = .ref a /\ DGet H2 a y o /\ Q (.bl o.isSome) H2) : tDIn ty td σ H Q := q
theorem r_dnin (q : ty σ H fun y H1 => td σ H1 fun x H2 => ∃ a o, x = .ref a /\ DGet H2 a y o /\ Q (.bl (!o.isSome)) H2) : q7k ty td σ H Q := q
theorem r_dput (q : tv σ H fun v H1 => td σ H1 fun x H2 => ty σ H2 fun y H3 => ∃ a H4, x = .ref a /\ DPut H3 a y v H4 /\ nx σ H4) : sDPut td ty tv ⟨nx, rt, bk, ct⟩ σ H := q
theorem r_hold {t : TS} {D : Ends} (q : ∃ a kvs, H a = some (.dT kvs) /\ ∀ o, t D σ (upd H a (.frz o (.dT kvs)))) : sHold t D σ H := q
theorem r_dk {R : It -> Hp -> Prop} (q : td σ H fun x H1 => ∃ a o kvs, x = .ref a /\ H1 a = some (.frz o (.dT kvs)) /\ R (Itd a o kvs) H1) : iDk td σ H R := q
theorem r_dp {R : It -> Hp -> Prop} (q : td σ H fun x H1 => ∃ a o kvs, x = .ref a /\ H1 a = some (.frz o (.dT kvs)) /\ R (Itp a o kvs) H1) : iDp td σ H R := q
end
theorem r_augN {i : Nat} {v : V} {te : TE} {ip : V -> V -> Hp -> VK -> Prop} {σ : St} {H : Hp} {nx : St -> Hp -> Prop} {rt : V -> Hp -> Prop} {bk ct : St -> Hp -> Prop} (h : σ[i]? = some (some v)) (q : te σ H fun y H1 => ip v y H1 fun z H2 => nx (σ.set i (some z)) H2) : tAug i te ip ⟨nx, rt, bk, ct⟩ σ H := ⟨v, h, q⟩
theorem q7D {c : TT} {tb : TS} {σ : St} {H : Hp} {nx : St -> Hp -> Prop} {rt : V -> Hp -> Prop} {bk ct : St -> Hp -> Prop} (W : Nat -> St -> Hp -> Prop) (m : Nat) (h0 : W m σ H)
  (go : ∀ m σ H, W m σ H -> c σ H fun b H1 => if b = true then ∃ N : St -> Hp -> Prop, (∀ σ' H', N σ' H' -> ∃ m', m' < m /\ W m' σ' H') /\ tb ⟨N, rt, nx, N⟩ σ H1 else nx σ H1) : qa6 c tb ⟨nx, rt, bk, ct⟩ σ H := ⟨W, ⟨m, h0⟩, go⟩
theorem qaf {X : Cx} {tg l : Expr} {tl : TE} (K : PySem.W.Frag) (hl : PE X l tl) : PI X tg l (iDk tl) := pi_dk hl
theorem pi_dpK {X : Cx} {elts : List Expr} {k : Nat} {tp : Pos} {l : Expr} {tl : TE} {apos cpos : Pos} (K : PySem.W.Frag) (hl : PE X l tl) (hbase : attributeBase l "items" X.env (eval l X.env) = eval l X.env := by rfl) (hline : (apos.endLine == cpos.line) = true := by rfl) : PI X (.Tuple elts k tp) (.Call (.Attribute l "items" apos) [] [] cpos) (iDp tl) := pi_dp hl hbase hline
end L2
namespace Ce
open L2 PySem PySem.Spec PyProof.Rows
def Sd.ns (s : Sd) : List Int := [s.rm, s.tk, s.op, s.b, s.wt]
def Sd.key (s : Sd) : List Key := [.inl s.rm, .inl s.tk, .inl s.op, .inl s.b, .inl s.wt]
theorem Sd.ns_inj {a b : Sd} (h : a.ns = b.ns) : a = b := by
 cases a; cases b; simp only [Sd.ns, List.cons.injEq, and_true] at h; obtain ⟨h1, h2, h3, h4, h5⟩ := h; subst h1 h2 h3 h4 h5; rfl
theorem Sd.key_inj {a b : Sd} (h : a.key = b.key) : a = b := by
 cases a; cases b; simp only [Sd.key, List.cons.injEq, Sum.inl.injEq, and_true] at h; obtain ⟨h1, h2, h3, h4, h5⟩ := h; subst h1 h2 h3 h4 h5; rfl
theorem Sd.vs_inj {a b : Sd} (h : a.vs = b.vs) : a = b := by
 cases a; cases b; simp only [Sd.vs, List.cons.injEq, V.int.injEq, and_true] at h; obtain ⟨h1, h2, h3, h4, h5⟩ := h; subst h1 h2 h3 h4 h5; rfl
instance : DecidableEq Sd := fun a b => decidable_of_iff (a.ns = b.ns) ⟨Sd.ns_inj, fun h => by rw [h]⟩
def SAt (H : Hp) (p : Addr) (s : Sd) : Prop := H p = some (.tup s.vs)
theorem SAt.mono {H H' : Hp} (s : q03 H H') {p : Addr} {x : Sd} (h : SAt H p x) : SAt H' p x := s _ _ h
theorem SAt.put {H : Hp} {D : Addr} {xs : List V} {o : HO} (hD : H D = some (.lst xs)) {p : Addr} {x : Sd} (h : SAt H p x) : SAt (upd H D o) p x := q03.lst hD _ _ h
theorem qam {K : PySem.W.Frag} {H : Hp} {a b : Addr} {s t : Sd} (ha : SAt H a s) (hb : SAt H b t) : Deq K H 1 (.ref a) (.ref b) (decide (s = t)) := by
 by_cases e : a = b
 ·subst e
  have : s = t := Sd.vs_inj (by have h := ha.symm.trans hb; simpa using h)
  rw [decide_eq_true this]
  exact .same a
 ·have h := Deq.tup (K := K) (n := 0) (e := fun j => eqV (s.vs.getD j .non) (t.vs.getD j .non)) e (SqT.of ha) (SqT.of hb) fun j h1 h2 => .flat (by
    have : j < 5 := h1
    obtain rfl | rfl | rfl | rfl | rfl : j = 0 \/ j = 1 \/ j = 2 \/ j = 3 \/ j = 4 := by omega
    all_goals rfl) (by
    have : j < 5 := h1
    obtain rfl | rfl | rfl | rfl | rfl : j = 0 \/ j = 1 \/ j = 2 \/ j = 3 \/ j = 4 := by omega
    all_goals rfl)
  have e2 : ((List.range (min s.vs.length t.vs.length)).all (fun j => eqV (s.vs.getD j .non) (t.vs.getD j .non)) && s.vs.length == t.vs.length) = decide (s = t) := by
   have e3 : decide (s = t) = (decide (s.rm = t.rm) && (decide (s.tk = t.tk) && (decide (s.op = t.op) && (decide (s.b = t.b) && decide (s.wt = t.wt))))) := by
    cases s; cases t; simp [Bool.decide_and]
   rw [e3]
   show ((eqV (.int s.rm) (.int t.rm) && (eqV (.int s.tk) (.int t.tk) && (eqV (.int s.op) (.int t.op) && (eqV (.int s.b) (.int t.b) && (eqV (.int s.wt) (.int t.wt) && true))))) && true) = _
   simp [eqV]
   rfl
  rw [e2] at h
  exact h
def sdOf (H : Hp) (b : Addr) : Option Sd := match H b with
 | some (.tup [.int r, .int t, .int o, .int bb, .int w]) => some ⟨r, t, o, bb, w⟩
 | _ => none
theorem q7v {H : Hp} {b : Addr} {s : Sd} (h : SAt H b s) : sdOf H b = some s := by
 unfold sdOf
 rw [h]
 rfl
theorem qat {H : Hp} {s : Sd} : ∀ {ps : List Addr} {sts : List Sd}, Rows SAt H ps sts -> (ps.any fun b => decide (sdOf H b = some s)) = decide (s ∈ sts)
 | [], [], _ => by simp
 | [], _ :: _, h => by simp [Rows] at h
 | _ :: _, [], h => by simp [Rows] at h
 | p :: ps, t :: sts, h => by
  have h1 : SAt H p t := h.2 0 p t rfl rfl
  have h2 : Rows SAt H ps sts := ⟨by have := h.1; simpa using this, fun i q x a b => h.2 (i + 1) q x a b⟩
  rw [List.any_cons, qat h2, q7v h1]
  by_cases e : t = s
  ·subst e; simp
  ·simp [e, show ¬ s = t from fun z => e z.symm]
theorem Rows.mem {α : Type} {At : Hp -> Addr -> α -> Prop} {H : Hp} {ps : List Addr} {xs : List α} (h : Rows At H ps xs) {b : Addr} (hb : b ∈ ps) : ∃ x ∈ xs, At H b x := by
 obtain ⟨i, hi, e⟩ := List.getElem_of_mem hb
 have hj : i < xs.length := by rw [<- h.1]; exact hi
 exact ⟨xs[i], List.getElem_mem hj, h.2 i b _ (by rw [List.getElem?_eq_getElem hi, e]) (List.getElem?_eq_getElem hj)⟩
theorem q6c {K : PySem.W.Frag} {H : Hp} {Q : VK} {p q : Addr} {s : Sd} {sts : List Sd} (hl : qT SAt H p sts) (hq : SAt H q s) (k : Q (.bl (!decide (s ∈ sts))) H) : rInD K 1 true (.ref q) (.ref p) H Q := by
 obtain ⟨ps, h1, h2⟩ := hl
 refine ⟨p, ps, fun b => decide (sdOf H b = some s), rfl, SqL.of h1, fun b hb => ?_, ?_⟩
 ·obtain ⟨t, _, ht⟩ := Rows.mem h2 hb
  have := qam (K := K) ht hq
  show Deq K H 1 (.ref b) (.ref q) (decide (sdOf H b = some s))
  rw [q7v ht]
  simpa using this
 ·rw [qat h2]; exact k
abbrev Dk := List (Sd × V)
def dkv (l : Dk) : List (List Key × V) := l.map fun x => (x.1.key, x.2)
def dat (l : Dk) (s : Sd) : Option V := (l.find? fun x => decide (x.1 = s)).map (·.2)
theorem q5R (s : Sd) : ∀ l : Dk, valV (dkv l) s.key = dat l s
 | [] => rfl
 | x :: l => by
  by_cases e : x.1 = s
  ·rw [show dkv (x :: l) = (x.1.key, x.2) :: dkv l from rfl, q2O (by rw [e])]
   simp [dat, e]
  ·rw [show dkv (x :: l) = (x.1.key, x.2) :: dkv l from rfl, q2P (fun z => e (Sd.key_inj z)), q5R s l]
   simp [dat, e]
theorem q4n {l : Dk} {s : Sd} : dat l s = none ↔ s ∉ l.map (·.1) := by
 unfold dat
 rw [Option.map_eq_none_iff, List.find?_eq_none]
 simp only [decide_eq_true_eq, List.mem_map, not_exists, not_and]
theorem q6v {l : Dk} {s : Sd} {v : V} (hn : (l.map (·.1)).Nodup) (h : (s, v) ∈ l) : dat l s = some v := by
 induction l with
 | nil => cases h
 | cons x l ih =>
  rw [List.map_cons, List.nodup_cons] at hn
  rcases List.mem_cons.mp h with e | h
  ·subst e; simp [dat]
  ·have ne : ¬ x.1 = s := fun e => hn.1 (List.mem_map.mpr ⟨_, h, e.symm⟩)
   have := ih hn.2 h
   simpa [dat, ne] using this
theorem q3M {l : Dk} {s : Sd} : (dat l s).isSome = decide (s ∈ l.map (·.1)) := by
 cases e : dat l s with
 | none => rw [decide_eq_false (q4n.mp e)]; rfl
 | some v =>
  have : ¬ dat l s = none := by rw [e]; simp
  rw [decide_eq_true (Classical.byContradiction fun z => this (q4n.mpr z))]; rfl
theorem qbx {l : Dk} {s : Sd} {v : V} (h : s ∉ l.map (·.1)) : putK (dkv l) s.key v = dkv (l ++ [(s, v)]) := by
 unfold putK
 rw [q3Q, q5R, q4n.mpr h, if_neg (by decide)]
 simp [dkv]
def DAtS (H : Hp) (a : Addr) (l : Dk) : Prop := H a = some (.dT (dkv l))
theorem q5k {H : Hp} {a b : Addr} {l : Dk} {s : Sd} (h : Rd H a (.dT (dkv l))) (hb : SAt H b s) : DGet H a (.ref b) (dat l s) := .inr ⟨_, s.key, b, h, rfl, hb, (q5R s l).symm⟩
theorem q6t {H : Hp} {a b : Addr} {l : Dk} {s : Sd} {v : V} (h : DAtS H a l) (hb : SAt H b s) (hl : l.length < sizeLine) (hn : s ∉ l.map (·.1)) : DPut H a (.ref b) v (upd H a (.dT (dkv (l ++ [(s, v)])))) := by
 have := DPut.t (k := s.key) (v := v) h hb (by simpa [dkv] using hl)
 rwa [qbx hn] at this
inductive Rch {α : Type} (R : α -> α -> Prop) (a : α) : α -> Prop where
 | refl : Rch R a a
 | step {b c : α} : Rch R a b -> R b c -> Rch R a c
theorem Rch.trans {α : Type} {R : α -> α -> Prop} {a b c : α} (h1 : Rch R a b) (h2 : Rch R b c) : Rch R a c := by
 induction h2 with
 | refl => exact h1
 | step _ r ih => exact ih.step r
theorem Rch.head {α : Type} {R : α -> α -> Prop} {a b c : α} (h : R a b) (h2 : Rch R b c) : Rch R a c := (Rch.refl.step h).trans h2
structure Srch (R : Sd -> Sd -> Prop) (s0 : Sd) (row : List Sd) (pl : Nat) : Prop where
 nd : row.Nodup
 st : s0 ∈ row
 rch : ∀ x ∈ row, Rch R s0 x
 cl : ∀ i (h : i < row.length), i < pl -> ∀ y, R row[i] y -> y ∈ row
theorem Srch.start {R : Sd -> Sd -> Prop} {s0 : Sd} : Srch R s0 [s0] 0 := ⟨by simp, by simp, fun x hx => by rw [List.mem_singleton.mp hx]; exact .refl, fun i _ h => absurd h (Nat.not_lt_zero _)⟩
theorem Srch.end {R : Sd -> Sd -> Prop} {s0 : Sd} {row : List Sd} {pl : Nat} (h : Srch R s0 row pl) (hp : row.length <= pl) (x : Sd) : x ∈ row ↔ Rch R s0 x := by
 refine ⟨h.rch x, fun hx => ?_⟩
 induction hx with
 | refl => exact h.st
 | step _ r ih =>
  obtain ⟨i, hi, e⟩ := List.getElem_of_mem ih
  exact h.cl i hi (by omega) _ (by rw [e]; exact r)
structure Mid (R : Sd -> Sd -> Prop) (s0 here : Sd) (row : List Sd) (pl : Nat) (done : List Sd) : Prop where
 nd : row.Nodup
 st : s0 ∈ row
 rch : ∀ x ∈ row, Rch R s0 x
 cl : ∀ i (h : i < row.length), i < pl -> ∀ y, R row[i] y -> y ∈ row
 at' : row[pl]? = some here
 dn : ∀ y ∈ done, y ∈ row
theorem Srch.mid {R : Sd -> Sd -> Prop} {s0 here : Sd} {row : List Sd} {pl : Nat} (h : Srch R s0 row pl) (e : row[pl]? = some here) : Mid R s0 here row pl [] := ⟨h.nd, h.st, h.rch, h.cl, e, fun y z => nomatch z⟩
theorem Mid.old {R : Sd -> Sd -> Prop} {s0 here y : Sd} {row done : List Sd} {pl : Nat} (h : Mid R s0 here row pl done) (hy : y ∈ row) : Mid R s0 here row pl (done ++ [y]) :=
 ⟨h.nd, h.st, h.rch, h.cl, h.at', fun x hx => by rcases List.mem_append.mp hx with z | z; · exact h.dn x z
                                                 ·rw [List.mem_singleton.mp z]; exact hy⟩
theorem Mid.new {R : Sd -> Sd -> Prop} {s0 here y : Sd} {row done : List Sd} {pl : Nat} (h : Mid R s0 here row pl done) (hy : y ∉ row) (r : R here y) : Mid R s0 here (row ++ [y]) pl (done ++ [y]) := by
 have hpl : pl < row.length := (List.getElem?_eq_some_iff.mp h.at').1
 refine ⟨List.nodup_append.mpr ⟨h.nd, by simp, fun a ha b hb e => ?_⟩, List.mem_append_left _ h.st, fun x hx => ?_, fun i hi hl z rz => ?_, ?_, fun x hx => ?_⟩
 ·rw [List.mem_singleton.mp hb] at e; subst e; exact hy ha
 ·rcases List.mem_append.mp hx with z | z
  ·exact h.rch x z
  ·rw [List.mem_singleton.mp z]
   exact (h.rch here (List.mem_of_getElem? h.at')).step r
 ·rw [List.getElem_append_left (by omega)] at rz
  exact List.mem_append_left _ (h.cl i (by omega) hl z rz)
 ·rw [List.getElem?_append_left hpl]; exact h.at'
 ·rcases List.mem_append.mp hx with z | z
  ·exact List.mem_append_left _ (h.dn x z)
  ·exact List.mem_append_right _ z
theorem Mid.next {R : Sd -> Sd -> Prop} {s0 here : Sd} {row done : List Sd} {pl : Nat} (h : Mid R s0 here row pl done) (hd : ∀ y, R here y -> y ∈ done) : Srch R s0 row (pl + 1) := by
 refine ⟨h.nd, h.st, h.rch, fun i hi hl z rz => ?_⟩
 by_cases e : i = pl
 ·subst e
  have : row[i] = here := (List.getElem?_eq_some_iff.mp h.at').2
  rw [this] at rz
  exact h.dn z (hd z rz)
 ·exact h.cl i hi (by omega) z rz
def Ord (l : List Sd) : Prop := l.Pairwise fun a b => ¬ b.ns < a.ns
theorem q9l : ∀ {l m : List Sd}, l.Perm m -> Ord l -> Ord m -> l = m := fun {l m} hp hl hm =>
 hp.eq_of_pairwise (fun a b _ _ h1 h2 => Sd.ns_inj (List.le_antisymm (List.not_lt.mp h1) (List.not_lt.mp h2))) hl hm
structure IsR (R : Sd -> Sd -> Prop) (s : Sd) (l : List Sd) : Prop where
 nd : l.Nodup
 ord : Ord l
 mem : ∀ t, t ∈ l ↔ Rch R s t /\ Rch R t s
theorem IsR.uniq {R : Sd -> Sd -> Prop} {s t : Sd} {l m : List Sd} (h1 : IsR R s l) (h2 : IsR R t m) (e : Rch R s t /\ Rch R t s) : l = m := by
 refine q9l ((List.perm_ext_iff_of_nodup h1.nd h2.nd).mpr fun x => ?_) h1.ord h2.ord
 rw [h1.mem, h2.mem]
 exact ⟨fun ⟨a, b⟩ => ⟨e.2.trans a, b.trans e.1⟩, fun ⟨a, b⟩ => ⟨e.1.trans a, b.trans e.2⟩⟩
theorem IsR.self {R : Sd -> Sd -> Prop} {s : Sd} {l : List Sd} (h : IsR R s l) : s ∈ l := (h.mem s).mpr ⟨.refl, .refl⟩
end Ce
namespace Tim
open PySem PySem.W PyProof.Rows
end Tim
namespace Tim
open PySem PySem.W PyProof.Rows
end Tim
namespace Tim
open PySem PySem.W PyProof.Rows
section
variable {prog : Program} {w : World} {A : Around} {E : Value -> Shared -> Prop} {s : Shared} {κ : SortKind} {O : KeyOrd} {kf : Keyed -> O.α} {Ok : Keyed -> Prop}
set_option hygiene false in
local macro_rules | `(tactic| walk_at "tloB") => `(tactic| (
 obtain ⟨x0, x1, x2, x3⟩ := at_arr (a := a) (i := ia2) (by omega)
 refine wpS_bind (w_elem x1 ?_)
 refine wpS_bind (w_gl c hk3 (by omega) (oa x0 x3) ob sb fun k' k1' k2' k3' => ?_)
 have le0 : ∀ z ∈ a.toList.drop ia2, O.kle (kf x0) (kf z) := fun z hz => by
  obtain ⟨j, _, ej⟩ := mem_from' hz
  exact srd_at sa (by omega) x2 ej
 have m4 := m3.bs k' sb fun x hx z hz => KeyOrd.kle_trans (KeyOrd.kle_of_klt (k2' x hx)) (le0 z hz)
 rw [<- ext_mid, <- Array.toList_append] at m4
 dsimp only
 by_cases hk0' : k' > 0
 ·rw [if_pos hk0']
  by_cases he : ib3 + k' = b.size
  ·rw [if_pos (by simpa using he)]
   exact wpS_pure ⟨q3, .inl ⟨_, rfl, fB m4 he⟩⟩
  ·rw [if_neg (by simpa using he)]
   have m5 := m4.a sa x2 k3'
   rw [<- Array.toList_push] at m5
   refine wpS_bind (w_elem x1 ?_)
   by_cases hf : ia2 + 1 + 1 = a.size
   ·rw [if_pos (by simpa using hf)]
    exact wpS_pure ⟨q3, .inl ⟨_, rfl, fA m5 hf⟩⟩
   ·rw [if_neg (by simpa using hf)]
    split
    ·exact wpS_pure ⟨q3, .inr ⟨rfl, m5, by show ia2 + 1 + 1 < a.size; omega, by show ib3 + k' < b.size; omega, by show s1 <= ia2 + 1 + (ib3 + k'); omega⟩⟩
    ·exact wpS_pure ⟨q3, rfl, m5, by show ia2 + 1 + 1 < a.size; omega, by show ib3 + k' < b.size; omega, by show s1 <= ia2 + 1 + (ib3 + k'); omega⟩
 ·rw [if_neg hk0']
  have hz : k' = 0 := by omega
  subst hz
  have m5 := m3.a sa x2 k3'
  rw [<- Array.toList_push] at m5
  refine wpS_bind (w_elem x1 ?_)
  by_cases hf : ia2 + 1 + 1 = a.size
  ·rw [if_pos (by simpa using hf)]
   exact wpS_pure ⟨q3, .inl ⟨_, rfl, fA m5 hf⟩⟩
  ·rw [if_neg (by simpa using hf)]
   split
   ·exact wpS_pure ⟨q3, .inr ⟨rfl, m5, by show ia2 + 1 + 1 < a.size; omega, by show ib3 < b.size; omega, by show s1 <= ia2 + 1 + ib3; omega⟩⟩
   ·exact wpS_pure ⟨q3, rfl, m5, by show ia2 + 1 + 1 < a.size; omega, by show ib3 < b.size; omega, by show s1 <= ia2 + 1 + ib3; omega⟩))
set_option hygiene false in
local macro_rules | `(tactic| walk_at "tloA") => `(tactic| (
 refine wpS_bind (wpS_modify ?_)
 obtain ⟨y0, y1, y2, y3⟩ := at_arr (a := b) (i := ib) (by omega)
 refine wpS_bind (w_elem y1 ?_)
 have q3 := q
 have hk3 : kindOf st1 = κ := by rw [q.1]; exact hk
 refine wpS_bind (w_gr c hk3 (by omega) (ob y0 y3) oa sa fun k k1 k2 k3 => ?_)
 have le1 : ∀ z ∈ b.toList.drop ib, O.kle (kf y0) (kf z) := fun z hz => by
  obtain ⟨j, _, ej⟩ := mem_from' hz
  exact srd_at sb (by omega) y2 ej
 have m2 := m.as k sa fun x hx z hz => KeyOrd.kle_trans (k2 x hx) (le1 z hz)
 rw [<- ext_mid, <- Array.toList_append] at m2
 dsimp only
 by_cases hk0 : k > 0
 ·rw [if_pos hk0]
  by_cases he : ia + k + 1 = a.size
  ·rw [if_pos (by simpa using he)]
   exact wpS_pure ⟨q3, .inl ⟨_, rfl, fA m2 he⟩⟩
  rw [if_neg (by simpa using he)]
  by_cases he2 : ia + k = a.size
  ·rw [if_pos (by simpa using he2)]
   exact wpS_pure ⟨q3, .inl ⟨_, rfl, fC m2 he2⟩⟩
  rw [if_neg (by simpa using he2)]
  refine wpS_bind (w_elem y1 ?_)
  have m3 := m2.b sb y2 fun z hz => KeyOrd.kle_of_klt (k3 z hz)
  rw [<- Array.toList_push] at m3
  have ba2 : ia + k + 1 < a.size := by omega
  have pr2 : s1 <= ia + k + ib := by omega
  generalize (out ++ a.extract ia (ia + k)).push y0 = out3 at m3 ⊢
  generalize ia + k = ia2 at m3 ba2 pr2 ⊢
  by_cases hf : ib + 1 = b.size
  ·rw [if_pos (by simpa using hf)]
   exact wpS_pure ⟨q3, .inl ⟨_, rfl, fB m3 hf⟩⟩
  rw [if_neg (by simpa using hf)]
  have bb3 : ib + 1 < b.size := by omega
  have pr3 : s1 <= ia2 + (ib + 1) := by omega
  generalize ib + 1 = ib3 at m3 bb3 pr3 ⊢
  walk_at "tloB"
 ·rw [if_neg hk0]
  have hz : k = 0 := by omega
  subst hz
  refine wpS_bind (w_elem y1 ?_)
  have m3 := m.b sb y2 fun z hz => KeyOrd.kle_of_klt (k3 z hz)
  rw [<- Array.toList_push] at m3
  have ba2 := ba
  have pr2 := pr
  generalize out.push y0 = out3 at m3 ⊢
  generalize ia = ia2 at m3 ba2 pr2 ⊢
  by_cases hf : ib + 1 = b.size
  ·rw [if_pos (by simpa using hf)]
   exact wpS_pure ⟨q3, .inl ⟨_, rfl, fB m3 hf⟩⟩
  rw [if_neg (by simpa using hf)]
  have bb3 : ib + 1 < b.size := by omega
  have pr3 : s1 <= ia2 + (ib + 1) := by omega
  generalize ib + 1 = ib3 at m3 bb3 pr3 ⊢
  walk_at "tloB"))
end
end Tim
namespace Tim
open PySem PySem.W PyProof.Rows
section
variable {prog : Program} {w : World} {A : Around} {E : Value -> Shared -> Prop} {s : Shared} {κ : SortKind} {O : KeyOrd} {kf : Keyed -> O.α} {Ok : Keyed -> Prop}
set_option hygiene false in
local macro_rules | `(tactic| walk_at "thiB") => `(tactic| (
 obtain ⟨x0, x1, x2, x3⟩ := at_arr (a := a) (i := na2 - 1) (by omega)
 refine wpS_bind (w_elem x1 ?_)
 refine wpS_bind (w_hl c hk3 (by omega) (by omega) (oa x0 x3) ob sb fun k' k1' k2' k3' => ?_)
 have le0 : ∀ z ∈ a.toList.take na2, O.kle (kf z) (kf x0) := fun z hz => by
  obtain ⟨j, hj, ej⟩ := mem_take_at hz
  exact srd_at sa (by omega) ej x2
 have m4 := m3.bs k' k1' sb fun x hx z hz => KeyOrd.kle_trans (le0 z hz) (k3' x hx)
 rw [<- ext_part, <- Array.toList_append] at m4
 dsimp only
 by_cases hk0' : nb3 - k' > 0
 ·rw [if_pos hk0']
  by_cases he : k' = 1
  ·rw [if_pos (by simpa using he)]
   exact wpS_pure ⟨q3, .inl ⟨_, rfl, fB m4 he⟩⟩
  rw [if_neg (by simpa using he)]
  by_cases he2 : k' = 0
  ·rw [if_pos (by simpa using he2)]
   exact wpS_pure ⟨q3, .inl ⟨_, rfl, fC m4 he2⟩⟩
  rw [if_neg (by simpa using he2)]
  have m5 := m4.a' (by omega) sa x2 fun z hz => KeyOrd.kle_of_klt (k2' z hz)
  rw [<- Array.toList_push] at m5
  refine wpS_bind (w_elem x1 ?_)
  by_cases hf : na2 - 1 = 0
  ·rw [if_pos (by simpa using hf)]
   exact wpS_pure ⟨q3, .inl ⟨_, rfl, fA m5 hf⟩⟩
  ·rw [if_neg (by simpa using hf)]
   split
   ·exact wpS_pure ⟨q3, .inr ⟨rfl, m5, by show 1 <= na2 - 1; omega, by show 2 <= k'; omega, by show na2 - 1 + k' <= s1; omega, by show na2 - 1 <= a.size; omega, by show k' <= b.size; omega⟩⟩
   ·exact wpS_pure ⟨q3, rfl, m5, by show 1 <= na2 - 1; omega, by show 2 <= k'; omega, by show na2 - 1 + k' <= s1; omega, by show na2 - 1 <= a.size; omega, by show k' <= b.size; omega⟩
 ·rw [if_neg hk0']
  have hz : k' = nb3 := by omega
  subst hz
  have m5 := m3.a' (by omega) sa x2 fun z hz => KeyOrd.kle_of_klt (k2' z hz)
  rw [<- Array.toList_push] at m5
  refine wpS_bind (w_elem x1 ?_)
  by_cases hf : na2 - 1 = 0
  ·rw [if_pos (by simpa using hf)]
   exact wpS_pure ⟨q3, .inl ⟨_, rfl, fA m5 hf⟩⟩
  ·rw [if_neg (by simpa using hf)]
   split
   ·exact wpS_pure ⟨q3, .inr ⟨rfl, m5, by show 1 <= na2 - 1; omega, by show 2 <= k'; omega, by show na2 - 1 + k' <= s1; omega, by show na2 - 1 <= a.size; omega, by show k' <= b.size; omega⟩⟩
   ·exact wpS_pure ⟨q3, rfl, m5, by show 1 <= na2 - 1; omega, by show 2 <= k'; omega, by show na2 - 1 + k' <= s1; omega, by show na2 - 1 <= a.size; omega, by show k' <= b.size; omega⟩))
set_option hygiene false in
local macro_rules | `(tactic| walk_at "thiA") => `(tactic| (
 refine wpS_bind (wpS_modify ?_)
 obtain ⟨y0, y1, y2, y3⟩ := at_arr (a := b) (i := nb - 1) (by omega)
 refine wpS_bind (w_elem y1 ?_)
 have q3 := q
 have hk3 : kindOf st1 = κ := by rw [q.1]; exact hk
 refine wpS_bind (w_hr c hk3 (by omega) (by omega) (ob y0 y3) oa sa fun k k1 k2 k3 => ?_)
 have le1 : ∀ z ∈ b.toList.take nb, O.kle (kf z) (kf y0) := fun z hz => by
  obtain ⟨j, hj, ej⟩ := mem_take_at hz
  exact srd_at sb (by omega) ej y2
 have m2 := m.as k k1 sa fun x hx z hz => KeyOrd.kle_trans (le1 z hz) (KeyOrd.kle_of_klt (k3 x hx))
 rw [<- ext_part, <- Array.toList_append] at m2
 dsimp only
 by_cases hk0 : na - k > 0
 ·rw [if_pos hk0]
  by_cases he : k = 0
  ·rw [if_pos (by simpa using he)]
   exact wpS_pure ⟨q3, .inl ⟨_, rfl, fA m2 he⟩⟩
  rw [if_neg (by simpa using he)]
  refine wpS_bind (w_elem y1 ?_)
  have m3 := m2.b' (by omega) sb y2 k2
  rw [<- Array.toList_push] at m3
  have ba2 : 1 <= k := by omega
  have za2 : k <= a.size := by omega
  have pr2 : k + nb <= s1 := by omega
  generalize (out ++ (a.extract k na).reverse).push y0 = out3 at m3 ⊢
  generalize k = na2 at m3 ba2 pr2 za2 ⊢
  by_cases hf : nb - 1 = 1
  ·rw [if_pos (by simpa using hf)]
   exact wpS_pure ⟨q3, .inl ⟨_, rfl, fB m3 hf⟩⟩
  rw [if_neg (by simpa using hf)]
  have bb3 : 2 <= nb - 1 := by omega
  have zb3 : nb - 1 <= b.size := by omega
  have pr3 : na2 + (nb - 1) <= s1 := by omega
  generalize nb - 1 = nb3 at m3 bb3 pr3 zb3 ⊢
  walk_at "thiB"
 ·rw [if_neg hk0]
  have hz : k = na := by omega
  rw [hz] at k2
  refine wpS_bind (w_elem y1 ?_)
  have m3 := m.b' (by omega) sb y2 k2
  rw [<- Array.toList_push] at m3
  have ba2 := ba
  have za2 := za
  have pr2 := pr
  generalize out.push y0 = out3 at m3 ⊢
  clear hz k1 k2 k3 m2 hk0
  generalize na = na2 at m3 ba2 pr2 za2 ⊢
  by_cases hf : nb - 1 = 1
  ·rw [if_pos (by simpa using hf)]
   exact wpS_pure ⟨q3, .inl ⟨_, rfl, fB m3 hf⟩⟩
  rw [if_neg (by simpa using hf)]
  have bb3 : 2 <= nb - 1 := by omega
  have zb3 : nb - 1 <= b.size := by omega
  have pr3 : na2 + (nb - 1) <= s1 := by omega
  generalize nb - 1 = nb3 at m3 bb3 pr3 zb3 ⊢
  walk_at "thiB"))
end
end Tim
namespace Tim
open PySem PySem.W PyProof.Rows
end Tim
namespace Tim
open PySem PySem.W PyProof.Rows
section
variable {prog : Program} {w : World} {A : Around} {E : Value -> Shared -> Prop} {s : Shared} {κ : SortKind} {O : KeyOrd} {kf : Keyed -> O.α} {Ok : Keyed -> Prop}
set_option hygiene false in
local macro_rules | `(tactic| walk_at "tcAsc") => `(tactic| (
 refine wpS_bind (wpS_mono (wpS_forRange (I := fun (x : Nat) (c : Option (Option Nat) × Nat) (st' : SortSt) => st1 = st' /\ c.1 = none /\ x = c.2 /\ Upx kf (arrOf st1) lo c.2)
  (Q := fun (c : Option (Option Nat) × Nat) (st' : SortSt) => st1 = st' /\ c.1 = none /\ 1 <= c.2 /\ c.2 <= nrem /\ Upx kf (arrOf st1) lo c.2 /\ (c.2 = nrem \/ O.klt (Kx kf (arrOf st1) (lo + c.2)) (Kx kf (arrOf st1) (lo + c.2 - 1)))) ?_ ?_ (show _ /\ _ from ⟨rfl, rfl, rfl, u1⟩)) ?_)
 ·rintro x ⟨r, n⟩ st2 hx1 hx2 ⟨rfl, rfl, e, u⟩
  dsimp only at e u ⊢
  subst e
  refine wpS_bind (w_ltAt c hk1 (by omega) (by omega) ok1 ?_)
  dsimp only
  cases eb : O.blt (Kx kf (arrOf st1) (lo + x)) (Kx kf (arrOf st1) (lo + x - 1)) with
  | true =>
   rw [if_pos rfl]
   exact wpS_pure ⟨rfl, rfl, by show 1 <= x; omega, by show x <= nrem; omega, u, .inr eb⟩
  | false =>
   rw [if_neg (by decide)]
   exact wpS_pure ⟨rfl, rfl, rfl, u.snoc (by omega) eb⟩
 ·rintro ⟨r, n⟩ st2 ⟨rfl, rfl, e, u⟩
  dsimp only at e u
  exact ⟨rfl, rfl, by show 1 <= n; omega, by show n <= nrem; omega, u, .inl (by show n = nrem; omega)⟩))
set_option hygiene false in
local macro_rules | `(tactic| walk_at "tcDesc") => `(tactic| (
 refine wpS_bind (wpS_lift (wpAny_rule ⟨rfl, ?_⟩))
 refine wpS_bind (wpS_mono (wpS_forRange (I := fun (x : Nat) (c : Option (Option Nat) × Nat × Nat) (st' : SortSt) => Chg st st' lo (lo + nrem) /\ c.1 = none /\ x = c.2.1 /\ Dnx kf (arrOf st') lo c.2.1 /\ c.2.2 + 1 <= c.2.1 /\ Eqx kf (arrOf st') lo c.2.1 c.2.2)
  (Q := fun (c : Option (Option Nat) × Nat × Nat) (st' : SortSt) => Chg st st' lo (lo + nrem) /\ c.1 = none /\ c.2.1 <= nrem /\ Dnx kf (arrOf st') lo c.2.1 /\ c.2.2 + 1 <= c.2.1 /\ Eqx kf (arrOf st') lo c.2.1 c.2.2) ?_ ?_ (show _ /\ _ from ⟨hc, rfl, rfl, dn, by show 0 + 1 <= n + 1; omega, fun i h1 h2 => by have h1' : n + 1 - (0 + 1) <= i := h1; have h2' : i < n + 1 := h2; rw [show i = n by omega]; show _ = Kx kf _ (lo + (n + 1) - 1); rw [show lo + (n + 1) - 1 = lo + n by omega]⟩)) ?_)
 ·clear dn hc
  rintro x ⟨r, n, q⟩ st1 hx1 hx2 ⟨hc, rfl, e, dn, hq, he⟩
  dsimp only at e dn hq he ⊢
  subst e
  have sz : (arrOf st1).size = (arrOf st).size := hc.pm.size_eq
  have hk1 : kindOf st1 = κ := hc.kd.trans hk
  have ok1 : ∀ y ∈ (arrOf st1).toList, Ok y := fun y hy => ok y (hc.pm.toList.mem_iff.mp hy)
  refine wpS_bind (w_ltAt c hk1 (by omega) (by omega) ok1 ?_)
  dsimp only
  have one : ∀ a, Eqx kf a lo (x + 1) 0 := fun a i h1 h2 => by rw [show i = x by omega, show lo + (x + 1) - 1 = lo + x by omega]
  cases eb : O.blt (Kx kf (arrOf st1) (lo + x)) (Kx kf (arrOf st1) (lo + x - 1)) with
  | true =>
   rw [if_pos rfl]
   have dn' : Dnx kf (arrOf st1) lo (x + 1) := dn.snoc (by omega) (KeyOrd.kle_of_klt eb)
   by_cases hq0 : q > 0
   ·rw [if_pos hq0]
    refine wpS_bind (w_rev (wpS_pure ⟨hc.rev (by omega) (by omega) (by omega), rfl, rfl, fun i j h1 h2 => ?_, by show 0 + 1 <= x + 1; omega, one _⟩))
    have kk := Kx_reveq (kf := kf) (a := arrOf st1) (i := lo + x - (q + 1)) (j := lo + x) (by omega) fun k h1 h2 => by
     have := he (k - lo) (by omega) (by omega)
     rwa [show lo + (k - lo) = k by omega] at this
    show O.kle (Kx kf (mirror _ _ _ _) _) (Kx kf (mirror _ _ _ _) _)
    rw [kk, kk]
    exact dn' i j h1 h2
   ·rw [if_neg hq0]
    exact wpS_pure ⟨hc, rfl, rfl, dn', by show 0 + 1 <= x + 1; omega, one _⟩
  | false =>
   rw [if_neg (by decide)]
   refine wpS_bind (w_ltAt c hk1 (by omega) (by omega) ok1 ?_)
   dsimp only
   cases eb2 : O.blt (Kx kf (arrOf st1) (lo + x - 1)) (Kx kf (arrOf st1) (lo + x)) with
   | true =>
    rw [if_pos rfl]
    exact wpS_pure ⟨hc, rfl, by show x <= nrem; omega, dn, hq, he⟩
   | false =>
    rw [if_neg (by decide)]
    have eq := O.total _ _ eb eb2
    refine wpS_pure ⟨hc, rfl, rfl, dn.snoc (by omega) eb2, by show q + 1 + 1 <= x + 1; omega, fun i h1 h2 => ?_⟩
    have h1' : x + 1 - (q + 1 + 1) <= i := h1
    have h2' : i < x + 1 := h2
    show _ = Kx kf _ (lo + (x + 1) - 1)
    rw [show lo + (x + 1) - 1 = lo + x by omega]
    by_cases ei : i = x
    ·rw [ei]
    ·rw [eq]
     exact he i (by omega) (by omega)
 ·rintro ⟨r, n, q⟩ st1 ⟨hc, rfl, e, z⟩
  dsimp only at e
  exact ⟨hc, rfl, by show n <= nrem; omega, z⟩
 ·clear dn hc
  rintro ⟨r, n, q⟩ st1 ⟨hc, rfl, hn, dn, hq, he⟩
  dsimp only at hn dn hq he ⊢
  have sz : (arrOf st1).size = (arrOf st).size := hc.pm.size_eq
  have fin : ∀ st1, Chg st st1 lo (lo + nrem) -> Dnx kf (arrOf st1) lo n -> Chg st (setArr st1 (mirror (arrOf st1) lo (lo + n) ((lo + n - lo) / 2))) lo (lo + nrem) /\ Upx kf (mirror (arrOf st1) lo (lo + n) ((lo + n - lo) / 2)) lo n := fun st1 hc dn => by
   have sz : (arrOf st1).size = (arrOf st).size := hc.pm.size_eq
   refine ⟨hc.rev (by omega) (by omega) (by omega), fun i j h1 h2 => ?_⟩
   rw [Kx_rev (by omega), Kx_rev (by omega), if_pos (by omega), if_pos (by omega), show lo + (lo + n) - 1 - (lo + i) = lo + (n - 1 - i) by omega, show lo + (lo + n) - 1 - (lo + j) = lo + (n - 1 - j) by omega]
   exact dn _ _ (by omega) (by omega)
  by_cases hq0 : q > 0
  ·rw [if_pos hq0]
   refine wpS_bind (w_rev (wpS_bind (w_rev ?_)))
   have kk := Kx_reveq (kf := kf) (a := arrOf st1) (i := lo + n - (q + 1)) (j := lo + n) (by omega) fun k h1 h2 => by
    have := he (k - lo) (by omega) (by omega)
    rwa [show lo + (k - lo) = k by omega] at this
   have f2 := fin (setArr st1 (mirror (arrOf st1) (lo + n - (q + 1)) (lo + n) ((lo + n - (lo + n - (q + 1))) / 2))) (hc.rev (by omega) (by omega) (by omega)) (fun i j h1 h2 => by
    show O.kle (Kx kf (mirror _ _ _ _) _) (Kx kf (mirror _ _ _ _) _)
    rw [kk, kk]
    exact dn i j h1 h2)
   obtain ⟨hc2, u0⟩ := f2
   generalize hst : setArr (setArr st1 (mirror (arrOf st1) (lo + n - (q + 1)) (lo + n) ((lo + n - (lo + n - (q + 1))) / 2))) (mirror (arrOf (setArr st1 (mirror (arrOf st1) (lo + n - (q + 1)) (lo + n) ((lo + n - (lo + n - (q + 1))) / 2)))) lo (lo + n) ((lo + n - lo) / 2)) = st3 at hc2
   have u1 : Upx kf (arrOf st3) lo n := by rw [<- hst]; exact u0
   clear hst u0 fin kk he dn hc sz
   clear st1
   obtain ⟨st1, rfl⟩ : ∃ st1, st1 = st3 := ⟨_, rfl⟩
   have sz : (arrOf st1).size = (arrOf st).size := hc2.pm.size_eq
   have hk1 : kindOf st1 = κ := hc2.kd.trans hk
   have ok1 : ∀ y ∈ (arrOf st1).toList, Ok y := fun y hy => ok y (hc2.pm.toList.mem_iff.mp hy)
   walk_at "tcAsc"
   rintro ⟨r, m⟩ st2 ⟨rfl, rfl, g1, g2, g3, _⟩
   exact wpS_pure (h m st1 g1 g2 hc2 g3)
  ·rw [if_neg hq0]
   refine wpS_bind (w_rev ?_)
   obtain ⟨hc2, u0⟩ := fin st1 hc dn
   generalize hst : setArr st1 (mirror (arrOf st1) lo (lo + n) ((lo + n - lo) / 2)) = st3 at hc2
   have u1 : Upx kf (arrOf st3) lo n := by rw [<- hst]; exact u0
   clear hst u0 fin he dn hc sz
   clear st1
   obtain ⟨st1, rfl⟩ : ∃ st1, st1 = st3 := ⟨_, rfl⟩
   have sz : (arrOf st1).size = (arrOf st).size := hc2.pm.size_eq
   have hk1 : kindOf st1 = κ := hc2.kd.trans hk
   have ok1 : ∀ y ∈ (arrOf st1).toList, Ok y := fun y hy => ok y (hc2.pm.toList.mem_iff.mp hy)
   walk_at "tcAsc"
   rintro ⟨r, m⟩ st2 ⟨rfl, rfl, g1, g2, g3, _⟩
   exact wpS_pure (h m st1 g1 g2 hc2 g3)))
end
end Tim
namespace Tim
open PySem PySem.W PyProof.Rows
section
variable {prog : Program} {w : World} {A : Around} {E : Value -> Shared -> Prop} {s : Shared} {κ : SortKind} {O : KeyOrd} {kf : Keyed -> O.α} {Ok : Keyed -> Prop} {a0 : List Keyed} {st : SortSt} {Rs : List (List Keyed)} {rest : List Keyed}
set_option hygiene false in
local macro_rules | `(tactic| walk_at "tsTail") => `(tactic| (
 refine wpS_bind (wpS_get ?_)
 try dsimp only
 rcases hbk : (pendingOf st2).back? with _ | ⟨sB, nB, pB⟩
 ·simp only [hbk]
  refine wpS_bind (wpS_modify (wpS_pure ?_))
  exact ⟨_, _, hk2, R2.push rfl g1 g2 g3, rfl, (flat_push g2).symm, Nat.add_le_add hxl g1⟩
 ·simp only [hbk]
  refine wpS_bind (wpS_mono (wpS_forRange (I := fun (y : Nat) (c : Option Unit × Unit) (st' : SortSt) => c.1 = none /\ ∃ Rs', kindOf st' = κ /\ Rns kf Ok a0 st' Rs' rest2)
   (Q := fun (c : Option Unit × Unit) (st' : SortSt) => c.1 = none /\ ∃ Rs', kindOf st' = κ /\ Rns kf Ok a0 st' Rs' rest2) ?_ ?_ (show _ /\ _ from ⟨rfl, _, hk2, R2⟩)) ?_)
  ·rintro y ⟨r, ⟨⟩⟩ st3 _ hy ⟨rfl, Rs', hk3, R3⟩
   refine wpS_bind (wpS_get ?_)
   try dsimp only
   split
   ·rename_i older heq
    split
    ·exact wpS_pure ⟨rfl, _, hk3, R3⟩
    ·have hp : 1 < (pendingOf st3).size := by
      by_cases hp : (pendingOf st3).size > 1
      ·exact hp
      ·rw [if_neg hp] at heq; cases heq
     have hps := R3.psize
     obtain ⟨P, X, Y, S, eR, eP⟩ := split2 (l := Rs') (i := (pendingOf st3).size - 2) (by omega)
     rw [eR] at R3
     refine wpS_bind (w_mergeAt c o0 hk3 eP R3 fun Z st4 hk4 R4 => ?_)
     rw [if_neg (by decide)]
     exact wpS_pure ⟨rfl, _, hk4, R4⟩
   ·exact wpS_pure ⟨rfl, _, hk3, R3⟩
  ·rintro ⟨r, ⟨⟩⟩ st3 z
   exact z
  ·rintro ⟨r, ⟨⟩⟩ st3 ⟨rfl, Rs', hk3, R3⟩
   try dsimp only
   refine wpS_bind (wpS_modify (wpS_bind (wpS_modify (wpS_pure ?_))))
   have e0 := R2.len
   have e1 := R3.len
   have e2 : Rs.flatten.length = Rs'.flatten.length := by omega
   exact ⟨_, _, hk3, R3.power.push e2 g1 g2 g3, rfl, (congrArg (· + _) e2).trans (flat_push g2).symm, Nat.add_le_add hxl g1⟩))
end
end Tim
namespace Srt
open PySem PySem.W PyProof.Rows
end Srt
namespace L2
open PySem PySem.Spec PyProof.Rows PySem.W
end L2
namespace Ce
open L2 PySem PySem.Spec PyProof.Rows
structure Small (C : Cl) : Prop where
 r : C.rooms <= 5
 w : C.ways.length <= 4
 t : C.things.length <= 2
 l : C.levers.length <= 1
 v : C.wheels.length <= 1
def nx (C : Cl) (s : Sd) : List Sd := (fitD C s).map fun x => q0K C s x.1 (x.2 : Int)
def popc (n : Nat) : Nat := cnt (fun i => n.testBit i) 4
def fits (d : Nat -> Bool) (t o : Nat) : Bool := decide (popc o <= popc t) && (List.range 4).all fun i => !o.testBit i || d i
def mk4 (d0 d1 d2 d3 : Bool) (i : Nat) : Bool := match i with | 0 => d0 | 1 => d1 | 2 => d2 | _ => d3
def dI (C : Cl) : Nat -> Bool := mk4 (dsOf C 0).isSome (dsOf C 1).isSome (dsOf C 2).isSome (dsOf C 3).isSome
end Ce
namespace DI
open PySem PySem.W PyProof.Rows
theorem src {prog : Program} {w : World} {d : Addr} {o : Obj} {es : Array DictEntry} {ep : Nat} (hd : (d == sysModules) = false) (hx : o.ExactDict) (hdat : o.data = .dict es ep) : KdlSrc prog w "dict" d d es.size (fun i v => ∃ h : i < es.size, v = es[i].key) (fun h => h.get? d = some o) where
 type := fun s ho => ty ho hx
 there := fun _ ho => ⟨Heap.lt_size ho, Heap.lt_size ho⟩
 keep := fun _ _ ho k => k d (.inl rfl) o ho
 notList := by decide
 notTuple := by decide
 hint := fun _ _ _ _ ho hq => kdl_hint_dict (ty ho hx) hq
 iter := fun A s hh ho => by
  refine ⟨_, fun i h => h.IsKeyIter s.heap.objs.size d i es.size ep /\ h.get? d = some o, (fun _ _ hq => keys hd ho hx hdat hq), ⟨?_, ?_, ?_, ?_, ?_⟩, ⟨_, Heap.get?_push_size _ rfl, rfl, rfl⟩, Heap.get?_push_of_some _ ho⟩
  ·intro b hb
   exact List.mem_cons.mpr (.inl (List.mem_singleton.mp hb))
  ·intro i h h' ⟨st, e⟩ k
   exact ⟨st.at fun o e => k _ (by simp) o e, k d (by simp) o e⟩
  ·intro i s' Q E hi ⟨st, e⟩ hQ
   refine q89 st e hdat hi fun h' st' sb => ?_
   have ne : d ≠ s.heap.objs.size := Nat.ne_of_lt (Heap.lt_size ho)
   exact hQ _ h' s'.toks ⟨hi, rfl⟩ ⟨st', (sb.2 d ne).trans e⟩ fun b o hb q => (sb.2 b fun z => hb (by simp [z])).trans q
  ·intro s' Q E ⟨st, e⟩ hQ
   exact qai hh st e hdat (Nat.le_refl _) fun h' eb => hQ h' s'.toks fun b o hb q => eb b o (fun z => hb (by simp [z])) q
  ·intro i s' Q E ⟨st, e⟩ hQ
   exact wpAny_pyIter_keyiter st hQ
end DI
namespace Srt
open PySem PySem.W PyProof.Rows
section
variable {prog : Program} {w : World} {A : Around} {E : Value -> Shared -> Prop} {s : Shared}
theorem q3Y {h : Heap} {a : Addr} {vs : List Value} {n : Nat} (out : Array Value) (ho : h.get? a = some (seqObj "list" vs.toArray n)) : ∃ e, (sortedHeap h a vs out).get? a = some (seqObj "list" out e) := by
 obtain ⟨e1, h1⟩ : ∃ e1, (h.update a (Obj.mapSeq fun _ => (#[] : Array Value))).get? a = some (seqObj "list" #[] e1) := ⟨_, get?_update_seq ho fun _ => #[]⟩
 exact ⟨_, get?_update_seq (Heap.get?_push_of_some _ (Heap.get?_push_of_some _ h1)) fun _ => out⟩
theorem q3u {h : Heap} {a : Addr} {vs : List Value} {out : Array Value} {b : Addr} {o : Obj} (hb : b ≠ a) (e : h.get? b = some o) : (sortedHeap h a vs out).get? b = some o :=
 ((Heap.SameBut.update _ a (Obj.mapSeq fun _ => out)).2 b hb).trans (Heap.get?_push_of_some _ (Heap.get?_push_of_some _ (((Heap.SameBut.update h a (Obj.mapSeq fun _ => (#[] : Array Value))).2 b hb).trans e)))
end
end Srt
namespace L2
open PySem PySem.Spec PyProof.Rows PySem.W
end L2
namespace Nst
open PySem PySem.W PyProof.Rows
section
variable {prog : Program} {w : World} {K1 K2 : Type} [DecidableEq K1] [DecidableEq K2]
theorem red {A : Around} {E : Value -> Shared -> Prop} {s : Shared} {i : Int} {Q : Int -> Shared -> Prop} (h : Q (reduceHash i) s) : wpAny (model prog w) A (pyHashByItsType.reduced i) Q E s := by
 unfold pyHashByItsType.reduced
 unfold reduceHash at h
 split at h <;> rename_i c
 ·rw [if_pos c]
  exact wpAny_pure h
 ·rw [if_neg c]
  exact wpAny_bind (wpAny_rule (wpAny_pure h))
theorem q8n {A : Around} {E : Value -> Shared -> Prop} {s : Shared} {a b c : Addr} {o : Obj} {n d1 d2 : Nat} {i j : Int} {Q : Int -> Shared -> Prop} (hu : A.units < cLine) (ho : s.heap.get? a = some o) (hc : o.cls = .type "tuple") (hd : o.data = .seq #[.ref b, .ref c] n)
  (h1 : ∀ (t : Nat) (R : Int -> Shared -> Prop), R i { s with toks := t + d1 } -> wpAny (model prog w) A.in1 (pyHash (.ref b)) R E { s with toks := t })
  (h2 : ∀ (t : Nat) (R : Int -> Shared -> Prop), R j { s with toks := t + d2 } -> wpAny (model prog w) A.in1 (pyHash (.ref c)) R E { s with toks := t })
  (h : Q (reduceHash (Builtin.Tuple.tupleHashOf [i, j])) { s with toks := s.toks + d1 + d2 + 1 }) : wpAny (model prog w) A (pyHash (.ref a)) Q E s := by
 have hT : s.TypeIs (.ref a) "tuple" := ⟨o, ho, hc⟩
 unfold pyHash
 refine wpAny_bind (wpAny_cRoomFor_or (Or.inr hu) (wpAny_bind (wpAny_specialOf hT F.slot_tuple_hash.lookup ?_)))
 rw [if_neg (by rw [beq_builtin_none]; exact Bool.false_ne_true)]
 refine wpAny_bind (wpAny_specialOf hT F.slot_tuple_hash.lookup ?_)
 refine wpAny_bind (wpAny_callSpecialIfBoundUnlessNone?_slot hT F.slot_tuple_hash (wpAny_call_entry F.slot_tuple_hash hT F.entry_tuple_hash ?_ ?_))
 ·unfold Builtin.«tuple.__hash__»
  show wpAny (model prog w) A.in1 (Builtin.Tuple.tupleItemsOf (.ref a) >>= _) _ _ _
  refine wpAny_bind (wpAny_tupleItemsOf ho hd (wpAny_bind ?_))
  rw [<- Array.forIn_toList]
  show wpAny (model prog w) A.in1 (forIn [Value.ref b, Value.ref c] (#[] : Array Int) _) _ _ _
  rw [List.forIn_cons]
  refine wpAny_bind (wpAny_bind (h1 _ _ (wpAny_pure ?_)))
  dsimp only
  rw [List.forIn_cons]
  refine wpAny_bind (wpAny_bind (h2 _ _ (wpAny_pure ?_)))
  dsimp only
  rw [List.forIn_nil]
  refine wpAny_pure ?_
  refine wpAny_bind (wpAny_mkInt ?_)
  refine wpAny_pure ⟨_, rfl, ?_⟩
  exact red h
 ·exact F.args_tuple_hash_1 _
abbrev LK := List L2.Key
theorem q5e {prog' : Program} {w' : World} : ∀ {ks : LK} {vs : List Value}, ItemsAre (L2.qE prog w) ks vs -> ItemsAre (L2.qE prog' w') ks vs
 | _, _, .nil => .nil
 | _, _, .cons h t => .cons h (q5e t)
theorem q88 {prog' : Program} {w' : World} {h : Heap} {ks : LK} {a : Addr} : IsTupleKey (L2.qE prog w) h ks a -> IsTupleKey (L2.qE prog' w') h ks a := fun ⟨o, it, n, h1, h2, h3, h4⟩ => ⟨o, it, n, h1, h2, h3, q5e h4⟩
theorem q6q {A : Around} {s : Shared} {x y : LK} {a b : Addr} (hu : A.units < cLine) (hx : IsTupleKey (L2.qE prog w) s.heap x a) (hy : IsTupleKey (L2.qE prog w) s.heap y b) : SeqAt.EqAt A s (.ref a) (.ref b) (decide (x = y)) :=
 fun p' w' E Q h => wpAny_eqBool_tuple (knd := L2.qE p' w') hu (q88 hx) (q88 hy) h
theorem q54 {A : Around} {E : Value -> Shared -> Prop} {s : Shared} {ks : LK} {a : Addr} {Q : Bool -> Shared -> Prop} {n : Nat} (hk : IsTupleKey (L2.qE prog w) s.heap ks a) (h : Q true s) : wpAny (model prog w) A (eqIsQuiet (n + 1) (.ref a)) Q E s := by
 have hT := IsTupleKey.typeIs hk
 obtain ⟨o, items, m, ho, hc, hd, hi⟩ := hk
 rw [eqIsQuiet.eq_def]
 refine wpAny_bind (wpAny_specialOf hT F.slot_tuple_eq.lookup ?_)
 show wpAny (model prog w) A (isInstance (.ref a) (.type "tuple") >>= _) _ _ _
 refine wpAny_bind (wpAny_isInstance hT isSubtype_tuple_tuple ?_)
 rw [if_neg (by decide)]
 refine wpAny_bind (wpAny_seqItems ho hd (wpAny_bind ?_))
 show wpAny (model prog w) A (forIn items _ _) _ _ _
 rw [<- Array.forIn_toList]
 refine wpAny_forIn_list _ (fun rest r s' => r.1 = none /\ s' = s /\ ∀ v ∈ rest, carriedByValue v = true) _ (fun v rest r s' hr => ?_) (fun r s' hr => ?_) items.toList (none, ()) ⟨rfl, rfl, ItemsAre.byValue hi⟩
 ·obtain ⟨h1, rfl, h3⟩ := hr
  rw [eqIsQuiet_byValue n (h3 v (.head _))]
  refine wpAny_bind (wpAny_pure ?_)
  rw [if_neg (by decide)]
  exact wpAny_pure ⟨rfl, rfl, fun u hu => h3 u (List.mem_cons_of_mem _ hu)⟩
 ·obtain ⟨h1, rfl, h3⟩ := hr
  obtain ⟨r1, r2⟩ := r
  cases h1
  exact wpAny_pure h
def IsPair (prog : Program) (w : World) (h : Heap) (k : LK × LK) (a : Addr) : Prop := ∃ o b c n, h.get? a = some o /\ o.cls = .type "tuple" /\ o.data = .seq #[.ref b, .ref c] n /\ IsTupleKey (L2.qE prog w) h k.1 b /\ IsTupleKey (L2.qE prog w) h k.2 c
def q2V (prog : Program) (w : World) : HeapKind prog w (LK × LK) where
 is := IsPair prog w
 hash k := reduceHash (Builtin.Tuple.tupleHashOf [tupleKeyHash (L2.qE prog w) k.1, tupleKeyHash (L2.qE prog w) k.2])
 draws k := (k.1.length + 1) + (k.2.length + 1) + 1
 room A := A.units + 1 < cLine
 inj := by
  rintro h a ⟨x1, x2⟩ ⟨y1, y2⟩ ⟨o, b, c, n, h1, _, h3, h4, h5⟩ ⟨o', b', c', n', h1', _, h3', h4', h5'⟩
  rw [h1] at h1'
  cases h1'
  rw [h3] at h3'
  cases h3'
  rw [show x1 = y1 from IsTupleKey.inj h4 h4', show x2 = y2 from IsTupleKey.inj h5 h5']
 keeps := by
  rintro h h' k a d od es ep ⟨o, b, c, n, h1, h2, h3, h4, h5⟩ ho hd hs
  refine ⟨o, b, c, n, ?_, h2, h3, h4.keeps ho hd hs, h5.keeps ho hd hs⟩
  rw [hs.2 a fun z => by subst z; rw [h1] at ho; cases ho; rw [h3] at hd; cases hd]
  exact h1
 pyHash := by
  rintro A E s k a Q hu ⟨o, b, c, n, h1, h2, h3, h4, h5⟩ h
  exact q8n (d1 := k.1.length + 1) (d2 := k.2.length + 1) (Nat.lt_of_succ_lt hu) h1 h2 h3 (fun t R hR => wpAny_pyHash_tuple (s := { s with toks := t }) hu h4 hR) (fun t R hR => wpAny_pyHash_tuple (s := { s with toks := t }) hu h5 hR) (by rw [Nat.add_assoc, Nat.add_assoc, <- Nat.add_assoc (k.1.length + 1)]; exact h)
 eqBool := by
  rintro A E s ⟨x1, x2⟩ ⟨y1, y2⟩ a b Q hu ⟨o, b1, c1, n, h1, h2, h3, h4, h5⟩ ⟨o', b2, c2, n', g1, g2, g3, g4, g5⟩ h
  by_cases e : a = b
  ·subst e
   rw [h1] at g1
   cases g1
   rw [h3] at g3
   cases g3
   obtain rfl : x1 = y1 := IsTupleKey.inj h4 g4
   obtain rfl : x2 = y2 := IsTupleKey.inj h5 g5
   rw [decide_eq_true rfl] at h
   exact SeqAt.EqAt.same _ prog w E Q h
  ·have q := SeqAt.EqAt.of_refs e (SeqAt.RcAt.tuples (A := A) (s := s) (e := fun j => if j = 0 then decide (x1 = y1) else decide (x2 = y2)) ⟨o, h1, h2, n, h3⟩ ⟨o', g1, g2, n', g3⟩ (Nat.lt_of_succ_lt hu) fun j q1 q2 => by
    have : j < 2 := q1
    obtain rfl | rfl : j = 0 \/ j = 1 := by omega
    ·exact q6q hu h4 g4
    ·exact q6q hu h5 g5)
   refine q prog w E Q ?_
   have ee : ((List.range (min (#[Value.ref b1, Value.ref c1] : Array Value).size (#[Value.ref b2, Value.ref c2] : Array Value).size)).all (fun j => if j = 0 then decide (x1 = y1) else decide (x2 = y2)) && (#[Value.ref b1, Value.ref c1] : Array Value).size == (#[Value.ref b2, Value.ref c2] : Array Value).size) = decide ((x1, x2) = (y1, y2)) := by
    show ((decide (x1 = y1) && (decide (x2 = y2) && true)) && true) = _
    simp [Prod.mk.injEq]
   rw [ee]
   exact h
 quiet := by
  rintro A E s k a Q ⟨o, b, c, n, h1, h2, h3, h4, h5⟩ h
  have hT : s.TypeIs (.ref a) "tuple" := ⟨o, h1, h2⟩
  rw [eqIsQuiet.eq_def]
  refine wpAny_bind (wpAny_specialOf hT F.slot_tuple_eq.lookup ?_)
  show wpAny (model prog w) A (isInstance (.ref a) (.type "tuple") >>= _) _ _ _
  refine wpAny_bind (wpAny_isInstance hT isSubtype_tuple_tuple ?_)
  rw [if_neg (by decide)]
  refine wpAny_bind (wpAny_seqItems h1 h3 (wpAny_bind ?_))
  show wpAny (model prog w) A (forIn (#[Value.ref b, Value.ref c] : Array Value) _ _) _ _ _
  rw [<- Array.forIn_toList]
  show wpAny (model prog w) A (forIn [Value.ref b, Value.ref c] _ _) _ _ _
  rw [List.forIn_cons]
  refine wpAny_bind (wpAny_bind (q54 h4 ?_))
  rw [if_neg (by decide)]
  refine wpAny_pure ?_
  dsimp only
  rw [List.forIn_cons]
  refine wpAny_bind (wpAny_bind (q54 h5 ?_))
  rw [if_neg (by decide)]
  refine wpAny_pure ?_
  dsimp only
  rw [List.forIn_nil]
  exact wpAny_pure (wpAny_pure h)
end
end Nst
namespace Nst
open PySem PySem.W PyProof.Rows
section
open PySem.SeqAt
open PySem.AutoSeq1 (wpAny_loadPart')
open PySem.MeetsSeq PySem.MeetsSeq2 PySem.MeetsSeq3
theorem tup_lt (l b : Addr) (y0 y1 x0 x1 : Value) (n n2 : Nat) (dd dd2 : Option Addr) (sl sl2 : Array (Option Value)) (e0 e1 r0 r1 : Bool) :
  Meets (Builtin.«tuple.__lt__» ⟨[.ref l, .ref b], []⟩) (fun A R s => s.heap.get? l = some { cls := .type "tuple", dict := dd, data := .seq #[y0, y1] n, slots := sl } /\ s.heap.get? b = some { cls := .type "tuple", dict := dd2, data := .seq #[x0, x1] n2, slots := sl2 } /\
   EqAt A.in1 s y0 x0 e0 /\ EqAt A.in1 s y1 x1 e1 /\ (∀ (prog : Program) (w : World) (E : Value -> Shared -> Prop) (Q : Value -> Shared -> Prop), Q (.bool r0) s -> wpAny (model prog w) A.in1 (richCompare .Lt y0 x0) Q E s) /\ (∀ (prog : Program) (w : World) (E : Value -> Shared -> Prop) (Q : Value -> Shared -> Prop), Q (.bool r1) s -> wpAny (model prog w) A.in1 (richCompare .Lt y1 x1) Q E s) /\
   R (.ok (.ret (.bool (if e0 then (if e1 then false else r1) else r0)))) s) :=
 .of_wp fun prog w A R s h => by
  obtain ⟨hp, g, d, tk, os⟩ := s
  obtain ⟨hl, hb, q0, q1, c0, c1, h⟩ := h
  have f2 := AutoSeq1.sub_tuple_tuple
  obtain ⟨s0, es⟩ : ∃ s0 : Shared, s0 = ⟨hp, g, d, tk, os⟩ := ⟨_, rfl⟩
  wp_walk using wpAny_loadPart' hl, wpAny_loadPart' hb, wpAny_forIn_list _ (fun rest b s' => b.1 = none /\ s' = ⟨hp, g, d, tk, os⟩ /\ (rest = [(y0, x0), (y1, x1)] \/ rest = [(y1, x1)] /\ e0 = true \/ rest = [] /\ e0 = true /\ e1 = true)) _
  case turn =>
   rintro ⟨y, x⟩ rest b s' ⟨hb', rfl, z | ⟨z, rfl⟩ | ⟨z, _⟩⟩
   ·cases z
    refine wpAny_bind (q0 prog w _ _ ?_)
    cases e0 with
    | true =>
     wp_walk
     exact ⟨rfl, rfl, .inr (.inl ⟨rfl, rfl⟩)⟩
    | false =>
     have hri := c0 prog w
     wp_walk using hri
     exact ⟨_, rfl, by simpa using h⟩
   ·cases z
    refine wpAny_bind (q1 prog w _ _ ?_)
    cases e1 with
    | true =>
     wp_walk
     exact ⟨rfl, rfl, .inr (.inr ⟨rfl, rfl, rfl⟩)⟩
    | false =>
     have hri := c1 prog w
     wp_walk using hri
     exact ⟨_, rfl, by simpa using h⟩
   ·cases z
  case fin =>
   rintro ⟨b1, b2⟩ s' ⟨hb', rfl, z | ⟨z, _⟩ | ⟨_, rfl, rfl⟩⟩
   ·cases z
   ·cases z
   ·simp only at hb'
    subst hb'
    wp_walk
    exact ⟨_, rfl, by simpa [Builtin.Tuple.tupleCompareSizes] using h⟩
  case h =>
   exact ⟨rfl, rfl, .inl rfl⟩
end
section
variable {prog : Program} {w : World} {A : Around} {E : Value -> Shared -> Prop} {s : Shared}
theorem lt_two {l b : Addr} {y0 y1 x0 x1 : Value} {e0 e1 r0 r1 : Bool} {Q : Value -> Shared -> Prop} (hl : s.heap.IsTuple l #[y0, y1]) (hb : s.heap.IsTuple b #[x0, x1]) (hu : A.units < cLine) (q0 : SeqAt.EqAt A.in1 s y0 x0 e0) (q1 : SeqAt.EqAt A.in1 s y1 x1 e1)
  (c0 : ∀ (prog : Program) (w : World) (E : Value -> Shared -> Prop) (Q : Value -> Shared -> Prop), Q (.bool r0) s -> wpAny (model prog w) A.in1 (richCompare .Lt y0 x0) Q E s) (c1 : ∀ (prog : Program) (w : World) (E : Value -> Shared -> Prop) (Q : Value -> Shared -> Prop), Q (.bool r1) s -> wpAny (model prog w) A.in1 (richCompare .Lt y1 x1) Q E s)
  (h : Q (.bool (if e0 then (if e1 then false else r1) else r0)) s) : wpAny (model prog w) A (compareOp .Lt (.ref l) (.ref b)) Q E s := by
 obtain ⟨⟨_, dd, _, sl⟩, ho, hc, n, hd⟩ := hl
 obtain ⟨⟨_, dd2, _, sl2⟩, ho2, hc2, n2, hd2⟩ := hb
 cases hc
 cases hd
 cases hc2
 cases hd2
 exact richCompare_meets_room (op := .Lt) ⟨_, ho, rfl⟩ ⟨_, ho2, rfl⟩ PySem.F.slot_tuple_lt PySem.F.entry_tuple_lt (PySem.F.args_tuple_lt_2 _ _) (tup_lt l b y0 y1 x0 x1 n n2 dd dd2 sl sl2 e0 e1 r0 r1) ⟨ho, ho2, q0, q1, c0, c1, (fun x => nomatch x), h⟩ hu
end
end Nst
namespace Ce
open L2 PySem PySem.Spec PyProof.Rows
def Wd.rk : Wd -> Int
 | .go => 0
 | .pull => 1
 | .take => 2
 | .turn => 3
 | .unlock => 4
abbrev Stp := (Wd × Nat) × Sd
def Stp.lst (x : Stp) : List Int := x.1.1.rk :: (x.1.2 : Int) :: x.2.ns
def Stp.key (x : Stp) : List Key × List Key := ([.inr x.1.1.str, .inl (x.1.2 : Int)], x.2.key)
theorem Wd.str_inj {a b : Wd} (h : a.str = b.str) : a = b := by
 cases a <;> cases b <;> first | rfl | exact absurd h (by decide +kernel)
theorem Wd.rk_inj {a b : Wd} (h : a.rk = b.rk) : a = b := by
 cases a <;> cases b <;> first | rfl | exact absurd h (by decide)
theorem Stp.key_inj {x y : Stp} (h : Stp.key x = Stp.key y) : x = y := by
 obtain ⟨⟨d, n⟩, s⟩ := x
 obtain ⟨⟨d', n'⟩, s'⟩ := y
 simp only [Stp.key, Prod.mk.injEq, List.cons.injEq, Sum.inr.injEq, Sum.inl.injEq, and_true] at h
 obtain ⟨⟨h1, h2⟩, h3⟩ := h
 obtain rfl := Wd.str_inj h1
 obtain rfl := Sd.key_inj h3
 obtain rfl : n = n' := by omega
 rfl
theorem Stp.lst_inj {x y : Stp} (h : Stp.lst x = Stp.lst y) : x = y := by
 obtain ⟨⟨d, n⟩, s⟩ := x
 obtain ⟨⟨d', n'⟩, s'⟩ := y
 simp only [Stp.lst, List.cons.injEq] at h
 obtain ⟨h1, h2, h3⟩ := h
 obtain rfl := Wd.rk_inj h1
 obtain rfl := Sd.ns_inj h3
 obtain rfl : n = n' := by omega
 rfl
theorem Wd.lt_rk (a b : Wd) : decide (a.str.cps.toList < b.str.cps.toList) = decide (a.rk < b.rk) := by
 cases a <;> cases b <;> decide +kernel
def qX (H : Hp) (p : Addr) (x : Stp) : Prop := ∃ t q, H p = some (.tup [.ref t, .ref q]) /\ H t = some (.tup [.str x.1.1.str, .int (x.1.2 : Int)]) /\ SAt H q x.2
theorem qX.mono {H H' : Hp} (ts : q03 H H') {p : Addr} {x : Stp} (h : qX H p x) : qX H' p x := let ⟨t, q, a, b, c⟩ := h; ⟨t, q, ts _ _ a, ts _ _ b, ts _ _ c⟩
theorem qX.uniq {H : Hp} {p : Addr} {x y : Stp} (h : qX H p x) (g : qX H p y) : x = y := by
 obtain ⟨t, q, a, b, c⟩ := h
 obtain ⟨t', q', a', b', c'⟩ := g
 rw [a] at a'
 cases a'
 rw [b] at b'
 have e1 : x.2 = y.2 := Sd.vs_inj (by have h := c.symm.trans c'; simpa using h)
 obtain ⟨⟨d, n⟩, s⟩ := x
 obtain ⟨⟨d', n'⟩, s'⟩ := y
 simp only [Option.some.injEq, HO.tup.injEq, List.cons.injEq, V.str.injEq, V.int.injEq, and_true] at b'
 obtain ⟨h1, h2⟩ := b'
 obtain rfl := Wd.str_inj h1
 obtain rfl : n = n' := by omega
 cases e1
 rfl
end Ce
namespace L2
open PySem PySem.Spec PyProof.Rows PySem.W Ce
theorem q6o : ∀ {a b : List Int}, a.length = b.length -> HT.q2y a b = decide (a < b)
 | [], [], _ => rfl
 | x :: a, y :: b, h => by
  rw [HT.q3K]
  by_cases e : x = y
  ·subst e
   rw [if_pos rfl, q6o (by simpa using h)]
   simp [List.cons_lt_cons_iff]
  ·rw [if_neg e]
   simp [List.cons_lt_cons_iff, e]
section
variable {X : Cx} {pins : List (Addr × Obj)} {σ : St} {H : Hp} {s : Shared}
theorem q4c (I : Inv X pins σ H s) {p t q : Addr} (h : H p = some (.tup [.ref t, .ref q])) : s.heap.IsTuple p #[.ref t, .ref q] := by
 obtain ⟨its, rv, pa, _⟩ := I.tuple (SqT.of h)
 have := q25 (ps := [t, q]) rv
 subst this
 exact pa
theorem lt_stp (I : Inv X pins σ H s) {A : Around} {a b : Addr} {x y : Stp} {C : Bool -> Shared -> Prop} {E : Value -> Shared -> Prop} (hu : A.units + 1 < cLine) (hx : qX H a x) (hy : qX H b y) (hC : C (decide (Stp.lst x < Stp.lst y)) s) : wpAny (model X.prog X.w) A (keyLt' (tuples' false) (.ref a) (.ref b)) C E s := by
 obtain ⟨t, q, h1, h2, h3⟩ := hx
 obtain ⟨t', q', g1, g2, g3⟩ := hy
 obtain ⟨o, ho, _, n, hd⟩ := q4c I h1
 obtain ⟨o', ho', _, n', hd'⟩ := q4c I g1
 obtain ⟨⟨d, i⟩, z⟩ := x
 obtain ⟨⟨d', i'⟩, z'⟩ := y
 have kt : (tupleKind (qE X.prog X.w)).is s.heap [.inr d.str, .inl (i : Int)] t := q1F I.hok h2
 have kt' : (tupleKind (qE X.prog X.w)).is s.heap [.inr d'.str, .inl (i' : Int)] t' := q1F I.hok g2
 have kq : (tupleKind (qE X.prog X.w)).is s.heap z.key q := q1F I.hok h3
 have kq' : (tupleKind (qE X.prog X.w)).is s.heap z'.key q' := q1F I.hok g3
 refine kat_lt ho hd ho' hd' ?_
 rw [show decide ((#[Value.ref t, Value.ref q] : Array Value).size < (#[Value.ref t', Value.ref q'] : Array Value).size) = false from rfl]
 show KatLex X.prog X.w A false false C [(.ref t, .ref t'), (.ref q, .ref q')] 0 s
 refine kat_cons (Nst.q6q (Nat.lt_of_succ_lt hu) kt kt' _ _ _ _ ?_)
 by_cases ed : d = d' /\ i = i'
 ·obtain ⟨rfl, rfl⟩ := ed
  rw [decide_eq_true rfl]
  refine kat_yes (kat_cons (Nst.q6q (Nat.lt_of_succ_lt hu) kq kq' _ _ _ _ ?_))
  have e2 : decide (Stp.lst ((d, i), z) < Stp.lst ((d, i), z')) = decide (z.ns < z'.ns) := by
   simp [Stp.lst, List.cons_lt_cons_iff]
  rw [e2] at hC
  by_cases ez : z = z'
  ·subst ez
   rw [decide_eq_true rfl]
   rw [decide_eq_false (List.lt_irrefl _)] at hC
   exact kat_yes hC
  ·rw [decide_eq_false fun w => ez (Sd.key_inj w)]
   refine kat_no (kat_one _ _ ?_)
   obtain ⟨its, rv, pa, _⟩ := I.tuple (SqT.of h3)
   obtain ⟨its', rv', pa', _⟩ := I.tuple (SqT.of g3)
   refine HT.q74 pa pa' (ns := z.ns) (ms := z'.ns) (by simpa using q2z (show Vals (z.ns.map V.int) its from rv)) (by simpa using q2z (show Vals (z'.ns.map V.int) its' from rv')) (Nat.lt_of_succ_lt hu) ?_
   rw [q6o (show z.ns.length = z'.ns.length from rfl)]
   exact hC
 ·rw [decide_eq_false fun w => ed (by
    simp only [List.cons.injEq, Sum.inr.injEq, Sum.inl.injEq, and_true] at w
    exact ⟨Wd.str_inj w.1, by omega⟩)]
  refine kat_no (kat_one _ _ ?_)
  obtain ⟨its, rv, pa, _⟩ := I.tuple (SqT.of h2)
  obtain ⟨its', rv', pa', _⟩ := I.tuple (SqT.of g2)
  obtain ⟨u0, u1, rfl, r0, r1⟩ := q8Y rv
  obtain ⟨v0, v1, rfl, r0', r1'⟩ := q8Y rv'
  obtain ⟨k1, rfl⟩ := r0
  obtain ⟨k2, rfl⟩ := r1
  obtain ⟨k3, rfl⟩ := r0'
  obtain ⟨k4, rfl⟩ := r1'
  refine Nst.lt_two (e0 := decide (d = d')) (e1 := decide (i = i')) (r0 := decide (d.rk < d'.rk)) (r1 := decide (i < i')) pa pa' (Nat.lt_of_succ_lt hu) ?_ ?_ (fun P W E Q hQ => ?_) (fun P W E Q hQ => ?_) ?_
  ·have := q6r (A := A.in1) (s := s) (y := .str d.str) (x := .str d'.str) ⟨k1, rfl⟩ ⟨k3, rfl⟩ rfl rfl
   rw [show eqV (.str d.str) (.str d'.str) = decide (d = d') from by
    show (d.str == d'.str) = _
    by_cases e : d = d'
    ·subst e; simp
    ·rw [decide_eq_false e]; simpa using fun w => e (Wd.str_inj w)] at this
   exact this
  ·have := q6r (A := A.in1) (s := s) (y := .int (i : Int)) (x := .int (i' : Int)) ⟨k2, rfl⟩ ⟨k4, rfl⟩ rfl rfl
   rw [show eqV (.int (i : Int)) (.int (i' : Int)) = decide (i = i') from by
    show ((i : Int) == (i' : Int)) = _
    by_cases e : i = i'
    ·subst e; simp
    ·rw [decide_eq_false e]; simpa using show ¬ (i : Int) = (i' : Int) by omega] at this
   exact this
  ·refine (lt_str ?_ : wpAny (model P W) A.in1 (compareOp .Lt (.str d.str k1) (.str d'.str k3)) Q E s)
   rw [Wd.lt_rk]
   exact hQ
  ·refine (lt_int ?_ : wpAny (model P W) A.in1 (compareOp .Lt (.int (i : Int) k2) (.int (i' : Int) k4)) Q E s)
   rw [show decide ((i : Int) < (i' : Int)) = decide (i < i') by simp]
   exact hQ
  ·have e3 : (if decide (d = d') = true then (if decide (i = i') = true then false else decide (i < i')) else decide (d.rk < d'.rk)) = decide (Stp.lst ((d, i), z) < Stp.lst ((d', i'), z')) := by
    by_cases e : d = d'
    ·subst e
     have ei : i ≠ i' := fun w => ed ⟨rfl, w⟩
     rw [if_pos (decide_eq_true rfl), if_neg (by simpa using ei)]
     simp [Stp.lst, List.cons_lt_cons_iff, show ¬ ((i : Int) = (i' : Int)) by omega]
    ·rw [if_neg (by simpa using e)]
     simp [Stp.lst, List.cons_lt_cons_iff, show ¬ d.rk = d'.rk from fun w => e (Wd.rk_inj w)]
   rw [e3]
   exact hC
theorem q9K (I : Inv X pins σ H s) : ∀ {l : List (Addr × Stp)}, (∀ x ∈ l, qX H x.1 x.2) -> 2 <= l.length -> ∀ {A : Around} {R : SortKind -> Shared -> Prop}, R (tuples' false) s -> wpAny (model X.prog X.w) A (keyKind' (l.map fun x => Value.ref x.1).toArray) R (fun _ _ => False) s := by
 intro l hl h2 A R hR
 obtain ⟨fs, kt, hf, ht⟩ : ∃ fs : List Value, KatTups s.heap (l.map fun x => Value.ref x.1) fs /\ fs.length = l.length /\ ∀ v ∈ fs, ∃ b o, v = Value.ref b /\ s.heap.get? b = some o /\ o.cls = .type "tuple" := by
  clear h2
  induction l with
  | nil => exact ⟨[], trivial, rfl, fun v hv => nomatch hv⟩
  | cons x l ih =>
   obtain ⟨fs, a1, a2, a3⟩ := ih fun y hy => hl y (List.mem_cons_of_mem _ hy)
   obtain ⟨t, q, e1, e2, e3⟩ := hl x (.head _)
   obtain ⟨o, ho, hc, n, hd⟩ := q4c I e1
   obtain ⟨its, rv, ⟨o2, ho2, hc2, _⟩, _⟩ := I.tuple (SqT.of e2)
   refine ⟨.ref t :: fs, KatTups.cons ho hc hd rfl a1, by simpa using a2, fun v hv => ?_⟩
   rcases List.mem_cons.mp hv with rfl | hv
   ·exact ⟨t, o2, rfl, ho2, hc2⟩
   ·exact a3 v hv
 refine kat_kind kt (by omega) (T := .type "tuple") (fun v hv => ?_) (by decide) (by rw [show (Value.type "tuple" != Value.type "tuple") = false by decide]; exact hR)
 obtain ⟨b, o, rfl, ho, hc⟩ := ht v hv
 rw [<- hc]
 exact Looks.andThen (Looks.ld ho) .now
end
def DnO (P : Program) (w : World) (a : Addr) (xs : List (Stp × Addr)) : HO := .ext fun h => ∃ o es ep, h.get? a = some o /\ o.ExactDict /\ o.data = .dict es ep /\ es.toList = xs.map fun x => entryOfKey (Nst.q2V P w) (Stp.key x.1, x.2, .bool true)
theorem DnO.ok {P : Program} {w : World} {H : Hp} {h : Heap} {a : Addr} {xs : List (Stp × Addr)} {o : Obj} {es : Array DictEntry} {ep : Nat} (ho : h.get? a = some o) (hx : o.ExactDict) (hd : o.data = .dict es ep) (he : es.toList = xs.map fun x => entryOfKey (Nst.q2V P w) (Stp.key x.1, x.2, .bool true)) : q06 P w H h a (DnO P w a xs) :=
 ⟨⟨o, es, ep, ho, hx, hd, he⟩, ⟨o, ho⟩, fun _ _ ⟨o, es, ep, ho, hx, hd, he⟩ k => ⟨o, es, ep, k _ ho, hx, hd, he⟩⟩
def tDNewN (P : Program) (w : World) : TE := fun _ H Q => ∀ p, H p = none -> (p == sysModules) = false -> Q (.ref p) (upd H p (DnO P w p []))
section
variable {X : Cx} {pos : Pos}
theorem q6h (P : Program) (w : World) (hP : X.prog = P := by rfl) (hw : X.w = w := by rfl) : PE X (.Dict [] [] pos) (tDNewN P w) := by
 subst hP hw
 intro pins s σ H Q I h
 exact wpAny_Dict_empty ⟨.ref s.heap.objs.size, _, I.laid (a := s.heap.objs.size) (o := DnO X.prog X.w s.heap.objs.size []) (t' := s.toks) (fun _ _ q => Heap.get?_push_of_some _ q) (Nat.le_refl _) (DnO.ok (Heap.get?_push_size _ rfl) ⟨rfl, rfl, rfl⟩ rfl rfl), rfl, h _ (I.hok.fresh (Nat.le_refl _)) (beq_eq_false_iff_ne.mpr (Ne.symm (Nat.ne_of_lt I.big)))⟩
end
noncomputable def kx (H : Hp) (v : Value) : Stp := @Classical.epsilon Stp ⟨((.go, 0), ⟨0, 0, 0, 0, 0⟩)⟩ fun x => ∃ a, v = .ref a /\ qX H a x
theorem qbl {H : Hp} {a : Addr} {x : Stp} (h : qX H a x) : kx H (.ref a) = x := by
 have e : ∃ x, ∃ b, Value.ref a = .ref b /\ qX H b x := ⟨x, a, rfl, h⟩
 obtain ⟨b, eb, hb⟩ := @Classical.epsilon_spec_aux Stp ⟨((.go, 0), ⟨0, 0, 0, 0, 0⟩)⟩ _ e
 cases eb
 exact hb.uniq h
theorem outN {H : Hp} {l : List (Addr × Stp)} (hl : ∀ x ∈ l, qX H x.1 x.2) {out : Array Value} (pm : out.toList.Perm (l.map fun x => Value.ref x.1)) (so : out.toList.Pairwise fun x y => Srt.LO.kle (Stp.lst (kx H x)) (Stp.lst (kx H y))) :
  ∃ l' : List (Addr × Stp), l'.Perm l /\ out.toList = l'.map (fun x => Value.ref x.1) /\ l'.Pairwise (fun a b => ¬ Stp.lst b.2 < Stp.lst a.2) := by
 have g : ∀ x ∈ l, (fun v : Value => ((match v with | .ref a => a | _ => 0 : Addr), kx H v)) (Value.ref x.1) = x := fun x hx => by
  dsimp only
  rw [qbl (hl x hx)]
 refine ⟨out.toList.map fun v => ((match v with | .ref a => a | _ => 0 : Addr), kx H v), ?_, ?_, ?_⟩
 ·have := pm.map fun v : Value => ((match v with | .ref a => a | _ => 0 : Addr), kx H v)
  rw [List.map_map] at this
  refine this.trans (List.Perm.of_eq ?_)
  conv => rhs; rw [<- List.map_id l]
  exact List.map_congr_left fun x hx => g x hx
 ·rw [List.map_map]
  conv => lhs; rw [<- List.map_id out.toList]
  refine List.map_congr_left fun v hv => ?_
  obtain ⟨x, hx, rfl⟩ := List.mem_map.mp (pm.mem_iff.mp hv)
  rfl
 ·rw [List.pairwise_map]
  exact so.imp fun {a b} hab => of_decide_eq_false hab
theorem refsN : ∀ l' : List (Addr × Stp), Vals (l'.map fun x => V.ref x.1) (l'.map fun x => Value.ref x.1)
 | [] => .nil
 | _ :: l' => .cons rfl (refsN l')
def putS (xs : List (Stp × Addr)) (k : Stp) (b : Addr) : List (Stp × Addr) := if k ∈ xs.map (·.1) then xs else xs ++ [(k, b)]
def NPut (P : Program) (w : World) (H : Hp) (a : Addr) (y v : V) (H' : Hp) : Prop := ∃ xs b k, H a = some (DnO P w a xs) /\ y = .ref b /\ qX H b k /\ v = .bl true /\ xs.length < sizeLine /\ (∀ x ∈ xs, qX H x.2 x.1) /\ (xs.map (·.1)).Nodup /\ H' = upd H a (DnO P w a (putS xs k b))
def sDPutN (P : Program) (w : World) (td ty tv : TE) : TS := fun D σ H => tv σ H fun v H1 => td σ H1 fun x H2 => ty σ H2 fun y H3 => ∃ a H4, x = .ref a /\ NPut P w H3 a y v H4 /\ D.nx σ H4
theorem q92 (xs : List (Stp × Addr)) (k : Stp) (b : Addr) : storedH (xs.map fun x => (Stp.key x.1, x.2, Value.bool true)) (Stp.key k) b (.bool true) = (putS xs k b).map fun x => (Stp.key x.1, x.2, Value.bool true) := by
 have e : (atKey (xs.map fun x => (Stp.key x.1, x.2, Value.bool true)) (Stp.key k)).isSome = decide (k ∈ xs.map (·.1)) := by
  unfold atKey
  rw [Option.isSome_map, Bool.eq_iff_iff, List.find?_isSome, decide_eq_true_eq, List.mem_map]
  constructor
  ·rintro ⟨x, hx, ex⟩
   obtain ⟨y, hy, rfl⟩ := List.mem_map.mp hx
   exact ⟨y, hy, Stp.key_inj (of_decide_eq_true ex)⟩
  ·rintro ⟨y, hy, rfl⟩
   exact ⟨_, List.mem_map_of_mem hy, decide_eq_true rfl⟩
 unfold storedH putS
 rw [e]
 by_cases h : k ∈ xs.map (·.1)
 ·rw [if_pos (decide_eq_true h), if_pos h, List.map_map]
  refine List.map_congr_left fun x _ => ?_
  show putAt (Stp.key k) (.bool true) (Stp.key x.1, x.2, Value.bool true) = _
  unfold putAt
  split <;> simp_all
 ·rw [if_neg (by simpa using h), if_neg h, List.map_append]
  rfl
section
variable {X : Cx} {pins : List (Addr × Obj)} {σ : St} {H : Hp} {s : Shared}
theorem q7S (I : Inv X pins σ H s) {b : Addr} {k : Stp} (h : qX H b k) : Nst.IsPair X.prog X.w s.heap (Stp.key k) b := by
 obtain ⟨t, q, h1, h2, h3⟩ := h
 obtain ⟨o, ho, hc, n, hd⟩ := q4c I h1
 exact ⟨o, t, q, n, ho, hc, hd, q1F I.hok h2, q1F I.hok h3⟩
theorem dn_of (I : Inv X pins σ H s) {a : Addr} {xs : List (Stp × Addr)} (e : H a = some (DnO X.prog X.w a xs)) (hk : ∀ x ∈ xs, qX H x.2 x.1) (nd : (xs.map (·.1)).Nodup) : Heap.DictOfH (Nst.q2V X.prog X.w) s.heap a (xs.map fun x => (Stp.key x.1, x.2, Value.bool true)) := by
 obtain ⟨⟨o, es, ep, ho, hx, hd, he⟩, _⟩ := (show q06 X.prog X.w H s.heap a (DnO X.prog X.w a xs) from I.hok a _ e)
 refine ⟨o, es, ep, ho, hx, hd, by rw [he, List.map_map]; rfl, fun x hx => ?_, ?_⟩
 ·obtain ⟨y, hy, rfl⟩ := List.mem_map.mp hx
  exact q7S I (hk y hy)
 ·rw [List.map_map]
  have : ((fun x : (List Key × List Key) × Addr × Value => x.1) ∘ fun x : Stp × Addr => (Stp.key x.1, x.2, Value.bool true)) = fun x => Stp.key x.1 := rfl
  rw [this]
  have n2 := List.Pairwise.map (S := fun a b => a ≠ b) Stp.key (fun a b h z => h (Stp.key_inj z)) nd
  rw [List.map_map] at n2
  exact n2
theorem q80 {P : Program} {w : World} {A : Around} {E : Value -> Shared -> Prop} {a : Addr} {y v : V} {u r : Value} {H' : Hp} {Q : Unit -> Shared -> Prop} (hP : X.prog = P) (hw : X.w = w) (hu : A.units + 2 < cLine) (I : Inv X pins σ H s) (g : NPut P w H a y v H') (ry : RelV y u) (rv : RelV v r) (h : ∀ s', Inv X pins σ H' s' -> Q () s') : wpAny (model X.prog X.w) A (setItem (.ref a) u r) Q E s := by
 subst hP hw
 obtain ⟨xs, b, k, e, rfl, hb, rfl, hl, hk, nd, rfl⟩ := g
 cases (show u = Value.ref b from ry)
 cases (show r = Value.bool true from rv)
 refine wpAny_setItem_heap (knd := Nst.q2V X.prog X.w) (hsz := by rw [List.length_map]; omega) (show A.units + 1 + 1 < cLine from hu) (q7S I hb) (dn_of I e hk nd) fun h' dd' hs => h _ ?_
 rw [q92] at dd'
 obtain ⟨q, es, ep, hq, h2, h3, h4, _, _⟩ := dd'
 exact q5V I (by rw [e]; exact True.intro) hs ⟨q, hq⟩ (DnO.ok hq h2 h3 (by rw [h4, List.map_map]; rfl))
end
section
variable {X : Cx} {o i value : Expr} {pos pos' : Pos} {td ty tv : TE}
theorem q6f (P : Program) (w : World) (hu : X.A.units + 2 < cLine) (ho : PE X o td) (hi : PE X i ty) (hv : PE X value tv) (hs : swapsWith value (some (.Subscript o i pos')) pos.line X.env = pure false) (hP : X.prog = P := by rfl) (hw : X.w = w := by rfl) : PS X (.Assign [.Subscript o i pos'] value pos) (sDPutN P w td ty tv) := by
 intro pins s σ H D I h
 refine wpAny_Assign_Subscript (thn (hv pins s σ H _ I h) fun r s1 ⟨v, H1, I1, rv, q1⟩ => thn (ho pins s1 σ H1 _ I1 q1) fun u s2 ⟨x, H2, I2, rx, q2⟩ => thn (hi pins s2 σ H2 _ I2 q2) fun iv s3 ⟨y, H3, I3, ry, a, H4, ex, g, q3⟩ => ?_) hs
 subst ex
 obtain rfl : u = Value.ref a := rx
 exact q80 hP hw hu I3 g ry rv fun s4 I4 => ⟨σ, H4, I4, q3⟩
end
end L2
namespace Srt
open PySem PySem.W PyProof.Rows
section
variable {prog : Program} {w : World} {A : Around} {E : Value -> Shared -> Prop} {s : Shared}
theorem q75 {κ : SortKind} {a : Addr} {vs : List Value} {n : Nat} {P : PySem.Fin -> Shared -> Prop} {O : KeyOrd} {kv : Value -> O.α} (ho : s.heap.get? a = some (seqObj "list" vs.toArray n)) (h64 : vs.length < 64)
  (hk : 2 <= vs.length -> ∀ (h' : Heap), (∀ b o, b ≠ a -> s.heap.get? b = some o -> h'.get? b = some o) -> ∀ (R : SortKind -> Shared -> Prop), R κ { s with heap := h' } -> wpAny (model prog w) A (keyKind' vs.toArray) R (fun _ _ => False) { s with heap := h' })
  (ha : 2 <= vs.length -> ∀ (h' : Heap), (∀ b o, b ≠ a -> s.heap.get? b = some o -> h'.get? b = some o) -> ∀ (x y : Value) (C : Bool -> Shared -> Prop) (E : Value -> Shared -> Prop), x ∈ vs -> y ∈ vs -> C (O.blt (kv x) (kv y)) { s with heap := h' } -> wpAny (model prog w) A (keyLt' κ x y) C E { s with heap := h' })
  (h : ∀ out : Array Value, (out.toList.Perm vs /\ out.toList.Pairwise fun x y => O.kle (kv x) (kv y)) -> P (.done (.ret .none)) { s with heap := sortedHeap s.heap a vs out }) :
  wpAny (model prog w) A (Builtin.«list.sort» ⟨[.ref a], []⟩) P E s := by
 have gm : ∀ i, i < vs.length -> vs.getD i Value.none ∈ vs := fun i hi => by rw [List.getD_eq_getElem?_getD, List.getElem?_eq_getElem hi]; exact List.getElem_mem hi
 refine q5b (lt := ltk O fun i => kv (vs.getD i Value.none)) (G := fun p => PO vs.length p /\ Up (O := O) (fun i => kv (vs.getD i Value.none)) vs.length p) ho h64 (fun p hp => hp.1.size) hk (fun h2 h' k i j C hi hj hC => ?_) (fun h2 => all (by omega)) fun out ho => h out ?_
 ·unfold kas_ask
  exact ha h2 h' k _ _ C _ (gm i hi) (gm j hj) hC
 ·rcases ho with ⟨h2, rfl⟩ | ⟨pp, ⟨po, up⟩, rfl⟩
  ·exact ⟨List.Perm.refl _, L2.qae h2⟩
  ·have po' : pp.toList.Perm (List.range vs.length) := by simpa using po.toList
   refine ⟨by have := po'.map fun i => vs.getD i Value.none; rwa [L2.q56] at this, ?_⟩
   rw [List.pairwise_map]
   refine List.pairwise_iff_getElem.mpr fun i j hi hj hij => ?_
   have hs : pp.size = vs.length := po.size
   have hi' : i < pp.size := by simpa using hi
   have hj' : j < pp.size := by simpa using hj
   have this := up i j (by omega) (by omega)
   simpa [ky, Array.getD, hi', hj'] using this
theorem q4I {κ : SortKind} {d : Addr} {o : Obj} {es : Array DictEntry} {ep : Nat} {Q : Value -> Shared -> Prop} {O : KeyOrd} {kv : Value -> O.α} {vs : List Value} (hh : A.handled = none) (hd : (d == sysModules) = false) (ho : s.heap.get? d = some o) (hx : o.ExactDict) (hdat : o.data = .dict es ep) (evs : vs = es.toList.map (·.key)) (hz : vs.length <= sizeLine) (h64 : vs.length < 64)
  (hk : 2 <= vs.length -> ∀ (A' : Around) (h' : Heap) (tk : Nat), A'.units <= A.units + 2 -> (∀ b o, s.heap.get? b = some o -> h'.get? b = some o) -> ∀ (R : SortKind -> Shared -> Prop), R κ { s with heap := h', toks := tk } -> wpAny (model prog w) A' (keyKind' vs.toArray) R (fun _ _ => False) { s with heap := h', toks := tk })
  (ha : 2 <= vs.length -> ∀ (A' : Around) (h' : Heap) (tk : Nat), A'.units <= A.units + 2 -> (∀ b o, s.heap.get? b = some o -> h'.get? b = some o) -> ∀ (x y : Value) (C : Bool -> Shared -> Prop) (E : Value -> Shared -> Prop), x ∈ vs -> y ∈ vs -> C (O.blt (kv x) (kv y)) { s with heap := h', toks := tk } -> wpAny (model prog w) A' (keyLt' κ x y) C E { s with heap := h', toks := tk })
  (h : ∀ (h1 : Heap) (tk : Nat), (∀ b o, s.heap.get? b = some o -> h1.get? b = some o) -> ∀ out : Array Value, (out.toList.Perm vs /\ out.toList.Pairwise fun x y => O.kle (kv x) (kv y)) -> Q (.ref h1.objs.size) { s with heap := sortedHeap (h1.push (seqObj "list" vs.toArray 0)) h1.objs.size vs out, toks := tk }) :
  wpAny (model prog w) A (call (.builtin "sorted") [.ref d]) Q E s := by
 refine Calls.call_function_entry kind_sorted plain_sorted entry_sorted (args_sorted1 _) ?_
 unfold Builtin.«sorted»
 refine wpAny_bind (m := checkCount "sorted" 1 1 _) (wpAny_pure (wpAny_bind (kdu_collect (A := A.in1) (DI.src hd hx hdat) hh ho (by rw [evs, List.length_map, Array.length_toList] at hz; exact hz) fun h1 tk acc k1 hacc => ?_)))
 have eacc : acc.toList = vs := by
  rw [evs]
  refine List.ext_getElem? fun j => ?_
  rw [Array.getElem?_toList, List.getElem?_map, Array.getElem?_toList]
  by_cases hj : j < es.size
  ·have hj' : j < acc.size := by rw [hacc.1]; exact hj
   obtain ⟨_, e⟩ := hacc.2 j _ (Array.getElem?_eq_getElem hj')
   rw [Array.getElem?_eq_getElem hj', Array.getElem?_eq_getElem hj, e]
   rfl
  ·rw [Array.getElem?_eq_none (by rw [hacc.1]; omega), Array.getElem?_eq_none (by omega)]
   rfl
 rw [eacc]
 refine wpAny_bind (wpAny_newList ?_ hz)
 have hoL : (h1.push (seqObj "list" vs.toArray 0)).get? h1.objs.size = some (seqObj "list" vs.toArray 0) := Heap.get?_push_size _ rfl
 have kp : ∀ b o, s.heap.get? b = some o -> (h1.push (seqObj "list" vs.toArray 0)).get? b = some o := fun b o q => Heap.get?_push_of_some _ (k1 b o q)
 have kq : ∀ b o, s.heap.get? b = some o -> b ≠ h1.objs.size := fun b o q => Nat.ne_of_lt (Heap.lt_size (k1 b o q))
 show wpAny _ _ _ _ _ { s with heap := h1.push (seqObj "list" vs.toArray 0), toks := tk }
 refine wpAny_bind (wpAny_holding (wpAny_call_entry slot_list_sort ⟨_, hoL, rfl⟩ entry_list_sort (q75 (s := { s with heap := h1.push (seqObj "list" vs.toArray 0), toks := tk }) hoL h64 (fun h2 h' k => hk h2 _ h' tk (Nat.le_refl _) fun b o q => k b o (kq b o q) (kp b o q)) (fun h2 h' k => ha h2 _ h' tk (Nat.le_refl _) fun b o q => k b o (kq b o q) (kp b o q)) fun out ho => ⟨_, rfl, ?_⟩) (args_list_sort _)))
 exact wpAny_pure ⟨_, rfl, h h1 tk k1 out ho⟩
end
end Srt
namespace L2
open PySem PySem.Spec PyProof.Rows PySem.W Ce
def qad (P : Program) (w : World) : List V -> Hp -> VK -> Prop := fun vs H Q => ∃ (a : Addr) (xs : List (Stp × Addr)), vs = [.ref a] /\ H a = some (DnO P w a xs) /\ (a == sysModules) = false /\ xs.length < 64 /\ (∀ x ∈ xs, qX H x.2 x.1) /\
 ∀ (q : Addr) (l' : List (Addr × Stp)), H q = none -> (l'.map (·.2)).Perm (xs.map (·.1)) -> l'.Pairwise (fun a b => ¬ Stp.lst b.2 < Stp.lst a.2) -> (∀ x ∈ l', qX H x.1 x.2) -> Q (.ref q) (upd H q (.lst (l'.map fun x => V.ref x.1)))
section
variable {X : Cx}
theorem qab (P : Program) (w : World) (hu : X.A.units + 4 < cLine) (hP : X.prog = P := by rfl) (hw : X.w = w := by rfl) (hc : X.calm = true := by rfl) : q1S X (.builtin "sorted") (qad P w) := by
 subst hP hw
 intro pins s σ H vs us Q I r h
 obtain ⟨a, xs, rfl, ha, hs, hz, hk, q⟩ := h
 obtain ⟨u, rfl, rx⟩ := q3s r
 cases rx
 obtain ⟨⟨o, es, ep, ho, hx, hd, he⟩, _⟩ := (show q06 X.prog X.w H s.heap a (DnO X.prog X.w a xs) from I.hok a _ ha)
 obtain ⟨l, el⟩ : ∃ l : List (Addr × Stp), l = xs.map fun x => (x.2, x.1) := ⟨_, rfl⟩
 have hl : ∀ x ∈ l, qX H x.1 x.2 := fun x hx => by
  rw [el] at hx
  obtain ⟨y, hy, rfl⟩ := List.mem_map.mp hx
  exact hk y hy
 have hll : l.length = xs.length := by rw [el, List.length_map]
 have evs : (l.map fun x => Value.ref x.1) = es.toList.map (·.key) := by rw [he, el, List.map_map, List.map_map]; rfl
 refine Srt.q4I (κ := tuples' false) (O := Srt.LO) (kv := fun v => Stp.lst (kx H v)) (I.ok.hd hc) hs ho hx hd evs (by rw [List.length_map, hll]; have := qD; omega) (by rw [List.length_map, hll]; exact hz) (fun h2 A h' tk _ kp R hR => q9K (I.kept (t' := tk) kp) hl (by rw [List.length_map] at h2; exact h2) hR) (fun h2 A h' tk hA kp x y C E hx hy hC => ?_) fun h1 tk k1 out ho => ?_
 ·obtain ⟨x, hx', rfl⟩ := List.mem_map.mp hx
  obtain ⟨y, hy', rfl⟩ := List.mem_map.mp hy
  have hC : C (decide (Stp.lst (kx H (.ref x.1)) < Stp.lst (kx H (.ref y.1)))) _ := hC
  rw [qbl (hl x hx'), qbl (hl y hy')] at hC
  exact lt_stp (I.kept (t' := tk) kp) (by omega) (hl x hx') (hl y hy') hC
 obtain ⟨l', hp, ho', hs⟩ := outN hl ho.1 ho.2
 have I1 : Inv X pins σ H { s with heap := h1, toks := tk } := I.kept (t' := tk) k1
 obtain ⟨e, he⟩ := Srt.q3Y out (show (h1.push (seqObj "list" (l.map fun x => Value.ref x.1).toArray 0)).get? h1.objs.size = some (seqObj "list" (l.map fun x => Value.ref x.1).toArray 0) from Heap.get?_push_size _ rfl)
 have I2 := I1.laid (a := h1.objs.size) (o := .lst (l'.map fun x => V.ref x.1)) (t' := tk) (h' := sortedHeap (h1.push (seqObj "list" (l.map fun x => Value.ref x.1).toArray 0)) h1.objs.size (l.map fun x => Value.ref x.1) out) (fun b o q => Srt.q3u (Nat.ne_of_lt (Heap.lt_size q)) (Heap.get?_push_of_some _ q)) (Nat.le_refl _) ⟨by rw [List.length_map, hp.length_eq, hll]; have := qD; omega, out.toList, e, by rw [ho']; exact refsN l', by simpa [seqObj] using he⟩
 refine ⟨.ref h1.objs.size, _, I2, rfl, q _ _ (I1.hok.fresh (Nat.le_refl _)) ?_ hs fun x hx => hl x (hp.mem_iff.mp hx)⟩
 have := hp.map (·.2)
 rw [el, List.map_map] at this
 exact this
end
end L2
namespace Mine
open PySem L2
def top (i : Nat) : Stmt := PySem.Challenge.pw_delve_k26_steps_of_folds.main.body.getD i (.Pass ⟨0, 0, 0, 0⟩)
abbrev q7z : Stmt := top 0
abbrev q2R : Stmt := top 10
abbrev q2a : Stmt := top 11
abbrev q2d : Stmt := top 12
abbrev q2b : Stmt := top 21
abbrev q1B : Stmt := top 22
abbrev q29 : Stmt := top 23
abbrev q0P : Stmt := top 45
abbrev q0n : Stmt := top 46
abbrev q18 : Stmt := top 47
abbrev q0O : Stmt := top 48
abbrev q0d : Stmt := top 49
abbrev q46 : Stmt := top 56
abbrev q68 : Stmt := top 57
abbrev q0s : Stmt := top 58
abbrev q19 : Stmt := top 66
abbrev q2c : Stmt := top 67
abbrev q0Y : Stmt := top 68
abbrev q2S : Stmt := top 69
abbrev q37 : Stmt := top 70
abbrev q0b : Stmt := top 71
abbrev q0I : Stmt := top 72
abbrev q0Z : Stmt := top 73
abbrev q07 : Stmt := top 74
abbrev q0A : Stmt := top 76
abbrev q0m : Stmt := top 77
abbrev q0X : Stmt := top 79
abbrev q69 : Stmt := top 80
abbrev q45 : Stmt := top 81
abbrev q1H : Stmt := top 82
abbrev q0o : Stmt := top 84
abbrev q1a : Stmt := top 85
abbrev qR : Stmt := top 86
abbrev q1b : Stmt := top 87
abbrev q1I : Stmt := top 88
abbrev q6R : Stmt := top 89
abbrev q1p : Stmt := qC (top 14) 0
abbrev qH : Stmt := qC (top 14) 1
abbrev q0R : Stmt := qC (top 15) 0
abbrev q0Q : Stmt := qC (top 15) 1
abbrev q1r : Stmt := qC (top 16) 0
abbrev q1q : Stmt := qC (top 16) 1
abbrev q1o : Stmt := qC (top 17) 0
abbrev q1n : Stmt := qC (top 17) 1
abbrev q1K : Stmt := qC (top 18) 0
abbrev q1J : Stmt := qC (top 18) 1
abbrev q1d : Stmt := qC (top 19) 0
abbrev q1c : Stmt := qC (top 19) 1
abbrev q0T : Stmt := qC (top 20) 0
abbrev q0S : Stmt := qC (top 20) 1
abbrev q1s : Stmt := qC (top 60) 0
abbrev qQ : Stmt := qC (top 60) 1
abbrev qI : Stmt := qC (top 60) 2
abbrev qy : Stmt := qC (top 60) 4
abbrev q2e : Stmt := qC (top 61) 0
abbrev q2f : Stmt := qC (top 61) 1
abbrev q2g : Stmt := qC (top 61) 2
abbrev q1k : Stmt := qC (top 62) 0
abbrev q1l : Stmt := qC (top 62) 1
abbrev q1m : Stmt := qC (top 62) 2
abbrev q1h : Stmt := qC (top 63) 0
abbrev q1i : Stmt := qC (top 63) 1
abbrev q1j : Stmt := qC (top 63) 2
abbrev q1e : Stmt := qC (top 64) 0
abbrev q1f : Stmt := qC (top 64) 1
abbrev q1g : Stmt := qC (top 64) 2
abbrev q0B : Stmt := qC (top 65) 0
abbrev q0C : Stmt := qC (top 65) 1
abbrev q0D : Stmt := qC (top 65) 2
theorem q7x : FnScope ["number", "least", "most"] ["number", "least", "most"] (qe q2R) := ⟨rfl, rfl, rfl, by decide +kernel, rfl, by decide +kernel, by decide +kernel⟩
theorem q6O : FnScope ["bits", "place"] ["bits", "place"] (qe q2a) := ⟨rfl, rfl, rfl, by decide +kernel, rfl, by decide +kernel, by decide +kernel⟩
theorem q6P : FnScope ["parts", "place", "part"] ["parts", "place", "part"] (qe q2d) := ⟨rfl, rfl, rfl, by decide +kernel, rfl, by decide +kernel, by decide +kernel⟩
theorem q3G : FnScope ["gate", "word"] ["gate"] (qe q2b) := ⟨rfl, rfl, rfl, by decide +kernel, rfl, by decide +kernel, by decide +kernel⟩
theorem q2t : FnScope ["thing", "tops", "numbers"] ["thing"] (qe q1B) := ⟨rfl, rfl, rfl, by decide +kernel, rfl, by decide +kernel, by decide +kernel⟩
theorem q6N : FnScope ["word"] ["word"] (qe q29) := ⟨rfl, rfl, rfl, by decide +kernel, rfl, by decide +kernel, by decide +kernel⟩
theorem q7y : FnScope ["rooms", "first", "last", "ways", "things", "levers", "wheels", "bars", "water"] ["rooms", "first", "last", "ways", "things", "levers", "wheels", "bars", "water"] (qe q0P) := ⟨rfl, rfl, rfl, by decide +kernel, rfl, by decide +kernel, by decide +kernel⟩
theorem q35 : FnScope ["name", "number", "least", "most"] ["name", "number", "least", "most"] (qe q0n) := ⟨rfl, rfl, rfl, by decide +kernel, rfl, by decide +kernel, by decide +kernel⟩
theorem q0f : FnScope ["rooms", "ways", "made", "a", "b", "gate", "back"] ["rooms", "ways"] (qe q18) := ⟨rfl, rfl, rfl, by decide +kernel, rfl, by decide +kernel, by decide +kernel⟩
theorem q0z : FnScope ["name", "rooms", "pairs", "most_pairs", "least", "most", "made", "room", "number"] ["name", "rooms", "pairs", "most_pairs", "least", "most"] (qe q0O) := ⟨rfl, rfl, rfl, by decide +kernel, rfl, by decide +kernel, by decide +kernel⟩
theorem q0N : FnScope ["name", "rows", "most", "made"] ["name", "rows", "most"] (qe q0d) := ⟨rfl, rfl, rfl, by decide +kernel, rfl, by decide +kernel, by decide +kernel⟩
theorem q95 : FnScope ["cellar"] ["cellar"] (qe q46) := ⟨rfl, rfl, rfl, by decide +kernel, rfl, by decide +kernel, by decide +kernel⟩
theorem q2u : FnScope ["cellar", "stand", "counts", "number", "thing", "kind"] ["cellar", "stand"] (qe q68) := ⟨rfl, rfl, rfl, by decide +kernel, rfl, by decide +kernel, by decide +kernel⟩
theorem q40 : FnScope ["cellar"] ["cellar"] (qe q0s) := ⟨rfl, rfl, rfl, by decide +kernel, rfl, by decide +kernel, by decide +kernel⟩
theorem q4K : FnScope ["way", "room"] ["way", "room"] (qe q19) := ⟨rfl, rfl, rfl, by decide +kernel, rfl, by decide +kernel, by decide +kernel⟩
theorem q3H : FnScope ["deed", "word"] ["deed"] (qe q2c) := ⟨rfl, rfl, rfl, by decide +kernel, rfl, by decide +kernel, by decide +kernel⟩
theorem q5x : FnScope ["cellar", "stand"] ["cellar", "stand"] (qe q0Y) := ⟨rfl, rfl, rfl, by decide +kernel, rfl, by decide +kernel, by decide +kernel⟩
theorem q4L : FnScope ["cellar", "stand", "deed", "thing"] ["cellar", "stand", "deed"] (qe q2S) := ⟨rfl, rfl, rfl, by decide +kernel, rfl, by decide +kernel, by decide +kernel⟩
theorem q96 : FnScope ["cellar", "stand"] ["cellar", "stand"] (qe q37) := ⟨rfl, rfl, rfl, by decide +kernel, rfl, by decide +kernel, by decide +kernel⟩
theorem q34 : FnScope ["cellar", "stand"] ["cellar", "stand"] (qe q0b) := ⟨rfl, rfl, rfl, by decide +kernel, rfl, by decide +kernel, by decide +kernel⟩
theorem q4J : FnScope ["cellar", "stand"] ["cellar", "stand"] (qe q0I) := ⟨rfl, rfl, rfl, by decide +kernel, rfl, by decide +kernel, by decide +kernel⟩
theorem q5y : FnScope ["cellar"] ["cellar"] (qe q0Z) := ⟨rfl, rfl, rfl, by decide +kernel, rfl, by decide +kernel, by decide +kernel⟩
theorem q0r : FnScope ["cellar", "pulls", "takes", "turns", "unlocks"] ["cellar"] (qe q07) := ⟨rfl, rfl, rfl, by decide +kernel, rfl, by decide +kernel, by decide +kernel⟩
theorem qL : FnScope ["begins", "links", "row", "counts", "begin", "place", "here", "other"] ["begins", "links"] (qe q0A) := ⟨rfl, rfl, rfl, by decide +kernel, rfl, by decide +kernel, by decide +kernel⟩
theorem qU : FnScope ["links", "turned", "stand", "others", "other"] ["links"] (qe q0m) := ⟨rfl, rfl, rfl, by decide +kernel, rfl, by decide +kernel, by decide +kernel⟩
theorem q16 : FnScope ["cellar", "stand", "links", "gone_to", "gone_from"] ["cellar", "stand"] (qe q0X) := ⟨rfl, rfl, rfl, by decide +kernel, rfl, by decide +kernel, by decide +kernel⟩
theorem qaI : FnScope ["cellar", "stand"] ["cellar", "stand"] (qe q69) := ⟨rfl, rfl, rfl, by decide +kernel, rfl, by decide +kernel, by decide +kernel⟩
theorem q1G : FnScope ["cellar", "stand", "own_round", "found", "here", "deed", "other"] ["cellar", "stand"] (qe q45) := ⟨rfl, rfl, rfl, by decide +kernel, rfl, by decide +kernel, by decide +kernel⟩
theorem q17 : FnScope ["cellar", "stand", "links", "room", "here"] ["cellar", "stand"] (qe q1H) := ⟨rfl, rfl, rfl, by decide +kernel, rfl, by decide +kernel, by decide +kernel⟩
theorem q36 : FnScope ["_law_script", "_law_k"] ["_law_script", "_law_k"] (qe q0o) := ⟨rfl, rfl, rfl, by decide +kernel, rfl, by decide +kernel, by decide +kernel⟩
theorem q1A : FnScope ["_law_cell", "_law_way"] ["_law_cell"] (qe q1a) := ⟨rfl, rfl, rfl, by decide +kernel, rfl, by decide +kernel, by decide +kernel⟩
theorem qx : FnScope ["_law_script", "_law_first", "_law_rooms", "_law_ways", "_law_k", "_law_cell", "_law_a", "_law_b", "_law_some", "_law_things", "_law_levers", "_law_wheels", "_law_last", "_law_more"] ["_law_script"] (qe qR) := ⟨rfl, rfl, rfl, by decide +kernel, rfl, by decide +kernel, by decide +kernel⟩
theorem q0g : FnScope ["_law_place", "_law_stand", "_law_found", "_law_at", "_law_deed", "_law_other"] ["_law_place", "_law_stand"] (qe q1b) := ⟨rfl, rfl, rfl, by decide +kernel, rfl, by decide +kernel, by decide +kernel⟩
theorem q21 : FnScope ["_law_script", "_law_place", "_law_cell", "_law_taken"] ["_law_script", "_law_place"] (qe q1I) := ⟨rfl, rfl, rfl, by decide +kernel, rfl, by decide +kernel, by decide +kernel⟩
theorem q0W : FnScope ["_law_script", "_law_place", "_law_some", "_law_stand", "_law_circle", "_law_found", "_law_one", "_law_deed", "_law_other", "_law_due", "_law_told", "_law_pair"] ["_law_script"] (qe q6R) := ⟨rfl, rfl, rfl, by decide +kernel, rfl, by decide +kernel, by decide +kernel⟩
theorem q4Y : FnScope ["self", "word", "numbers"] ["self", "word", "numbers"] (qe q1p) := ⟨rfl, rfl, rfl, by decide +kernel, rfl, by decide +kernel, by decide +kernel⟩
theorem q42 : FnScope ["self"] ["self"] (qe q0R) := ⟨rfl, rfl, rfl, by decide +kernel, rfl, by decide +kernel, by decide +kernel⟩
theorem q41 : FnScope ["self", "held", "opened", "bars", "water"] ["self", "held", "opened", "bars", "water"] (qe q0Q) := ⟨rfl, rfl, rfl, by decide +kernel, rfl, by decide +kernel, by decide +kernel⟩
theorem q50 : FnScope ["self", "kind"] ["self", "kind"] (qe q1r) := ⟨rfl, rfl, rfl, by decide +kernel, rfl, by decide +kernel, by decide +kernel⟩
theorem q4Z : FnScope ["self", "held", "opened", "bars", "water"] ["self", "held", "opened", "bars", "water"] (qe q1q) := ⟨rfl, rfl, rfl, by decide +kernel, rfl, by decide +kernel, by decide +kernel⟩
theorem q4X : FnScope ["self", "kind"] ["self", "kind"] (qe q1o) := ⟨rfl, rfl, rfl, by decide +kernel, rfl, by decide +kernel, by decide +kernel⟩
theorem q4W : FnScope ["self", "held", "opened", "bars", "water"] ["self", "held", "opened", "bars", "water"] (qe q1n) := ⟨rfl, rfl, rfl, by decide +kernel, rfl, by decide +kernel, by decide +kernel⟩
theorem q5B : FnScope ["self", "bar"] ["self", "bar"] (qe q1K) := ⟨rfl, rfl, rfl, by decide +kernel, rfl, by decide +kernel, by decide +kernel⟩
theorem q5A : FnScope ["self", "held", "opened", "bars", "water"] ["self", "held", "opened", "bars", "water"] (qe q1J) := ⟨rfl, rfl, rfl, by decide +kernel, rfl, by decide +kernel, by decide +kernel⟩
theorem q4N : FnScope ["self", "height", "kind"] ["self", "height", "kind"] (qe q1d) := ⟨rfl, rfl, rfl, by decide +kernel, rfl, by decide +kernel, by decide +kernel⟩
theorem q4M : FnScope ["self", "held", "opened", "bars", "water"] ["self", "held", "opened", "bars", "water"] (qe q1c) := ⟨rfl, rfl, rfl, by decide +kernel, rfl, by decide +kernel, by decide +kernel⟩
theorem q44 : FnScope ["self", "height"] ["self", "height"] (qe q0T) := ⟨rfl, rfl, rfl, by decide +kernel, rfl, by decide +kernel, by decide +kernel⟩
theorem q43 : FnScope ["self", "held", "opened", "bars", "water"] ["self", "held", "opened", "bars", "water"] (qe q0S) := ⟨rfl, rfl, rfl, by decide +kernel, rfl, by decide +kernel, by decide +kernel⟩
theorem q52 : FnScope ["self", "word", "number", "part"] ["self", "word", "number", "part"] (qe q1s) := ⟨rfl, rfl, rfl, by decide +kernel, rfl, by decide +kernel, by decide +kernel⟩
theorem q5z : FnScope ["self", "cellar", "stand"] ["self", "cellar", "stand"] (qe qQ) := ⟨rfl, rfl, rfl, by decide +kernel, rfl, by decide +kernel, by decide +kernel⟩
theorem q51 : FnScope ["self"] ["self"] (qe qI) := ⟨rfl, rfl, rfl, by decide +kernel, rfl, by decide +kernel, by decide +kernel⟩
theorem q2L : FnScope ["self", "cellar"] ["self", "cellar"] (qe qy) := ⟨rfl, rfl, rfl, by decide +kernel, rfl, by decide +kernel, by decide +kernel⟩
theorem q6Q : FnScope ["self", "number"] ["self", "number"] (qe q2e) := ⟨rfl, rfl, rfl, by decide +kernel, rfl, by decide +kernel, by decide +kernel⟩
theorem q2v : FnScope ["self", "cellar", "stand", "way", "opened"] ["self", "cellar", "stand"] (qe q2f) := ⟨rfl, rfl, rfl, by decide +kernel, rfl, by decide +kernel, by decide +kernel⟩
theorem q2w : FnScope ["self", "cellar", "stand", "way", "other_end"] ["self", "cellar", "stand"] (qe q2g) := ⟨rfl, rfl, rfl, by decide +kernel, rfl, by decide +kernel, by decide +kernel⟩
theorem q4T : FnScope ["self", "number"] ["self", "number"] (qe q1k) := ⟨rfl, rfl, rfl, by decide +kernel, rfl, by decide +kernel, by decide +kernel⟩
theorem q4U : FnScope ["self", "cellar", "stand"] ["self", "cellar", "stand"] (qe q1l) := ⟨rfl, rfl, rfl, by decide +kernel, rfl, by decide +kernel, by decide +kernel⟩
theorem q4V : FnScope ["self", "cellar", "stand"] ["self", "cellar", "stand"] (qe q1m) := ⟨rfl, rfl, rfl, by decide +kernel, rfl, by decide +kernel, by decide +kernel⟩
theorem q4Q : FnScope ["self", "number"] ["self", "number"] (qe q1h) := ⟨rfl, rfl, rfl, by decide +kernel, rfl, by decide +kernel, by decide +kernel⟩
theorem q4R : FnScope ["self", "cellar", "stand"] ["self", "cellar", "stand"] (qe q1i) := ⟨rfl, rfl, rfl, by decide +kernel, rfl, by decide +kernel, by decide +kernel⟩
theorem q4S : FnScope ["self", "cellar", "stand"] ["self", "cellar", "stand"] (qe q1j) := ⟨rfl, rfl, rfl, by decide +kernel, rfl, by decide +kernel, by decide +kernel⟩
theorem q4O : FnScope ["self", "number"] ["self", "number"] (qe q1e) := ⟨rfl, rfl, rfl, by decide +kernel, rfl, by decide +kernel, by decide +kernel⟩
theorem q2H : FnScope ["self", "cellar", "stand", "wheel"] ["self", "cellar", "stand"] (qe q1f) := ⟨rfl, rfl, rfl, by decide +kernel, rfl, by decide +kernel, by decide +kernel⟩
theorem q4P : FnScope ["self", "cellar", "stand"] ["self", "cellar", "stand"] (qe q1g) := ⟨rfl, rfl, rfl, by decide +kernel, rfl, by decide +kernel, by decide +kernel⟩
theorem q3w : FnScope ["self", "number"] ["self", "number"] (qe q0B) := ⟨rfl, rfl, rfl, by decide +kernel, rfl, by decide +kernel, by decide +kernel⟩
theorem q0U : FnScope ["self", "cellar", "stand", "way", "gate"] ["self", "cellar", "stand"] (qe q0C) := ⟨rfl, rfl, rfl, by decide +kernel, rfl, by decide +kernel, by decide +kernel⟩
theorem q3x : FnScope ["self", "cellar", "stand"] ["self", "cellar", "stand"] (qe q0D) := ⟨rfl, rfl, rfl, by decide +kernel, rfl, by decide +kernel, by decide +kernel⟩
structure Cs where
 Gate : Addr
 Plain : Addr
 Door : Addr
 Need : Addr
 Bar : Addr
 Wade : Addr
 Float : Addr
 Deed : Addr
 Go : Addr
 Pull : Addr
 Take : Addr
 Turn : Addr
 Unlock : Addr
structure TxtR (a : Str -> Value -> Prop) (n : Str -> Prop) (cs : Cs) : Prop where
 n_all : n "all"
 n_bool : n "bool"
 n_enumerate : n "enumerate"
 n_int : n "int"
 n_isinstance : n "isinstance"
 n_len : n "len"
 n_list : n "list"
 n_range : n "range"
 n_sorted : n "sorted"
 n_tuple : n "tuple"
 n_zip : n "zip"
 e_ALL_BARS : ∃ t, a "ALL_BARS" (.int 255 t)
 e_BARS : ∃ t, a "BARS" (.int 3 t)
 e_FIRST : ∃ t, a "FIRST" (.int 1 t)
 e_FIRST_BARS : ∃ t, a "FIRST_BARS" (.int 7 t)
 e_FIRST_WATER : ∃ t, a "FIRST_WATER" (.int 8 t)
 e_LAST : ∃ t, a "LAST" (.int 2 t)
 e_LAST_BAR : ∃ t, a "LAST_BAR" (.int 7 t)
 e_LAST_KIND : ∃ t, a "LAST_KIND" (.int 11 t)
 e_LEVERS : ∃ t, a "LEVERS" (.int 5 t)
 e_MOST_LEVERS : ∃ t, a "MOST_LEVERS" (.int 4 t)
 e_MOST_ROOMS : ∃ t, a "MOST_ROOMS" (.int 14 t)
 e_MOST_THINGS : ∃ t, a "MOST_THINGS" (.int 8 t)
 e_MOST_WAYS : ∃ t, a "MOST_WAYS" (.int 20 t)
 e_MOST_WHEELS : ∃ t, a "MOST_WHEELS" (.int 4 t)
 e_OPENED : ∃ t, a "OPENED" (.int 2 t)
 e_PAIR_NUMBER : ∃ t, a "PAIR_NUMBER" (.int 1 t)
 e_PAIR_ROOM : ∃ t, a "PAIR_ROOM" (.int 0 t)
 e_ROOM : ∃ t, a "ROOM" (.int 0 t)
 e_ROOMS : ∃ t, a "ROOMS" (.int 0 t)
 e_TAKEN : ∃ t, a "TAKEN" (.int 1 t)
 e_THINGS : ∃ t, a "THINGS" (.int 4 t)
 e_TOP_HEIGHT : ∃ t, a "TOP_HEIGHT" (.int 9 t)
 e_WATER : ∃ t, a "WATER" (.int 4 t)
 e_WAYS : ∃ t, a "WAYS" (.int 3 t)
 e_WAY_A : ∃ t, a "WAY_A" (.int 0 t)
 e_WAY_B : ∃ t, a "WAY_B" (.int 1 t)
 e_WAY_BACK : ∃ t, a "WAY_BACK" (.int 3 t)
 e_WAY_GATE : ∃ t, a "WAY_GATE" (.int 2 t)
 e_WHEELS : ∃ t, a "WHEELS" (.int 6 t)
 c_Gate : a "Gate" (.ref cs.Gate)
 c_Plain : a "Plain" (.ref cs.Plain)
 c_Door : a "Door" (.ref cs.Door)
 c_Need : a "Need" (.ref cs.Need)
 c_Bar : a "Bar" (.ref cs.Bar)
 c_Wade : a "Wade" (.ref cs.Wade)
 c_Float : a "Float" (.ref cs.Float)
 c_Deed : a "Deed" (.ref cs.Deed)
 c_Go : a "Go" (.ref cs.Go)
 c_Pull : a "Pull" (.ref cs.Pull)
 c_Take : a "Take" (.ref cs.Take)
 c_Turn : a "Turn" (.ref cs.Turn)
 c_Unlock : a "Unlock" (.ref cs.Unlock)
abbrev Txt (mg : Str -> Option Value) (cs : Cs) : Prop := TxtR (fun x v => mg x = some v) (fun x => mg x = none) cs
theorem TxtR.up {a a' : Str -> Value -> Prop} {n n' : Str -> Prop} {cs : Cs} (h1 : ∀ x v, a x v -> a' x v) (h2 : ∀ x, n x -> n' x) (t : TxtR a n cs) : TxtR a' n' cs := ⟨h2 _ t.n_all, h2 _ t.n_bool, h2 _ t.n_enumerate, h2 _ t.n_int, h2 _ t.n_isinstance, h2 _ t.n_len, h2 _ t.n_list, h2 _ t.n_range, h2 _ t.n_sorted, h2 _ t.n_tuple, h2 _ t.n_zip, t.e_ALL_BARS.imp fun _ => h1 _ _, t.e_BARS.imp fun _ => h1 _ _, t.e_FIRST.imp fun _ => h1 _ _, t.e_FIRST_BARS.imp fun _ => h1 _ _, t.e_FIRST_WATER.imp fun _ => h1 _ _, t.e_LAST.imp fun _ => h1 _ _, t.e_LAST_BAR.imp fun _ => h1 _ _, t.e_LAST_KIND.imp fun _ => h1 _ _, t.e_LEVERS.imp fun _ => h1 _ _, t.e_MOST_LEVERS.imp fun _ => h1 _ _, t.e_MOST_ROOMS.imp fun _ => h1 _ _, t.e_MOST_THINGS.imp fun _ => h1 _ _, t.e_MOST_WAYS.imp fun _ => h1 _ _, t.e_MOST_WHEELS.imp fun _ => h1 _ _, t.e_OPENED.imp fun _ => h1 _ _, t.e_PAIR_NUMBER.imp fun _ => h1 _ _, t.e_PAIR_ROOM.imp fun _ => h1 _ _, t.e_ROOM.imp fun _ => h1 _ _, t.e_ROOMS.imp fun _ => h1 _ _, t.e_TAKEN.imp fun _ => h1 _ _, t.e_THINGS.imp fun _ => h1 _ _, t.e_TOP_HEIGHT.imp fun _ => h1 _ _, t.e_WATER.imp fun _ => h1 _ _, t.e_WAYS.imp fun _ => h1 _ _, t.e_WAY_A.imp fun _ => h1 _ _, t.e_WAY_B.imp fun _ => h1 _ _, t.e_WAY_BACK.imp fun _ => h1 _ _, t.e_WAY_GATE.imp fun _ => h1 _ _, t.e_WHEELS.imp fun _ => h1 _ _, h1 _ _ t.c_Gate, h1 _ _ t.c_Plain, h1 _ _ t.c_Door, h1 _ _ t.c_Need, h1 _ _ t.c_Bar, h1 _ _ t.c_Wade, h1 _ _ t.c_Float, h1 _ _ t.c_Deed, h1 _ _ t.c_Go, h1 _ _ t.c_Pull, h1 _ _ t.c_Take, h1 _ _ t.c_Turn, h1 _ _ t.c_Unlock⟩
structure Tcl (K : W.Frag) (cs : Cs) : Prop where
 cl_Plain : Cls K cs.Plain
 no_Plain_numbers : qz K cs.Plain "numbers"
 no_Plain_word : qz K cs.Plain "word"
 cl_Door : Cls K cs.Door
 no_Door_numbers : qz K cs.Door "numbers"
 no_Door_word : qz K cs.Door "word"
 cl_Need : Cls K cs.Need
 no_Need_kind : qz K cs.Need "kind"
 no_Need_numbers : qz K cs.Need "numbers"
 no_Need_word : qz K cs.Need "word"
 cl_Bar : Cls K cs.Bar
 no_Bar_bar : qz K cs.Bar "bar"
 no_Bar_numbers : qz K cs.Bar "numbers"
 no_Bar_word : qz K cs.Bar "word"
 cl_Wade : Cls K cs.Wade
 no_Wade_height : qz K cs.Wade "height"
 no_Wade_kind : qz K cs.Wade "kind"
 no_Wade_numbers : qz K cs.Wade "numbers"
 no_Wade_word : qz K cs.Wade "word"
 cl_Float : Cls K cs.Float
 no_Float_height : qz K cs.Float "height"
 no_Float_numbers : qz K cs.Float "numbers"
 no_Float_word : qz K cs.Float "word"
 cl_Go : Cls K cs.Go
 no_Go_number : qz K cs.Go "number"
 no_Go_part : qz K cs.Go "part"
 no_Go_word : qz K cs.Go "word"
 cl_Pull : Cls K cs.Pull
 no_Pull_number : qz K cs.Pull "number"
 no_Pull_part : qz K cs.Pull "part"
 no_Pull_word : qz K cs.Pull "word"
 cl_Take : Cls K cs.Take
 no_Take_number : qz K cs.Take "number"
 no_Take_part : qz K cs.Take "part"
 no_Take_word : qz K cs.Take "word"
 cl_Turn : Cls K cs.Turn
 no_Turn_number : qz K cs.Turn "number"
 no_Turn_part : qz K cs.Turn "part"
 no_Turn_word : qz K cs.Turn "word"
 cl_Unlock : Cls K cs.Unlock
 no_Unlock_number : qz K cs.Unlock "number"
 no_Unlock_part : qz K cs.Unlock "part"
 no_Unlock_word : qz K cs.Unlock "word"
-- ROOM 12
-- SLIM
-- PATCHED
-- DROP ok_cell
-- DROP ok_gate
-- DROP ok_heldL
-- DROP ok_cellar
-- DROP stand_b
-- DROP ok_stand
-- DROP vm_dtext
-- DROP vm_told
-- DROP vm_text
local macro_rules | `(tactic| walk_at "ne") => `(tactic| refine ifd (fun h => absurd h (by decide +kernel)) (fun _ => ?_))
local macro_rules | `(tactic| walk_at "eq") => `(tactic| refine ifd (fun _ => ?_) (fun h => absurd rfl h))
local macro_rules | `(tactic| walk_at "at") => `(tactic| first | rfl | exact atI0 | exact qbH (by assumption) | exact q0x (by assumption) | assumption)
local macro_rules | `(tactic| walk_at "hp") => `(tactic| first | with_reducible assumption | with_reducible exact qb | ((with_reducible apply q0c); (rotate_left; (with_reducible assumption)); walk_at "hp") | exact qb)
local macro_rules | `(tactic| walk_at "sq") => `(tactic| first | with_reducible assumption | ((with_reducible apply SqT.of); walk_at "hp") | ((with_reducible apply SqL.of); walk_at "hp") | ((with_reducible refine' Same.seq ?s ?h); (case h => with_reducible assumption); (case s => walk_at "sm")) | ((with_reducible refine' Same.tup ?s ?h); (case h => with_reducible assumption); (case s => walk_at "sm")))
local macro_rules | `(tactic| walk_at "sm") => `(tactic| first | with_reducible assumption | with_reducible exact Same.refl _ | ((with_reducible refine Same.trans ?_ (Same.upd (by assumption))); walk_at "sm"))
local macro_rules | `(tactic| walk_at "side") => `(tactic| first | assumption | omega | (exact ⟨by omega, by omega⟩) | (exact Or.inl ⟨by omega, by omega⟩) | (exact Or.inr ⟨by omega, by omega⟩) | (exact ⟨by omega, by omega, by omega⟩) | (exact ⟨by omega, by omega, by decide⟩) | (exact ⟨⟨by omega, by omega⟩, by omega, by omega⟩))
local macro_rules | `(tactic| walk_at "rd1") => `(tactic| first | ((with_reducible refine' r_var ?h ?_); (case h => rfl)) | with_reducible refine' r_op ?_ | with_reducible refine' r_c ?_ | with_reducible refine' r_cons ?_ | with_reducible refine' r_nil ?_ | with_reducible refine' r_seq ?_ | with_reducible refine' r_asg ?_ | with_reducible refine' r_name ?_ | with_reducible refine' r_call ?_ | with_reducible refine' r_cb ?_ | with_reducible refine' r_I0 ?_ | with_reducible refine' r_test ?_ | with_reducible refine' r_bl ?_ | with_reducible refine' r_B ?_ | with_reducible refine' r_ifS ?_ | with_reducible refine' r_ret ?_ | with_reducible refine' r_eqI ?_ | with_reducible refine' r_eqS ?_ | with_reducible refine' r_eqB ?_ | with_reducible refine' r_neI ?_ | with_reducible refine' r_neS ?_ | with_reducible refine' r_neB ?_ | with_reducible refine' r_and ?_ | with_reducible refine' r_or ?_ | with_reducible refine' r_not ?_ | with_reducible refine' r_un ?_ | with_reducible refine' r_U ?_ | with_reducible refine' r_isN ?_ | with_reducible refine' r_notN ?_ | with_reducible refine' r_andV ?_ | with_reducible refine' r_orV ?_ | with_reducible refine' r_notV ?_ | with_reducible refine' r_if ?_ | with_reducible refine' r_tup ?_ | with_reducible refine' r_lst ?_ | with_reducible refine' r_sl ?_ | with_reducible refine' r_np ?_ | with_reducible refine' r_pt ?_ | with_reducible refine' r_int ?_ | with_reducible refine' r_fld0 ?_ | with_reducible refine' qaK ?_ | with_reducible refine' r_vm0 ?_ | with_reducible refine' r_make ?_ | with_reducible refine' qaN ?_ | with_reducible refine' r_max2 ?_ | with_reducible refine' r_min2 ?_ | with_reducible refine' r_inti ?_ | with_reducible refine' r_intb ?_ | with_reducible refine' r_strs ?_ | with_reducible refine' r_next ?_ | with_reducible refine' r_drop ?_ | with_reducible refine' r_sub ?_ | with_reducible refine' r_augS ?_ | with_reducible refine' r_ipI ?_ | with_reducible refine' r_gc ?_ | with_reducible refine' r_gn ?_ | with_reducible refine' r_retN ?_ | with_reducible refine' r_bm ?_ | with_reducible refine' r_bm0 ?_ | with_reducible refine' r_for ?_ | with_reducible refine' r_rng1 ?_ | with_reducible refine' r_rng2 ?_ | with_reducible refine' r_comp ?_ | with_reducible refine' r_yes ?_ | with_reducible refine' r_iL ?_ | with_reducible refine' r_iT ?_ | with_reducible refine' r_eL ?_ | with_reducible refine' r_eT ?_ | with_reducible refine' iteT ?_ | with_reducible refine' iteF ?_ | with_reducible refine' ifnT ?_ | with_reducible refine' ifnF ?_ | with_reducible refine' r_fs ?_ | with_reducible refine' r_fv ?_ | with_reducible refine' r_callD ?_ | with_reducible refine' r_callK ?_ | with_reducible refine' q9f ?_ | with_reducible refine' q9g ?_ | with_reducible refine' r_isi_bb ?_ | with_reducible refine' r_isi_bi ?_ | with_reducible refine' r_isi_ss ?_ | with_reducible refine' r_isi_sb ?_ | with_reducible refine' r_isi_si ?_ | with_reducible refine' q9c ?_ | with_reducible refine' r_isi_it ?_ | with_reducible refine' r_isi_bt ?_ | with_reducible refine' r_isi_is ?_ | with_reducible refine' r_isi_bs ?_ | with_reducible refine' q9d ?_ | with_reducible refine' r_notT0 ?_ | with_reducible refine' r_dnew ?_ | with_reducible refine' r_dget ?_ | with_reducible refine' r_din ?_ | with_reducible refine' r_dnin ?_ | with_reducible refine' r_dput ?_ | with_reducible refine' r_hold ?_ | with_reducible refine' r_dk ?_ | with_reducible refine' r_dp ?_ | ((with_reducible refine' r_I ?h ?_); (case h => walk_at "side")) | ((with_reducible refine' r_al ?h ?_); (case h => rfl)) | ((with_reducible refine' r_aug ?h ?_); (case h => rfl)) | ((with_reducible refine' r_augN ?h ?_); (case h => rfl)) | ((with_reducible refine' q2M ?h ?e ?_); (case h => walk_at "sq"); (case e => walk_at "at")) | ((with_reducible refine' q47 ?h ?e ?_); (case h => walk_at "sq"); (case e => walk_at "at")) | ((with_reducible refine' r_ixU ?h ?e ?_); (case h => assumption); (case e => walk_at "at")) | ((with_reducible refine' r_lenT ?h ?_); (case h => walk_at "sq")) | ((with_reducible refine' r_lenL ?h ?_); (case h => walk_at "sq")) | ((with_reducible refine' r_lenU ?h ?_); (case h => assumption)) | ((with_reducible refine' r_refT ?h ?_); (case h => walk_at "sq")) | ((with_reducible refine' r_refL ?h ?_); (case h => walk_at "sq")) | ((with_reducible refine' qaL ?h ?_); (case h => walk_at "sq")) | ((with_reducible refine' qaM ?h ?_); (case h => walk_at "sq")) | ((with_reducible refine' r_tyL ?h ?_); (case h => walk_at "hp")) | ((with_reducible refine' q9b ?h ?_); (case h => walk_at "hp")) | ((with_reducible refine' r_isi_tl ?h ?_); (case h => walk_at "hp")) | ((with_reducible refine' q9e ?h ?_); (case h => walk_at "hp")) | ((with_reducible refine' r_isi_lt ?h ?_); (case h => walk_at "hp")) | ((with_reducible refine' r_gT ?h ?e ?_); (case h => walk_at "sq"); (case e => rfl)) | ((with_reducible refine' r_gL ?h ?e ?_); (case h => walk_at "sq"); (case e => rfl)) | ((with_reducible refine' r_rg ?h ?_); (case h => walk_at "side")) | ((with_reducible refine' r_rg2 ?h ?_); (case h => walk_at "side")))
local macro_rules | `(tactic| walk_at "rd") => `(tactic| repeat (walk_at "rd1"))
open Ce
def q5w : Sp := fun vs H Q _ => ∃ x t, vs = [.int x, .int t] /\ 0 <= t /\ Q (.bl (bit x t.toNat)) H
def qaa : Sp := fun vs H Q _ => ∃ c : Int, vs = [.int c] /\ ∀ (p : Addr) (g : Gt) (H' : Hp), Same H H' -> g.ok -> H' p = some (.tup g.vs) -> Q (.ref p) H'
def q7p : Sp := fun vs H Q _ => ∃ (p : Addr) (C : Cl), vs = [.ref p] /\ ClAt H p C /\ ∀ (q : Addr) (H' : Hp), Same H H' -> H' q = some (.tup [.int C.fst, .int 0, .int 0, .int C.bars, .int C.water]) -> Q (.ref q) H'
def dkV (g : Gt) : V := match g.dk with
 | some k => .int k
 | none => .non
def spDk : Sp := fun vs H Q _ => ∃ (p : Addr) (C : Cl), vs = [.ref p] /\ ClAt H p C /\ ClOk C /\ ∀ (q : Addr) (H' : Hp), Same H H' -> H q = none -> H' q = some (.lst (C.ways.map fun x => dkV x.g)) -> Q (.ref q) H'
def q64 : Sp := fun vs H Q _ => ∃ (p q : Addr) (C : Cl) (rm tk op b wt : Int), vs = [.ref p, .ref q] /\ ClAt H p C /\ ClOk C /\ H q = some (.tup [.int rm, .int tk, .int op, .int b, .int wt]) /\ (∀ i, i < C.ways.length -> bit op i = true -> (dsOf C i).isSome = true) /\
 ∀ (r : Addr) (H' : Hp), Same H H' -> H r = none -> H' r = some (.lst (cl (hold C tk op))) -> Q (.ref r) H'
theorem qa3 {xs : List Int} {j : Nat} (h : j < xs.length) : atI (xs.map V.int) (j : Int) = some (.int (xs.getD j 0)) := q0x (by simp [List.getD, h])
theorem qap {C : Cl} {tk k : Int} {i : Nat} (hi : i < C.things.length) : (cnt (tP C tk k) (i + 1) : Int) = (cnt (tP C tk k) i : Int) + (if bit tk i = true then (if k = C.things[i].2 then 1 else 0) else 0) := by
 show ((cnt _ i + _ : Nat) : Int) = _
 have e : C.things.getD i (0, 0) = C.things[i] := by simp [List.getD, hi]
 unfold tP
 rw [e]
 by_cases h1 : bit tk i = true
 ·by_cases h2 : C.things[i].2 = k
  ·simp [h1, h2]
  ·have : ¬ k = C.things[i].2 := fun z => h2 z.symm
   simp [h1, h2, this]
 ·simp [h1]
theorem qaq {C : Cl} {op k : Int} {i : Nat} (hi : i < C.ways.length) : (cnt (dP (dsOf C) op k) (i + 1) : Int) = (cnt (dP (dsOf C) op k) i : Int) + (if bit op i = true then (if C.ways[i].g.dk = some k then 1 else 0) else 0) := by
 show ((cnt _ i + _ : Nat) : Int) = _
 have e : dsOf C i = C.ways[i].g.dk := by simp [dsOf, hi]
 unfold dP
 rw [e]
 by_cases h1 : bit op i = true
 ·by_cases h2 : C.ways[i].g.dk = some k
  ·simp [h1, h2]
  ·simp [h1, h2]
 ·simp [h1]
section
variable {P : Program} {w : World} {K : W.Frag} {mg : Str -> Option Value} {base : Heap} {cs : Cs}
theorem q6W (T : Txt mg cs) (L : Laid K mg "has_bit" q2a ["bits", "place"]) : Cal P w K mg base 1 "has_bit" ["bits", "place"] q5w := by
 refine L.cal (k := 0) q6O (fun vs H Q E h => ?_) (fun f cdv A outer s H vs Q E hr h => ?_)
 ·obtain ⟨x, t, rfl, _⟩ := h
  rfl
 ·obtain ⟨x, t, rfl, h0, k⟩ := h
  refine ⟨_, (qf (qj (q0e q09 (qt op_and (qt op_shr (pv 0) (pv 1)) qg) qg (qw _)))), ?_⟩
  walk_at "rd"
  rw [q79]
  exact k
theorem q9q (T : Txt mg cs) (L : Laid K mg "start" q46 ["cellar"]) : Cal P w K mg base 1 "start" ["cellar"] q7p := by
 obtain ⟨t1, e_FIRST⟩ := T.e_FIRST
 obtain ⟨t2, e_FIRST_BARS⟩ := T.e_FIRST_BARS
 obtain ⟨t3, e_FIRST_WATER⟩ := T.e_FIRST_WATER
 refine L.cal (k := 0) q95 (fun vs H Q E h => ?_) (fun f cdv A outer s H vs Q E hr h => ?_)
 ·obtain ⟨p, C, rfl, _⟩ := h
  rfl
 ·obtain ⟨p, C, rfl, hC, k⟩ := h
  obtain ⟨pw, pt, pl, pv', h0, _⟩ := hC.ex
  refine ⟨_, (qf (qj (qM (qa (qu (qi K) (pv 0) (qh (v := .int 1) rfl e_FIRST ⟨_, rfl⟩) (fun _ _ => rfl)) (qa qg (qa qg (qa (qu (qi K) (pv 0) (qh (v := .int 7) rfl e_FIRST_BARS ⟨_, rfl⟩) (fun _ _ => rfl)) (qa (qu (qi K) (pv 0) (qh (v := .int 8) rfl e_FIRST_WATER ⟨_, rfl⟩) (fun _ _ => rfl)) qd)))))))), ?_⟩
  walk_at "rd"
  intro q hq
  exact k q _ (Same.upd hq) qb
theorem ok_dk (T : Txt mg cs) (L : Laid K mg "door_kinds" q0s ["cellar"]) : Cal P w K mg base 1 "door_kinds" ["cellar"] spDk := by
 obtain ⟨t1, e_WAYS⟩ := T.e_WAYS
 refine L.cal (k := 0) q40 (fun vs H Q E h => ?_) (fun f cdv A outer s H vs Q E hr h => ?_)
 ·obtain ⟨p, C, rfl, _⟩ := h
  rfl
 ·obtain ⟨p, C, rfl, hC, ok, k⟩ := h
  obtain ⟨pw, pt, pl, pv', h0, h1, _⟩ := hC.ex
  obtain ⟨wv, hw, hwl, hwg⟩ := h1.get
  have big := qD
  refine ⟨_, (qf (qj (q0w (q0i (N := ["a", "b", "gate", "back"]) (own := 4) (caps := []) ["cellar"] (qe q0s) (by decide +kernel)) rfl (q49 K (qu (qi K) (pv 0) (qh (v := .int 3) rfl e_WAYS ⟨_, rfl⟩) (fun _ _ => rfl))) (fun _ _ _ _ => (q1E (n := 4) K rfl (qG (qp (i := 0) (show List.Nodup (["a", "b", "gate", "back"] : List Str) by decide +kernel) rfl (Or.inl rfl)) (qG (qp (i := 1) (show List.Nodup (["a", "b", "gate", "back"] : List Str) by decide +kernel) rfl (Or.inl rfl)) (qG (qp (i := 2) (show List.Nodup (["a", "b", "gate", "back"] : List Str) by decide +kernel) rfl (Or.inl rfl)) (qG (qp (i := 3) (show List.Nodup (["a", "b", "gate", "back"] : List Str) by decide +kernel) rfl (Or.inl rfl)) q1D)))))) (fun _ _ _ _ => q0y) (fun _ _ _ _ => (q2j (qr q09 (qu (qi K) (pv 2) qg (fun _ _ => rfl)) qA (qw _)) (qu (qi K) (pv 2) qg (fun _ _ => rfl)) q7N))))), ?_⟩
  walk_at "rd"
  intro D hD
  refine q6w wv (fun i σ H' => ∃ v0 v1 v2 v3, σ = [v0, v1, v2, v3] /\ Same H H' /\ H' D = some (.lst ((C.ways.take i).map fun x => dkV x.g))) ⟨none, none, none, none, rfl, Same.upd hD, by rw [qb]; rfl⟩ ?_ ?_ ?_
  ·rintro i σ H' ⟨_, _, _, _, rfl, s1, _⟩
   exact SqT.of (s1 _ _ hw)
  ·rintro i x σ H' hx ⟨v0, v1, v2, v3, rfl, s1, hD1⟩
   have hi : i < C.ways.length := by rw [<- hwl]; exact (List.getElem?_eq_some_iff.mp hx).1
   obtain ⟨p1, e, g, hp1, hg⟩ := hwg i hi
   rw [hx] at e
   cases e
   have hp2 := s1 _ _ hp1
   have hg2 := s1 _ _ hg
   have hl := ok.wl
   rw [Gt.vs_eq] at hg2
   have fin : ∀ v, v = dkV C.ways[i].g -> ∃ ys, H' D = some (.lst ys) /\ ys.length < sizeLine /\ ∃ v0 v1 v2 v3, ([some (.int C.ways[i].a), some (.int C.ways[i].b), some (.ref g), some (.bl C.ways[i].back)] : St) = [v0, v1, v2, v3] /\ Same H (upd H' D (.lst (ys ++ [v]))) /\ (upd H' D (.lst (ys ++ [v]))) D = some (.lst ((C.ways.take (i + 1)).map fun x => dkV x.g)) := by
    intro v ev
    subst ev
    refine ⟨_, hD1, by simp; omega, _, _, _, _, rfl, s1.put hD, ?_⟩
    rw [qb, q7h (fun x : Way => dkV x.g) C.ways hi]
   walk_at "rd"
   refine ifd (fun hd => ?_) (fun hd => ?_)
   ·obtain ⟨k1, ek⟩ := q8w hd
    rw [ek] at hg2
    walk_at "rd"
    exact fin _ (by rw [ek]; rfl)
   ·walk_at "rd"
    refine fin _ ?_
    cases eg : C.ways[i].g with
    | door k1 => rw [eg] at hd; exact absurd rfl hd
    | _ => rfl
  ·rintro σ H' ⟨_, _, _, _, rfl, s1, hD1⟩
   rw [show wv.length = C.ways.length from hwl, List.take_length] at hD1
   exact k D H' s1 hD hD1
theorem qb2 (T : Txt mg cs) (L : Laid K mg "held" q68 ["cellar", "stand"]) (C_has_bit : Cal P w K mg base 1 "has_bit" ["bits", "place"] q5w) (C_door_kinds : Cal P w K mg base 1 "door_kinds" ["cellar"] spDk) : Cal P w K mg base 2 "held" ["cellar", "stand"] q64 := by
 obtain ⟨t1, e_LAST_KIND⟩ := T.e_LAST_KIND
 obtain ⟨t2, e_OPENED⟩ := T.e_OPENED
 obtain ⟨t3, e_TAKEN⟩ := T.e_TAKEN
 obtain ⟨t4, e_THINGS⟩ := T.e_THINGS
 refine L.cal (k := 1) q2u (fun vs H Q E h => ?_) (fun f cdv A outer s H vs Q E hr h => ?_)
 ·obtain ⟨p, q, C, _, _, _, _, _, rfl, _⟩ := h
  rfl
 ·obtain ⟨p, q, C, rm, tk, op, b, wt, rfl, hC, ok, hq, hdr, k⟩ := h
  obtain ⟨pw, pt, pl, pv', h0, h1, h2, _⟩ := hC.ex
  obtain ⟨tv, ht, htl, htg⟩ := h2.get
  have big := qD
  refine ⟨_, (qc (qv (i := 2) q2u.nd rfl (Or.inl rfl) (qt op_rep (q3J (qa qg qd)) (qt q1x (qh (v := .int 11) rfl e_LAST_KIND ⟨_, rfl⟩) qg)))
   (qc (q0t PassesOwn.never rfl (q7J K rfl T.n_enumerate (qa (qu (qi K) (pv 0) (qh (v := .int 4) rfl e_THINGS ⟨_, rfl⟩) (fun _ _ => rfl)) qd)) (q1E (n := 2) K rfl (qG (qp (i := 3) q2u.nd rfl (Or.inl rfl)) (qG (qp (i := 4) q2u.nd rfl (Or.inl rfl)) q1D))) (qf (qP (q0j (qm C_has_bit hr (by decide) rfl (qa (qu (qi K) (pv 1) (qh (v := .int 1) rfl e_TAKEN ⟨_, rfl⟩) (fun _ _ => rfl)) (qa (pv 3) qd)))) (qf (q7H (pv 2) (qu (qi K) (pv 4) qg (fun _ _ => rfl)) (q5f K) qg qaj q67)) qq)))
   (qc (q0t PassesOwn.never rfl (q7K K rfl T.n_enumerate (qa (qm C_door_kinds hr (by decide) rfl (qa (pv 0) qd)) qd)) (q1E (n := 2) K rfl (qG (qp (i := 3) q2u.nd rfl (Or.inl rfl)) (qG (qp (i := 5) q2u.nd rfl (Or.inl rfl)) q1D))) (qf (qP (q0j (qm C_has_bit hr (by decide) rfl (qa (qu (qi K) (pv 1) (qh (v := .int 2) rfl e_OPENED ⟨_, rfl⟩) (fun _ _ => rfl)) (qa (pv 3) qd)))) (qf (q7H (pv 2) (pv 5) (q5f K) qg ip_sub q67)) qq)))
   (qf (qj (pv 2)))))), ?_⟩
  walk_at "rd"
  intro p1 hp1
  walk_at "rd"
  refine ⟨p1, _, _, rfl, rfl, qb, by decide, by decide, by show 1 * 12 <= sizeLine; decide, fun cs hcs => ?_⟩
  have hcs0 : H cs = none := (Same.upd hp1).free hcs
  have s0 : Same H (upd (upd H p1 (.lst [.int 0])) cs (.lst (List.replicate (11 + 1 : Int).toNat [V.int 0]).flatten)) := (Same.upd hp1).trans (Same.upd hcs)
  have h0' := s0 _ _ h0
  have ht' := s0 _ _ ht
  walk_at "rd"
  refine q8s tv (fun i σ H' => ∃ v3 v4 v5, σ = [some (.ref p), some (.ref q), some (.ref cs), v3, v4, v5] /\ Same H H' /\ H' cs = some (.lst (cl fun k => (cnt (tP C tk k) i : Int)))) ⟨none, none, none, rfl, s0, by rw [qb]; rfl⟩ ?_ ?_ ?_
  ·rintro i σ H' ⟨_, _, _, rfl, s1, _⟩
   exact SqT.of (s1 _ _ ht)
  ·rintro i x σ H' T1 hx ⟨v3, v4, v5, rfl, s1, hc⟩ hT1
   have hi : i < C.things.length := by rw [<- htl]; exact (List.getElem?_eq_some_iff.mp hx).1
   obtain ⟨p2, e, hp2⟩ := htg i hi
   rw [hx] at e
   cases e
   have hp3 : H' p2 = _ := s1 _ _ hp2
   have hq3 := s1 _ _ hq
   obtain ⟨_, k0, k1⟩ := ok.t _ (List.getElem_mem hi)
   have sT : Same H (upd H' T1 (.tup [.int (i : Nat), .ref p2])) := s1.trans (Same.upd hT1)
   have hcT : (upd H' T1 (.tup [.int (i : Nat), .ref p2])) cs = some (.lst (cl fun k => (cnt (tP C tk k) i : Int))) := q0c hc hT1
   walk_at "rd"
   refine ⟨tk, i, rfl, by omega, ?_⟩
   rw [Int.toNat_natCast]
   walk_at "rd"
   refine ite2 (fun hb => ?_) (fun hb => ?_)
   ·walk_at "rd"
    refine q47 (SqL.of hcT) (q8M k0 k1) ?_
    walk_at "rd"
    refine qac hcT (cl_ix k0 k1) ?_
    refine ⟨_, _, _, rfl, sT.put hcs0, ?_⟩
    rw [qb, qar k0 k1]
    congr 2
    refine q2q fun k _ _ => ?_
    rw [qap hi, if_pos hb]
    by_cases ek : k = C.things[i].2
    ·rw [if_pos ek, if_pos ek, ek]
    ·rw [if_neg ek, if_neg ek]; omega
   ·walk_at "rd"
    refine ⟨_, _, _, rfl, sT, ?_⟩
    rw [hcT]
    congr 2
    refine q2q fun k _ _ => ?_
    rw [qap hi, if_neg hb]; omega
  ·rintro σ H' ⟨v3, v4, v5, rfl, s1, hc⟩
   rw [show tv.length = C.things.length from htl] at hc
   walk_at "rd"
   refine ⟨p, C, rfl, hC.mono s1.ts, ok, fun dk H2 s2 hdk hdk2 => ?_⟩
   have s12 := s1.trans s2
   have hc2 := s2 _ _ hc
   walk_at "rd"
   refine q8s (C.ways.map fun x => dkV x.g) (fun i σ H' => ∃ v3 v4 v5, σ = [some (.ref p), some (.ref q), some (.ref cs), v3, v4, v5] /\ Same H H' /\ H' dk = some (.lst (C.ways.map fun x => dkV x.g)) /\ H' cs = some (.lst (cl fun k => (cnt (tP C tk k) C.things.length : Int) - (cnt (dP (dsOf C) op k) i : Int)))) ⟨v3, v4, v5, rfl, s12, hdk2, ?_⟩ ?_ ?_ ?_
   ·rw [hc2]
    refine congrArg (fun l => some (HO.lst l)) (q2q fun k _ _ => ?_)
    show _ = _ - ((0 : Nat) : Int)
    omega
   ·rintro i σ H' ⟨_, _, _, rfl, s3, h3, _⟩
    exact SqL.of h3
   ·rintro i x σ H' T1 hx ⟨v3, v4, v5, rfl, s3, hd3, hc3⟩ hT1
    have hi : i < C.ways.length := by have := (List.getElem?_eq_some_iff.mp hx).1; simpa using this
    have ex : x = dkV C.ways[i].g := by simpa [hi] using hx.symm
    subst ex
    have hq3 := s3 _ _ hq
    have hne : dk ≠ cs := fun z => by rw [z] at hdk; rw [hdk] at hc; cases hc
    have sT : Same H (upd H' T1 (.tup [.int (i : Nat), dkV C.ways[i].g])) := s3.trans (Same.upd hT1)
    have hcT : (upd H' T1 (.tup [.int (i : Nat), dkV C.ways[i].g])) cs = _ := q0c hc3 hT1
    have hdT : (upd H' T1 (.tup [.int (i : Nat), dkV C.ways[i].g])) dk = _ := q0c hd3 hT1
    walk_at "rd"
    refine ⟨op, i, rfl, by omega, ?_⟩
    rw [Int.toNat_natCast]
    walk_at "rd"
    refine ite2 (fun hb => ?_) (fun hb => ?_)
    ·have hsome := hdr i hi hb
     have eds : dsOf C i = C.ways[i].g.dk := by simp [dsOf, hi]
     rw [eds] at hsome
     obtain ⟨k2, ek2⟩ := Option.isSome_iff_exists.mp hsome
     have hgok := (ok.w _ (List.getElem_mem hi)).2.2.2
     have hk2 : 0 <= k2 /\ k2 < 12 := by
      cases eg : C.ways[i].g with
      | door j => rw [eg] at ek2 hgok; cases ek2; exact hgok
      | _ => rw [eg] at ek2; cases ek2
     have ev : dkV C.ways[i].g = .int k2 := by unfold dkV; rw [ek2]
     rw [ev] at hcT hdT sT ⊢
     walk_at "rd"
     refine q47 (SqL.of hcT) (q8M hk2.1 hk2.2) ?_
     walk_at "rd"
     refine qac hcT (cl_ix hk2.1 hk2.2) ?_
     refine ⟨_, _, _, rfl, sT.put hcs0, up_oth hdT hne, ?_⟩
     rw [qb, qar hk2.1 hk2.2]
     congr 2
     refine q2q fun k _ _ => ?_
     rw [qaq hi, if_pos hb, ek2]
     by_cases ek : k = k2
     ·rw [if_pos ek, if_pos (by rw [ek]), ek]; omega
     ·rw [if_neg ek, if_neg (by intro z; exact ek (Option.some.inj z).symm)]; omega
    ·walk_at "rd"
     refine ⟨_, _, _, rfl, sT, hdT, ?_⟩
     rw [hcT]
     congr 2
     refine q2q fun k _ _ => ?_
     rw [qaq hi, if_neg hb]; omega
   ·rintro σ H' ⟨v3, v4, v5, rfl, s3, hd3, hc3⟩
    walk_at "rd"
    rw [List.length_map] at hc3
    exact k cs H' s3 hcs0 hc3
end
def q8K (cs : Cs) : Gt -> Addr
 | .plain => cs.Plain
 | .door _ => cs.Door
 | .need _ => cs.Need
 | .bar _ => cs.Bar
 | .wade _ _ => cs.Wade
 | .float _ => cs.Float
def fldB (q : Addr) (g : Gt) : List (Str × V) := putF "numbers" (.ref q) (putF "word" (.str g.word) [])
def flds (q : Addr) : Gt -> List (Str × V)
 | .need k => putF "kind" (.int k) (fldB q (.need k))
 | .bar b => putF "bar" (.int b) (fldB q (.bar b))
 | .wade h k => putF "kind" (.int k) (putF "height" (.int h) (fldB q (.wade h k)))
 | .float h => putF "height" (.int h) (fldB q (.float h))
 | g => fldB q g
theorem qbu (q : Addr) (g : Gt) : (flds q g).lookup ("lets" : Str) = none := by
 cases g <;> (unfold flds; first | unfold fldB | skip) <;> simp only [fldB, qF] <;> repeat (first | rfl | rw [if_neg (by decide +kernel)])
theorem q9V (q : Addr) (k : Int) : (flds q (.need k)).lookup ("kind" : Str) = some (.int k) := by
 unfold flds; rw [qF, if_pos rfl]
theorem qbv (q : Addr) (k : Int) : (flds q (.bar k)).lookup ("bar" : Str) = some (.int k) := by
 unfold flds; rw [qF, if_pos rfl]
theorem q9T (q : Addr) (h k : Int) : (flds q (.wade h k)).lookup ("kind" : Str) = some (.int k) := by
 unfold flds; rw [qF, if_pos rfl]
theorem q9U (q : Addr) (h k : Int) : (flds q (.wade h k)).lookup ("height" : Str) = some (.int h) := by
 unfold flds; rw [qF, if_neg (by decide +kernel), qF, if_pos rfl]
theorem q8u (q : Addr) (h : Int) : (flds q (.float h)).lookup ("height" : Str) = some (.int h) := by
 unfold flds; rw [qF, if_pos rfl]
structure GObj (cs : Cs) (H : Hp) (p : Addr) (g : Gt) : Prop where
 ex : ∃ dx q, H p = some (.ins (q8K cs g) dx (flds q g)) /\ H q = some (.tup (g.ns.map V.int))
theorem GObj.mono {cs : Cs} {H H' : Hp} {p : Addr} {g : Gt} (s : Same H H') (h : GObj cs H p g) : GObj cs H' p g := let ⟨dx, q, h1, h2⟩ := h.ex; ⟨dx, q, s _ _ h1, s _ _ h2⟩
def q1z (K : W.Frag) : Sp := fun vs H Q _ => ∃ (p C dx q : Addr) (z : Str), vs = [.ref p, .str z, .ref q] /\ H p = some (.ins C dx []) /\ Cls K C /\ qz K C "word" /\ qz K C "numbers" /\ Q .non (upd H p (.ins C dx (putF "numbers" (.ref q) (putF "word" (.str z) []))))
def spMk (cs : Cs) (wd : Str) : Sp := fun vs H Q _ => ∃ (p dx : Addr) (g : Gt), vs = .ref p :: g.ns.map V.int /\ g.word = wd /\ H p = some (.ins (q8K cs g) dx []) /\ ∀ H', (∀ b o, H b = some o -> b ≠ p -> H' b = some o) -> GObj cs H' p g -> Q .non H'
def qaE (cs : Cs) : Sp := fun vs H Q _ => ∃ (p : Addr) (g : Gt), vs = [.ref p] /\ H p = some (.tup g.vs) /\ ∀ (x : Addr) (H' : Hp), Same H H' -> H x = none -> GObj cs H' x g -> Q (.ref x) H'
def q2G (cs : Cs) (wd : Str) : Sp := fun vs H Q _ => ∃ (p hl : Addr) (g : Gt) (f : Int -> Int) (op : Bool) (bars wt : Int), vs = [.ref p, .ref hl, .bl op, .int bars, .int wt] /\ g.word = wd /\ GObj cs H p g /\ g.ok /\ H hl = some (.lst (cl f)) /\ Q (.bl (q9H g f op bars wt)) H
section
variable {P : Program} {w : World} {K : W.Frag} {mg : Str -> Option Value} {base : Heap} {cs : Cs}
theorem q9t (T : Txt mg cs) (L : LaidC K mg "Gate" "__init__" "Gate.__init__" q1p ["self", "word", "numbers"]) : CCal P w K mg base 1 "Gate" "__init__" ["self", "word", "numbers"] (q1z K) := by
 refine L.cc (k := 0) q4Y (fun vs H Q E h => ?_) (fun f cdv A outer s H vs Q E hr h => ?_)
 ·obtain ⟨p, C, dx, q, z, rfl, _⟩ := h
  rfl
 ·obtain ⟨p, C, dx, q, z, rfl, hp, cl, nw, nn, k⟩ := h
  refine ⟨_, (qc (q0V K (pv 0) (pv 1) rfl)
   (qf (q0V K (pv 0) (pv 2) rfl))), ?_⟩
  walk_at "rd"
  refine q1V hp cl nw (by decide) ?_
  walk_at "rd"
  refine q1V qb cl nn (by show 1 < 1000; decide) ?_
  rw [q1y]
  exact k
theorem q9C (T : Txt mg cs) (TC : Tcl K cs) (L : LaidI K mg "Plain" cs.Plain "Plain.__init__" q0R ["self"]) (C_Gate_init : CCal P w K mg base 1 "Gate" "__init__" ["self", "word", "numbers"] (q1z K)) : Makes P w K mg base 2 "Plain" cs.Plain ["self"] (spMk cs "plain") := by
 refine L.makes (k := 1) q42 (fun vs H Q E h => ?_) (fun f cdv A outer s H vs Q E hr h => ?_)
 ·obtain ⟨p, dx, g, rfl, hw, _⟩ := h
  cases g <;> first | rfl | exact absurd hw (by simp only [Gt.word]; decide +kernel)
 ·obtain ⟨p, dx, g, rfl, hw, hp, k⟩ := h
  cases g <;> first | exact absurd hw (by simp only [Gt.word]; decide +kernel) | skip
  refine ⟨_, (qf (qJ (q39 C_Gate_init hr (by decide) rfl (qa (pv 0) (qa qA (qa (qM qd) qd)))))), ?_⟩
  walk_at "rd"
  intro t ht
  refine ⟨p, cs.Plain, dx, t, _, rfl, q0c hp ht, TC.cl_Plain, TC.no_Plain_word, TC.no_Plain_numbers, ?_⟩
  walk_at "rd"
  have hpt : p ≠ t := qk hp ht
  refine k _ (fun b o hb hbp => ?_) ⟨dx, t, qb, by rw [ql hpt.symm]; exact qb⟩
  rw [ql hbp, ql (qk hb ht)]
  exact hb
theorem qbh (T : Txt mg cs) (TC : Tcl K cs) (L : LaidI K mg "Door" cs.Door "Door.__init__" q1r ["self", "kind"]) (C_Gate_init : CCal P w K mg base 1 "Gate" "__init__" ["self", "word", "numbers"] (q1z K)) : Makes P w K mg base 2 "Door" cs.Door ["self", "kind"] (spMk cs "door") := by
 refine L.makes (k := 1) q50 (fun vs H Q E h => ?_) (fun f cdv A outer s H vs Q E hr h => ?_)
 ·obtain ⟨p, dx, g, rfl, hw, _⟩ := h
  cases g <;> first | rfl | exact absurd hw (by simp only [Gt.word]; decide +kernel)
 ·obtain ⟨p, dx, g, rfl, hw, hp, k⟩ := h
  cases g <;> first | exact absurd hw (by simp only [Gt.word]; decide +kernel) | skip
  rename_i n
  refine ⟨_, (qf (qJ (q39 C_Gate_init hr (by decide) rfl (qa (pv 0) (qa qA (qa (qM (qa (pv 1) qd)) qd)))))), ?_⟩
  walk_at "rd"
  intro t ht
  refine ⟨p, cs.Door, dx, t, _, rfl, q0c hp ht, TC.cl_Door, TC.no_Door_word, TC.no_Door_numbers, ?_⟩
  walk_at "rd"
  have hpt : p ≠ t := qk hp ht
  refine k _ (fun b o hb hbp => ?_) ⟨dx, t, qb, by rw [ql hpt.symm]; exact qb⟩
  rw [ql hbp, ql (qk hb ht)]
  exact hb
theorem qbg (T : Txt mg cs) (TC : Tcl K cs) (L : LaidI K mg "Need" cs.Need "Need.__init__" q1o ["self", "kind"]) (C_Gate_init : CCal P w K mg base 1 "Gate" "__init__" ["self", "word", "numbers"] (q1z K)) : Makes P w K mg base 2 "Need" cs.Need ["self", "kind"] (spMk cs "need") := by
 refine L.makes (k := 1) q4X (fun vs H Q E h => ?_) (fun f cdv A outer s H vs Q E hr h => ?_)
 ·obtain ⟨p, dx, g, rfl, hw, _⟩ := h
  cases g <;> first | rfl | exact absurd hw (by simp only [Gt.word]; decide +kernel)
 ·obtain ⟨p, dx, g, rfl, hw, hp, k⟩ := h
  cases g <;> first | exact absurd hw (by simp only [Gt.word]; decide +kernel) | skip
  rename_i n
  refine ⟨_, (qc (qJ (q39 C_Gate_init hr (by decide) rfl (qa (pv 0) (qa qA (qa (qM (qa (pv 1) qd)) qd)))))
   (qf (q0V K (pv 0) (pv 1) rfl))), ?_⟩
  walk_at "rd"
  intro t ht
  refine ⟨p, cs.Need, dx, t, _, rfl, q0c hp ht, TC.cl_Need, TC.no_Need_word, TC.no_Need_numbers, ?_⟩
  walk_at "rd"
  refine q1V qb TC.cl_Need TC.no_Need_kind (by show 2 < 1000; decide) ?_
  rw [q1y]
  have hpt : p ≠ t := qk hp ht
  refine k _ (fun b o hb hbp => ?_) ⟨dx, t, qb, by rw [ql hpt.symm]; exact qb⟩
  rw [ql hbp, ql (qk hb ht)]
  exact hb
theorem mk_bar (T : Txt mg cs) (TC : Tcl K cs) (L : LaidI K mg "Bar" cs.Bar "Bar.__init__" q1K ["self", "bar"]) (C_Gate_init : CCal P w K mg base 1 "Gate" "__init__" ["self", "word", "numbers"] (q1z K)) : Makes P w K mg base 2 "Bar" cs.Bar ["self", "bar"] (spMk cs "bar") := by
 refine L.makes (k := 1) q5B (fun vs H Q E h => ?_) (fun f cdv A outer s H vs Q E hr h => ?_)
 ·obtain ⟨p, dx, g, rfl, hw, _⟩ := h
  cases g <;> first | rfl | exact absurd hw (by simp only [Gt.word]; decide +kernel)
 ·obtain ⟨p, dx, g, rfl, hw, hp, k⟩ := h
  cases g <;> first | exact absurd hw (by simp only [Gt.word]; decide +kernel) | skip
  rename_i n
  refine ⟨_, (qc (qJ (q39 C_Gate_init hr (by decide) rfl (qa (pv 0) (qa qA (qa (qM (qa (pv 1) qd)) qd)))))
   (qf (q0V K (pv 0) (pv 1) rfl))), ?_⟩
  walk_at "rd"
  intro t ht
  refine ⟨p, cs.Bar, dx, t, _, rfl, q0c hp ht, TC.cl_Bar, TC.no_Bar_word, TC.no_Bar_numbers, ?_⟩
  walk_at "rd"
  refine q1V qb TC.cl_Bar TC.no_Bar_bar (by show 2 < 1000; decide) ?_
  rw [q1y]
  have hpt : p ≠ t := qk hp ht
  refine k _ (fun b o hb hbp => ?_) ⟨dx, t, qb, by rw [ql hpt.symm]; exact qb⟩
  rw [ql hbp, ql (qk hb ht)]
  exact hb
theorem q9D (T : Txt mg cs) (TC : Tcl K cs) (L : LaidI K mg "Float" cs.Float "Float.__init__" q0T ["self", "height"]) (C_Gate_init : CCal P w K mg base 1 "Gate" "__init__" ["self", "word", "numbers"] (q1z K)) : Makes P w K mg base 2 "Float" cs.Float ["self", "height"] (spMk cs "float") := by
 refine L.makes (k := 1) q44 (fun vs H Q E h => ?_) (fun f cdv A outer s H vs Q E hr h => ?_)
 ·obtain ⟨p, dx, g, rfl, hw, _⟩ := h
  cases g <;> first | rfl | exact absurd hw (by simp only [Gt.word]; decide +kernel)
 ·obtain ⟨p, dx, g, rfl, hw, hp, k⟩ := h
  cases g <;> first | exact absurd hw (by simp only [Gt.word]; decide +kernel) | skip
  rename_i n
  refine ⟨_, (qc (qJ (q39 C_Gate_init hr (by decide) rfl (qa (pv 0) (qa qA (qa (qM (qa (pv 1) qd)) qd)))))
   (qf (q0V K (pv 0) (pv 1) rfl))), ?_⟩
  walk_at "rd"
  intro t ht
  refine ⟨p, cs.Float, dx, t, _, rfl, q0c hp ht, TC.cl_Float, TC.no_Float_word, TC.no_Float_numbers, ?_⟩
  walk_at "rd"
  refine q1V qb TC.cl_Float TC.no_Float_height (by show 2 < 1000; decide) ?_
  rw [q1y]
  have hpt : p ≠ t := qk hp ht
  refine k _ (fun b o hb hbp => ?_) ⟨dx, t, qb, by rw [ql hpt.symm]; exact qb⟩
  rw [ql hbp, ql (qk hb ht)]
  exact hb
theorem qbc (T : Txt mg cs) (TC : Tcl K cs) (L : LaidI K mg "Wade" cs.Wade "Wade.__init__" q1d ["self", "height", "kind"]) (C_Gate_init : CCal P w K mg base 1 "Gate" "__init__" ["self", "word", "numbers"] (q1z K)) : Makes P w K mg base 2 "Wade" cs.Wade ["self", "height", "kind"] (spMk cs "wade") := by
 refine L.makes (k := 1) q4N (fun vs H Q E h => ?_) (fun f cdv A outer s H vs Q E hr h => ?_)
 ·obtain ⟨p, dx, g, rfl, hw, _⟩ := h
  cases g <;> first | rfl | exact absurd hw (by simp only [Gt.word]; decide +kernel)
 ·obtain ⟨p, dx, g, rfl, hw, hp, k⟩ := h
  cases g <;> first | exact absurd hw (by simp only [Gt.word]; decide +kernel) | skip
  rename_i n1 n2
  refine ⟨_, (qc (qJ (q39 C_Gate_init hr (by decide) rfl (qa (pv 0) (qa qA (qa (qM (qa (pv 1) (qa (pv 2) qd))) qd)))))
   (qc (q0V K (pv 0) (pv 1) rfl)
   (qf (q0V K (pv 0) (pv 2) rfl)))), ?_⟩
  walk_at "rd"
  intro t ht
  refine ⟨p, cs.Wade, dx, t, _, rfl, q0c hp ht, TC.cl_Wade, TC.no_Wade_word, TC.no_Wade_numbers, ?_⟩
  walk_at "rd"
  refine q1V qb TC.cl_Wade TC.no_Wade_height (by show 2 < 1000; decide) ?_
  walk_at "rd"
  refine q1V qb TC.cl_Wade TC.no_Wade_kind (by show 3 < 1000; decide) ?_
  rw [q1y, q1y]
  have hpt : p ≠ t := qk hp ht
  refine k _ (fun b o hb hbp => ?_) ⟨dx, t, qb, by rw [ql hpt.symm]; exact qb⟩
  rw [ql hbp, ql (qk hb ht)]
  exact hb
theorem q1P {H : Hp} {Q : VK} {g : Gt} {x dx : Addr} (hx : H x = none) (hdx : H dx = none) (ne : dx ≠ x) (k : ∀ (x : Addr) (H' : Hp), Same H H' -> H x = none -> GObj cs H' x g -> Q (.ref x) H') : spMk cs g.word (.ref x :: (g.ns.map V.int ++ [])) (upd (upd H dx (.own x)) x (.ins (q8K cs g) dx [])) (fun v H2 => v = .non /\ Q (.ref x) H2) E0 := by
 refine ⟨x, dx, g, by rw [List.append_nil], rfl, qb, fun H' hk ho => ⟨rfl, k x H' (fun b o hb => ?_) hx ho⟩⟩
 refine hk b o ?_ (qk hb hx)
 rw [ql (qk hb hx), ql (qk hb hdx)]
 exact hb
theorem q6X (T : Txt mg cs) (L : Laid K mg "gate_of" q2b ["gate"]) (C_Plain : Makes P w K mg base 2 "Plain" cs.Plain ["self"] (spMk cs "plain")) (C_Door : Makes P w K mg base 2 "Door" cs.Door ["self", "kind"] (spMk cs "door")) (C_Need : Makes P w K mg base 2 "Need" cs.Need ["self", "kind"] (spMk cs "need"))
  (C_Bar : Makes P w K mg base 2 "Bar" cs.Bar ["self", "bar"] (spMk cs "bar")) (C_Wade : Makes P w K mg base 2 "Wade" cs.Wade ["self", "height", "kind"] (spMk cs "wade")) (C_Float : Makes P w K mg base 2 "Float" cs.Float ["self", "height"] (spMk cs "float")) : Cal P w K mg base 4 "gate_of" ["gate"] (qaE cs) := by
 refine L.cal (k := 3) q3G (fun vs H Q E h => ?_) (fun f cdv A outer s H vs Q E hr h => ?_)
 ·obtain ⟨p, g, rfl, _⟩ := h
  rfl
 ·obtain ⟨p, g, rfl, hp, k⟩ := h
  refine ⟨_, (qc (qv (i := 1) q3G.nd rfl (Or.inl rfl) (qu (qi K) (pv 0) qg (fun _ _ => rfl)))
   (qc (qP (qr q09 (pv 1) qA (qw _)) (qf (qj (qaV C_Plain hr (by decide) rfl))) qq)
   (qc (qP (qr q09 (pv 1) qA (qw _)) (qf (qj (q0J C_Door hr (by decide) rfl (qa (qu (qi K) (pv 0) qg (fun _ _ => rfl)) qd)))) qq)
   (qc (qP (qr q09 (pv 1) qA (qw _)) (qf (qj (q0J C_Need hr (by decide) rfl (qa (qu (qi K) (pv 0) qg (fun _ _ => rfl)) qd)))) qq)
   (qc (qP (qr q09 (pv 1) qA (qw _)) (qf (qj (q0J C_Bar hr (by decide) rfl (qa (qu (qi K) (pv 0) qg (fun _ _ => rfl)) qd)))) qq)
   (qc (qP (qr q09 (pv 1) qA (qw _)) (qf (qj (q0J C_Wade hr (by decide) rfl (qa (qu (qi K) (pv 0) qg (fun _ _ => rfl)) (qa (qu (qi K) (pv 0) qg (fun _ _ => rfl)) qd))))) qq)
   (qc (qP (qr q09 (pv 1) qA (qw _)) (qf (qj (q0J C_Float hr (by decide) rfl (qa (qu (qi K) (pv 0) qg (fun _ _ => rfl)) qd)))) qq)
   (qf q0E)))))))), ?_⟩
  have hp' := hp
  rw [Gt.vs_eq] at hp'
  walk_at "rd"
  refine ifd (fun h1 => ?_) (fun h1 => ?_)
  ·cases g <;> first | exact absurd h1 (by simp only [Gt.word]; decide +kernel) | skip
   walk_at "rd"
   exact fun x dx hx hdx ne => q1P hx hdx ne k
  walk_at "rd"
  refine ifd (fun h2 => ?_) (fun h2 => ?_)
  ·cases g <;> first | exact absurd h2 (by simp only [Gt.word]; decide +kernel) | skip
   walk_at "rd"
   exact fun x dx hx hdx ne => q1P hx hdx ne k
  walk_at "rd"
  refine ifd (fun h3 => ?_) (fun h3 => ?_)
  ·cases g <;> first | exact absurd h3 (by simp only [Gt.word]; decide +kernel) | skip
   walk_at "rd"
   exact fun x dx hx hdx ne => q1P hx hdx ne k
  walk_at "rd"
  refine ifd (fun h4 => ?_) (fun h4 => ?_)
  ·cases g <;> first | exact absurd h4 (by simp only [Gt.word]; decide +kernel) | skip
   walk_at "rd"
   exact fun x dx hx hdx ne => q1P hx hdx ne k
  walk_at "rd"
  refine ifd (fun h5 => ?_) (fun h5 => ?_)
  ·cases g <;> first | exact absurd h5 (by simp only [Gt.word]; decide +kernel) | skip
   walk_at "rd"
   exact fun x dx hx hdx ne => q1P hx hdx ne k
  walk_at "rd"
  refine ifd (fun h6 => ?_) (fun h6 => ?_)
  ·cases g <;> first | exact absurd h6 (by simp only [Gt.word]; decide +kernel) | skip
   walk_at "rd"
   exact fun x dx hx hdx ne => q1P hx hdx ne k
  cases g
  ·exact absurd rfl h1
  ·exact absurd rfl h2
  ·exact absurd rfl h3
  ·exact absurd rfl h4
  ·exact absurd rfl h5
  ·exact absurd rfl h6
theorem q3O (T : Txt mg cs) (TC : Tcl K cs) (L : LaidM K cs.Plain "lets" "Plain.lets" q0Q ["self", "held", "opened", "bars", "water"]) : VMeth P w K mg base 2 cs.Plain "lets" ["self", "held", "opened", "bars", "water"] (q2G cs "plain") := by
 refine L.vm (k := 1) TC.cl_Plain q41 (fun vs H Q E h => ?_) (fun f cdv A outer s H vs Q E hr h => ?_)
 ·obtain ⟨p, hl, g, fn, op, bars, wt, rfl, _⟩ := h
  rfl
 ·obtain ⟨p, hl, g, fn, op, bars, wt, rfl, hw, ho, ok, hh, k⟩ := h
  obtain ⟨dx, q, hp, hq⟩ := ho.ex
  cases g <;> first | exact absurd hw (by simp only [Gt.word]; decide +kernel) | skip
  refine ⟨_, (qf (qj q2N)), ?_⟩
  walk_at "rd"
  exact k
theorem q4x (T : Txt mg cs) (TC : Tcl K cs) (L : LaidM K cs.Door "lets" "Door.lets" q1q ["self", "held", "opened", "bars", "water"]) : VMeth P w K mg base 2 cs.Door "lets" ["self", "held", "opened", "bars", "water"] (q2G cs "door") := by
 refine L.vm (k := 1) TC.cl_Door q4Z (fun vs H Q E h => ?_) (fun f cdv A outer s H vs Q E hr h => ?_)
 ·obtain ⟨p, hl, g, fn, op, bars, wt, rfl, _⟩ := h
  rfl
 ·obtain ⟨p, hl, g, fn, op, bars, wt, rfl, hw, ho, ok, hh, k⟩ := h
  obtain ⟨dx, q, hp, hq⟩ := ho.ex
  cases g <;> first | exact absurd hw (by simp only [Gt.word]; decide +kernel) | skip
  rename_i n
  refine ⟨_, (qf (qj (pv 2))), ?_⟩
  walk_at "rd"
  exact k
theorem q4w (T : Txt mg cs) (TC : Tcl K cs) (L : LaidM K cs.Need "lets" "Need.lets" q1n ["self", "held", "opened", "bars", "water"]) : VMeth P w K mg base 2 cs.Need "lets" ["self", "held", "opened", "bars", "water"] (q2G cs "need") := by
 refine L.vm (k := 1) TC.cl_Need q4W (fun vs H Q E h => ?_) (fun f cdv A outer s H vs Q E hr h => ?_)
 ·obtain ⟨p, hl, g, fn, op, bars, wt, rfl, _⟩ := h
  rfl
 ·obtain ⟨p, hl, g, fn, op, bars, wt, rfl, hw, ho, ok, hh, k⟩ := h
  obtain ⟨dx, q, hp, hq⟩ := ho.ex
  cases g <;> first | exact absurd hw (by simp only [Gt.word]; decide +kernel) | skip
  rename_i n
  refine ⟨_, (qf (qj (q0e q59 (qu (qS K) (pv 1) (q0a K (pv 0) rfl) (fun _ _ => rfl)) qg (qw _)))), ?_⟩
  have ok' : 0 <= n /\ n < 12 := ok
  walk_at "rd"
  refine q12 hp TC.cl_Need TC.no_Need_kind (q9V q n) ?_
  refine q47 (SqL.of hh) (q8M ok'.1 ok'.2) ?_
  walk_at "rd"
  exact k
theorem q5t (T : Txt mg cs) (TC : Tcl K cs) (L : LaidM K cs.Bar "lets" "Bar.lets" q1J ["self", "held", "opened", "bars", "water"]) (C_has_bit : Cal P w K mg base 1 "has_bit" ["bits", "place"] q5w) : VMeth P w K mg base 2 cs.Bar "lets" ["self", "held", "opened", "bars", "water"] (q2G cs "bar") := by
 refine L.vm (k := 1) TC.cl_Bar q5A (fun vs H Q E h => ?_) (fun f cdv A outer s H vs Q E hr h => ?_)
 ·obtain ⟨p, hl, g, fn, op, bars, wt, rfl, _⟩ := h
  rfl
 ·obtain ⟨p, hl, g, fn, op, bars, wt, rfl, hw, ho, ok, hh, k⟩ := h
  obtain ⟨dx, q, hp, hq⟩ := ho.ex
  cases g <;> first | exact absurd hw (by simp only [Gt.word]; decide +kernel) | skip
  rename_i n
  refine ⟨_, (qf (qj (qm C_has_bit hr (by decide) rfl (qa (pv 3) (qa (q0a K (pv 0) rfl) qd))))), ?_⟩
  have ok' : 0 <= n /\ n < 8 := ok
  walk_at "rd"
  refine q12 hp TC.cl_Bar TC.no_Bar_bar (qbv q n) ?_
  walk_at "rd"
  exact ⟨bars, n, rfl, ok'.1, k⟩
theorem q4v (T : Txt mg cs) (TC : Tcl K cs) (L : LaidM K cs.Wade "lets" "Wade.lets" q1c ["self", "held", "opened", "bars", "water"]) : VMeth P w K mg base 2 cs.Wade "lets" ["self", "held", "opened", "bars", "water"] (q2G cs "wade") := by
 refine L.vm (k := 1) TC.cl_Wade q4M (fun vs H Q E h => ?_) (fun f cdv A outer s H vs Q E hr h => ?_)
 ·obtain ⟨p, hl, g, fn, op, bars, wt, rfl, _⟩ := h
  rfl
 ·obtain ⟨p, hl, g, fn, op, bars, wt, rfl, hw, ho, ok, hh, k⟩ := h
  obtain ⟨dx, q, hp, hq⟩ := ho.ex
  cases g <;> first | exact absurd hw (by simp only [Gt.word]; decide +kernel) | skip
  rename_i n1 n2
  refine ⟨_, (qf (qj (pe_or (q0e q9o (pv 4) (q0a K (pv 0) rfl) (qw _)) (q57 (q0e q59 (qu (qS K) (pv 1) (q0a K (pv 0) rfl) (fun _ _ => rfl)) qg (qw _)))))), ?_⟩
  have ok' : (0 <= n1 /\ n1 < 10) /\ 0 <= n2 /\ n2 < 12 := ok
  walk_at "rd"
  refine q12 hp TC.cl_Wade TC.no_Wade_height (q9U q n1 n2) ?_
  walk_at "rd"
  have k' : Q (.bl (decide (wt <= n1) || decide (0 < fn n2))) H := k
  refine ifd (fun h1 => ?_) (fun h1 => ?_)
  ·rw [decide_eq_true h1, Bool.true_or] at k'
   exact k'
  ·rw [decide_eq_false h1, Bool.false_or] at k'
   walk_at "rd"
   refine q12 hp TC.cl_Wade TC.no_Wade_kind (q9T q n1 n2) ?_
   refine q47 (SqL.of hh) (q8M ok'.2.1 ok'.2.2) ?_
   walk_at "rd"
   exact k'
theorem q3P (T : Txt mg cs) (TC : Tcl K cs) (L : LaidM K cs.Float "lets" "Float.lets" q0S ["self", "held", "opened", "bars", "water"]) : VMeth P w K mg base 2 cs.Float "lets" ["self", "held", "opened", "bars", "water"] (q2G cs "float") := by
 refine L.vm (k := 1) TC.cl_Float q43 (fun vs H Q E h => ?_) (fun f cdv A outer s H vs Q E hr h => ?_)
 ·obtain ⟨p, hl, g, fn, op, bars, wt, rfl, _⟩ := h
  rfl
 ·obtain ⟨p, hl, g, fn, op, bars, wt, rfl, hw, ho, ok, hh, k⟩ := h
  obtain ⟨dx, q, hp, hq⟩ := ho.ex
  cases g <;> first | exact absurd hw (by simp only [Gt.word]; decide +kernel) | skip
  rename_i n
  refine ⟨_, (qf (qj (q0e op_ge (pv 4) (q0a K (pv 0) rfl) (qw _)))), ?_⟩
  walk_at "rd"
  refine q12 hp TC.cl_Float TC.no_Float_height (q8u q n) ?_
  walk_at "rd"
  exact k
end
def dcls (cs : Cs) : Wd -> Addr
 | .go => cs.Go
 | .pull => cs.Pull
 | .take => cs.Take
 | .turn => cs.Turn
 | .unlock => cs.Unlock
def dfl (d : Wd) (n : Int) : List (Str × V) := putF "part" (.int d.part) (putF "number" (.int n) (putF "word" (.str d.str) []))
theorem qby (d : Wd) (n : Int) : (dfl d n).lookup ("word" : Str) = some (.str d.str) := by
 unfold dfl; simp only [qF]; repeat (first | rw [if_pos rfl] | rw [if_pos trivial] | rw [if_neg (by decide +kernel)])
theorem q04 (d : Wd) (n : Int) : (dfl d n).lookup ("number" : Str) = some (.int n) := by
 unfold dfl; simp only [qF]; repeat (first | rw [if_pos rfl] | rw [if_pos trivial] | rw [if_neg (by decide +kernel)])
theorem q8A (d : Wd) (n : Int) : (dfl d n).lookup ("part" : Str) = some (.int d.part) := by
 unfold dfl; simp only [qF]; repeat (first | rw [if_pos rfl] | rw [if_pos trivial] | rw [if_neg (by decide +kernel)])
theorem q3j (d : Wd) (n : Int) {m : Str} (h1 : m ≠ "part") (h2 : m ≠ "number") (h3 : m ≠ "word") : (dfl d n).lookup m = none := by
 unfold dfl; simp only [qF]; rw [if_neg h1, if_neg h2, if_neg h3]; rfl
theorem q8B (d : Wd) (n : Int) : (dfl d n).lookup ("can" : Str) = none := q3j d n (by decide +kernel) (by decide +kernel) (by decide +kernel)
theorem qbz (d : Wd) (n : Int) : (dfl d n).lookup ("fits" : Str) = none := q3j d n (by decide +kernel) (by decide +kernel) (by decide +kernel)
theorem q5T (d : Wd) (n : Int) : (dfl d n).lookup ("done" : Str) = none := q3j d n (by decide +kernel) (by decide +kernel) (by decide +kernel)
theorem q8z (d : Wd) (n : Int) : (dfl d n).lookup ("told" : Str) = none := q3j d n (by decide +kernel) (by decide +kernel) (by decide +kernel)
theorem q2J (d : Wd) (n : Int) : (dfl d n).lookup ("own_part" : Str) = none := q3j d n (by decide +kernel) (by decide +kernel) (by decide +kernel)
structure DObj (cs : Cs) (H : Hp) (p : Addr) (d : Wd) (n : Int) : Prop where
 ex : ∃ dx, H p = some (.ins (dcls cs d) dx (dfl d n))
theorem DObj.mono {cs : Cs} {H H' : Hp} {p : Addr} {d : Wd} {n : Int} (s : Same H H') (h : DObj cs H p d n) : DObj cs H' p d n := let ⟨dx, h1⟩ := h.ex; ⟨dx, s _ _ h1⟩
structure DCl (K : W.Frag) (cs : Cs) (d : Wd) : Prop where
 cl : Cls K (dcls cs d)
 nw : qz K (dcls cs d) "word"
 nn : qz K (dcls cs d) "number"
 np : qz K (dcls cs d) "part"
theorem q1Y {K : W.Frag} {cs : Cs} (TC : Tcl K cs) (d : Wd) : DCl K cs d := by
 cases d
 ·exact ⟨TC.cl_Go, TC.no_Go_word, TC.no_Go_number, TC.no_Go_part⟩
 ·exact ⟨TC.cl_Pull, TC.no_Pull_word, TC.no_Pull_number, TC.no_Pull_part⟩
 ·exact ⟨TC.cl_Take, TC.no_Take_word, TC.no_Take_number, TC.no_Take_part⟩
 ·exact ⟨TC.cl_Turn, TC.no_Turn_word, TC.no_Turn_number, TC.no_Turn_part⟩
 ·exact ⟨TC.cl_Unlock, TC.no_Unlock_word, TC.no_Unlock_number, TC.no_Unlock_part⟩
def RowAt (H : Hp) (C : Cl) (i : Nat) (r : Addr) : Wd -> Prop
 | .go => ∃ x, C.ways[i]? = some x /\ q4r H r x
 | .pull => ∃ x, C.levers[i]? = some x /\ q15 H r x
 | .take => ∃ x, C.things[i]? = some x /\ q15 H r x
 | .turn => ∃ x, C.wheels[i]? = some x /\ q15 H r x
 | .unlock => ∃ x, C.ways[i]? = some x /\ q4r H r x
def q26 : Sp := fun vs H Q _ => ∃ n a b : Int, vs = [.int n, .int a, .int b] /\ Q (.bl (decide (a <= n) && decide (n <= b))) H
def q3V : Sp := fun vs H Q _ => ∃ (r : Addr) (x : Way) (rm : Int), vs = [.ref r, .int rm] /\ q4r H r x /\ Q (.bl (q2o x rm)) H
def q4H : Sp := fun vs H Q _ => ∃ (q : Addr) (s : Sd) (j : Nat) (n : Int), vs = [.ref q, .int j, .int n] /\ j < 5 /\ H q = some (.tup s.vs) /\ ∀ (r : Addr) (H' : Hp), Same H H' -> H' r = some (.tup (s.vs.set j (.int n))) -> Q (.ref r) H'
def q20 (K : W.Frag) : Sp := fun vs H Q _ => ∃ (p C dx : Addr) (z : Str) (n t : Int), vs = [.ref p, .str z, .int n, .int t] /\ H p = some (.ins C dx []) /\ Cls K C /\ qz K C "word" /\ qz K C "number" /\ qz K C "part" /\ Q .non (upd H p (.ins C dx (putF "part" (.int t) (putF "number" (.int n) (putF "word" (.str z) [])))))
def q0M (cs : Cs) (d : Wd) : Sp := fun vs H Q _ => ∃ (p dx : Addr) (n : Int), vs = [.ref p, .int n] /\ H p = some (.ins (dcls cs d) dx []) /\ ∀ H', (∀ b o, H b = some o -> b ≠ p -> H' b = some o) -> DObj cs H' p d n -> Q .non H'
def q3t (cs : Cs) (d : Wd) : Sp := fun vs H Q _ => ∃ (p c : Addr) (C : Cl) (i : Nat), vs = [.ref p, .ref c] /\ DObj cs H p d i /\ ClAt H c C /\ i < C.num d /\ ∀ r, RowAt H C i r d -> Q (.ref r) H
def q33 (cs : Cs) (d : Wd) : Sp := fun vs H Q _ => ∃ (p c q : Addr) (C : Cl) (s : Sd) (i : Nat), vs = [.ref p, .ref c, .ref q] /\ DObj cs H p d i /\ ClAt H c C /\ ClOk C /\ H q = some (.tup s.vs) /\ s.ok C /\ i < C.num d /\ ∀ H', Same H H' -> Q (.bl (canB C s i d)) H'
def q7t (cs : Cs) (d : Wd) : Sp := fun vs H Q _ => ∃ (p c q : Addr) (C : Cl) (s : Sd) (n : Int), vs = [.ref p, .ref c, .ref q] /\ DObj cs H p d n /\ ClAt H c C /\ ClOk C /\ H q = some (.tup s.vs) /\ s.ok C /\ ∀ H', Same H H' -> Q (.bl (canD C s d n)) H'
def q27 (cs : Cs) (d : Wd) : Sp := fun vs H Q _ => ∃ (p c q : Addr) (C : Cl) (s : Sd) (n : Int), vs = [.ref p, .ref c, .ref q] /\ DObj cs H p d n /\ ClAt H c C /\ ClOk C /\ H q = some (.tup s.vs) /\ s.ok C /\ canD C s d n = true /\ ∀ (r : Addr) (H' : Hp), Same H H' -> H' r = some (.tup (q0K C s d n).vs) -> Q (.ref r) H'
def q3W (cs : Cs) (d : Wd) : Sp := fun vs H Q _ => ∃ (p : Addr) (n : Int), vs = [.ref p] /\ DObj cs H p d n /\ ∀ (r : Addr) (H' : Hp), Same H H' -> H' r = some (.tup [.str d.str, .int n]) -> Q (.ref r) H'
def qaG (cs : Cs) : Sp := fun vs H Q _ => ∃ (t : Addr) (d : Wd) (n : Int), vs = [.ref t] /\ H t = some (.tup [.str d.str, .int n]) /\ ∀ (x : Addr) (H' : Hp), Same H H' -> H x = none -> DObj cs H' x d n -> Q (.ref x) H'
section
variable {P : Program} {w : World} {K : W.Frag} {mg : Str -> Option Value} {base : Heap} {cs : Cs}
theorem q7U (T : Txt mg cs) (L : Laid K mg "within" q2R ["number", "least", "most"]) : Cal P w K mg base 1 "within" ["number", "least", "most"] q26 := by
 refine L.cal (k := 0) q7x (fun vs H Q E h => ?_) (fun f cdv A outer s H vs Q E hr h => ?_)
 ·obtain ⟨n, a, b, rfl, _⟩ := h
  rfl
 ·obtain ⟨n, a, b, rfl, k⟩ := h
  refine ⟨_, (qc (qP (PW.pt (q38 (q0j (qB q0L rfl T.n_isinstance q02 (qa (pv 0) (qa (q23 (v := .ty "bool") rfl T.n_bool qbF rfl) qd)))) (q2i (q1w (q0j (qB q0L rfl T.n_isinstance q02 (qa (pv 0) (qa (q23 (v := .ty "int") rfl T.n_int qas rfl) qd)))))))) (qf (qj q2N)) qq)
   (qf (qj (q9n q9o q9o (pv 1) (pv 0) (pv 2))))), ?_⟩
  walk_at "rd"
  refine ifd (fun h => ?_) (fun h => ?_)
  ·walk_at "rd"
   rw [decide_eq_true h, Bool.true_and] at k
   exact k
  ·rw [decide_eq_false h, Bool.false_and] at k
   exact k
theorem q9v (T : Txt mg cs) (L : Laid K mg "can_enter" q19 ["way", "room"]) : Cal P w K mg base 1 "can_enter" ["way", "room"] q3V := by
 obtain ⟨t1, e_WAY_A⟩ := T.e_WAY_A
 obtain ⟨t2, e_WAY_B⟩ := T.e_WAY_B
 obtain ⟨t3, e_WAY_BACK⟩ := T.e_WAY_BACK
 refine L.cal (k := 0) q4K (fun vs H Q E h => ?_) (fun f cdv A outer s H vs Q E hr h => ?_)
 ·obtain ⟨r, x, rm, rfl, _⟩ := h
  rfl
 ·obtain ⟨r, x, rm, rfl, hW, k⟩ := h
  obtain ⟨g, hr1, hg⟩ := hW
  unfold q2o at k
  refine ⟨_, (qf (qj (pe_or (q0e q09 (pv 1) (qu (qi K) (pv 0) (qh (v := .int 0) rfl e_WAY_A ⟨_, rfl⟩) (fun _ _ => rfl)) (qw _)) (q57 (q7Q (q0e q09 (pv 1) (qu (qi K) (pv 0) (qh (v := .int 1) rfl e_WAY_B ⟨_, rfl⟩) (fun _ _ => rfl)) (qw _)) (q57 (qu (qi K) (pv 0) (qh (v := .int 3) rfl e_WAY_BACK ⟨_, rfl⟩) (fun _ _ => rfl)))))))), ?_⟩
  walk_at "rd"
  refine ifd (fun h => ?_) (fun h => ?_)
  ·rw [decide_eq_true h, Bool.true_or] at k
   exact k
  ·rw [decide_eq_false h, Bool.false_or] at k
   walk_at "rd"
   refine ifd (fun h => ?_) (fun h => ?_)
   ·rw [decide_eq_true h, Bool.true_and] at k
    walk_at "rd"
    exact k
   ·rw [decide_eq_false h, Bool.false_and] at k
    exact k
theorem q70 (T : Txt mg cs) (L : Laid K mg "changed" q2d ["parts", "place", "part"]) : Cal P w K mg base 1 "changed" ["parts", "place", "part"] q4H := by
 refine L.cal (k := 0) q6P (fun vs H Q E h => ?_) (fun f cdv A outer s H vs Q E hr h => ?_)
 ·obtain ⟨q, s, j, n, rfl, _⟩ := h
  rfl
 ·obtain ⟨q, st, j, n, rfl, hj, hq, k⟩ := h
  have big := qD
  refine ⟨_, (qf (qj (qt (q6j K) (qt (q6j K) (q4a (q3Z K) (pv 0) q5E (q5D (pv 1))) (qM (qa (pv 2) qd))) (q4a (q3Z K) (pv 0) (q5D (qt q1x (pv 1) qg)) q5E)))), ?_⟩
  obtain rfl | rfl | rfl | rfl | rfl : j = 0 \/ j = 1 \/ j = 2 \/ j = 3 \/ j = 4 := by omega
  ·walk_at "rd"
   refine ⟨q, _, rfl, SqT.of hq, fun e => absurd (show (0 : Nat) = 5 from congrArg List.length e) (by decide), fun t1 ht1 => ?_⟩
   have s1 := Same.upd (o := .tup (cutV st.vs none (some ((0 : Nat) : Int)))) ht1
   have h1 : (upd H t1 (.tup (cutV st.vs none (some ((0 : Nat) : Int))))) t1 = some (.tup []) := qb
   generalize upd H t1 (.tup (cutV st.vs none (some ((0 : Nat) : Int)))) = H1 at s1 h1 ⊢
   walk_at "rd"
   intro t2 ht2
   have s2 := Same.upd (o := .tup [.int n]) ht2
   have h2 := qb (H := H1) (a := t2) (o := .tup [.int n])
   have h12 := s2 _ _ h1
   generalize upd H1 t2 (.tup [.int n]) = H2 at s2 h2 h12 ⊢
   refine qaP (SqT.of h12) (SqT.of h2) (by show 1 <= sizeLine; omega) ?_
   have hq2 := s2 _ _ (s1 _ _ hq)
   walk_at "rd"
   refine ⟨q, _, rfl, SqT.of hq2, fun e => absurd (show (4 : Nat) = 5 from congrArg List.length e) (by decide), fun t3 ht3 => ?_⟩
   have s3 := Same.upd (o := .tup (cutV st.vs (some (((0 : Nat) : Int) + 1)) none)) ht3
   have h3 : (upd H2 t3 (.tup (cutV st.vs (some (((0 : Nat) : Int) + 1)) none))) t3 = some (.tup [.int st.tk, .int st.op, .int st.b, .int st.wt]) := qb
   generalize upd H2 t3 (.tup (cutV st.vs (some (((0 : Nat) : Int) + 1)) none)) = H3 at s3 h3 ⊢
   refine q1C (SqT.of (s3 _ _ h2)) (SqT.of h3) rfl fun t4 ht4 => ?_
   exact k t4 _ (((s1.trans s2).trans s3).trans (Same.upd ht4)) qb
  ·walk_at "rd"
   refine ⟨q, _, rfl, SqT.of hq, fun e => absurd (show (1 : Nat) = 5 from congrArg List.length e) (by decide), fun t1 ht1 => ?_⟩
   have s1 := Same.upd (o := .tup (cutV st.vs none (some ((1 : Nat) : Int)))) ht1
   have h1 : (upd H t1 (.tup (cutV st.vs none (some ((1 : Nat) : Int))))) t1 = some (.tup [.int st.rm]) := qb
   generalize upd H t1 (.tup (cutV st.vs none (some ((1 : Nat) : Int)))) = H1 at s1 h1 ⊢
   walk_at "rd"
   intro t2 ht2
   have s2 := Same.upd (o := .tup [.int n]) ht2
   have h2 := qb (H := H1) (a := t2) (o := .tup [.int n])
   have h12 := s2 _ _ h1
   generalize upd H1 t2 (.tup [.int n]) = H2 at s2 h2 h12 ⊢
   refine q1C (SqT.of h12) (SqT.of h2) rfl fun t5 ht5 => ?_
   have s5 := Same.upd (o := .tup [.int st.rm, .int n]) ht5
   have h5 := qb (H := H2) (a := t5) (o := .tup [.int st.rm, .int n])
   have hq2 := s5 _ _ (s2 _ _ (s1 _ _ hq))
   show (tSl _ _ _ _) _ (upd H2 t5 (.tup [.int st.rm, .int n])) _
   generalize upd H2 t5 (.tup [.int st.rm, .int n]) = H5 at s5 h5 hq2 ⊢
   walk_at "rd"
   refine ⟨q, _, rfl, SqT.of hq2, fun e => absurd (show (3 : Nat) = 5 from congrArg List.length e) (by decide), fun t3 ht3 => ?_⟩
   have s3 := Same.upd (o := .tup (cutV st.vs (some (((1 : Nat) : Int) + 1)) none)) ht3
   have h3 : (upd H5 t3 (.tup (cutV st.vs (some (((1 : Nat) : Int) + 1)) none))) t3 = some (.tup [.int st.op, .int st.b, .int st.wt]) := qb
   generalize upd H5 t3 (.tup (cutV st.vs (some (((1 : Nat) : Int) + 1)) none)) = H3 at s3 h3 ⊢
   refine q1C (SqT.of (s3 _ _ h5)) (SqT.of h3) rfl fun t4 ht4 => ?_
   exact k t4 _ ((((s1.trans s2).trans s5).trans s3).trans (Same.upd ht4)) qb
  ·walk_at "rd"
   refine ⟨q, _, rfl, SqT.of hq, fun e => absurd (show (2 : Nat) = 5 from congrArg List.length e) (by decide), fun t1 ht1 => ?_⟩
   have s1 := Same.upd (o := .tup (cutV st.vs none (some ((2 : Nat) : Int)))) ht1
   have h1 : (upd H t1 (.tup (cutV st.vs none (some ((2 : Nat) : Int))))) t1 = some (.tup [.int st.rm, .int st.tk]) := qb
   generalize upd H t1 (.tup (cutV st.vs none (some ((2 : Nat) : Int)))) = H1 at s1 h1 ⊢
   walk_at "rd"
   intro t2 ht2
   have s2 := Same.upd (o := .tup [.int n]) ht2
   have h2 := qb (H := H1) (a := t2) (o := .tup [.int n])
   have h12 := s2 _ _ h1
   generalize upd H1 t2 (.tup [.int n]) = H2 at s2 h2 h12 ⊢
   refine q1C (SqT.of h12) (SqT.of h2) rfl fun t5 ht5 => ?_
   have s5 := Same.upd (o := .tup [.int st.rm, .int st.tk, .int n]) ht5
   have h5 := qb (H := H2) (a := t5) (o := .tup [.int st.rm, .int st.tk, .int n])
   have hq2 := s5 _ _ (s2 _ _ (s1 _ _ hq))
   show (tSl _ _ _ _) _ (upd H2 t5 (.tup [.int st.rm, .int st.tk, .int n])) _
   generalize upd H2 t5 (.tup [.int st.rm, .int st.tk, .int n]) = H5 at s5 h5 hq2 ⊢
   walk_at "rd"
   refine ⟨q, _, rfl, SqT.of hq2, fun e => absurd (show (2 : Nat) = 5 from congrArg List.length e) (by decide), fun t3 ht3 => ?_⟩
   have s3 := Same.upd (o := .tup (cutV st.vs (some (((2 : Nat) : Int) + 1)) none)) ht3
   have h3 : (upd H5 t3 (.tup (cutV st.vs (some (((2 : Nat) : Int) + 1)) none))) t3 = some (.tup [.int st.b, .int st.wt]) := qb
   generalize upd H5 t3 (.tup (cutV st.vs (some (((2 : Nat) : Int) + 1)) none)) = H3 at s3 h3 ⊢
   refine q1C (SqT.of (s3 _ _ h5)) (SqT.of h3) rfl fun t4 ht4 => ?_
   exact k t4 _ ((((s1.trans s2).trans s5).trans s3).trans (Same.upd ht4)) qb
  ·walk_at "rd"
   refine ⟨q, _, rfl, SqT.of hq, fun e => absurd (show (3 : Nat) = 5 from congrArg List.length e) (by decide), fun t1 ht1 => ?_⟩
   have s1 := Same.upd (o := .tup (cutV st.vs none (some ((3 : Nat) : Int)))) ht1
   have h1 : (upd H t1 (.tup (cutV st.vs none (some ((3 : Nat) : Int))))) t1 = some (.tup [.int st.rm, .int st.tk, .int st.op]) := qb
   generalize upd H t1 (.tup (cutV st.vs none (some ((3 : Nat) : Int)))) = H1 at s1 h1 ⊢
   walk_at "rd"
   intro t2 ht2
   have s2 := Same.upd (o := .tup [.int n]) ht2
   have h2 := qb (H := H1) (a := t2) (o := .tup [.int n])
   have h12 := s2 _ _ h1
   generalize upd H1 t2 (.tup [.int n]) = H2 at s2 h2 h12 ⊢
   refine q1C (SqT.of h12) (SqT.of h2) rfl fun t5 ht5 => ?_
   have s5 := Same.upd (o := .tup [.int st.rm, .int st.tk, .int st.op, .int n]) ht5
   have h5 := qb (H := H2) (a := t5) (o := .tup [.int st.rm, .int st.tk, .int st.op, .int n])
   have hq2 := s5 _ _ (s2 _ _ (s1 _ _ hq))
   show (tSl _ _ _ _) _ (upd H2 t5 (.tup [.int st.rm, .int st.tk, .int st.op, .int n])) _
   generalize upd H2 t5 (.tup [.int st.rm, .int st.tk, .int st.op, .int n]) = H5 at s5 h5 hq2 ⊢
   walk_at "rd"
   refine ⟨q, _, rfl, SqT.of hq2, fun e => absurd (show (1 : Nat) = 5 from congrArg List.length e) (by decide), fun t3 ht3 => ?_⟩
   have s3 := Same.upd (o := .tup (cutV st.vs (some (((3 : Nat) : Int) + 1)) none)) ht3
   have h3 : (upd H5 t3 (.tup (cutV st.vs (some (((3 : Nat) : Int) + 1)) none))) t3 = some (.tup [.int st.wt]) := qb
   generalize upd H5 t3 (.tup (cutV st.vs (some (((3 : Nat) : Int) + 1)) none)) = H3 at s3 h3 ⊢
   refine q1C (SqT.of (s3 _ _ h5)) (SqT.of h3) rfl fun t4 ht4 => ?_
   exact k t4 _ ((((s1.trans s2).trans s5).trans s3).trans (Same.upd ht4)) qb
  ·walk_at "rd"
   refine ⟨q, _, rfl, SqT.of hq, fun e => absurd (show (4 : Nat) = 5 from congrArg List.length e) (by decide), fun t1 ht1 => ?_⟩
   have s1 := Same.upd (o := .tup (cutV st.vs none (some ((4 : Nat) : Int)))) ht1
   have h1 : (upd H t1 (.tup (cutV st.vs none (some ((4 : Nat) : Int))))) t1 = some (.tup [.int st.rm, .int st.tk, .int st.op, .int st.b]) := qb
   generalize upd H t1 (.tup (cutV st.vs none (some ((4 : Nat) : Int)))) = H1 at s1 h1 ⊢
   walk_at "rd"
   intro t2 ht2
   have s2 := Same.upd (o := .tup [.int n]) ht2
   have h2 := qb (H := H1) (a := t2) (o := .tup [.int n])
   have h12 := s2 _ _ h1
   generalize upd H1 t2 (.tup [.int n]) = H2 at s2 h2 h12 ⊢
   refine q1C (SqT.of h12) (SqT.of h2) rfl fun t5 ht5 => ?_
   have s5 := Same.upd (o := .tup [.int st.rm, .int st.tk, .int st.op, .int st.b, .int n]) ht5
   have h5 := qb (H := H2) (a := t5) (o := .tup [.int st.rm, .int st.tk, .int st.op, .int st.b, .int n])
   have hq2 := s5 _ _ (s2 _ _ (s1 _ _ hq))
   show (tSl _ _ _ _) _ (upd H2 t5 (.tup [.int st.rm, .int st.tk, .int st.op, .int st.b, .int n])) _
   generalize upd H2 t5 (.tup [.int st.rm, .int st.tk, .int st.op, .int st.b, .int n]) = H5 at s5 h5 hq2 ⊢
   walk_at "rd"
   refine ⟨q, _, rfl, SqT.of hq2, fun e => absurd (show (0 : Nat) = 5 from congrArg List.length e) (by decide), fun t3 ht3 => ?_⟩
   have s3 := Same.upd (o := .tup (cutV st.vs (some (((4 : Nat) : Int) + 1)) none)) ht3
   have h3 : (upd H5 t3 (.tup (cutV st.vs (some (((4 : Nat) : Int) + 1)) none))) t3 = some (.tup []) := qb
   generalize upd H5 t3 (.tup (cutV st.vs (some (((4 : Nat) : Int) + 1)) none)) = H3 at s3 h3 ⊢
   refine qaO (SqT.of (s3 _ _ h5)) (SqT.of h3) (by show 5 <= sizeLine; omega) ?_
   exact k t5 _ (((s1.trans s2).trans s5).trans s3) (s3 _ _ h5)
theorem q9w (T : Txt mg cs) (L : LaidC K mg "Deed" "__init__" "Deed.__init__" q1s ["self", "word", "number", "part"]) : CCal P w K mg base 1 "Deed" "__init__" ["self", "word", "number", "part"] (q20 K) := by
 refine L.cc (k := 0) q52 (fun vs H Q E h => ?_) (fun f cdv A outer s H vs Q E hr h => ?_)
 ·obtain ⟨p, C, dx, z, n, t, rfl, _⟩ := h
  rfl
 ·obtain ⟨p, C, dx, z, n, t, rfl, hp, cl, nw, nn, np, k⟩ := h
  refine ⟨_, (qc (q0V K (pv 0) (pv 1) rfl)
   (qc (q0V K (pv 0) (pv 2) rfl)
   (qf (q0V K (pv 0) (pv 3) rfl)))), ?_⟩
  walk_at "rd"
  refine q1V hp cl nw (by decide) ?_
  walk_at "rd"
  refine q1V qb cl nn (by show 1 < 1000; decide) ?_
  walk_at "rd"
  refine q1V qb cl np (by show 2 < 1000; decide) ?_
  rw [q1y, q1y]
  exact k
theorem q5a {H : Hp} {Q : VK} {p dx : Addr} {d : Wd} {n : Int} (k : ∀ H', (∀ b o, H b = some o -> b ≠ p -> H' b = some o) -> DObj cs H' p d n -> Q .non H') : Q .non (upd H p (.ins (dcls cs d) dx (putF "part" (.int d.part) (putF "number" (.int n) (putF "word" (.str d.str) []))))) :=
 k _ (fun b o hb hbp => by rw [ql hbp]; exact hb) ⟨dx, qb⟩
theorem mk_go (T : Txt mg cs) (TC : Tcl K cs) (L : LaidI K mg "Go" cs.Go "Go.__init__" q2e ["self", "number"]) (C_Deed_init : CCal P w K mg base 1 "Deed" "__init__" ["self", "word", "number", "part"] (q20 K)) : Makes P w K mg base 2 "Go" cs.Go ["self", "number"] (q0M cs .go) := by
 obtain ⟨t1, e_WAYS⟩ := T.e_WAYS
 have D := q1Y TC .go
 refine L.makes (k := 1) q6Q (fun vs H Q E h => ?_) (fun f cdv A outer s H vs Q E hr h => ?_)
 ·obtain ⟨p, dx, n, rfl, _⟩ := h
  rfl
 ·obtain ⟨p, dx, n, rfl, hp, k⟩ := h
  refine ⟨_, (qf (qJ (q39 C_Deed_init hr (by decide) rfl (qa (pv 0) (qa qA (qa (pv 1) (qa (qh (v := .int 3) rfl e_WAYS ⟨_, rfl⟩) qd))))))), ?_⟩
  walk_at "rd"
  refine ⟨p, _, dx, _, n, _, rfl, hp, D.cl, D.nw, D.nn, D.np, ?_⟩
  walk_at "rd"
  exact q5a k
theorem qbf (T : Txt mg cs) (TC : Tcl K cs) (L : LaidI K mg "Pull" cs.Pull "Pull.__init__" q1k ["self", "number"]) (C_Deed_init : CCal P w K mg base 1 "Deed" "__init__" ["self", "word", "number", "part"] (q20 K)) : Makes P w K mg base 2 "Pull" cs.Pull ["self", "number"] (q0M cs .pull) := by
 obtain ⟨t1, e_LEVERS⟩ := T.e_LEVERS
 have D := q1Y TC .pull
 refine L.makes (k := 1) q4T (fun vs H Q E h => ?_) (fun f cdv A outer s H vs Q E hr h => ?_)
 ·obtain ⟨p, dx, n, rfl, _⟩ := h
  rfl
 ·obtain ⟨p, dx, n, rfl, hp, k⟩ := h
  refine ⟨_, (qf (qJ (q39 C_Deed_init hr (by decide) rfl (qa (pv 0) (qa qA (qa (pv 1) (qa (qh (v := .int 5) rfl e_LEVERS ⟨_, rfl⟩) qd))))))), ?_⟩
  walk_at "rd"
  refine ⟨p, _, dx, _, n, _, rfl, hp, D.cl, D.nw, D.nn, D.np, ?_⟩
  walk_at "rd"
  exact q5a k
theorem qbe (T : Txt mg cs) (TC : Tcl K cs) (L : LaidI K mg "Take" cs.Take "Take.__init__" q1h ["self", "number"]) (C_Deed_init : CCal P w K mg base 1 "Deed" "__init__" ["self", "word", "number", "part"] (q20 K)) : Makes P w K mg base 2 "Take" cs.Take ["self", "number"] (q0M cs .take) := by
 obtain ⟨t1, e_THINGS⟩ := T.e_THINGS
 have D := q1Y TC .take
 refine L.makes (k := 1) q4Q (fun vs H Q E h => ?_) (fun f cdv A outer s H vs Q E hr h => ?_)
 ·obtain ⟨p, dx, n, rfl, _⟩ := h
  rfl
 ·obtain ⟨p, dx, n, rfl, hp, k⟩ := h
  refine ⟨_, (qf (qJ (q39 C_Deed_init hr (by decide) rfl (qa (pv 0) (qa qA (qa (pv 1) (qa (qh (v := .int 4) rfl e_THINGS ⟨_, rfl⟩) qd))))))), ?_⟩
  walk_at "rd"
  refine ⟨p, _, dx, _, n, _, rfl, hp, D.cl, D.nw, D.nn, D.np, ?_⟩
  walk_at "rd"
  exact q5a k
theorem qbd (T : Txt mg cs) (TC : Tcl K cs) (L : LaidI K mg "Turn" cs.Turn "Turn.__init__" q1e ["self", "number"]) (C_Deed_init : CCal P w K mg base 1 "Deed" "__init__" ["self", "word", "number", "part"] (q20 K)) : Makes P w K mg base 2 "Turn" cs.Turn ["self", "number"] (q0M cs .turn) := by
 obtain ⟨t1, e_WHEELS⟩ := T.e_WHEELS
 have D := q1Y TC .turn
 refine L.makes (k := 1) q4O (fun vs H Q E h => ?_) (fun f cdv A outer s H vs Q E hr h => ?_)
 ·obtain ⟨p, dx, n, rfl, _⟩ := h
  rfl
 ·obtain ⟨p, dx, n, rfl, hp, k⟩ := h
  refine ⟨_, (qf (qJ (q39 C_Deed_init hr (by decide) rfl (qa (pv 0) (qa qA (qa (pv 1) (qa (qh (v := .int 6) rfl e_WHEELS ⟨_, rfl⟩) qd))))))), ?_⟩
  walk_at "rd"
  refine ⟨p, _, dx, _, n, _, rfl, hp, D.cl, D.nw, D.nn, D.np, ?_⟩
  walk_at "rd"
  exact q5a k
theorem q81 (T : Txt mg cs) (TC : Tcl K cs) (L : LaidI K mg "Unlock" cs.Unlock "Unlock.__init__" q0B ["self", "number"]) (C_Deed_init : CCal P w K mg base 1 "Deed" "__init__" ["self", "word", "number", "part"] (q20 K)) : Makes P w K mg base 2 "Unlock" cs.Unlock ["self", "number"] (q0M cs .unlock) := by
 obtain ⟨t1, e_WAYS⟩ := T.e_WAYS
 have D := q1Y TC .unlock
 refine L.makes (k := 1) q3w (fun vs H Q E h => ?_) (fun f cdv A outer s H vs Q E hr h => ?_)
 ·obtain ⟨p, dx, n, rfl, _⟩ := h
  rfl
 ·obtain ⟨p, dx, n, rfl, hp, k⟩ := h
  refine ⟨_, (qf (qJ (q39 C_Deed_init hr (by decide) rfl (qa (pv 0) (qa qA (qa (pv 1) (qa (qh (v := .int 3) rfl e_WAYS ⟨_, rfl⟩) qd))))))), ?_⟩
  walk_at "rd"
  refine ⟨p, _, dx, _, n, _, rfl, hp, D.cl, D.nw, D.nn, D.np, ?_⟩
  walk_at "rd"
  exact q5a k
theorem q14 {H : Hp} {Q : VK} {d : Wd} {n : Int} {x dx : Addr} (hx : H x = none) (hdx : H dx = none) (ne : dx ≠ x) (k : ∀ (x : Addr) (H' : Hp), Same H H' -> H x = none -> DObj cs H' x d n -> Q (.ref x) H') : q0M cs d (.ref x :: ([.int n] ++ [])) (upd (upd H dx (.own x)) x (.ins (dcls cs d) dx [])) (fun v H2 => v = .non /\ Q (.ref x) H2) E0 := by
 refine ⟨x, dx, n, rfl, qb, fun H' hk ho => ⟨rfl, k x H' (fun b o hb => ?_) hx ho⟩⟩
 refine hk b o ?_ (qk hb hx)
 rw [ql (qk hb hx), ql (qk hb hdx)]
 exact hb
theorem q6Z (T : Txt mg cs) (L : Laid K mg "deed_of" q2c ["deed"]) (C_Go : Makes P w K mg base 2 "Go" cs.Go ["self", "number"] (q0M cs .go)) (C_Pull : Makes P w K mg base 2 "Pull" cs.Pull ["self", "number"] (q0M cs .pull)) (C_Take : Makes P w K mg base 2 "Take" cs.Take ["self", "number"] (q0M cs .take))
  (C_Turn : Makes P w K mg base 2 "Turn" cs.Turn ["self", "number"] (q0M cs .turn)) (C_Unlock : Makes P w K mg base 2 "Unlock" cs.Unlock ["self", "number"] (q0M cs .unlock)) : Cal P w K mg base 4 "deed_of" ["deed"] (qaG cs) := by
 refine L.cal (k := 3) q3H (fun vs H Q E h => ?_) (fun f cdv A outer s H vs Q E hr h => ?_)
 ·obtain ⟨t, d, n, rfl, _⟩ := h
  rfl
 ·obtain ⟨t, d, n, rfl, ht, k⟩ := h
  refine ⟨_, (qc (qv (i := 1) q3H.nd rfl (Or.inl rfl) (qu (qi K) (pv 0) qg (fun _ _ => rfl)))
   (qc (qP (qr q09 (pv 1) qA (qw _)) (qf (qj (q0J C_Go hr (by decide) rfl (qa (qu (qi K) (pv 0) qg (fun _ _ => rfl)) qd)))) qq)
   (qc (qP (qr q09 (pv 1) qA (qw _)) (qf (qj (q0J C_Pull hr (by decide) rfl (qa (qu (qi K) (pv 0) qg (fun _ _ => rfl)) qd)))) qq)
   (qc (qP (qr q09 (pv 1) qA (qw _)) (qf (qj (q0J C_Take hr (by decide) rfl (qa (qu (qi K) (pv 0) qg (fun _ _ => rfl)) qd)))) qq)
   (qc (qP (qr q09 (pv 1) qA (qw _)) (qf (qj (q0J C_Turn hr (by decide) rfl (qa (qu (qi K) (pv 0) qg (fun _ _ => rfl)) qd)))) qq)
   (qc (qP (qr q09 (pv 1) qA (qw _)) (qf (qj (q0J C_Unlock hr (by decide) rfl (qa (qu (qi K) (pv 0) qg (fun _ _ => rfl)) qd)))) qq)
   (qf q0E))))))), ?_⟩
  walk_at "rd"
  refine ifd (fun h1 => ?_) (fun h1 => ?_)
  ·cases d <;> first | exact absurd h1 (by decide +kernel) | skip
   walk_at "rd"
   exact fun x dx hx hdx ne => q14 hx hdx ne k
  walk_at "rd"
  refine ifd (fun h2 => ?_) (fun h2 => ?_)
  ·cases d <;> first | exact absurd h2 (by decide +kernel) | skip
   walk_at "rd"
   exact fun x dx hx hdx ne => q14 hx hdx ne k
  walk_at "rd"
  refine ifd (fun h3 => ?_) (fun h3 => ?_)
  ·cases d <;> first | exact absurd h3 (by decide +kernel) | skip
   walk_at "rd"
   exact fun x dx hx hdx ne => q14 hx hdx ne k
  walk_at "rd"
  refine ifd (fun h4 => ?_) (fun h4 => ?_)
  ·cases d <;> first | exact absurd h4 (by decide +kernel) | skip
   walk_at "rd"
   exact fun x dx hx hdx ne => q14 hx hdx ne k
  walk_at "rd"
  refine ifd (fun h5 => ?_) (fun h5 => ?_)
  ·cases d <;> first | exact absurd h5 (by decide +kernel) | skip
   walk_at "rd"
   exact fun x dx hx hdx ne => q14 hx hdx ne k
  cases d
  ·exact absurd rfl h1
  ·exact absurd rfl h2
  ·exact absurd rfl h3
  ·exact absurd rfl h4
  ·exact absurd rfl h5
theorem q4u {d : Wd} (L : LaidM K (dcls cs d) "own_part" "Deed.own_part" qy ["self", "cellar"]) (D : DCl K cs d) : VMeth P w K mg base 1 (dcls cs d) "own_part" ["self", "cellar"] (q3t cs d) := by
 refine L.vm (k := 0) D.cl q2L (fun vs H Q E h => ?_) (fun f cdv A outer s H vs Q E hr h => ?_)
 ·obtain ⟨p, c, C, i, rfl, _⟩ := h
  rfl
 ·obtain ⟨p, c, C, i, rfl, ho, hC, hi, k⟩ := h
  obtain ⟨dx, hp⟩ := ho.ex
  obtain ⟨pw, pt, pl, pv', h0, hw, ht, hl, hv⟩ := hC.ex
  refine ⟨_, (qf (qj (qu (qi K) (qu (qi K) (pv 1) (q0a K (pv 0) rfl) (fun _ _ => rfl)) (q0a K (pv 0) rfl) (fun _ _ => rfl)))), ?_⟩
  walk_at "rd"
  refine q12 hp D.cl D.np (q8A d i) ?_
  cases d
  ·obtain ⟨xs, hx, hxl, hxg⟩ := hw.get
   obtain ⟨r, e, hr1⟩ := hxg i hi
   refine q2M (SqT.of h0) (v := .ref pw) rfl ?_
   walk_at "rd"
   refine q12 hp D.cl D.nn (q04 _ i) ?_
   refine q2M (SqT.of hx) (q0x e) ?_
   exact k r ⟨_, List.getElem?_eq_getElem hi, hr1⟩
  ·obtain ⟨xs, hx, hxl, hxg⟩ := hl.get
   obtain ⟨r, e, hr1⟩ := hxg i hi
   refine q2M (SqT.of h0) (v := .ref pl) rfl ?_
   walk_at "rd"
   refine q12 hp D.cl D.nn (q04 _ i) ?_
   refine q2M (SqT.of hx) (q0x e) ?_
   exact k r ⟨_, List.getElem?_eq_getElem hi, hr1⟩
  ·obtain ⟨xs, hx, hxl, hxg⟩ := ht.get
   obtain ⟨r, e, hr1⟩ := hxg i hi
   refine q2M (SqT.of h0) (v := .ref pt) rfl ?_
   walk_at "rd"
   refine q12 hp D.cl D.nn (q04 _ i) ?_
   refine q2M (SqT.of hx) (q0x e) ?_
   exact k r ⟨_, List.getElem?_eq_getElem hi, hr1⟩
  ·obtain ⟨xs, hx, hxl, hxg⟩ := hv.get
   obtain ⟨r, e, hr1⟩ := hxg i hi
   refine q2M (SqT.of h0) (v := .ref pv') rfl ?_
   walk_at "rd"
   refine q12 hp D.cl D.nn (q04 _ i) ?_
   refine q2M (SqT.of hx) (q0x e) ?_
   exact k r ⟨_, List.getElem?_eq_getElem hi, hr1⟩
  ·obtain ⟨xs, hx, hxl, hxg⟩ := hw.get
   obtain ⟨r, e, hr1⟩ := hxg i hi
   refine q2M (SqT.of h0) (v := .ref pw) rfl ?_
   walk_at "rd"
   refine q12 hp D.cl D.nn (q04 _ i) ?_
   refine q2M (SqT.of hx) (q0x e) ?_
   exact k r ⟨_, List.getElem?_eq_getElem hi, hr1⟩
theorem num_at {H : Hp} {c : Addr} {C : Cl} (hC : ClAt H c C) (d : Wd) : ∃ (vs : List V) (p : Addr) (xs : List V), H c = some (.tup vs) /\ atI vs d.part = some (.ref p) /\ H p = some (.tup xs) /\ xs.length = C.num d /\ atI vs 2 = some (.int C.lst) := by
 obtain ⟨pw, pt, pl, pv', h0, hw, ht, hl, hv⟩ := hC.ex
 cases d
 ·obtain ⟨xs, hx, hxl, _⟩ := hw.get
  exact ⟨_, pw, xs, h0, rfl, hx, hxl, rfl⟩
 ·obtain ⟨xs, hx, hxl, _⟩ := hl.get
  exact ⟨_, pl, xs, h0, rfl, hx, hxl, rfl⟩
 ·obtain ⟨xs, hx, hxl, _⟩ := ht.get
  exact ⟨_, pt, xs, h0, rfl, hx, hxl, rfl⟩
 ·obtain ⟨xs, hx, hxl, _⟩ := hv.get
  exact ⟨_, pv', xs, h0, rfl, hx, hxl, rfl⟩
 ·obtain ⟨xs, hx, hxl, _⟩ := hw.get
  exact ⟨_, pw, xs, h0, rfl, hx, hxl, rfl⟩
theorem q4E {d : Wd} (T : Txt mg cs) (L : LaidM K (dcls cs d) "can" "Deed.can" qQ ["self", "cellar", "stand"]) (D : DCl K cs d) (C_within : Cal P w K mg base 1 "within" ["number", "least", "most"] q26) (vf : VMeth P w K mg base 5 (dcls cs d) "fits" ["self", "cellar", "stand"] (q33 cs d)) : VMeth P w K mg base 6 (dcls cs d) "can" ["self", "cellar", "stand"] (q7t cs d) := by
 obtain ⟨t1, e_ROOM⟩ := T.e_ROOM
 obtain ⟨t2, e_LAST⟩ := T.e_LAST
 refine L.vm (k := 5) D.cl q5z (fun vs H Q E h => ?_) (fun f cdv A outer s H vs Q E hr h => ?_)
 ·obtain ⟨p, c, q, C, st, n, rfl, _⟩ := h
  rfl
 ·obtain ⟨p, c, q, C, st, n, rfl, ho, hC, ok, hq, sok, k⟩ := h
  obtain ⟨dx, hp⟩ := ho.ex
  obtain ⟨vs, pp, xs, h0, hpp, hx, hxl, hlast⟩ := num_at hC d
  have hq' : H q = some (.tup [.int st.rm, .int st.tk, .int st.op, .int st.b, .int st.wt]) := hq
  refine ⟨_, (qc (qP (PW.pt (q38 (qr q09 (qu (qi K) (pv 2) (qh (v := .int 0) rfl e_ROOM ⟨_, rfl⟩) (fun _ _ => rfl)) (qu (qi K) (pv 1) (qh (v := .int 2) rfl e_LAST ⟨_, rfl⟩) (fun _ _ => rfl)) (qw _)) (q2i (q1w (q0j (qm C_within hr (by decide) rfl (qa (q0a K (pv 0) rfl) (qa qg (qa (qt q3a (qB (lenK K) rfl T.n_len q0k (qa (qu (qi K) (pv 1) (q0a K (pv 0) rfl) (fun _ _ => rfl)) qd)) qg) qd))))))))) (qf (qj q2N)) qq)
   (qf (qj (q2x (k := 5) (hr.mono (by decide)) (pv 0) (qa (pv 1) (qa (pv 2) qd)))))), ?_⟩
  walk_at "rd"
  refine ifd (fun h1 => ?_) (fun h1 => ?_)
  ·walk_at "rd"
   have := k H (Same.refl _)
   rw [q8N h1] at this
   exact this
  walk_at "rd"
  refine q12 hp D.cl D.nn (q04 d n) ?_
  walk_at "rd"
  refine q12 hp D.cl D.np (q8A d n) ?_
  refine q2M (SqT.of h0) hpp ?_
  walk_at "rd"
  refine ⟨n, 0, _, rfl, ?_⟩
  walk_at "rd"
  by_cases hin : 0 <= n /\ n < (C.num d : Int)
  ·have e : (decide (0 <= n) && decide (n <= (xs.length : Int) - 1)) = true := by
    rw [decide_eq_true (p := 0 <= n) hin.1, decide_eq_true (p := n <= (xs.length : Int) - 1) (by rw [hxl]; omega)]
    rfl
   rw [e]
   walk_at "rd"
   obtain ⟨i, rfl⟩ : ∃ i : Nat, n = (i : Int) := ⟨n.toNat, by omega⟩
   refine r_vm hp vf (qbz d _) ?_
   walk_at "rd"
   refine ⟨p, c, q, C, st, i, rfl, ho, hC, ok, hq, sok, by omega, fun H' s' => ?_⟩
   have := k H' s'
   rw [qbE h1] at this
   exact this
  ·have e : (decide (0 <= n) && decide (n <= (xs.length : Int) - 1)) = false := by
    rw [Bool.and_eq_false_iff]
    by_cases h3 : 0 <= n
    ·right; rw [hxl]; exact decide_eq_false (by omega)
    ·left; exact decide_eq_false h3
   rw [e]
   walk_at "rd"
   have := k H (Same.refl _)
   rw [show canD C st d n = false from by
    by_cases h3 : 0 <= n
    ·exact q5Y (by omega)
    ·exact q6C (by omega)] at this
   exact this
theorem q24 {d : Wd} (L : LaidM K (dcls cs d) "told" "Deed.told" qI ["self"]) (D : DCl K cs d) : VMeth P w K mg base 1 (dcls cs d) "told" ["self"] (q3W cs d) := by
 refine L.vm (k := 0) D.cl q51 (fun vs H Q E h => ?_) (fun f cdv A outer s H vs Q E hr h => ?_)
 ·obtain ⟨p, n, rfl, _⟩ := h
  rfl
 ·obtain ⟨p, n, rfl, ho, k⟩ := h
  obtain ⟨dx, hp⟩ := ho.ex
  refine ⟨_, (qf (qj (qM (qa (q0a K (pv 0) rfl) (qa (q0a K (pv 0) rfl) qd))))), ?_⟩
  walk_at "rd"
  refine q12 hp D.cl D.nw (qby d n) ?_
  walk_at "rd"
  refine q12 hp D.cl D.nn (q04 d n) ?_
  walk_at "rd"
  intro r hr1
  exact k r _ (Same.upd hr1) qb
theorem q6E (T : Txt mg cs) (D : DCl K cs .go) (L : LaidM K cs.Go "fits" "Go.fits" q2f ["self", "cellar", "stand"]) (vo : VMeth P w K mg base 1 (dcls cs .go) "own_part" ["self", "cellar"] (q3t cs .go)) (C_can_enter : Cal P w K mg base 1 "can_enter" ["way", "room"] q3V) (C_has_bit : Cal P w K mg base 1 "has_bit" ["bits", "place"] q5w)
  (C_gate_of : Cal P w K mg base 4 "gate_of" ["gate"] (qaE cs)) (vl : ∀ g : Gt, VMeth P w K mg base 2 (q8K cs g) "lets" ["self", "held", "opened", "bars", "water"] (q2G cs g.word)) (C_held : Cal P w K mg base 2 "held" ["cellar", "stand"] q64) : VMeth P w K mg base 5 (dcls cs .go) "fits" ["self", "cellar", "stand"] (q33 cs .go) := by
 obtain ⟨t1, e_ROOM⟩ := T.e_ROOM
 obtain ⟨t2, e_OPENED⟩ := T.e_OPENED
 obtain ⟨t3, e_WAY_GATE⟩ := T.e_WAY_GATE
 obtain ⟨t4, e_BARS⟩ := T.e_BARS
 obtain ⟨t5, e_WATER⟩ := T.e_WATER
 refine LaidM.vm (k := 4) L D.cl q2v (fun vs H Q E h => ?_) (fun f cdv A outer s H vs Q E hr h => ?_)
 ·obtain ⟨p, c, q, C, st, i, rfl, _⟩ := h
  rfl
 ·obtain ⟨p, c, q, C, st, i, rfl, ho, hC, ok, hq, sok, hi, k⟩ := h
  obtain ⟨dx, hp⟩ := ho.ex
  replace hq : H q = some (.tup [.int st.rm, .int st.tk, .int st.op, .int st.b, .int st.wt]) := hq
  refine ⟨_, (qc (qv (i := 3) q2v.nd rfl (Or.inl rfl) (q2x (k := 1) (hr.mono (by decide)) (pv 0) (qa (pv 1) qd)))
   (qc (qP (q1w (q0j (qm C_can_enter hr (by decide) rfl (qa (pv 3) (qa (qu (qi K) (pv 2) (qh (v := .int 0) rfl e_ROOM ⟨_, rfl⟩) (fun _ _ => rfl)) qd))))) (qf (qj q2N)) qq)
   (qc (qv (i := 4) q2v.nd rfl (Or.inl rfl) (qm C_has_bit hr (by decide) rfl (qa (qu (qi K) (pv 2) (qh (v := .int 2) rfl e_OPENED ⟨_, rfl⟩) (fun _ _ => rfl)) (qa (q0a K (pv 0) rfl) qd))))
   (qf (qj (q2x (k := 2) (hr.mono (by decide)) (qm C_gate_of hr (by decide) rfl (qa (qu (qi K) (pv 3) (qh (v := .int 2) rfl e_WAY_GATE ⟨_, rfl⟩) (fun _ _ => rfl)) qd)) (qa (qm C_held hr (by decide) rfl (qa (pv 1) (qa (pv 2) qd))) (qa (pv 4) (qa (qu (qi K) (pv 2) (qh (v := .int 3) rfl e_BARS ⟨_, rfl⟩) (fun _ _ => rfl)) (qa (qu (qi K) (pv 2) (qh (v := .int 4) rfl e_WATER ⟨_, rfl⟩) (fun _ _ => rfl)) qd)))))))))), ?_⟩
  walk_at "rd"
  refine r_vm hp vo (q2J _ _) ?_
  walk_at "rd"
  refine ⟨p, c, C, i, rfl, ho, hC, hi, fun r hrow => ?_⟩
  obtain ⟨x, hx, hW⟩ := hrow
  have xok := ok.w x (List.mem_of_getElem? hx)
  have ecan : canB C st i .go = (q2o x st.rm && q9H x.g (hold C st.tk st.op) (bit st.op i) st.b st.wt) := by simp [canB, hx]
  obtain ⟨g, hr1, hg⟩ := id hW
  walk_at "rd"
  refine ⟨r, x, st.rm, rfl, hW, ?_⟩
  walk_at "rd"
  cases he : q2o x st.rm with
  | false =>
   walk_at "rd"
   have := k H (Same.refl _)
   rw [ecan, he] at this
   exact this
  | true =>
   walk_at "rd"
   refine q12 hp D.cl D.nn (q04 _ _) ?_
   walk_at "rd"
   refine ⟨st.op, i, rfl, by omega, ?_⟩
   rw [Int.toNat_natCast]
   walk_at "rd"
   refine ⟨g, x.g, rfl, hg, fun o H1 s1 ho0 hob => ?_⟩
   obtain ⟨dxo, qo, hpo, hqo⟩ := hob.ex
   have hq1 := s1 _ _ hq
   refine r_vm hpo (vl x.g) (qbu qo x.g) ?_
   walk_at "rd"
   refine ⟨c, q, C, st.rm, st.tk, st.op, st.b, st.wt, rfl, hC.mono s1.ts, ok, hq1, sok.dr, fun hl H2 s2 hl0 hl2 => ?_⟩
   have hq2 := s2 _ _ hq1
   walk_at "rd"
   refine ⟨o, hl, x.g, hold C st.tk st.op, _, _, _, rfl, rfl, hob.mono s2, xok.2.2.2, hl2, ?_⟩
   have := k H2 (s1.trans s2)
   rw [ecan, he, Bool.true_and] at this
   exact this
theorem q4A (T : Txt mg cs) (D : DCl K cs .pull) (L : LaidM K cs.Pull "fits" "Pull.fits" q1l ["self", "cellar", "stand"]) (vo : VMeth P w K mg base 1 (dcls cs .pull) "own_part" ["self", "cellar"] (q3t cs .pull)) : VMeth P w K mg base 5 (dcls cs .pull) "fits" ["self", "cellar", "stand"] (q33 cs .pull) := by
 obtain ⟨t1, e_ROOM⟩ := T.e_ROOM
 obtain ⟨t2, e_PAIR_ROOM⟩ := T.e_PAIR_ROOM
 refine LaidM.vm (k := 4) L D.cl q4U (fun vs H Q E h => ?_) (fun f cdv A outer s H vs Q E hr h => ?_)
 ·obtain ⟨p, c, q, C, st, i, rfl, _⟩ := h
  rfl
 ·obtain ⟨p, c, q, C, st, i, rfl, ho, hC, ok, hq, sok, hi, k⟩ := h
  obtain ⟨dx, hp⟩ := ho.ex
  replace hq : H q = some (.tup [.int st.rm, .int st.tk, .int st.op, .int st.b, .int st.wt]) := hq
  refine ⟨_, (qf (qj (q0e q09 (qu (qi K) (pv 2) (qh (v := .int 0) rfl e_ROOM ⟨_, rfl⟩) (fun _ _ => rfl)) (qu (qi K) (q2x (k := 1) (hr.mono (by decide)) (pv 0) (qa (pv 1) qd)) (qh (v := .int 0) rfl e_PAIR_ROOM ⟨_, rfl⟩) (fun _ _ => rfl)) (qw _)))), ?_⟩
  walk_at "rd"
  refine r_vm hp vo (q2J _ _) ?_
  walk_at "rd"
  refine ⟨p, c, C, i, rfl, ho, hC, hi, fun r hrow => ?_⟩
  obtain ⟨x, hx, hP⟩ := hrow
  have ecan : canB C st i .pull = decide (st.rm = x.1) := by simp [canB, hx]
  replace hP : H r = some (.tup [.int x.1, .int x.2]) := hP
  walk_at "rd"
  have := k H (Same.refl _)
  rw [ecan] at this
  exact this
theorem q4z (T : Txt mg cs) (D : DCl K cs .take) (L : LaidM K cs.Take "fits" "Take.fits" q1i ["self", "cellar", "stand"]) (vo : VMeth P w K mg base 1 (dcls cs .take) "own_part" ["self", "cellar"] (q3t cs .take)) (C_has_bit : Cal P w K mg base 1 "has_bit" ["bits", "place"] q5w) : VMeth P w K mg base 5 (dcls cs .take) "fits" ["self", "cellar", "stand"] (q33 cs .take) := by
 obtain ⟨t1, e_ROOM⟩ := T.e_ROOM
 obtain ⟨t2, e_PAIR_ROOM⟩ := T.e_PAIR_ROOM
 obtain ⟨t3, e_TAKEN⟩ := T.e_TAKEN
 refine LaidM.vm (k := 4) L D.cl q4R (fun vs H Q E h => ?_) (fun f cdv A outer s H vs Q E hr h => ?_)
 ·obtain ⟨p, c, q, C, st, i, rfl, _⟩ := h
  rfl
 ·obtain ⟨p, c, q, C, st, i, rfl, ho, hC, ok, hq, sok, hi, k⟩ := h
  obtain ⟨dx, hp⟩ := ho.ex
  replace hq : H q = some (.tup [.int st.rm, .int st.tk, .int st.op, .int st.b, .int st.wt]) := hq
  refine ⟨_, (qf (qj (q7Q (q0e q09 (qu (qi K) (pv 2) (qh (v := .int 0) rfl e_ROOM ⟨_, rfl⟩) (fun _ _ => rfl)) (qu (qi K) (q2x (k := 1) (hr.mono (by decide)) (pv 0) (qa (pv 1) qd)) (qh (v := .int 0) rfl e_PAIR_ROOM ⟨_, rfl⟩) (fun _ _ => rfl)) (qw _)) (q57 (pe_not (qm C_has_bit hr (by decide) rfl (qa (qu (qi K) (pv 2) (qh (v := .int 1) rfl e_TAKEN ⟨_, rfl⟩) (fun _ _ => rfl)) (qa (q0a K (pv 0) rfl) qd)))))))), ?_⟩
  walk_at "rd"
  refine r_vm hp vo (q2J _ _) ?_
  walk_at "rd"
  refine ⟨p, c, C, i, rfl, ho, hC, hi, fun r hrow => ?_⟩
  obtain ⟨x, hx, hP⟩ := hrow
  have ecan : canB C st i .take = (decide (st.rm = x.1) && !bit st.tk i) := by simp [canB, hx]
  replace hP : H r = some (.tup [.int x.1, .int x.2]) := hP
  have k' := k H (Same.refl _)
  rw [ecan] at k'
  walk_at "rd"
  refine ifd (fun h1 => ?_) (fun h1 => ?_)
  ·rw [decide_eq_true h1, Bool.true_and] at k'
   walk_at "rd"
   refine q12 hp D.cl D.nn (q04 _ _) ?_
   walk_at "rd"
   refine ⟨st.tk, i, rfl, by omega, ?_⟩
   rw [Int.toNat_natCast]
   walk_at "rd"
   exact k'
  ·rw [decide_eq_false h1, Bool.false_and] at k'
   exact k'
theorem q4y (T : Txt mg cs) (D : DCl K cs .turn) (L : LaidM K cs.Turn "fits" "Turn.fits" q1f ["self", "cellar", "stand"]) (vo : VMeth P w K mg base 1 (dcls cs .turn) "own_part" ["self", "cellar"] (q3t cs .turn)) : VMeth P w K mg base 5 (dcls cs .turn) "fits" ["self", "cellar", "stand"] (q33 cs .turn) := by
 obtain ⟨t1, e_ROOM⟩ := T.e_ROOM
 obtain ⟨t2, e_PAIR_ROOM⟩ := T.e_PAIR_ROOM
 obtain ⟨t3, e_WATER⟩ := T.e_WATER
 obtain ⟨t4, e_PAIR_NUMBER⟩ := T.e_PAIR_NUMBER
 refine LaidM.vm (k := 4) L D.cl q2H (fun vs H Q E h => ?_) (fun f cdv A outer s H vs Q E hr h => ?_)
 ·obtain ⟨p, c, q, C, st, i, rfl, _⟩ := h
  rfl
 ·obtain ⟨p, c, q, C, st, i, rfl, ho, hC, ok, hq, sok, hi, k⟩ := h
  obtain ⟨dx, hp⟩ := ho.ex
  replace hq : H q = some (.tup [.int st.rm, .int st.tk, .int st.op, .int st.b, .int st.wt]) := hq
  refine ⟨_, (qc (qv (i := 3) q2H.nd rfl (Or.inl rfl) (q2x (k := 1) (hr.mono (by decide)) (pv 0) (qa (pv 1) qd)))
   (qf (qj (q7Q (q0e q09 (qu (qi K) (pv 2) (qh (v := .int 0) rfl e_ROOM ⟨_, rfl⟩) (fun _ _ => rfl)) (qu (qi K) (pv 3) (qh (v := .int 0) rfl e_PAIR_ROOM ⟨_, rfl⟩) (fun _ _ => rfl)) (qw _)) (q57 (q0e qaY (qu (qi K) (pv 2) (qh (v := .int 4) rfl e_WATER ⟨_, rfl⟩) (fun _ _ => rfl)) (qu (qi K) (pv 3) (qh (v := .int 1) rfl e_PAIR_NUMBER ⟨_, rfl⟩) (fun _ _ => rfl)) (qw _))))))), ?_⟩
  walk_at "rd"
  refine r_vm hp vo (q2J _ _) ?_
  walk_at "rd"
  refine ⟨p, c, C, i, rfl, ho, hC, hi, fun r hrow => ?_⟩
  obtain ⟨x, hx, hP⟩ := hrow
  have ecan : canB C st i .turn = (decide (st.rm = x.1) && !decide (st.wt = x.2)) := by simp [canB, hx]
  replace hP : H r = some (.tup [.int x.1, .int x.2]) := hP
  have k' := k H (Same.refl _)
  rw [ecan] at k'
  walk_at "rd"
  refine ifd (fun h1 => ?_) (fun h1 => ?_)
  ·rw [decide_eq_true h1, Bool.true_and] at k'
   walk_at "rd"
   exact k'
  ·rw [decide_eq_false h1, Bool.false_and] at k'
   exact k'
theorem q3q (T : Txt mg cs) (D : DCl K cs .unlock) (L : LaidM K cs.Unlock "fits" "Unlock.fits" q0C ["self", "cellar", "stand"]) (vo : VMeth P w K mg base 1 (dcls cs .unlock) "own_part" ["self", "cellar"] (q3t cs .unlock)) (C_can_enter : Cal P w K mg base 1 "can_enter" ["way", "room"] q3V) (C_has_bit : Cal P w K mg base 1 "has_bit" ["bits", "place"] q5w)
  (C_held : Cal P w K mg base 2 "held" ["cellar", "stand"] q64) : VMeth P w K mg base 5 (dcls cs .unlock) "fits" ["self", "cellar", "stand"] (q33 cs .unlock) := by
 obtain ⟨t1, e_ROOM⟩ := T.e_ROOM
 obtain ⟨t2, e_OPENED⟩ := T.e_OPENED
 obtain ⟨t3, e_WAY_GATE⟩ := T.e_WAY_GATE
 refine LaidM.vm (k := 4) L D.cl q0U (fun vs H Q E h => ?_) (fun f cdv A outer s H vs Q E hr h => ?_)
 ·obtain ⟨p, c, q, C, st, i, rfl, _⟩ := h
  rfl
 ·obtain ⟨p, c, q, C, st, i, rfl, ho, hC, ok, hq, sok, hi, k⟩ := h
  obtain ⟨dx, hp⟩ := ho.ex
  replace hq : H q = some (.tup [.int st.rm, .int st.tk, .int st.op, .int st.b, .int st.wt]) := hq
  refine ⟨_, (qc (qv (i := 3) q0U.nd rfl (Or.inl rfl) (q2x (k := 1) (hr.mono (by decide)) (pv 0) (qa (pv 1) qd)))
   (qc (qv (i := 4) q0U.nd rfl (Or.inl rfl) (qu (qi K) (pv 3) (qh (v := .int 2) rfl e_WAY_GATE ⟨_, rfl⟩) (fun _ _ => rfl)))
   (qc (qP (PW.pt (q38 (qr qaY (qu (qi K) (pv 4) qg (fun _ _ => rfl)) qA (qw _)) (q38 (q1w (q0j (qm C_can_enter hr (by decide) rfl (qa (pv 3) (qa (qu (qi K) (pv 2) (qh (v := .int 0) rfl e_ROOM ⟨_, rfl⟩) (fun _ _ => rfl)) qd))))) (q2i (q0j (qm C_has_bit hr (by decide) rfl (qa (qu (qi K) (pv 2) (qh (v := .int 2) rfl e_OPENED ⟨_, rfl⟩) (fun _ _ => rfl)) (qa (q0a K (pv 0) rfl) qd)))))))) (qf (qj q2N)) qq)
   (qf (qj (q0e q59 (qu (qS K) (qm C_held hr (by decide) rfl (qa (pv 1) (qa (pv 2) qd))) (qu (qi K) (pv 4) qg (fun _ _ => rfl)) (fun _ _ => rfl)) qg (qw _))))))), ?_⟩
  walk_at "rd"
  refine r_vm hp vo (q2J _ _) ?_
  walk_at "rd"
  refine ⟨p, c, C, i, rfl, ho, hC, hi, fun r hrow => ?_⟩
  obtain ⟨x, hx, hW⟩ := hrow
  have xok := ok.w x (List.mem_of_getElem? hx)
  obtain ⟨g, hr1, hg⟩ := id hW
  have hg' := hg
  rw [Gt.vs_eq] at hg'
  walk_at "rd"
  refine ifn (fun hn => ?_) (fun hn => ?_)
  ·walk_at "rd"
   have hdk : x.g.dk = none := by
    have := q4t x.g
    rw [decide_eq_false hn] at this
    cases e : x.g.dk with
    | none => rfl
    | some k => rw [e] at this; cases this
   have := k H (Same.refl _)
   rw [show canB C st i .unlock = false by simp [canB, hx, hdk]] at this
   exact this
  obtain ⟨kd, ekd⟩ := q8w hn
  have hk : 0 <= kd /\ kd < 12 := by have := xok.2.2.2; rw [ekd] at this; exact this
  have edk : x.g.dk = some kd := by rw [ekd]; rfl
  have ecan : canB C st i .unlock = ((q2o x st.rm && !bit st.op i) && decide (0 < hold C st.tk st.op kd)) := by simp [canB, hx, edk]
  have hg2 : H g = some (.tup [.str "door", .int kd]) := by rw [ekd] at hg; exact hg
  walk_at "rd"
  refine ⟨r, x, st.rm, rfl, hW, ?_⟩
  walk_at "rd"
  cases he : q2o x st.rm with
  | false =>
   walk_at "rd"
   have := k H (Same.refl _)
   rw [ecan, he] at this
   exact this
  | true =>
   walk_at "rd"
   refine q12 hp D.cl D.nn (q04 _ _) ?_
   walk_at "rd"
   refine ⟨st.op, i, rfl, by omega, ?_⟩
   rw [Int.toNat_natCast]
   walk_at "rd"
   cases hb : bit st.op i with
   | true =>
    walk_at "rd"
    have := k H (Same.refl _)
    rw [ecan, he, hb] at this
    exact this
   | false =>
    walk_at "rd"
    refine ⟨c, q, C, st.rm, st.tk, st.op, st.b, st.wt, rfl, hC, ok, hq, sok.dr, fun hl H2 s2 hl0 hl2 => ?_⟩
    have hg3 := s2 _ _ hg2
    walk_at "rd"
    refine q47 (SqL.of hl2) (q8M hk.1 hk.2) ?_
    walk_at "rd"
    have := k H2 s2
    rw [ecan, he, hb] at this
    exact this
theorem q6F (T : Txt mg cs) (D : DCl K cs .go) (L : LaidM K cs.Go "done" "Go.done" q2g ["self", "cellar", "stand"]) (vo : VMeth P w K mg base 1 (dcls cs .go) "own_part" ["self", "cellar"] (q3t cs .go)) (C_changed : Cal P w K mg base 1 "changed" ["parts", "place", "part"] q4H) : VMeth P w K mg base 2 (dcls cs .go) "done" ["self", "cellar", "stand"] (q27 cs .go) := by
 obtain ⟨t1, e_ROOM⟩ := T.e_ROOM
 obtain ⟨t2, e_WAY_A⟩ := T.e_WAY_A
 obtain ⟨t3, e_WAY_B⟩ := T.e_WAY_B
 refine LaidM.vm (k := 1) L D.cl q2w (fun vs H Q E h => ?_) (fun f cdv A outer s H vs Q E hr h => ?_)
 ·obtain ⟨p, c, q, C, st, n, rfl, _⟩ := h
  rfl
 ·obtain ⟨p, c, q, C, st, n, rfl, ho, hC, ok, hq, sok, hcan, k⟩ := h
  obtain ⟨hl, i, rfl, hi, hcb⟩ := q1u hcan
  obtain ⟨dx, hp⟩ := ho.ex
  have hq' : H q = some (.tup [.int st.rm, .int st.tk, .int st.op, .int st.b, .int st.wt]) := hq
  refine ⟨_, (qc (qv (i := 3) q2w.nd rfl (Or.inl rfl) (q2x (k := 1) (hr.mono (by decide)) (pv 0) (qa (pv 1) qd)))
   (qc (qv (i := 4) q2w.nd rfl (Or.inl rfl) (q2j (qr q09 (qu (qi K) (pv 2) (qh (v := .int 0) rfl e_ROOM ⟨_, rfl⟩) (fun _ _ => rfl)) (qu (qi K) (pv 3) (qh (v := .int 0) rfl e_WAY_A ⟨_, rfl⟩) (fun _ _ => rfl)) (qw _)) (qu (qi K) (pv 3) (qh (v := .int 1) rfl e_WAY_B ⟨_, rfl⟩) (fun _ _ => rfl)) (qu (qi K) (pv 3) (qh (v := .int 0) rfl e_WAY_A ⟨_, rfl⟩) (fun _ _ => rfl))))
   (qf (qj (qm C_changed hr (by decide) rfl (qa (pv 2) (qa (qh (v := .int 0) rfl e_ROOM ⟨_, rfl⟩) (qa (pv 4) qd)))))))), ?_⟩
  walk_at "rd"
  refine r_vm hp vo (q2J _ _) ?_
  walk_at "rd"
  refine ⟨p, c, C, i, rfl, ho, hC, hi, fun r hrow => ?_⟩
  obtain ⟨x, hx, hW⟩ := hrow
  obtain ⟨g, hr1, hg⟩ := id hW
  have edone : q0K C st .go (i : Int) = { st with rm := if st.rm = x.a then x.b else x.a } := by
   show q2D C st ((i : Int)).toNat .go = _
   rw [Int.toNat_natCast]; simp [q2D, hx]
  rw [edone] at k
  walk_at "rd"
  refine ifd (fun h1 => ?_) (fun h1 => ?_)
  ·rw [if_pos h1] at k
   walk_at "rd"
   exact ⟨q, st, 0, _, rfl, by decide, hq, fun r H' s' hr' => k r H' s' hr'⟩
  ·rw [if_neg h1] at k
   walk_at "rd"
   exact ⟨q, st, 0, _, rfl, by decide, hq, fun r H' s' hr' => k r H' s' hr'⟩
theorem q4D (T : Txt mg cs) (D : DCl K cs .pull) (L : LaidM K cs.Pull "done" "Pull.done" q1m ["self", "cellar", "stand"]) (vo : VMeth P w K mg base 1 (dcls cs .pull) "own_part" ["self", "cellar"] (q3t cs .pull)) (C_changed : Cal P w K mg base 1 "changed" ["parts", "place", "part"] q4H) : VMeth P w K mg base 2 (dcls cs .pull) "done" ["self", "cellar", "stand"] (q27 cs .pull) := by
 obtain ⟨t1, e_BARS⟩ := T.e_BARS
 obtain ⟨t2, e_PAIR_NUMBER⟩ := T.e_PAIR_NUMBER
 refine LaidM.vm (k := 1) L D.cl q4V (fun vs H Q E h => ?_) (fun f cdv A outer s H vs Q E hr h => ?_)
 ·obtain ⟨p, c, q, C, st, n, rfl, _⟩ := h
  rfl
 ·obtain ⟨p, c, q, C, st, n, rfl, ho, hC, ok, hq, sok, hcan, k⟩ := h
  obtain ⟨hl, i, rfl, hi, hcb⟩ := q1u hcan
  obtain ⟨dx, hp⟩ := ho.ex
  have hq' : H q = some (.tup [.int st.rm, .int st.tk, .int st.op, .int st.b, .int st.wt]) := hq
  refine ⟨_, (qf (qj (qm C_changed hr (by decide) rfl (qa (pv 2) (qa (qh (v := .int 3) rfl e_BARS ⟨_, rfl⟩) (qa (qt op_xor (qu (qi K) (pv 2) (qh (v := .int 3) rfl e_BARS ⟨_, rfl⟩) (fun _ _ => rfl)) (qu (qi K) (q2x (k := 1) (hr.mono (by decide)) (pv 0) (qa (pv 1) qd)) (qh (v := .int 1) rfl e_PAIR_NUMBER ⟨_, rfl⟩) (fun _ _ => rfl))) qd)))))), ?_⟩
  walk_at "rd"
  refine r_vm hp vo (q2J _ _) ?_
  walk_at "rd"
  refine ⟨p, c, C, i, rfl, ho, hC, hi, fun r hrow => ?_⟩
  obtain ⟨x, hx, hP⟩ := hrow
  replace hP : H r = some (.tup [.int x.1, .int x.2]) := hP
  have edone : q0K C st .pull (i : Int) = { st with b := Builtin.bitXor st.b x.2 } := by
   show q2D C st ((i : Int)).toNat .pull = _
   rw [Int.toNat_natCast]; simp [q2D, hx]
  rw [edone] at k
  walk_at "rd"
  exact ⟨q, st, 3, _, rfl, by decide, hq, fun r H' s' hr' => k r H' s' hr'⟩
theorem q4C (T : Txt mg cs) (D : DCl K cs .take) (L : LaidM K cs.Take "done" "Take.done" q1j ["self", "cellar", "stand"]) (C_changed : Cal P w K mg base 1 "changed" ["parts", "place", "part"] q4H) : VMeth P w K mg base 2 (dcls cs .take) "done" ["self", "cellar", "stand"] (q27 cs .take) := by
 obtain ⟨t1, e_TAKEN⟩ := T.e_TAKEN
 refine LaidM.vm (k := 1) L D.cl q4S (fun vs H Q E h => ?_) (fun f cdv A outer s H vs Q E hr h => ?_)
 ·obtain ⟨p, c, q, C, st, n, rfl, _⟩ := h
  rfl
 ·obtain ⟨p, c, q, C, st, n, rfl, ho, hC, ok, hq, sok, hcan, k⟩ := h
  obtain ⟨hl, i, rfl, hi, hcb⟩ := q1u hcan
  obtain ⟨dx, hp⟩ := ho.ex
  have hq' : H q = some (.tup [.int st.rm, .int st.tk, .int st.op, .int st.b, .int st.wt]) := hq
  have hi8 : (i : Int) < 8 := by have h2 : i < C.things.length := hi; have := ok.tl; omega
  have hb : bit st.tk i = false := by
   have h2 : i < C.things.length := hi
   simp only [canB, List.getElem?_eq_getElem h2, Bool.and_eq_true, Bool.not_eq_true'] at hcb
   exact hcb.2
  have edone : q0K C st .take (i : Int) = { st with tk := st.tk + 2 ^ i } := by
   show q2D C st ((i : Int)).toNat .take = _
   rw [Int.toNat_natCast]; rfl
  rw [edone] at k
  refine ⟨_, (qf (qj (qm C_changed hr (by decide) rfl (qa (pv 2) (qa (qh (v := .int 1) rfl e_TAKEN ⟨_, rfl⟩) (qa (qt op_or (qu (qi K) (pv 2) (qh (v := .int 1) rfl e_TAKEN ⟨_, rfl⟩) (fun _ _ => rfl)) (qt q7T qg (q0a K (pv 0) rfl))) qd)))))), ?_⟩
  walk_at "rd"
  refine q12 hp D.cl D.nn (q04 _ _) ?_
  walk_at "rd"
  rw [Int.toNat_natCast, Int.one_mul, q8U hb]
  exact ⟨q, st, 1, _, rfl, by decide, hq, fun r H' s' hr' => k r H' s' hr'⟩
theorem q4B (T : Txt mg cs) (D : DCl K cs .turn) (L : LaidM K cs.Turn "done" "Turn.done" q1g ["self", "cellar", "stand"]) (vo : VMeth P w K mg base 1 (dcls cs .turn) "own_part" ["self", "cellar"] (q3t cs .turn)) (C_changed : Cal P w K mg base 1 "changed" ["parts", "place", "part"] q4H) : VMeth P w K mg base 2 (dcls cs .turn) "done" ["self", "cellar", "stand"] (q27 cs .turn) := by
 obtain ⟨t1, e_WATER⟩ := T.e_WATER
 obtain ⟨t2, e_PAIR_NUMBER⟩ := T.e_PAIR_NUMBER
 refine LaidM.vm (k := 1) L D.cl q4P (fun vs H Q E h => ?_) (fun f cdv A outer s H vs Q E hr h => ?_)
 ·obtain ⟨p, c, q, C, st, n, rfl, _⟩ := h
  rfl
 ·obtain ⟨p, c, q, C, st, n, rfl, ho, hC, ok, hq, sok, hcan, k⟩ := h
  obtain ⟨hl, i, rfl, hi, hcb⟩ := q1u hcan
  obtain ⟨dx, hp⟩ := ho.ex
  refine ⟨_, (qf (qj (qm C_changed hr (by decide) rfl (qa (pv 2) (qa (qh (v := .int 4) rfl e_WATER ⟨_, rfl⟩) (qa (qu (qi K) (q2x (k := 1) (hr.mono (by decide)) (pv 0) (qa (pv 1) qd)) (qh (v := .int 1) rfl e_PAIR_NUMBER ⟨_, rfl⟩) (fun _ _ => rfl)) qd)))))), ?_⟩
  walk_at "rd"
  refine r_vm hp vo (q2J _ _) ?_
  walk_at "rd"
  refine ⟨p, c, C, i, rfl, ho, hC, hi, fun r hrow => ?_⟩
  obtain ⟨x, hx, hP⟩ := hrow
  replace hP : H r = some (.tup [.int x.1, .int x.2]) := hP
  have edone : q0K C st .turn (i : Int) = { st with wt := x.2 } := by
   show q2D C st ((i : Int)).toNat .turn = _
   rw [Int.toNat_natCast]; simp [q2D, hx]
  rw [edone] at k
  walk_at "rd"
  exact ⟨q, st, 4, _, rfl, by decide, hq, fun r H' s' hr' => k r H' s' hr'⟩
theorem q3r (T : Txt mg cs) (D : DCl K cs .unlock) (L : LaidM K cs.Unlock "done" "Unlock.done" q0D ["self", "cellar", "stand"]) (C_changed : Cal P w K mg base 1 "changed" ["parts", "place", "part"] q4H) : VMeth P w K mg base 2 (dcls cs .unlock) "done" ["self", "cellar", "stand"] (q27 cs .unlock) := by
 obtain ⟨t1, e_OPENED⟩ := T.e_OPENED
 refine LaidM.vm (k := 1) L D.cl q3x (fun vs H Q E h => ?_) (fun f cdv A outer s H vs Q E hr h => ?_)
 ·obtain ⟨p, c, q, C, st, n, rfl, _⟩ := h
  rfl
 ·obtain ⟨p, c, q, C, st, n, rfl, ho, hC, ok, hq, sok, hcan, k⟩ := h
  obtain ⟨hl, i, rfl, hi, hcb⟩ := q1u hcan
  obtain ⟨dx, hp⟩ := ho.ex
  have hq' : H q = some (.tup [.int st.rm, .int st.tk, .int st.op, .int st.b, .int st.wt]) := hq
  have hi20 : (i : Int) < 20 := by have h2 : i < C.ways.length := hi; have := ok.wl; omega
  have hb : bit st.op i = false := by
   have h2 : i < C.ways.length := hi
   cases hk : C.ways[i].g.dk with
   | none => simp [canB, h2, hk] at hcb
   | some kd =>
    simp only [canB, List.getElem?_eq_getElem h2, hk, Bool.and_eq_true, Bool.not_eq_true'] at hcb
    exact hcb.1.2
  have edone : q0K C st .unlock (i : Int) = { st with op := st.op + 2 ^ i } := by
   show q2D C st ((i : Int)).toNat .unlock = _
   rw [Int.toNat_natCast]; rfl
  rw [edone] at k
  refine ⟨_, (qf (qj (qm C_changed hr (by decide) rfl (qa (pv 2) (qa (qh (v := .int 2) rfl e_OPENED ⟨_, rfl⟩) (qa (qt op_or (qu (qi K) (pv 2) (qh (v := .int 2) rfl e_OPENED ⟨_, rfl⟩) (fun _ _ => rfl)) (qt q7T qg (q0a K (pv 0) rfl))) qd)))))), ?_⟩
  walk_at "rd"
  refine q12 hp D.cl D.nn (q04 _ _) ?_
  walk_at "rd"
  rw [Int.toNat_natCast, Int.one_mul, q8U hb]
  exact ⟨q, st, 2, _, rfl, by decide, hq, fun r H' s' hr' => k r H' s' hr'⟩
end
def DAt (cs : Cs) (H : Hp) (p : Addr) (x : Wd × Nat) : Prop := DObj cs H p x.1 ((x.2 : Nat) : Int)
def TAt (H : Hp) (p : Addr) (x : Wd × Nat) : Prop := H p = some (.tup [.str x.1.str, .int ((x.2 : Nat) : Int)])
theorem DAt.mono {cs : Cs} {H H' : Hp} (s : Same H H') {p : Addr} {x : Wd × Nat} (h : DAt cs H p x) : DAt cs H' p x := DObj.mono s h
theorem TAt.mono {H H' : Hp} (s : q03 H H') {p : Addr} {x : Wd × Nat} (h : TAt H p x) : TAt H' p x := s _ _ h
theorem DAt.put {cs : Cs} {H : Hp} {D : Addr} {xs : List V} {o : HO} (hD : H D = some (.lst xs)) {p : Addr} {x : Wd × Nat} (h : DAt cs H p x) : DAt cs (upd H D o) p x := by
 obtain ⟨dx, hp⟩ := h.ex
 exact ⟨dx, by rw [ql (q3y hp hD (by intro z; cases z))]; exact hp⟩
theorem TAt.put {H : Hp} {D : Addr} {xs : List V} {o : HO} (hD : H D = some (.lst xs)) {p : Addr} {x : Wd × Nat} (h : TAt H p x) : TAt (upd H D o) p x := q03.lst hD _ _ h
theorem q0F {α : Type} {At : Hp -> Addr -> α -> Prop} {H : Hp} {D x : Addr} {ps : List Addr} {xs : List α} {y : α} (mo : ∀ q z, At H q z -> At (upd H D (.lst (ps.map V.ref ++ [.ref x]))) q z) (hr : Rows At H ps xs) (hx : At H x y) : qT At (upd H D (.lst (ps.map V.ref ++ [.ref x]))) D (xs ++ [y]) :=
 ⟨ps ++ [x], by rw [qb, List.map_append]; rfl, (hr.mono mo).snoc (mo _ _ hx)⟩
theorem q2T {α : Type} {At : Hp -> Addr -> α -> Prop} {H : Hp} {ps qs : List Addr} {xs ys : List α} (a : Rows At H ps xs) (b : Rows At H qs ys) : Rows At H (ps ++ qs) (xs ++ ys) := by
 refine ⟨by rw [List.length_append, List.length_append, a.1, b.1], fun i p x h1 h2 => ?_⟩
 by_cases hi : i < ps.length
 ·rw [List.getElem?_append_left hi] at h1
  rw [List.getElem?_append_left (by rw [<- a.1]; exact hi)] at h2
  exact a.2 i p x h1 h2
 ·rw [List.getElem?_append_right (by omega)] at h1
  rw [List.getElem?_append_right (by rw [<- a.1]; omega), <- a.1] at h2
  exact b.2 _ p x h1 h2
def q65 (cs : Cs) : Sp := fun vs H Q _ => ∃ (c : Addr) (C : Cl), vs = [.ref c] /\ ClAt H c C /\ ClOk C /\ ∀ (l : Addr) (H' : Hp), Same H H' -> H l = none -> qT (DAt cs) H' l (rowD .go C.ways.length) -> Q (.ref l) H'
def q7u (cs : Cs) : Sp := fun vs H Q _ => ∃ (c : Addr) (C : Cl), vs = [.ref c] /\ ClAt H c C /\ ClOk C /\ ∀ (l : Addr) (H' : Hp), Same H H' -> H l = none -> qT (DAt cs) H' l (allD C) -> Q (.ref l) H'
def q66 (cs : Cs) : Sp := fun vs H Q _ => ∃ (c q : Addr) (C : Cl) (s : Sd), vs = [.ref c, .ref q] /\ ClAt H c C /\ ClOk C /\ H q = some (.tup s.vs) /\ s.ok C /\ ∀ (l : Addr) (H' : Hp), Same H H' -> H l = none -> qT (DAt cs) H' l (fitD C s) -> Q (.ref l) H'
def q28 : Sp := fun vs H Q _ => ∃ (c q : Addr) (C : Cl) (s : Sd), vs = [.ref c, .ref q] /\ ClAt H c C /\ ClOk C /\ H q = some (.tup s.vs) /\ s.ok C /\ ∀ (l : Addr) (H' : Hp), Same H H' -> H l = none -> qT TAt H' l (fitD C s) -> Q (.ref l) H'
def q2Q : Sp := fun vs H Q _ => ∃ (c q t : Addr) (C : Cl) (s : Sd) (d : Wd) (n : Int), vs = [.ref c, .ref q, .ref t] /\ ClAt H c C /\ ClOk C /\ H q = some (.tup s.vs) /\ s.ok C /\ H t = some (.tup [.str d.str, .int n]) /\ canD C s d n = true /\
 ∀ (r : Addr) (H' : Hp), Same H H' -> H' r = some (.tup (q0K C s d n).vs) -> Q (.ref r) H'
section
variable {P : Program} {w : World} {K : W.Frag} {mg : Str -> Option Value} {base : Heap} {cs : Cs}
theorem q2h {H0 H' : Hp} {D : Addr} {d : Wd} {i : Nat} {v : Option V} {ps : List Addr} {x dx : Addr} (hD : H0 D = none) (s2 : Same H0 H') (hi : i < 100) (hps : H' D = some (.lst (ps.map V.ref))) (hrw : Rows (DAt cs) H' ps (rowD d i)) (hx : H' x = none) (hdx : H' dx = none) (ne : dx ≠ x) :
  q0M cs d (.ref x :: ([.int (0 + ((i : Nat) : Int))] ++ [])) (upd (upd H' dx (.own x)) x (.ins (dcls cs d) dx [])) (fun w H2 => w = .non /\ ∃ ys, H2 D = some (.lst ys) /\ ys.length < sizeLine /\ ∃ v0, ([v] : St) = [v0] /\ Same H0 (upd H2 D (.lst (ys ++ [.ref x]))) /\ qT (DAt cs) (upd H2 D (.lst (ys ++ [.ref x]))) D (rowD d (i + 1))) E0 := by
 have big := qD
 rw [Int.zero_add]
 refine q14 (Q := fun y H2 => ∃ ys, H2 D = some (.lst ys) /\ ys.length < sizeLine /\ ∃ v0, ([v] : St) = [v0] /\ Same H0 (upd H2 D (.lst (ys ++ [y]))) /\ qT (DAt cs) (upd H2 D (.lst (ys ++ [y]))) D (rowD d (i + 1))) hx hdx ne fun x H3 s3 hx0 hob => ?_
 have hp3 := s3 _ _ hps
 refine ⟨_, hp3, by rw [List.length_map, hrw.1, q1L]; omega, _, rfl, (s2.trans s3).put hD, ?_⟩
 rw [q7B]
 exact q0F (fun _ _ => DAt.put hp3) (hrw.mono fun _ _ => DAt.mono s3) hob
theorem qb3 (T : Txt mg cs) (L : Laid K mg "all_goes" q0Z ["cellar"]) (C_Go : Makes P w K mg base 2 "Go" cs.Go ["self", "number"] (q0M cs .go)) : Cal P w K mg base 4 "all_goes" ["cellar"] (q65 cs) := by
 obtain ⟨t1, e_WAYS⟩ := T.e_WAYS
 refine L.cal (k := 3) q5y (fun vs H Q E h => ?_) (fun f cdv A outer s H vs Q E hr h => ?_)
 ·obtain ⟨c, C, rfl, _⟩ := h
  rfl
 ·obtain ⟨c, C, rfl, hC, ok, k⟩ := h
  obtain ⟨pw, pt, pl, pv', h0, hw, ht, hl, hv⟩ := hC.ex
  obtain ⟨wv, hwv, hwl, hwg⟩ := hw.get
  have okw := ok.wl
  have hwl2 : (wv.length : Int) <= 20 := by omega
  refine ⟨_, (qf (qj (q0w (q0i (N := ["number"]) (own := 1) (caps := []) ["cellar"] (qe q0Z) (by decide +kernel)) rfl (q08 rfl T.n_range (qa (qB (lenK K) rfl T.n_len q0k (qa (qu (qi K) (pv 0) (qh (v := .int 3) rfl e_WAYS ⟨_, rfl⟩) (fun _ _ => rfl)) qd)) qd)) (fun _ _ _ _ => (qp (i := 0) (show List.Nodup (["number"] : List Str) by decide +kernel) rfl (Or.inl rfl))) (fun _ _ _ _ => q0y) (fun _ _ _ _ => (q0J C_Go hr (by decide) rfl (qa (pv 0) qd)))))), ?_⟩
  walk_at "rd"
  intro D hD
  refine q0G (fun i σ H' => ∃ v0, σ = [v0] /\ Same H H' /\ qT (DAt cs) H' D (rowD .go i)) ⟨none, rfl, Same.upd hD, ⟨[], qb, Rows.nil⟩⟩ ?_ ?_
  ·rintro i σ H' hi ⟨v0, rfl, s2, ps, hps, hrw⟩
   walk_at "rd"
   exact fun x dx hx hdx ne => q2h hD s2 (by have : i < wv.length := by simpa using hi
                                             omega) hps hrw hx hdx ne
  ·rintro σ H' ⟨v0, rfl, s2, hlst⟩
   rw [Int.toNat_natCast, hwl] at hlst
   exact k D H' s2 hD hlst
theorem qb9 (T : Txt mg cs) (L : Laid K mg "all_deeds" q07 ["cellar"]) (C_all_goes : Cal P w K mg base 4 "all_goes" ["cellar"] (q65 cs)) (C_Pull : Makes P w K mg base 2 "Pull" cs.Pull ["self", "number"] (q0M cs .pull)) (C_Take : Makes P w K mg base 2 "Take" cs.Take ["self", "number"] (q0M cs .take))
  (C_Turn : Makes P w K mg base 2 "Turn" cs.Turn ["self", "number"] (q0M cs .turn)) (C_Unlock : Makes P w K mg base 2 "Unlock" cs.Unlock ["self", "number"] (q0M cs .unlock)) : Cal P w K mg base 5 "all_deeds" ["cellar"] (q7u cs) := by
 obtain ⟨t1, e_WAYS⟩ := T.e_WAYS
 obtain ⟨t2, e_LEVERS⟩ := T.e_LEVERS
 obtain ⟨t3, e_THINGS⟩ := T.e_THINGS
 obtain ⟨t4, e_WHEELS⟩ := T.e_WHEELS
 refine L.cal (k := 4) q0r (fun vs H Q E h => ?_) (fun f cdv A outer s H vs Q E hr h => ?_)
 ·obtain ⟨c, C, rfl, _⟩ := h
  rfl
 ·obtain ⟨c, C, rfl, hC, ok, k⟩ := h
  have big := qD
  obtain ⟨pw, pt, pl, pv', h0, hw, ht, hl, hv⟩ := hC.ex
  obtain ⟨wv, hwv, hwl, hwg⟩ := hw.get
  obtain ⟨tv, htv, htl, htg⟩ := ht.get
  obtain ⟨lv, hlv, hll, hlg⟩ := hl.get
  obtain ⟨vv, hvv, hvl, hvg⟩ := hv.get
  have okw := ok.wl
  have okt := ok.tl
  have okl := ok.ll
  have okv := ok.vl
  have hwl2 : (wv.length : Int) <= 20 := by omega
  have htl2 : (tv.length : Int) <= 8 := by omega
  have hll2 : (lv.length : Int) <= 4 := by omega
  have hvl2 : (vv.length : Int) <= 4 := by omega
  refine ⟨_, (qc (q22 (i := 1) q0r.nd rfl rfl (q0i (N := ["number"]) (own := 1) (caps := []) ["cellar", "pulls", "takes", "turns", "unlocks"] (qe q07) (by decide +kernel)) rfl (q08 rfl T.n_range (qa (qB (lenK K) rfl T.n_len q0k (qa (qu (qi K) (pv 0) (qh (v := .int 5) rfl e_LEVERS ⟨_, rfl⟩) (fun _ _ => rfl)) qd)) qd)) (fun _ _ _ _ => (qp (i := 0) (show List.Nodup (["number"] : List Str) by decide +kernel) rfl (Or.inl rfl))) (fun _ _ _ _ => q0y) (fun _ _ _ _ => (q0J C_Pull hr (by decide) rfl (qa (pv 0) qd))))
   (qc (q22 (i := 2) q0r.nd rfl rfl (q0i (N := ["number"]) (own := 1) (caps := []) ["cellar", "pulls", "takes", "turns", "unlocks"] (qe q07) (by decide +kernel)) rfl (q08 rfl T.n_range (qa (qB (lenK K) rfl T.n_len q0k (qa (qu (qi K) (pv 0) (qh (v := .int 4) rfl e_THINGS ⟨_, rfl⟩) (fun _ _ => rfl)) qd)) qd)) (fun _ _ _ _ => (qp (i := 0) (show List.Nodup (["number"] : List Str) by decide +kernel) rfl (Or.inl rfl))) (fun _ _ _ _ => q0y) (fun _ _ _ _ => (q0J C_Take hr (by decide) rfl (qa (pv 0) qd))))
   (qc (q22 (i := 3) q0r.nd rfl rfl (q0i (N := ["number"]) (own := 1) (caps := []) ["cellar", "pulls", "takes", "turns", "unlocks"] (qe q07) (by decide +kernel)) rfl (q08 rfl T.n_range (qa (qB (lenK K) rfl T.n_len q0k (qa (qu (qi K) (pv 0) (qh (v := .int 6) rfl e_WHEELS ⟨_, rfl⟩) (fun _ _ => rfl)) qd)) qd)) (fun _ _ _ _ => (qp (i := 0) (show List.Nodup (["number"] : List Str) by decide +kernel) rfl (Or.inl rfl))) (fun _ _ _ _ => q0y) (fun _ _ _ _ => (q0J C_Turn hr (by decide) rfl (qa (pv 0) qd))))
   (qc (q22 (i := 4) q0r.nd rfl rfl (q0i (N := ["number"]) (own := 1) (caps := []) ["cellar", "pulls", "takes", "turns", "unlocks"] (qe q07) (by decide +kernel)) rfl (q08 rfl T.n_range (qa (qB (lenK K) rfl T.n_len q0k (qa (qu (qi K) (pv 0) (qh (v := .int 3) rfl e_WAYS ⟨_, rfl⟩) (fun _ _ => rfl)) qd)) qd)) (fun _ _ _ _ => (qp (i := 0) (show List.Nodup (["number"] : List Str) by decide +kernel) rfl (Or.inl rfl))) (fun _ _ _ _ => q0y) (fun _ _ _ _ => (q0J C_Unlock hr (by decide) rfl (qa (pv 0) qd))))
   (qf (qj (qt q6k (qt q6k (qt q6k (qt q6k (qm C_all_goes hr (by decide) rfl (qa (pv 0) qd)) (pv 1)) (pv 2)) (pv 3)) (pv 4)))))))), ?_⟩
  walk_at "rd"
  intro D1 hD1
  refine q0G (fun i σ H' => ∃ v0, σ = [v0] /\ Same H H' /\ qT (DAt cs) H' D1 (rowD .pull i)) ⟨none, rfl, Same.upd hD1, ⟨[], qb, Rows.nil⟩⟩ ?_ ?_
  ·rintro i σ H' hi ⟨v0, rfl, s2, ps, hps, hrw⟩
   walk_at "rd"
   exact fun x dx hx hdx ne => q2h hD1 s2 (by have : i < lv.length := by simpa using hi
                                              omega) hps hrw hx hdx ne
  rintro σ H1 ⟨v0, rfl, s1, m1⟩
  rw [Int.toNat_natCast, hll] at m1
  have h01 := s1 _ _ h0
  have htv1 := s1 _ _ htv
  walk_at "rd"
  intro D2 hD2
  refine q0G (fun i σ H' => ∃ v0, σ = [v0] /\ Same H1 H' /\ qT (DAt cs) H' D2 (rowD .take i)) ⟨none, rfl, Same.upd hD2, ⟨[], qb, Rows.nil⟩⟩ ?_ ?_
  ·rintro i σ H' hi ⟨v0, rfl, s2, ps, hps, hrw⟩
   walk_at "rd"
   exact fun x dx hx hdx ne => q2h hD2 s2 (by have : i < tv.length := by simpa using hi
                                              omega) hps hrw hx hdx ne
  rintro σ H2 ⟨v0, rfl, s2, m2⟩
  rw [Int.toNat_natCast, htl] at m2
  have s02 := s1.trans s2
  have h02 := s02 _ _ h0
  have hvv2 := s02 _ _ hvv
  walk_at "rd"
  intro D3 hD3
  refine q0G (fun i σ H' => ∃ v0, σ = [v0] /\ Same H2 H' /\ qT (DAt cs) H' D3 (rowD .turn i)) ⟨none, rfl, Same.upd hD3, ⟨[], qb, Rows.nil⟩⟩ ?_ ?_
  ·rintro i σ H' hi ⟨v0, rfl, s2, ps, hps, hrw⟩
   walk_at "rd"
   exact fun x dx hx hdx ne => q2h hD3 s2 (by have : i < vv.length := by simpa using hi
                                              omega) hps hrw hx hdx ne
  rintro σ H3 ⟨v0, rfl, s3, m3⟩
  rw [Int.toNat_natCast, hvl] at m3
  have s03 := s02.trans s3
  have h03 := s03 _ _ h0
  have hwv3 := s03 _ _ hwv
  walk_at "rd"
  intro D4 hD4
  refine q0G (fun i σ H' => ∃ v0, σ = [v0] /\ Same H3 H' /\ qT (DAt cs) H' D4 (rowD .unlock i)) ⟨none, rfl, Same.upd hD4, ⟨[], qb, Rows.nil⟩⟩ ?_ ?_
  ·rintro i σ H' hi ⟨v0, rfl, s2, ps, hps, hrw⟩
   walk_at "rd"
   exact fun x dx hx hdx ne => q2h hD4 s2 (by have : i < wv.length := by simpa using hi
                                              omega) hps hrw hx hdx ne
  rintro σ H4 ⟨v0, rfl, s4, m4⟩
  rw [Int.toNat_natCast, hwl] at m4
  have s04 := s03.trans s4
  walk_at "rd"
  refine ⟨c, C, rfl, hC.mono s04.ts, ok, fun l5 H5 s5 hl5 m5 => ?_⟩
  obtain ⟨p1, e1, r1⟩ := m1
  obtain ⟨p2, e2, r2⟩ := m2
  obtain ⟨p3, e3, r3⟩ := m3
  obtain ⟨p4, e4, r4⟩ := m4
  obtain ⟨p5, e5, r5⟩ := m5
  have n1 := r1.1
  have n2 := r2.1
  have n3 := r3.1
  have n4 := r4.1
  have n5 := r5.1
  rw [q1L] at n1 n2 n3 n4 n5
  have s45 := s4.trans s5
  have s35 := s3.trans s45
  have s25 := s2.trans s35
  walk_at "rd"
  refine ⟨l5, D1, _, _, rfl, rfl, e5, s25 _ _ e1, by simp; omega, fun l6 hl6 => ?_⟩
  rw [<- List.map_append]
  have s6 := Same.upd (o := .lst ((p5 ++ p1).map V.ref)) hl6
  have e6 := qb (H := H5) (a := l6) (o := .lst ((p5 ++ p1).map V.ref))
  generalize upd H5 l6 (.lst ((p5 ++ p1).map V.ref)) = H6 at s6 e6 ⊢
  walk_at "rd"
  refine ⟨l6, D2, _, _, rfl, rfl, e6, s6 _ _ (s35 _ _ e2), by simp; omega, fun l7 hl7 => ?_⟩
  rw [<- List.map_append]
  have s7 := Same.upd (o := .lst ((p5 ++ p1 ++ p2).map V.ref)) hl7
  have e7 := qb (H := H6) (a := l7) (o := .lst ((p5 ++ p1 ++ p2).map V.ref))
  generalize upd H6 l7 (.lst ((p5 ++ p1 ++ p2).map V.ref)) = H7 at s7 e7 ⊢
  have s67 := s6.trans s7
  walk_at "rd"
  refine ⟨l7, D3, _, _, rfl, rfl, e7, s67 _ _ (s45 _ _ e3), by simp; omega, fun l8 hl8 => ?_⟩
  rw [<- List.map_append]
  have s8 := Same.upd (o := .lst ((p5 ++ p1 ++ p2 ++ p3).map V.ref)) hl8
  have e8 := qb (H := H7) (a := l8) (o := .lst ((p5 ++ p1 ++ p2 ++ p3).map V.ref))
  generalize upd H7 l8 (.lst ((p5 ++ p1 ++ p2 ++ p3).map V.ref)) = H8 at s8 e8 ⊢
  have s68 := s67.trans s8
  walk_at "rd"
  refine ⟨l8, D4, _, _, rfl, rfl, e8, s68 _ _ (s5 _ _ e4), by simp; omega, fun l9 hl9 => ?_⟩
  rw [<- List.map_append]
  have s9 := Same.upd (o := .lst ((p5 ++ p1 ++ p2 ++ p3 ++ p4).map V.ref)) hl9
  have e9 := qb (H := H8) (a := l9) (o := .lst ((p5 ++ p1 ++ p2 ++ p3 ++ p4).map V.ref))
  generalize upd H8 l9 (.lst ((p5 ++ p1 ++ p2 ++ p3 ++ p4).map V.ref)) = H9 at s9 e9 ⊢
  have s69 := s68.trans s9
  have s09 := (s04.trans s5).trans s69
  refine k l9 H9 s09 ?_ ⟨_, e9, ?_⟩
  ·exact (((s04.trans s5).trans s68).free hl9)
  ·exact q2T (q2T (q2T (q2T (r5.mono fun _ _ => DAt.mono s69) (r1.mono fun _ _ => DAt.mono (s25.trans s69))) (r2.mono fun _ _ => DAt.mono (s35.trans s69))) (r3.mono fun _ _ => DAt.mono (s45.trans s69))) (r4.mono fun _ _ => DAt.mono (s5.trans s69))
theorem qb5 (T : Txt mg cs) (L : Laid K mg "fit_deeds" q0I ["cellar", "stand"]) (C_all_deeds : Cal P w K mg base 5 "all_deeds" ["cellar"] (q7u cs)) (vc : ∀ d, VMeth P w K mg base 6 (dcls cs d) "can" ["self", "cellar", "stand"] (q7t cs d)) : Cal P w K mg base 7 "fit_deeds" ["cellar", "stand"] (q66 cs) := by
 refine L.cal (k := 6) q4J (fun vs H Q E h => ?_) (fun f cdv A outer s H vs Q E hr h => ?_)
 ·obtain ⟨c, q, C, st, rfl, _⟩ := h
  rfl
 ·obtain ⟨c, q, C, st, rfl, hC, ok, hq, sok, k⟩ := h
  have big := qD
  have hal := q6D ok
  refine ⟨_, (qf (qj (q0w (q0i (N := ["deed", "cellar", "stand"]) (own := 1) (caps := [0, 1]) ["cellar", "stand"] (qe q0I) (by decide +kernel)) rfl (q00 K (qm C_all_deeds hr (by decide) rfl (qa (pv 0) qd))) (fun _ _ _ _ => (qp (i := 0) (show List.Nodup (["deed", "cellar", "stand"] : List Str) by decide +kernel) rfl (Or.inl rfl))) (fun _ _ _ _ => (q7L (q0j (q6g (k := 6) P w K mg base hr (by decide) (pv 0) (qa (pv 1) (qa (pv 2) qd)))))) (fun _ _ _ _ => (pv 0))))), ?_⟩
  walk_at "rd"
  refine ⟨c, C, rfl, hC, ok, fun l H1 s1 hl0 m1 => ?_⟩
  obtain ⟨ps, e1, r1⟩ := m1
  walk_at "rd"
  intro D hD
  refine q2p (ps.map V.ref) (fun i σ H' => ∃ v0, σ = [v0, some (.ref c), some (.ref q)] /\ Same H1 H' /\ qT (DAt cs) H' D (((allD C).take i).filter fun x => canD C st x.1 (x.2 : Int))) ⟨none, rfl, Same.upd hD, ⟨[], qb, Rows.nil⟩⟩ ?_ ?_ ?_
  ·rintro i σ H' ⟨_, rfl, s2, _⟩
   exact SqL.of (s2 _ _ e1)
  ·rintro i x σ H' hx ⟨v0, rfl, s2, qs, hqs, hrw⟩
   have hi : i < (allD C).length := by have := (List.getElem?_eq_some_iff.mp hx).1; rw [List.length_map, r1.1] at this; exact this
   obtain ⟨p, ep, hob⟩ := r1.get hi
   rw [hx] at ep
   cases ep
   have hob2 := DAt.mono s2 hob
   obtain ⟨dx, hp⟩ := hob2.ex
   have s12 := s1.trans s2
   have hqlen : qs.length <= 100 := by
    rw [hrw.1]
    refine Nat.le_trans (List.length_filter_le _ _) ?_
    rw [List.length_take]; omega
   walk_at "rd"
   refine r_vm hp (vc _) (q8B _ _) ?_
   walk_at "rd"
   refine ⟨p, c, q, C, st, _, rfl, hob2, hC.mono s12.ts, ok, s12 _ _ hq, sok, fun H3 s3 => ?_⟩
   have hq3 := s3 _ _ hqs
   walk_at "rd"
   rw [List.take_succ_eq_append_getElem hi, List.filter_append]
   refine ite2 (fun hc => ?_) (fun hc => ?_)
   ·walk_at "rd"
    refine ⟨_, hq3, by rw [List.length_map]; omega, _, rfl, (s2.trans s3).put hD, ?_⟩
    rw [show ([(allD C)[i]].filter fun x => canD C st x.1 (x.2 : Int)) = [(allD C)[i]] by simp [hc]]
    exact q0F (fun _ _ => DAt.put hq3) (hrw.mono fun _ _ => DAt.mono s3) (DAt.mono s3 hob2)
   ·refine ⟨_, rfl, s2.trans s3, qs, hq3, ?_⟩
    rw [show ([(allD C)[i]].filter fun x => canD C st x.1 (x.2 : Int)) = [] by simp [hc], List.append_nil]
    exact hrw.mono fun _ _ => DAt.mono s3
  ·rintro σ H' ⟨v0, rfl, s2, m2⟩
   rw [List.length_map, r1.1, List.take_length] at m2
   exact k D H' (s1.trans s2) (s1.free hD) m2
theorem q6Y (T : Txt mg cs) (L : Laid K mg "deeds_at" q0Y ["cellar", "stand"]) (C_fit_deeds : Cal P w K mg base 7 "fit_deeds" ["cellar", "stand"] (q66 cs)) (vt : ∀ d, VMeth P w K mg base 1 (dcls cs d) "told" ["self"] (q3W cs d)) : Cal P w K mg base 8 "deeds_at" ["cellar", "stand"] q28 := by
 refine L.cal (k := 7) q5x (fun vs H Q E h => ?_) (fun f cdv A outer s H vs Q E hr h => ?_)
 ·obtain ⟨c, q, C, st, rfl, _⟩ := h
  rfl
 ·obtain ⟨c, q, C, st, rfl, hC, ok, hq, sok, k⟩ := h
  have big := qD
  have hal := q4k ok st
  refine ⟨_, (qf (qj (q0w (q0i (N := ["deed"]) (own := 1) (caps := []) ["cellar", "stand"] (qe q0Y) (by decide +kernel)) rfl (q00 K (qm C_fit_deeds hr (by decide) rfl (qa (pv 0) (qa (pv 1) qd)))) (fun _ _ _ _ => (qp (i := 0) (show List.Nodup (["deed"] : List Str) by decide +kernel) rfl (Or.inl rfl))) (fun _ _ _ _ => q0y) (fun _ _ _ _ => (q7M (k := 1) P w K mg base hr (by decide) (pv 0)))))), ?_⟩
  walk_at "rd"
  refine ⟨c, q, C, st, rfl, hC, ok, hq, sok, fun l H1 s1 hl0 m1 => ?_⟩
  obtain ⟨ps, e1, r1⟩ := m1
  walk_at "rd"
  intro D hD
  refine q2p (ps.map V.ref) (fun i σ H' => ∃ v0, σ = [v0] /\ Same H1 H' /\ qT TAt H' D ((fitD C st).take i)) ⟨none, rfl, Same.upd hD, ⟨[], qb, Rows.nil⟩⟩ ?_ ?_ ?_
  ·rintro i σ H' ⟨_, rfl, s2, _⟩
   exact SqL.of (s2 _ _ e1)
  ·rintro i x σ H' hx ⟨v0, rfl, s2, qs, hqs, hrw⟩
   have hi : i < (fitD C st).length := by have := (List.getElem?_eq_some_iff.mp hx).1; rw [List.length_map, r1.1] at this; exact this
   obtain ⟨p, ep, hob⟩ := r1.get hi
   rw [hx] at ep
   cases ep
   have hob2 := DAt.mono s2 hob
   obtain ⟨dx, hp⟩ := hob2.ex
   have hqlen : qs.length <= 100 := by
    rw [hrw.1, List.length_take]; omega
   walk_at "rd"
   refine r_vm hp (vt _) (q8z _ _) ?_
   refine ⟨p, _, rfl, hob2, fun t H3 s3 ht3 => ?_⟩
   have hq3 := s3 _ _ hqs
   refine ⟨_, hq3, by rw [List.length_map]; omega, _, rfl, (s2.trans s3).put hD, ?_⟩
   rw [List.take_succ_eq_append_getElem hi]
   exact q0F (fun _ _ => TAt.put hq3) (hrw.mono fun _ _ => TAt.mono s3.ts) ht3
  ·rintro σ H' ⟨v0, rfl, s2, m2⟩
   rw [List.length_map, r1.1, List.take_length] at m2
   exact k D H' (s1.trans s2) (s1.free hD) m2
theorem q7X (T : Txt mg cs) (L : Laid K mg "behind" q2S ["cellar", "stand", "deed"]) (C_deed_of : Cal P w K mg base 4 "deed_of" ["deed"] (qaG cs)) (vc : ∀ d, VMeth P w K mg base 6 (dcls cs d) "can" ["self", "cellar", "stand"] (q7t cs d)) (vd : ∀ d, VMeth P w K mg base 2 (dcls cs d) "done" ["self", "cellar", "stand"] (q27 cs d)) : Cal P w K mg base 7 "behind" ["cellar", "stand", "deed"] q2Q := by
 refine L.cal (k := 6) q4L (fun vs H Q E h => ?_) (fun f cdv A outer s H vs Q E hr h => ?_)
 ·obtain ⟨c, q, t, C, st, d, n, rfl, _⟩ := h
  rfl
 ·obtain ⟨c, q, t, C, st, d, n, rfl, hC, ok, hq, sok, ht, hc, k⟩ := h
  refine ⟨_, (qc (qv (i := 3) q4L.nd rfl (Or.inl rfl) (qm C_deed_of hr (by decide) rfl (qa (pv 2) qd)))
   (qc (qP (q1w (q0j (q2x (k := 6) (hr.mono (by decide)) (pv 3) (qa (pv 0) (qa (pv 1) qd))))) (qf q0E) qq)
   (qf (qj (q2x (k := 2) (hr.mono (by decide)) (pv 3) (qa (pv 0) (qa (pv 1) qd))))))), ?_⟩
  walk_at "rd"
  refine ⟨t, d, n, rfl, ht, fun x H1 s1 hx0 hob => ?_⟩
  obtain ⟨dx, hp⟩ := hob.ex
  walk_at "rd"
  refine r_vm hp (vc _) (q8B _ _) ?_
  walk_at "rd"
  refine ⟨x, c, q, C, st, n, rfl, hob, hC.mono s1.ts, ok, s1 _ _ hq, sok, fun H2 s2 => ?_⟩
  rw [hc]
  have s12 := s1.trans s2
  walk_at "rd"
  refine r_vm (s2 _ _ hp) (vd _) (q5T _ _) ?_
  walk_at "rd"
  exact ⟨x, c, q, C, st, n, rfl, hob.mono s2, hC.mono s12.ts, ok, s12 _ _ hq, sok, hc, fun r H3 s3 hr3 => k r H3 (s12.trans s3) hr3⟩
end
seal L2.PA L2.PE L2.PI L2.PS L2.PSs L2.PG L2.PT
def q0H (z : Str) : Option (List Int) :=
 if z = "plain" then some [] else if z = "door" then some [11] else if z = "need" then some [11] else if z = "bar" then some [7] else if z = "wade" then some [9, 11] else if z = "float" then some [9] else none
theorem q2E : q0H "plain" = some [] := by decide +kernel
theorem q32 : q0H "door" = some [11] := by decide +kernel
theorem q31 : q0H "need" = some [11] := by decide +kernel
theorem q3E : q0H "bar" = some [7] := by decide +kernel
theorem q30 : q0H "wade" = some [9, 11] := by decide +kernel
theorem q2F : q0H "float" = some [9] := by decide +kernel
theorem q5u {z : Str} (h1 : ¬ z = "plain") (h2 : ¬ z = "door") (h3 : ¬ z = "need") (h4 : ¬ z = "bar") (h5 : ¬ z = "wade") (h6 : ¬ z = "float") : q0H z = none := by
 unfold q0H
 rw [if_neg h1, if_neg h2, if_neg h3, if_neg h4, if_neg h5, if_neg h6]
def chk (n t : Int) : Bool := decide (0 <= n) && decide (n <= t)
def q2I (z : Str) (ns : List Int) : Bool := match q0H z with
 | none => false
 | some ts => decide (ns.length = ts.length) && (List.zipWith chk ns ts).all id
theorem q5N {z : Str} {ns : List Int} (h : q0H z = none) : q2I z ns = false := by unfold q2I; rw [h]
theorem q78 {z : Str} {ns ts : List Int} (h : q0H z = some ts) (hl : ¬ ns.length = ts.length) : q2I z ns = false := by unfold q2I; rw [h]; simp [hl]
theorem q0l {z : Str} {ns ts : List Int} (h : q0H z = some ts) (hl : ns.length = ts.length) : q2I z ns = (List.zipWith chk ns ts).all id := by unfold q2I; rw [h]; simp [hl]
theorem qaB : subS "tuple" "tuple" = true := by decide +kernel
theorem q5l (x : V) (l : List V) : cutV (x :: l) (some 1) none = l := by
 unfold cutV
 have e1 : HT.sIx (x :: l).length 0 (some 1) = 1 := by rw [show (1 : Int) = ((1 : Nat) : Int) from rfl, HT.qaJ]; simp
 have e2 : HT.sIx (x :: l).length (x :: l).length none = l.length + 1 := by rw [HT.q97]; rfl
 rw [e1, e2]
 simp
theorem q8p {g : Gt} (h : g.ok) : q2I g.word g.ns = true := by
 cases g with
 | plain => rw [q0l (z := Gt.plain.word) (ns := Gt.plain.ns) q2E rfl]; rfl
 | door k => have h' : 0 <= k /\ k < 12 := h; rw [q0l (z := (Gt.door k).word) (ns := (Gt.door k).ns) q32 rfl]; simp [Gt.ns, chk]; omega
 | need k => have h' : 0 <= k /\ k < 12 := h; rw [q0l (z := (Gt.need k).word) (ns := (Gt.need k).ns) q31 rfl]; simp [Gt.ns, chk]; omega
 | bar k => have h' : 0 <= k /\ k < 8 := h; rw [q0l (z := (Gt.bar k).word) (ns := (Gt.bar k).ns) q3E rfl]; simp [Gt.ns, chk]; omega
 | wade a k => have h' : (0 <= a /\ a < 10) /\ 0 <= k /\ k < 12 := h; rw [q0l (z := (Gt.wade a k).word) (ns := (Gt.wade a k).ns) q30 rfl]; simp [Gt.ns, chk]; omega
 | float k => have h' : 0 <= k /\ k < 10 := h; rw [q0l (z := (Gt.float k).word) (ns := (Gt.float k).ns) q2F rfl]; simp [Gt.ns, chk]; omega
def q3C (H : Hp) (v : V) (xs : List V) : Prop := (v = .non /\ xs = []) \/ (∃ p, v = .ref p /\ H p = some (.lst xs)) \/ ∃ p, v = .ref p /\ H p = some (.tup xs)
theorem q3C.mono {H H' : Hp} {v : V} {xs : List V} (s : Same H H') (h : q3C H v xs) : q3C H' v xs := by
 rcases h with h | ⟨p, e, h⟩ | ⟨p, e, h⟩
 ·exact .inl h
 ·exact .inr (.inl ⟨p, e, s _ _ h⟩)
 ·exact .inr (.inr ⟨p, e, s _ _ h⟩)
def qbJ (H : Hp) (x : V) : Prop := ∃ p ys, x = .ref p /\ H p = some (.tup ys)
def q2r (r : Int) (H : Hp) (x : V) : Prop := ∃ (p g : Addr) (a b : Int) (bk : Bool) (gt : Gt), x = .ref p /\ H p = some (.tup [.int a, .int b, .ref g, .bl bk]) /\ H g = some (.tup gt.vs) /\ gt.ok /\ (0 <= a /\ a < r) /\ (0 <= b /\ b < r) /\ a ≠ b
def qZ (r lo hi : Int) (H : Hp) (x : V) : Prop := ∃ (p : Addr) (a n : Int), x = .ref p /\ H p = some (.tup [.int a, .int n]) /\ (0 <= a /\ a < r) /\ lo <= n /\ n <= hi
theorem q2r.mono {r : Int} {H H' : Hp} {x : V} (s : q03 H H') (h : q2r r H x) : q2r r H' x := by
 obtain ⟨p, g, a, b, bk, gt, e, h1, h2, h3⟩ := h
 exact ⟨p, g, a, b, bk, gt, e, s _ _ h1, s _ _ h2, h3⟩
theorem qZ.mono {r lo hi : Int} {H H' : Hp} {x : V} (s : q03 H H') (h : qZ r lo hi H x) : qZ r lo hi H' x := by
 obtain ⟨p, a, n, e, h1, h3⟩ := h
 exact ⟨p, a, n, e, s _ _ h1, h3⟩
theorem q2r.row {r : Int} {H : Hp} {x : V} (h : q2r r H x) : qbJ H x := by
 obtain ⟨p, g, a, b, bk, gt, e, h1, h2, h3⟩ := h
 exact ⟨p, _, e, h1⟩
theorem qZ.row {r lo hi : Int} {H : Hp} {x : V} (h : qZ r lo hi H x) : qbJ H x := by
 obtain ⟨p, a, n, e, h1, h3⟩ := h
 exact ⟨p, _, e, h1⟩
def TupO (H : Hp) (v : V) : Option (List Int) -> Prop
 | none => v = .non
 | some l => ∃ p, v = .ref p /\ H p = some (.tup (l.map V.int))
def qa9 : Sp := fun vs H Q _ => ∃ z, vs = [.str z] /\ ∀ v H', Same H H' -> TupO H' v (q0H z) -> Q v H'
def q63 : Sp := fun vs H Q _ => ∃ (p : Addr) (z : Str) (ns : List Int), vs = [.ref p] /\ H p = some (.tup (.str z :: ns.map V.int)) /\ ns.length <= 10 /\ ∀ H', Same H H' -> Q (.bl (q2I z ns)) H'
def q3X : Sp := fun vs H Q _ => ∃ (z : Str) (n a b : Int), vs = [.str z, .int n, .int a, .int b] /\ a <= n /\ n <= b /\ Q .non H
def q7q : Sp := fun vs H Q _ => ∃ (z : Str) (v : V) (m : Int) (xs : List V), vs = [.str z, v, .int m] /\ q3C H v xs /\ (∀ x ∈ xs, qbJ H x) /\ xs.length <= m /\ m <= 20 /\ ∀ (p : Addr) (H' : Hp), Same H H' -> H' p = some (.tup xs) -> Q (.ref p) H'
def spMW : Sp := fun vs H Q _ => ∃ (r : Int) (v : V) (xs : List V), vs = [.int r, v] /\ q3C H v xs /\ (∀ x ∈ xs, q2r r H x) /\ xs.length <= 20 /\ ∀ (p : Addr) (H' : Hp), Same H H' -> H' p = some (.tup xs) -> Q (.ref p) H'
def spMP : Sp := fun vs H Q _ => ∃ (z : Str) (r : Int) (v : V) (m lo hi : Int) (xs : List V), vs = [.str z, .int r, v, .int m, .int lo, .int hi] /\ z.length <= 100 /\ q3C H v xs /\ (∀ x ∈ xs, qZ r lo hi H x) /\ xs.length <= m /\ m <= 20 /\ ∀ (p : Addr) (H' : Hp), Same H H' -> H' p = some (.tup xs) -> Q (.ref p) H'
def qaF : Sp := fun vs H Q _ => ∃ (r f l b wt : Int) (v1 v2 v3 v4 : V) (x1 x2 x3 x4 : List V), vs = [.int r, .int f, .int l, v1, v2, v3, v4, .int b, .int wt] /\ (1 <= r /\ r <= 14) /\ (0 <= f /\ f < r) /\ (0 <= l /\ l < r) /\ (0 <= b /\ b < 256) /\ (0 <= wt /\ wt < 10) /\
 q3C H v1 x1 /\ q3C H v2 x2 /\ q3C H v3 x3 /\ q3C H v4 x4 /\ (∀ x ∈ x1, q2r r H x) /\ (∀ x ∈ x2, qZ r 0 11 H x) /\ (∀ x ∈ x3, qZ r 1 255 H x) /\ (∀ x ∈ x4, qZ r 0 9 H x) /\ x1.length <= 20 /\ x2.length <= 8 /\ x3.length <= 4 /\ x4.length <= 4 /\
 ∀ (p p1 p2 p3 p4 : Addr) (H' : Hp), Same H H' -> H' p = some (.tup [.int r, .int f, .int l, .ref p1, .ref p2, .ref p3, .ref p4, .int b, .int wt]) -> H' p1 = some (.tup x1) -> H' p2 = some (.tup x2) -> H' p3 = some (.tup x3) -> H' p4 = some (.tup x4) -> Q (.ref p) H'
def q5v (K : W.Frag) : Sp := fun vs H Q _ => ∃ (a : Addr) (ns : List Int) (i : Int), vs = [.ref a, .int i] /\ SqL K H a (ns.map V.int) /\ ns.length <= 63 /\ 0 <= i /\ Q (.int (ns.getD i.toNat 0)) H
section
variable {P : Program} {w : World} {K : W.Frag} {mg : Str -> Option Value} {base : Heap} {cs : Cs}
theorem q6U (T : Txt mg cs) (L : Laid K mg "tops_of" q29 ["word"]) : Cal P w K mg base 1 "tops_of" ["word"] qa9 := by
 obtain ⟨t1, e_LAST_KIND⟩ := T.e_LAST_KIND
 obtain ⟨t2, e_LAST_BAR⟩ := T.e_LAST_BAR
 obtain ⟨t3, e_TOP_HEIGHT⟩ := T.e_TOP_HEIGHT
 refine L.cal (k := 0) q6N (fun vs H Q E h => ?_) (fun f cdv A outer s H vs Q E hr h => ?_)
 ·obtain ⟨z, rfl, _⟩ := h
  rfl
 ·obtain ⟨z, rfl, k⟩ := h
  refine ⟨_, (qc (qP (qr q09 (pv 0) qA (qw _)) (qf (qj (qM qd))) qq)
   (qc (qP (PW.pt (q38 (qr q09 (pv 0) qA (qw _)) (q2i (qr q09 (pv 0) qA (qw _))))) (qf (qj (qM (qa (qh (v := .int 11) rfl e_LAST_KIND ⟨_, rfl⟩) qd)))) qq)
   (qc (qP (qr q09 (pv 0) qA (qw _)) (qf (qj (qM (qa (qh (v := .int 7) rfl e_LAST_BAR ⟨_, rfl⟩) qd)))) qq)
   (qc (qP (qr q09 (pv 0) qA (qw _)) (qf (qj (qM (qa (qh (v := .int 9) rfl e_TOP_HEIGHT ⟨_, rfl⟩) (qa (qh (v := .int 11) rfl e_LAST_KIND ⟨_, rfl⟩) qd))))) qq)
   (qc (qP (qr q09 (pv 0) qA (qw _)) (qf (qj (qM (qa (qh (v := .int 9) rfl e_TOP_HEIGHT ⟨_, rfl⟩) qd)))) qq)
   (qf (qj q7N))))))), ?_⟩
  have fin : ∀ l : List Int, q0H z = some l -> ∀ p, H p = none -> Q (.ref p) (upd H p (.tup (l.map V.int))) := fun l e p hp => k _ _ (Same.upd hp) (by rw [e]; exact ⟨p, rfl, qb⟩)
  have S : ∀ {y : Str}, decide (V.str z = V.str y) = true -> z = y := fun h => by have := of_decide_eq_true h; cases this; rfl
  have N : ∀ {y : Str}, ¬ decide (V.str z = V.str y) = true -> ¬ z = y := fun h e => h (by rw [e]; exact decide_eq_true rfl)
  refine ⟨_, rfl, rfl, _, rfl, ite2 (fun h1 => ?_) (fun h1 => ?_)⟩
  ·exact ⟨by decide, fun p hp => fin [] (by rw [S h1]; exact q2E) p hp⟩
  refine ⟨_, rfl, rfl, _, rfl, ?_⟩
  refine ite2 (fun h2 => ?_) (fun h2 => ?_)
  ·refine iteT ?_
   exact ⟨by decide, fun p hp => fin [11] (by rw [S h2]; exact q32) p hp⟩
  refine ⟨_, rfl, rfl, _, rfl, ite2 (fun h3 => ?_) (fun h3 => ?_)⟩
  ·exact ⟨by decide, fun p hp => fin [11] (by rw [S h3]; exact q31) p hp⟩
  refine ⟨_, rfl, rfl, _, rfl, ite2 (fun h4 => ?_) (fun h4 => ?_)⟩
  ·exact ⟨by decide, fun p hp => fin [7] (by rw [S h4]; exact q3E) p hp⟩
  refine ⟨_, rfl, rfl, _, rfl, ite2 (fun h5 => ?_) (fun h5 => ?_)⟩
  ·exact ⟨by decide, fun p hp => fin [9, 11] (by rw [S h5]; exact q30) p hp⟩
  refine ⟨_, rfl, rfl, _, rfl, ite2 (fun h6 => ?_) (fun h6 => ?_)⟩
  ·exact ⟨by decide, fun p hp => fin [9] (by rw [S h6]; exact q2F) p hp⟩
  exact k _ _ (Same.refl _) (by rw [q5u (N h1) (N h2) (N h3) (N h4) (N h5) (N h6)]; rfl)
theorem q6V (T : Txt mg cs) (L : Laid K mg "is_gate" q1B ["thing"]) (C_tops_of : Cal P w K mg base 1 "tops_of" ["word"] qa9) (C_within : Cal P w K mg base 1 "within" ["number", "least", "most"] q26) : Cal P w K mg base 2 "is_gate" ["thing"] q63 := by
 refine L.cal (k := 1) q2t (fun vs H Q E h => ?_) (fun f cdv A outer s H vs Q E hr h => ?_)
 ·obtain ⟨p, z, ns, rfl, _⟩ := h
  rfl
 ·obtain ⟨p, z, ns, rfl, hp, hl, k⟩ := h
  refine ⟨_, (qc (qP (PW.pt (q38 (q1w (q0j (qB q0L rfl T.n_isinstance q02 (qa (pv 0) (qa (q23 (v := .ty "tuple") rfl T.n_tuple q0q rfl) qd))))) (q2i (qr q09 (qB (lenK K) rfl T.n_len q0k (qa (pv 0) qd)) qg (qw _))))) (qf (qj q2N)) qq)
   (qc (qv (i := 1) q2t.nd rfl (Or.inl rfl) (qm C_tops_of hr (by decide) rfl (qa (qu (qi K) (pv 0) qg (fun _ _ => rfl)) qd)))
   (qc (qv (i := 2) q2t.nd rfl (Or.inl rfl) (q4a (q3Z K) (pv 0) (q5D qg) q5E))
   (qc (qP (PW.pt (q38 (q3I (q6i (pv 1))) (q2i (qr qaY (qB (lenK K) rfl T.n_len q0k (qa (pv 2) qd)) (qB (lenK K) rfl T.n_len q0k (qa (pv 1) qd)) (qw _))))) (qf (qj q2N)) qq)
   (qf (qj (qB (q8S K rfl) rfl T.n_all bt_all (qa (q0w (q0i (N := ["number", "top"]) (own := 2) (caps := []) ["thing", "tops", "numbers"] (qe q1B) (by decide +kernel)) rfl (q9i K rfl T.n_zip (qa (pv 2) (qa (pv 1) qd))) (fun _ _ _ _ => (q1E (n := 2) K rfl (qG (qp (i := 0) (show List.Nodup (["number", "top"] : List Str) by decide +kernel) rfl (Or.inl rfl)) (qG (qp (i := 1) (show List.Nodup (["number", "top"] : List Str) by decide +kernel) rfl (Or.inl rfl)) q1D)))) (fun _ _ _ _ => q0y) (fun _ _ _ _ => (qm C_within hr (by decide) rfl (qa (pv 0) (qa qg (qa (pv 1) qd)))))) qd)))))))), ?_⟩
  refine ⟨_, rfl, _, "tuple", "tuple", rfl, q7e hp, by decide, _, rfl, ?_⟩
  rw [qaB]
  refine iteF ?_
  refine ⟨_, rfl, p, _, rfl, .inr (SqT.of hp), rfl, _, rfl, ite2 (fun h1 => ?_) (fun _ => ?_)⟩
  ·have := of_decide_eq_true h1
   simp at this
   omega
  refine ⟨_, rfl, p, _, _, _, rfl, rfl, SqT.of hp, q0x (j := 0) rfl, z, rfl, fun v H1 s1 tv => ?_⟩
  have hp1 := s1 _ _ hp
  refine ⟨_, rfl, _, rfl, p, _, rfl, SqT.of hp1, fun e => ?_, fun q hq => ?_⟩
  ·rw [q5l] at e
   have := congrArg List.length e
   simp at this
  rw [q5l]
  have s2 : Same H (upd H1 q (.tup (ns.map V.int))) := s1.trans (Same.upd hq)
  cases ht : q0H z with
  | none =>
   rw [ht] at tv
   obtain rfl : v = .non := tv
   refine ⟨_, rfl, _, rfl, iteT (iteT ?_)⟩
   have := k _ s2
   rw [q5N ht] at this
   exact this
  | some ts =>
   rw [ht] at tv
   obtain ⟨r, rfl, hr0⟩ := tv
   have hr1 : (upd H1 q (.tup (ns.map V.int))) r = some (.tup (ts.map V.int)) := by rw [ql (qk hr0 hq)]; exact hr0
   refine ⟨_, rfl, _, rfl, iteF ?_⟩
   refine ⟨_, rfl, q, _, rfl, .inr (SqT.of qb), _, rfl, r, _, rfl, .inr (SqT.of hr1), rfl, _, rfl, ite2 (fun h1 => ?_) (fun h1 => ?_)⟩
   ·have hne : ¬ ns.length = ts.length := fun e => by simp [e] at h1
    have := k _ s2
    rw [q78 ht hne] at this
    exact this
   ·have hlen : ns.length = ts.length := by
     simp at h1
     omega
    refine ⟨_, rfl, _, rfl, q, r, rfl, ⟨_, SqT.of qb⟩, ⟨_, SqT.of hr1⟩, fun D hD => ?_⟩
    refine q3k ns.length (fun i σ H' => ∃ v0 v1, σ = [v0, v1] /\ Same (upd H1 q (.tup (ns.map V.int))) H' /\ H' D = some (.lst (((List.zipWith chk ns ts).take i).map V.bl))) ⟨none, none, rfl, Same.upd hD, qb⟩ ?_ ?_
    ·rintro i σ H' hi ⟨v0, v1, rfl, s3, hD3⟩
     have hq3 := s3 _ _ (qb (H := H1) (a := q) (o := .tup (ns.map V.int)))
     have hr3 := s3 _ _ hr1
     refine ⟨⟨_, _, V.int (ns.getD i 0), V.int (ts.getD i 0), SqT.of hq3, SqT.of hr3, by simp [List.getD, hi], by simp [List.getD, show i < ts.length by omega]⟩, ?_⟩
     rintro x H4 ⟨t, ht0, rfl, hy⟩
     have e4 := hy _ _ (V.int (ns.getD i 0)) (V.int (ts.getD i 0)) (SqT.of hq3) (SqT.of hr3) (by simp [List.getD, hi]) (by simp [List.getD, show i < ts.length by omega])
     subst e4
     refine ⟨t, _, rfl, SqT.of qb, rfl, _, _, rfl, _, _, rfl, rfl, ?_⟩
     have nD : D ≠ t := qk hD3 ht0
     refine ⟨_, rfl, _, rfl, _, _, _, rfl, _, (by rw [ql nD]; exact hD3), ?_, _, _, rfl, ?_, ?_⟩
     ·rw [List.length_map, List.length_take]
      exact Nat.lt_of_le_of_lt (Nat.min_le_left _ _) (Nat.lt_trans hi (Nat.lt_of_le_of_lt hl (by decide)))
     ·intro b o e
      have nb : b ≠ D := qk e hD
      rw [ql nb, ql (qk (s3 b o e) ht0)]
      exact s3 b o e
     ·rw [qb, List.take_add_one]
      have e5 : (List.zipWith chk ns ts)[i]? = some (chk (ns.getD i 0) (ts.getD i 0)) := by
       rw [List.getElem?_zipWith]
       simp [List.getD, hi, show i < ts.length by omega]
      rw [e5]
      simp [chk]
    ·rintro σ H' ⟨v0, v1, rfl, s3, hD3⟩
     have hq3 := s3 _ _ (qb (H := H1) (a := q) (o := .tup (ns.map V.int)))
     have hr3 := s3 _ _ hr1
     refine ⟨⟨_, _, SqT.of hq3, SqT.of hr3, .inl (by simp)⟩, D, List.zipWith chk ns ts, rfl, SqL.of ?_, ?_⟩
     ·rw [hD3, List.take_of_length_le (by rw [List.length_zipWith]; omega)]
     ·have := k _ (s2.trans s3)
      rw [q0l ht hlen] at this
      exact this
theorem q9z (T : Txt mg cs) (L : Laid K mg "_law_cell_at" q0o ["_law_script", "_law_k"]) : Cal P w K mg base 1 "_law_cell_at" ["_law_script", "_law_k"] (q5v K) := by
 refine L.cal (k := 0) q36 (fun vs H Q E h => ?_) (fun f cdv A outer s H vs Q E hr h => ?_)
 ·obtain ⟨a, ns, i, rfl, _⟩ := h
  rfl
 ·obtain ⟨a, ns, i, rfl, hS, hl, h0, k⟩ := h
  refine ⟨_, (qc (qP (qr qaZ (pv 1) (qB (lenK K) rfl T.n_len q0k (qa (pv 0) qd)) (qw _)) (qf (qj (qu (qS K) (pv 0) (pv 1) (fun _ _ => rfl)))) qq)
   (qf (qj qg))), ?_⟩
  walk_at "rd"
  refine ifd (fun h => ?_) (fun h => ?_)
  ·rw [List.length_map] at h
   obtain ⟨j, rfl⟩ : ∃ j : Nat, i = (j : Int) := ⟨i.toNat, by omega⟩
   walk_at "rd"
   refine q47 hS (qa3 (by omega)) ?_
   rw [Int.toNat_natCast] at k
   exact k
  ·rw [List.length_map] at h
   walk_at "rd"
   rw [show ns.getD i.toNat 0 = 0 by simp [List.getD, show ns.length <= i.toNat by omega]] at k
   exact k
theorem q9x (T : Txt mg cs) (L : Laid K mg "check_number" q0n ["name", "number", "least", "most"]) (C_within : Cal P w K mg base 1 "within" ["number", "least", "most"] q26) : Cal P w K mg base 2 "check_number" ["name", "number", "least", "most"] q3X := by
 refine L.cal (k := 1) q35 (fun vs H Q E h => ?_) (fun f cdv A outer s H vs Q E hr h => ?_)
 ·obtain ⟨z, n, a, b, rfl, _⟩ := h
  rfl
 ·obtain ⟨z, n, a, b, rfl, h1, h2, k⟩ := h
  refine ⟨_, (qf (qP (q1w (q0j (qm C_within hr (by decide) rfl (qa (pv 1) (qa (pv 2) (qa (pv 3) qd)))))) (qf q0E) qq)), ?_⟩
  walk_at "rd"
  refine ⟨n, a, b, rfl, ?_⟩
  rw [show (decide (a <= n) && decide (n <= b)) = true by simp [h1, h2]]
  walk_at "rd"
  exact k
theorem qb1 (T : Txt mg cs) (L : Laid K mg "made_rows" q0d ["name", "rows", "most"]) : Cal P w K mg base 1 "made_rows" ["name", "rows", "most"] q7q := by
 refine L.cal (k := 0) q0N (fun vs H Q E h => ?_) (fun f cdv A outer s H vs Q E hr h => ?_)
 ·obtain ⟨z, v, m, xs, rfl, _⟩ := h
  rfl
 ·obtain ⟨z, v, m, xs, rfl, hv, ok, h1, h2, k⟩ := h
  have big := qD
  have step : ∀ (D : Addr) (H' : Hp) (i : Nat) (x : V), H D = none -> xs[i]? = some x -> Same H H' -> H' D = some (.lst (xs.take i)) -> ∃ ys, H' D = some (.lst ys) /\ ys.length < sizeLine /\ ∃ v0, ([some x] : St) = [v0] /\ Same H (upd H' D (.lst (ys ++ [x]))) /\ (upd H' D (.lst (ys ++ [x]))) D = some (.lst (xs.take (i + 1))) := by
   intro D H' i x hD hx s1 hd
   refine ⟨_, hd, by rw [List.length_take]; omega, _, rfl, s1.put hD, ?_⟩
   rw [qb, List.take_add_one, hx]
   rfl
  have gt : ∀ n : Nat, n = xs.length -> ((n : Int) > m) -> False := fun n e h => by omega
  rcases hv with ⟨rfl, rfl⟩ | ⟨p, rfl, hp⟩ | ⟨p, rfl, hp⟩
  ·refine ⟨_, (qc (qv (i := 3) q0N.nd rfl (Or.inl rfl) (q2j (q3I (q6i (pv 1))) (qM qd) (q0u (q3D K) rfl T.n_tuple q0q (qa (q0w (q0i (N := ["row"]) (own := 1) (caps := []) ["name", "rows", "most", "made"] (qe q0d) (by decide +kernel)) rfl (q00 K (pv 1)) (fun _ _ _ _ => (qp (i := 0) (show List.Nodup (["row"] : List Str) by decide +kernel) rfl (Or.inl rfl))) (fun _ _ _ _ => q0y) (fun _ _ _ _ => (q0u (q3D K) rfl T.n_tuple q0q (qa (pv 0) qd)))) qd))))
   (qc (qP (qr q59 (qB (lenK K) rfl T.n_len q0k (qa (pv 3) qd)) (pv 2) (qw _)) (qf q0E) qq)
   (qf (qj (pv 3))))), ?_⟩
   walk_at "rd"
   walk_at "eq"
   walk_at "rd"
   intro q hq
   walk_at "rd"
   refine ifd (fun h => (gt 0 rfl h).elim) (fun _ => ?_)
   walk_at "rd"
   exact k q _ (Same.upd hq) qb
  ·refine ⟨_, (qc (qv (i := 3) q0N.nd rfl (Or.inl rfl) (q2j (q3I (q6i (pv 1))) (qM qd) (q0u (q3D K) rfl T.n_tuple q0q (qa (q0w (q0i (N := ["row"]) (own := 1) (caps := []) ["name", "rows", "most", "made"] (qe q0d) (by decide +kernel)) rfl (q00 K (pv 1)) (fun _ _ _ _ => (qp (i := 0) (show List.Nodup (["row"] : List Str) by decide +kernel) rfl (Or.inl rfl))) (fun _ _ _ _ => q0y) (fun _ _ _ _ => (q0u (q3D K) rfl T.n_tuple q0q (qa (pv 0) qd)))) qd))))
   (qc (qP (qr q59 (qB (lenK K) rfl T.n_len q0k (qa (pv 3) qd)) (pv 2) (qw _)) (qf q0E) qq)
   (qf (qj (pv 3))))), ?_⟩
   walk_at "rd"
   refine ifd (fun h => nomatch h) (fun _ => ?_)
   walk_at "rd"
   intro D hD
   refine q2p xs (fun i σ H' => ∃ v0, σ = [v0] /\ Same H H' /\ H' D = some (.lst (xs.take i))) ⟨none, rfl, Same.upd hD, by rw [qb]; rfl⟩ ?_ ?_ ?_
   ·rintro i σ H' ⟨_, rfl, s1, _⟩
    exact SqL.of (s1 _ _ hp)
   ·rintro i x σ H' hx ⟨v0, rfl, s1, hd⟩
    obtain ⟨a, ys, rfl, ha⟩ := ok x (List.mem_of_getElem? hx)
    have ha1 := s1 _ _ ha
    walk_at "rd"
    exact r_tot (SqT.of ha1) (step D H' i _ hD hx s1 hd)
   ·rintro σ H' ⟨v0, rfl, s1, hd⟩
    rw [List.take_length] at hd
    walk_at "rd"
    refine r_tol (SqL.of hd) fun q hq => ?_
    walk_at "rd"
    refine ifd (fun h => (gt _ rfl h).elim) (fun _ => ?_)
    walk_at "rd"
    exact k q _ (s1.trans (Same.upd hq)) qb
  ·refine ⟨_, (qc (qv (i := 3) q0N.nd rfl (Or.inl rfl) (q2j (q3I (q6i (pv 1))) (qM qd) (q0u (q3D K) rfl T.n_tuple q0q (qa (q0w (q0i (N := ["row"]) (own := 1) (caps := []) ["name", "rows", "most", "made"] (qe q0d) (by decide +kernel)) rfl (q49 K (pv 1)) (fun _ _ _ _ => (qp (i := 0) (show List.Nodup (["row"] : List Str) by decide +kernel) rfl (Or.inl rfl))) (fun _ _ _ _ => q0y) (fun _ _ _ _ => (q0u (q3D K) rfl T.n_tuple q0q (qa (pv 0) qd)))) qd))))
   (qc (qP (qr q59 (qB (lenK K) rfl T.n_len q0k (qa (pv 3) qd)) (pv 2) (qw _)) (qf q0E) qq)
   (qf (qj (pv 3))))), ?_⟩
   walk_at "rd"
   refine ifd (fun h => nomatch h) (fun _ => ?_)
   walk_at "rd"
   intro D hD
   refine q6w xs (fun i σ H' => ∃ v0, σ = [v0] /\ Same H H' /\ H' D = some (.lst (xs.take i))) ⟨none, rfl, Same.upd hD, by rw [qb]; rfl⟩ ?_ ?_ ?_
   ·rintro i σ H' ⟨_, rfl, s1, _⟩
    exact SqT.of (s1 _ _ hp)
   ·rintro i x σ H' hx ⟨v0, rfl, s1, hd⟩
    obtain ⟨a, ys, rfl, ha⟩ := ok x (List.mem_of_getElem? hx)
    have ha1 := s1 _ _ ha
    walk_at "rd"
    exact r_tot (SqT.of ha1) (step D H' i _ hD hx s1 hd)
   ·rintro σ H' ⟨v0, rfl, s1, hd⟩
    rw [List.take_length] at hd
    walk_at "rd"
    refine r_tol (SqL.of hd) fun q hq => ?_
    walk_at "rd"
    refine ifd (fun h => (gt _ rfl h).elim) (fun _ => ?_)
    walk_at "rd"
    exact k q _ (s1.trans (Same.upd hq)) qb
theorem ok_mw (T : Txt mg cs) (L : Laid K mg "made_ways" q18 ["rooms", "ways"]) (C_check_number : Cal P w K mg base 2 "check_number" ["name", "number", "least", "most"] q3X) (C_made_rows : Cal P w K mg base 1 "made_rows" ["name", "rows", "most"] q7q) (C_is_gate : Cal P w K mg base 2 "is_gate" ["thing"] q63) : Cal P w K mg base 3 "made_ways" ["rooms", "ways"] spMW := by
 obtain ⟨t1, e_MOST_WAYS⟩ := T.e_MOST_WAYS
 refine L.cal (k := 2) q0f (fun vs H Q E h => ?_) (fun f cdv A outer s H vs Q E hr h => ?_)
 ·obtain ⟨r, v, xs, rfl, _⟩ := h
  rfl
 ·obtain ⟨r, v, xs, rfl, hv, ok, h1, k⟩ := h
  refine ⟨_, (qc (qv (i := 2) q0f.nd rfl (Or.inl rfl) (qm C_made_rows hr (by decide) rfl (qa qA (qa (pv 1) (qa (qh (v := .int 20) rfl e_MOST_WAYS ⟨_, rfl⟩) qd)))))
   (qc (q0t PassesOwn.never rfl (q49 K (pv 2)) (q1E (n := 4) K rfl (qG (qp (i := 3) q0f.nd rfl (Or.inl rfl)) (qG (qp (i := 4) q0f.nd rfl (Or.inl rfl)) (qG (qp (i := 5) q0f.nd rfl (Or.inl rfl)) (qG (qp (i := 6) q0f.nd rfl (Or.inl rfl)) q1D))))) (qc (qJ (qm C_check_number hr (by decide) rfl (qa qA (qa (pv 3) (qa qg (qa (qt q3a (pv 0) qg) qd))))))
   (qc (qJ (qm C_check_number hr (by decide) rfl (qa qA (qa (pv 4) (qa qg (qa (qt q3a (pv 0) qg) qd))))))
   (qc (qP (qr q09 (pv 3) (pv 4) (qw _)) (qf q0E) qq)
   (qf (qP (q1w (q0j (qm C_is_gate hr (by decide) rfl (qa (pv 5) qd)))) (qf q0E) qq))))))
   (qf (qj (pv 2))))), ?_⟩
  walk_at "rd"
  refine ⟨_, v, 20, xs, rfl, hv, fun x hx => (ok x hx).row, by omega, by omega, fun p H1 s1 hp => ?_⟩
  walk_at "rd"
  refine q8q xs (fun i σ H' => ∃ v3 v4 v5 v6, σ = [some (.int r), some v, some (.ref p), v3, v4, v5, v6] /\ Same H1 H') ⟨none, none, none, none, rfl, Same.refl _⟩ ?_ ?_ ?_
  ·rintro i σ H' ⟨_, _, _, _, rfl, s2⟩
   exact SqT.of (s2 _ _ hp)
  ·rintro i x σ H' hx ⟨v3, v4, v5, v6, rfl, s2⟩
   obtain ⟨p1, g, a, b, bk, gt, rfl, hp1, hg, gok, ha, hb, hab⟩ := (ok x (List.mem_of_getElem? hx)).mono (s1.trans s2).ts
   walk_at "rd"
   refine ⟨_, a, 0, r - 1, rfl, by omega, by omega, ?_⟩
   walk_at "rd"
   refine ⟨_, b, 0, r - 1, rfl, by omega, by omega, ?_⟩
   walk_at "rd"
   refine ifd (fun h => absurd h hab) (fun _ => ?_)
   walk_at "rd"
   refine ⟨g, gt.word, gt.ns, rfl, by rw [<- Gt.vs_eq]; exact hg, by have := gt.ns_len; omega, fun H2 s3 => ?_⟩
   rw [q8p gok]
   walk_at "rd"
   exact ⟨_, _, _, _, rfl, s2.trans s3⟩
  ·rintro σ H' ⟨v3, v4, v5, v6, rfl, s2⟩
   walk_at "rd"
   exact k p H' (s1.trans s2) (s2 _ _ hp)
theorem ok_mp (T : Txt mg cs) (L : Laid K mg "made_pairs" q0O ["name", "rooms", "pairs", "most_pairs", "least", "most"]) (C_check_number : Cal P w K mg base 2 "check_number" ["name", "number", "least", "most"] q3X) (C_made_rows : Cal P w K mg base 1 "made_rows" ["name", "rows", "most"] q7q) : Cal P w K mg base 3 "made_pairs" ["name", "rooms", "pairs", "most_pairs", "least", "most"] spMP := by
 refine L.cal (k := 2) q0z (fun vs H Q E h => ?_) (fun f cdv A outer s H vs Q E hr h => ?_)
 ·obtain ⟨z, r, v, m, lo, hi, xs, rfl, _⟩ := h
  rfl
 ·obtain ⟨z, r, v, m, lo, hi, xs, rfl, hz, hv, ok, h1, h2, k⟩ := h
  have big := qD
  have l1 : (", a room" : Str).length = 8 := by decide +kernel
  have l2 : (", a number" : Str).length = 10 := by decide +kernel
  have lz : z.length <= sizeLine := by omega
  refine ⟨_, (qc (qv (i := 6) q0z.nd rfl (Or.inl rfl) (qm C_made_rows hr (by decide) rfl (qa (pv 0) (qa (pv 2) (qa (pv 3) qd)))))
   (qc (q0t PassesOwn.never rfl (q49 K (pv 6)) (q1E (n := 2) K rfl (qG (qp (i := 7) q0z.nd rfl (Or.inl rfl)) (qG (qp (i := 8) q0z.nd rfl (Or.inl rfl)) q1D))) (qc (qJ (qm C_check_number hr (by decide) rfl (qa (pe_fs (pe_fv (pv 0)) qA) (qa (pv 7) (qa qg (qa (qt q3a (pv 1) qg) qd))))))
   (qf (qJ (qm C_check_number hr (by decide) rfl (qa (pe_fs (pe_fv (pv 0)) qA) (qa (pv 8) (qa (pv 4) (qa (pv 5) qd)))))))))
   (qf (qj (pv 6))))), ?_⟩
  walk_at "rd"
  refine ⟨z, v, m, xs, rfl, hv, fun x hx => (ok x hx).row, by omega, by omega, fun p H1 s1 hp => ?_⟩
  walk_at "rd"
  refine q8q xs (fun i σ H' => ∃ v7 v8, σ = [some (.str z), some (.int r), some v, some (.int m), some (.int lo), some (.int hi), some (.ref p), v7, v8] /\ Same H1 H') ⟨none, none, rfl, Same.refl _⟩ ?_ ?_ ?_
  ·rintro i σ H' ⟨_, _, rfl, s2⟩
   exact SqT.of (s2 _ _ hp)
  ·rintro i x σ H' hx ⟨v7, v8, rfl, s2⟩
   obtain ⟨p1, a, n, rfl, hp1, ha, hn⟩ := (ok x (List.mem_of_getElem? hx)).mono (s1.trans s2).ts
   walk_at "rd"
   refine ⟨z, rfl, lz, z, rfl, lz, ?_⟩
   walk_at "rd"
   refine ⟨_, rfl, by rw [l1]; omega, fun z1 _ => ?_⟩
   walk_at "rd"
   refine ⟨z1, a, 0, r - 1, rfl, by omega, by omega, ?_⟩
   walk_at "rd"
   refine ⟨z, rfl, lz, z, rfl, lz, ?_⟩
   walk_at "rd"
   refine ⟨_, rfl, by rw [l2]; omega, fun z2 _ => ?_⟩
   walk_at "rd"
   refine ⟨z2, n, lo, hi, rfl, by omega, by omega, ?_⟩
   walk_at "rd"
   exact ⟨_, _, rfl, s2⟩
  ·rintro σ H' ⟨v7, v8, rfl, s2⟩
   walk_at "rd"
   exact k p H' (s1.trans s2) (s2 _ _ hp)
theorem ok_mkc {d1 d2 : Tok} (T : Txt mg cs) (L : LaidD K mg "cellar" q0P [.none, .none, .none, .int 0 d1, .int 0 d2]) (C_check_number : Cal P w K mg base 2 "check_number" ["name", "number", "least", "most"] q3X) (C_made_ways : Cal P w K mg base 3 "made_ways" ["rooms", "ways"] spMW)
  (C_made_pairs : Cal P w K mg base 3 "made_pairs" ["name", "rooms", "pairs", "most_pairs", "least", "most"] spMP) : CalD P w K mg base 4 "cellar" ["rooms", "first", "last", "ways", "things", "levers", "wheels", "bars", "water"] qaF q0P [.none, .none, .none, .int 0 d1, .int 0 d2] := by
 obtain ⟨t1, e_MOST_ROOMS⟩ := T.e_MOST_ROOMS
 obtain ⟨t2, e_ALL_BARS⟩ := T.e_ALL_BARS
 obtain ⟨t3, e_TOP_HEIGHT⟩ := T.e_TOP_HEIGHT
 obtain ⟨t4, e_MOST_THINGS⟩ := T.e_MOST_THINGS
 obtain ⟨t5, e_MOST_LEVERS⟩ := T.e_MOST_LEVERS
 obtain ⟨t6, e_MOST_WHEELS⟩ := T.e_MOST_WHEELS
 obtain ⟨t7, e_LAST_KIND⟩ := T.e_LAST_KIND
 refine L.cal (k := 3) q7y (fun vs H Q E h => ?_) (fun f cdv A outer s H vs Q E hr h => ?_)
 ·obtain ⟨r, f, l, b, wt, v1, v2, v3, v4, x1, x2, x3, x4, rfl, _⟩ := h
  rfl
 ·obtain ⟨r, f, l, b, wt, v1, v2, v3, v4, x1, x2, x3, x4, rfl, hr0, hf, hl, hb, hw, i1, i2, i3, i4, o1, o2, o3, o4, l1, l2, l3, l4, k⟩ := h
  have n1 : ("things" : Str).length <= 100 := by decide +kernel
  have n2 : ("levers" : Str).length <= 100 := by decide +kernel
  have n3 : ("wheels" : Str).length <= 100 := by decide +kernel
  refine ⟨_, (qc (qJ (qm C_check_number hr (by decide) rfl (qa qA (qa (pv 0) (qa qg (qa (qh (v := .int 14) rfl e_MOST_ROOMS ⟨_, rfl⟩) qd))))))
   (qc (qJ (qm C_check_number hr (by decide) rfl (qa qA (qa (pv 1) (qa qg (qa (qt q3a (pv 0) qg) qd))))))
   (qc (qJ (qm C_check_number hr (by decide) rfl (qa qA (qa (pv 2) (qa qg (qa (qt q3a (pv 0) qg) qd))))))
   (qc (qJ (qm C_check_number hr (by decide) rfl (qa qA (qa (pv 7) (qa qg (qa (qh (v := .int 255) rfl e_ALL_BARS ⟨_, rfl⟩) qd))))))
   (qc (qJ (qm C_check_number hr (by decide) rfl (qa qA (qa (pv 8) (qa qg (qa (qh (v := .int 9) rfl e_TOP_HEIGHT ⟨_, rfl⟩) qd))))))
   (qf (qj (qM (qa (pv 0) (qa (pv 1) (qa (pv 2) (qa (qm C_made_ways hr (by decide) rfl (qa (pv 0) (qa (pv 3) qd))) (qa (qm C_made_pairs hr (by decide) rfl (qa qA (qa (pv 0) (qa (pv 4) (qa (qh (v := .int 8) rfl e_MOST_THINGS ⟨_, rfl⟩) (qa qg (qa (qh (v := .int 11) rfl e_LAST_KIND ⟨_, rfl⟩) qd))))))) (qa (qm C_made_pairs hr (by decide) rfl (qa qA (qa (pv 0) (qa (pv 5) (qa (qh (v := .int 4) rfl e_MOST_LEVERS ⟨_, rfl⟩) (qa qg (qa (qh (v := .int 255) rfl e_ALL_BARS ⟨_, rfl⟩) qd))))))) (qa (qm C_made_pairs hr (by decide) rfl (qa qA (qa (pv 0) (qa (pv 6) (qa (qh (v := .int 4) rfl e_MOST_WHEELS ⟨_, rfl⟩) (qa qg (qa (qh (v := .int 9) rfl e_TOP_HEIGHT ⟨_, rfl⟩) qd))))))) (qa (pv 7) (qa (pv 8) qd))))))))))))))))), ?_⟩
  walk_at "rd"
  refine ⟨_, r, 1, 14, rfl, by omega, by omega, ?_⟩
  walk_at "rd"
  refine ⟨_, f, 0, r - 1, rfl, by omega, by omega, ?_⟩
  walk_at "rd"
  refine ⟨_, l, 0, r - 1, rfl, by omega, by omega, ?_⟩
  walk_at "rd"
  refine ⟨_, b, 0, 255, rfl, by omega, by omega, ?_⟩
  walk_at "rd"
  refine ⟨_, wt, 0, 9, rfl, by omega, by omega, ?_⟩
  walk_at "rd"
  refine ⟨r, v1, x1, rfl, i1, o1, l1, fun p1 H1 s1 h1 => ?_⟩
  walk_at "rd"
  refine ⟨_, r, v2, 8, 0, 11, x2, rfl, n1, i2.mono s1, fun x hx => (o2 x hx).mono s1.ts, by omega, by omega, fun p2 H2 s2 h2 => ?_⟩
  have s12 := s1.trans s2
  walk_at "rd"
  refine ⟨_, r, v3, 4, 1, 255, x3, rfl, n2, i3.mono s12, fun x hx => (o3 x hx).mono s12.ts, by omega, by omega, fun p3 H3 s3 h3 => ?_⟩
  have s13 := s12.trans s3
  walk_at "rd"
  refine ⟨_, r, v4, 4, 0, 9, x4, rfl, n3, i4.mono s13, fun x hx => (o4 x hx).mono s13.ts, by omega, by omega, fun p4 H4 s4 h4 => ?_⟩
  have s14 := s13.trans s4
  walk_at "rd"
  intro p hp
  have s5 := Same.upd (o := .tup [.int r, .int f, .int l, .ref p1, .ref p2, .ref p3, .ref p4, .int b, .int wt]) hp
  exact k p p1 p2 p3 p4 _ (s14.trans s5) qb (s5 _ _ (s4 _ _ (s3 _ _ (s2 _ _ h1)))) (s5 _ _ (s4 _ _ (s3 _ _ h2))) (s5 _ _ (s4 _ _ h3)) (s5 _ _ h4)
abbrev psC : List Str := ["rooms", "first", "last", "ways", "things", "levers", "wheels", "bars", "water"]
abbrev dsC (d1 d2 : Tok) : List Value := [.none, .none, .none, .int 0 d1, .int 0 d2]
theorem q5Z (d1 d2 : Tok) (us : List Value) (hl : (us ++ []).length = psC.length) : BnD "cellar" q0P (dsC d1 d2) ⟨us, []⟩ (psC.zip (us ++ [])) := by
 have hl2 : us.length = 9 := by simpa using hl
 match us, hl2 with
 | [_, _, _, _, _, _, _, _, _], _ => exact fun _ _ _ _ _ _ _ => ⟨_, rfl, rfl⟩
theorem q5P (d1 d2 : Tok) : Vals [] [] := .nil
theorem off_ne {a d r : Int} (h0 : 0 <= a) (h1 : a < r) (d0 : 1 <= d) (d1 : d < r) : (a + d) % r ≠ a := by
 by_cases h : a + d < r
 ·rw [Int.emod_eq_of_lt (by omega) h]; omega
 ·have e : a + d = (a + d - r) + r * 1 := by omega
  rw [e, Int.add_mul_emod_self_left, Int.emod_eq_of_lt (by omega) (by omega)]
  omega
end
def goL (C : Cl) (s : Sd) : List Sd := ((rowD .go C.ways.length).filter fun x => canD C s x.1 (x.2 : Int)).map fun x => q0K C s x.1 (x.2 : Int)
def GoR (C : Cl) (s t : Sd) : Prop := t ∈ goL C s
def spBG : Sp := fun vs H Q _ => ∃ (c q : Addr) (C : Cl) (s : Sd), vs = [.ref c, .ref q] /\ ClAt H c C /\ ClOk C /\ SAt H q s /\ s.ok C /\ ∀ (l : Addr) (H' : Hp), Same H H' -> H l = none -> qT SAt H' l (goL C s) -> Q (.ref l) H'
theorem qal {A : Around} {k : Nat} (hr : Room k A) : A.units + 1 + 1 < cLine := by have := hr.un; omega
section
variable {P : Program} {w : World} {K : W.Frag} {mg : Str -> Option Value} {base : Heap} {cs : Cs}
theorem qb8 (T : Txt mg cs) (L : Laid K mg "stands_by_go" q0b ["cellar", "stand"]) (C_all_goes : Cal P w K mg base 4 "all_goes" ["cellar"] (q65 cs)) (vc : ∀ d, VMeth P w K mg base 6 (dcls cs d) "can" ["self", "cellar", "stand"] (q7t cs d)) (vd : ∀ d, VMeth P w K mg base 2 (dcls cs d) "done" ["self", "cellar", "stand"] (q27 cs d)) : Cal P w K mg base 7 "stands_by_go" ["cellar", "stand"] spBG := by
 refine L.cal (k := 6) q34 (fun vs H Q E h => ?_) (fun f cdv A outer s H vs Q E hr h => ?_)
 ·obtain ⟨c, q, C, st, rfl, _⟩ := h
  rfl
 ·obtain ⟨c, q, C, st, rfl, hC, ok, hq, sok, k⟩ := h
  have big := qD
  have okw := ok.wl
  refine ⟨_, (qf (qj (q0w (q0i (N := ["go", "cellar", "stand"]) (own := 1) (caps := [0, 1]) ["cellar", "stand"] (qe q0b) (by decide +kernel)) rfl (q00 K (qm C_all_goes hr (by decide) rfl (qa (pv 0) qd))) (fun _ _ _ _ => (qp (i := 0) (show List.Nodup (["go", "cellar", "stand"] : List Str) by decide +kernel) rfl (Or.inl rfl))) (fun _ _ _ _ => (q7L (q0j (q6g (k := 6) P w K mg base hr (by decide) (pv 0) (qa (pv 1) (qa (pv 2) qd)))))) (fun _ _ _ _ => (q6g (k := 2) P w K mg base hr (by decide) (pv 0) (qa (pv 1) (qa (pv 2) qd))))))), ?_⟩
  walk_at "rd"
  refine ⟨c, C, rfl, hC, ok, fun l H1 s1 hl0 m1 => ?_⟩
  obtain ⟨ps, e1, r1⟩ := m1
  walk_at "rd"
  intro D hD
  refine q2p (ps.map V.ref) (fun i σ H' => ∃ v0, σ = [v0, some (.ref c), some (.ref q)] /\ Same H1 H' /\ qT SAt H' D ((((rowD .go C.ways.length).take i).filter fun x => canD C st x.1 (x.2 : Int)).map fun x => q0K C st x.1 (x.2 : Int))) ⟨none, rfl, Same.upd hD, ⟨[], qb, Rows.nil⟩⟩ ?_ ?_ ?_
  ·rintro i σ H' ⟨_, rfl, s2, _⟩
   exact SqL.of (s2 _ _ e1)
  ·rintro i x σ H' hx ⟨v0, rfl, s2, qs, hqs, hrw⟩
   have hi : i < (rowD .go C.ways.length).length := by have := (List.getElem?_eq_some_iff.mp hx).1; rw [List.length_map, r1.1] at this; exact this
   obtain ⟨p, ep, hob⟩ := r1.get hi
   rw [hx] at ep
   cases ep
   have hob2 := DAt.mono s2 hob
   obtain ⟨dx, hp⟩ := hob2.ex
   have s12 := s1.trans s2
   have hqlen : qs.length <= 100 := by
    rw [hrw.1, List.length_map]
    refine Nat.le_trans (List.length_filter_le _ _) ?_
    rw [List.length_take, q1L]; omega
   walk_at "rd"
   refine r_vm hp (vc _) (q8B _ _) ?_
   walk_at "rd"
   refine ⟨p, c, q, C, st, _, rfl, hob2, hC.mono s12.ts, ok, s12 _ _ hq, sok, fun H3 s3 => ?_⟩
   have hq3 := s3 _ _ hqs
   walk_at "rd"
   rw [List.take_succ_eq_append_getElem hi, List.filter_append, List.map_append]
   refine ite2 (fun hc => ?_) (fun hc => ?_)
   ·have hob3 := DAt.mono s3 hob2
    obtain ⟨dx3, hp3⟩ := hob3.ex
    have s13 := s12.trans s3
    walk_at "rd"
    refine r_vm hp3 (vd _) (q5T _ _) ?_
    walk_at "rd"
    refine ⟨p, c, q, C, st, _, rfl, hob3, hC.mono s13.ts, ok, s13 _ _ hq, sok, hc, fun r H4 s4 hr4 => ?_⟩
    have hq4 := s4 _ _ hq3
    refine ⟨_, hq4, by rw [List.length_map]; omega, _, rfl, ((s2.trans s3).trans s4).put hD, ?_⟩
    rw [show (([(rowD .go C.ways.length)[i]].filter fun x => canD C st x.1 (x.2 : Int)).map fun x => q0K C st x.1 (x.2 : Int)) = [q0K C st (rowD .go C.ways.length)[i].1 ((rowD .go C.ways.length)[i].2 : Int)] by simp [hc]]
    exact q0F (fun _ _ => SAt.put hq4) (hrw.mono fun _ _ => SAt.mono (s3.trans s4).ts) hr4
   ·refine ⟨_, rfl, s2.trans s3, qs, hq3, ?_⟩
    rw [show (([(rowD .go C.ways.length)[i]].filter fun x => canD C st x.1 (x.2 : Int)).map fun x => q0K C st x.1 (x.2 : Int)) = [] by simp [hc], List.append_nil]
    exact hrw.mono fun _ _ => SAt.mono s3.ts
  ·rintro σ H' ⟨v0, rfl, s2, m2⟩
   rw [List.length_map, r1.1, List.take_length] at m2
   exact k D H' (s1.trans s2) (s1.free hD) m2
end
def q3v (s : Sd) (r : Int) : Sd := { s with rm := r }
def domS (C : Cl) (s : Sd) : List Sd := (List.range C.rooms.toNat).map fun r : Nat => q3v s r
def LAt (f : Sd -> List Sd) (H : Hp) (p : Addr) (x : Sd) : Prop := qT SAt H p (f x)
theorem LAt.mono {f : Sd -> List Sd} {H H' : Hp} (s : Same H H') {p : Addr} {x : Sd} (h : LAt f H p x) : LAt f H' p x := by
 obtain ⟨ps, h1, h2⟩ := h
 exact ⟨ps, s _ _ h1, h2.mono fun _ _ => SAt.mono s.ts⟩
theorem q9Z {H : Hp} {D : Addr} {kvs : List (List Key × V)} {o : HO} (hD : H D = some (.dT kvs)) : q03 H (upd H D o) := fun p xs h => by rw [ql (q3y h hD (by intro z; cases z))]; exact h
theorem LAt.dput {f : Sd -> List Sd} {H : Hp} {D : Addr} {kvs : List (List Key × V)} {o : HO} (hD : H D = some (.dT kvs)) {p : Addr} {x : Sd} (h : LAt f H p x) : LAt f (upd H D o) p x := by
 obtain ⟨ps, h1, h2⟩ := h
 exact ⟨ps, by rw [ql (q3y h1 hD (by intro z; cases z))]; exact h1, h2.mono fun _ _ => SAt.mono (q9Z hD)⟩
def lkD (ss : List Sd) (ls : List Addr) : Dk := List.zipWith (fun s l => (s, V.ref l)) ss ls
theorem q2k : ∀ {ss : List Sd} {ls : List Addr}, ls.length = ss.length -> (lkD ss ls).map (·.1) = ss
 | [], [], _ => rfl
 | [], _ :: _, h => by simp at h
 | _ :: _, [], h => by simp at h
 | s :: ss, l :: ls, h => by
  show s :: (lkD ss ls).map (·.1) = _
  rw [q2k (by simpa using h)]
theorem q4e {ss : List Sd} {ls : List Addr} (h : ls.length = ss.length) : (lkD ss ls).length = ss.length := by have := congrArg List.length (q2k h); simpa using this
theorem q6n {ss : List Sd} {ls : List Addr} {s : Sd} {l : Addr} (h : ls.length = ss.length) : lkD (ss ++ [s]) (ls ++ [l]) = lkD ss ls ++ [(s, .ref l)] := by
 unfold lkD
 rw [List.zipWith_append h.symm]
 rfl
theorem qah {ss : List Sd} {ls : List Addr} {i : Nat} {s : Sd} {l : Addr} (h : ls.length = ss.length) (hn : ss.Nodup) (hs : ss[i]? = some s) (hl : ls[i]? = some l) : dat (lkD ss ls) s = some (.ref l) := by
 refine q6v (by rw [q2k h]; exact hn) ?_
 have : (lkD ss ls)[i]? = some (s, .ref l) := by unfold lkD; rw [List.getElem?_zipWith, hs, hl]
 exact List.mem_of_getElem? this
theorem q5j (C : Cl) (s : Sd) : (domS C s).Nodup := by
 unfold domS
 refine List.Pairwise.map _ (fun a b h e => h ?_) List.nodup_range
 have : ((a : Nat) : Int) = b := congrArg Sd.rm e
 omega
theorem q4m {C : Cl} {s : Sd} {i : Nat} (hi : i < C.rooms.toNat) : (domS C s).take (i + 1) = (domS C s).take i ++ [q3v s i] := by
 rw [List.take_succ_eq_append_getElem (by simpa [domS] using hi)]
 simp [domS]
theorem qbw {C : Cl} {s : Sd} {i : Nat} (hi : i < C.rooms.toNat) : q3v s i ∉ (domS C s).take i := fun h => by
 have nd := q5j C s
 have e := q4m (s := s) hi
 have : ((domS C s).take (i + 1)).Nodup := nd.sublist (List.take_sublist _ _)
 rw [e, List.nodup_append] at this
 exact this.2.2 _ h _ (by simp) rfl
theorem q5K {C : Cl} {s t : Sd} : t ∈ domS C s ↔ ∃ r : Int, (0 <= r /\ r < C.rooms) /\ t = q3v s r := by
 unfold domS
 simp only [List.mem_map, List.mem_range]
 constructor
 ·rintro ⟨r, h, rfl⟩
  exact ⟨r, ⟨by omega, by omega⟩, rfl⟩
 ·rintro ⟨r, h, rfl⟩
  exact ⟨r.toNat, by omega, by rw [Int.toNat_of_nonneg h.1]⟩
theorem set_ok {C : Cl} {s : Sd} {r : Int} (h : s.ok C) (h0 : 0 <= r) (h1 : r < C.rooms) : (q3v s r).ok C := ⟨⟨h0, h1⟩, h.htk, h.hop, h.dr, h.hb, h.hwt, h.held⟩
def spGL : Sp := fun vs H Q _ => ∃ (c q : Addr) (C : Cl) (s : Sd), vs = [.ref c, .ref q] /\ ClAt H c C /\ ClOk C /\ SAt H q s /\ s.ok C /\ ∀ (a : Addr) (ls : List Addr) (H' : Hp), Same H H' -> H a = none -> DAtS H' a (lkD (domS C s) ls) -> Rows (LAt (goL C)) H' ls (domS C s) -> Q (.ref a) H'
section
variable {P : Program} {w : World} {K : W.Frag} {mg : Str -> Option Value} {base : Heap} {cs : Cs}
theorem q7W (T : Txt mg cs) (L : Laid K mg "go_links" q1H ["cellar", "stand"]) (C_changed : Cal P w K mg base 1 "changed" ["parts", "place", "part"] q4H) (C_stands_by_go : Cal P w K mg base 7 "stands_by_go" ["cellar", "stand"] spBG) : Cal P w K mg base 8 "go_links" ["cellar", "stand"] spGL := by
 obtain ⟨t1, e_ROOMS⟩ := T.e_ROOMS
 obtain ⟨t2, e_ROOM⟩ := T.e_ROOM
 refine L.cal (k := 7) q17 (fun vs H Q E h => ?_) (fun f cdv A outer s H vs Q E hr h => ?_)
 ·obtain ⟨c, q, C, st, rfl, _⟩ := h
  rfl
 ·obtain ⟨c, q, C, st, rfl, hC, ok, hq, sok, k⟩ := h
  have big := qD
  have ok1 := ok.r1
  have ok2 := ok.r2
  obtain ⟨pw, pt, pl, pv', h0, hw, ht, hl, hv⟩ := hC.ex
  refine ⟨_, (qc (qv (i := 2) q17.nd rfl (Or.inl rfl) q4b)
   (qc (q0t PassesOwn.never rfl (q08 rfl T.n_range (qa (qu (qi K) (pv 0) (qh (v := .int 0) rfl e_ROOMS ⟨_, rfl⟩) (fun _ _ => rfl)) qd)) (qp (i := 3) q17.nd rfl (Or.inl rfl)) (qc (qv (i := 4) q17.nd rfl (Or.inl rfl) (qm C_changed hr (by decide) rfl (qa (pv 1) (qa (qh (v := .int 0) rfl e_ROOM ⟨_, rfl⟩) (qa (pv 3) qd)))))
   (qf (q48 (q2m hr) (pv 2) (pv 4) (qm C_stands_by_go hr (by decide) rfl (qa (pv 0) (qa (pv 4) qd))) rfl))))
   (qf (qj (pv 2))))), ?_⟩
  walk_at "rd"
  intro D hD
  have h01 := (Same.upd (o := .dT []) hD) _ _ h0
  walk_at "rd"
  refine q8r (fun i σ H' => ∃ v3 v4 ls, σ = [some (.ref c), some (.ref q), some (.ref D), v3, v4] /\ Same H H' /\ DAtS H' D (lkD ((domS C st).take i) ls) /\ Rows (LAt (goL C)) H' ls ((domS C st).take i)) ⟨none, none, [], rfl, Same.upd hD, qb, Rows.nil⟩ ?_ ?_
  ·rintro i σ H' hi ⟨v3, v4, ls, rfl, s1, hd, hrw⟩
   have hi' : i < C.rooms.toNat := by simpa using hi
   have hq1 := s1 _ _ hq
   walk_at "rd"
   refine ⟨q, st, 0, _, rfl, by omega, hq1, fun r H2 s2 hr2 => ?_⟩
   have hr2' : SAt H2 r (q3v st i) := by
    have e : (st.vs.set 0 (.int (0 + (i : Nat)))) = (q3v st i).vs := by rw [Int.zero_add]; rfl
    rw [e] at hr2
    exact hr2
   have s12 := s1.trans s2
   walk_at "rd"
   refine ⟨c, r, C, q3v st i, rfl, hC.mono s12.ts, ok, hr2', set_ok sok (by omega) (by omega), fun l H3 s3 hl3 m3 => ?_⟩
   have hd3 : DAtS H3 D _ := s3 _ _ (s2 _ _ hd)
   have hlen : ls.length = ((domS C st).take i).length := hrw.1
   walk_at "rd"
   refine ⟨D, _, rfl, q6t hd3 (s3 _ _ hr2') ?_ ?_, ?_⟩
   ·rw [q4e hlen, List.length_take]; omega
   ·rw [q2k hlen]; exact qbw hi'
   ·refine ⟨_, _, ls ++ [l], rfl, (s12.trans s3).put hD, ?_, ?_⟩
    ·rw [q4m hi', q6n hlen]
     exact qb
    ·rw [q4m hi']
     exact (hrw.mono fun _ _ x => LAt.dput hd3 (LAt.mono (s2.trans s3) x)).snoc (LAt.dput hd3 m3)
  ·rintro σ H' ⟨v3, v4, ls, rfl, s1, hd, hrw⟩
   have e : (domS C st).take C.rooms.toNat = domS C st := List.take_of_length_le (by simp [domS])
   have hd' : DAtS H' D (lkD ((domS C st).take C.rooms.toNat) ls) := hd
   have hrw' : Rows (LAt (goL C)) H' ls ((domS C st).take C.rooms.toNat) := hrw
   rw [e] at hd' hrw'
   walk_at "rd"
   exact k D ls H' s1 hD hd' hrw'
end
def cnD (ss : List Sd) (ns : List Int) : Dk := List.zipWith (fun s n => (s, V.int n)) ss ns
theorem q1Q : ∀ {ss : List Sd} {ns : List Int}, ns.length = ss.length -> (cnD ss ns).map (·.1) = ss
 | [], [], _ => rfl
 | [], _ :: _, h => by simp at h
 | _ :: _, [], h => by simp at h
 | s :: ss, l :: ls, h => by
  show s :: (cnD ss ls).map (·.1) = _
  rw [q1Q (by simpa using h)]
theorem q8J {ss : List Sd} {ns : List Int} (h : ns.length = ss.length) : (cnD ss ns).length = ss.length := by have := congrArg List.length (q1Q h); simpa using this
theorem qa0 {ss : List Sd} {ns : List Int} {s : Sd} {n : Int} (h : ns.length = ss.length) : cnD (ss ++ [s]) (ns ++ [n]) = cnD ss ns ++ [(s, .int n)] := by
 unfold cnD
 rw [List.zipWith_append h.symm]
 rfl
theorem cnD_at {ss : List Sd} {ns : List Int} {s : Sd} (h : ns.length = ss.length) (hn : ss.Nodup) (hs : s ∈ ss) : ∃ n, dat (cnD ss ns) s = some (.int n) := by
 obtain ⟨i, hi, e⟩ := List.getElem_of_mem hs
 refine ⟨ns[i]'(by omega), q6v (by rw [q1Q h]; exact hn) ?_⟩
 have : (cnD ss ns)[i]? = some (s, .int (ns[i]'(by omega))) := by
  unfold cnD
  rw [List.getElem?_zipWith, List.getElem?_eq_getElem hi, List.getElem?_eq_getElem (by omega), e]
 exact List.mem_of_getElem? this
theorem q2s : ∀ {l m : List Sd}, l.Nodup -> (∀ x ∈ l, x ∈ m) -> l.length <= m.length
 | [], _, _, _ => Nat.zero_le _
 | x :: l, m, hn, h => by
  rw [List.nodup_cons] at hn
  have hx := h x (.head _)
  have := q2s (m := m.erase x) hn.2 fun y hy => (List.mem_erase_of_ne fun e => hn.1 (by rw [<- e]; exact hy)).mpr (h y (List.mem_cons_of_mem _ hy))
  rw [List.length_erase_of_mem hx] at this
  have : 0 < m.length := List.length_pos_of_mem hx
  rw [List.length_cons]
  omega
def spCF : Sp := fun vs H Q _ => ∃ (b a : Addr) (s0 : Sd) (ss : List Sd) (f : Sd -> List Sd) (ls : List Addr), vs = [.ref b, .ref a] /\ qT SAt H b [s0] /\ Rd H a (.dT (dkv (lkD ss ls))) /\ Rows (LAt f) H ls ss /\ ss.Nodup /\ s0 ∈ ss /\ (∀ x ∈ ss, ∀ y ∈ f x, y ∈ ss) /\ ss.length <= 1000 /\
 ∀ (d : Addr) (row : List Sd) (ns : List Int) (H' : Hp), Same H H' -> H d = none -> DAtS H' d (cnD row ns) -> ns.length = row.length -> row.Nodup -> (∀ x ∈ row, x ∈ ss) -> (∀ x, x ∈ row ↔ Rch (fun x y => y ∈ f x) s0 x) -> Q (.ref d) H'
theorem DAtS.lput {H : Hp} {R D : Addr} {l : Dk} {xs : List V} {o : HO} (hR : H R = some (.lst xs)) (h : DAtS H D l) : DAtS (upd H R o) D l := by
 show upd H R o D = _
 rw [ql (q3y h hR (by intro z; cases z))]
 exact h
theorem Rd.same {H H' : Hp} (s : Same H H') {a : Addr} {u : HO} (h : Rd H a u) : Rd H' a u := by
 rcases h with h | ⟨o, h⟩
 ·exact .inl (s _ _ h)
 ·exact .inr ⟨o, s _ _ h⟩
section
variable {P : Program} {w : World} {K : W.Frag} {mg : Str -> Option Value} {base : Heap} {cs : Cs}
theorem q9y (T : Txt mg cs) (L : Laid K mg "counts_from" q0A ["begins", "links"]) : Cal P w K mg base 1 "counts_from" ["begins", "links"] spCF := by
 refine L.cal (k := 0) qL (fun vs H Q E h => ?_) (fun f cdv A outer s H vs Q E hr h => ?_)
 ·obtain ⟨b, a, s0, ss, f, ls, rfl, _⟩ := h
  rfl
 ·obtain ⟨b, a, s0, ss, g, ls, rfl, ⟨bs, hb, rb⟩, ha, hrw, nd, hs0, hcl, hln, k⟩ := h
  have big := qD
  obtain ⟨p0, rfl⟩ : ∃ p0, bs = [p0] := List.length_eq_one_iff.mp rb.1
  have hp0 : SAt H p0 s0 := rb.2 0 p0 s0 rfl rfl
  refine ⟨_, (qc (qv (i := 2) qL.nd rfl (Or.inl rfl) (q0u (lstOfK K) rfl T.n_list q8T (qa (pv 0) qd)))
   (qc (qv (i := 3) qL.nd rfl (Or.inl rfl) q4b)
   (qc (q0t PassesOwn.never rfl (q00 K (pv 0)) (qp (i := 4) qL.nd rfl (Or.inl rfl)) (qf (q48 (q2m hr) (pv 3) (pv 4) qg rfl)))
   (qc (qv (i := 5) qL.nd rfl (Or.inl rfl) qg)
   (qc (q6e PassesOwn.never (qr qaZ (pv 5) (qB (lenK K) rfl T.n_len q0k (qa (pv 2) qd)) (qw _)) (qc (qv (i := 6) qL.nd rfl (Or.inl rfl) (qu (qS K) (pv 2) (pv 5) (fun _ _ => rfl)))
   (qc (ps_aug (i := 5) qL.nd rfl (Or.inl rfl) qg qaj)
   (qf (q0t PassesOwn.never rfl (q00 K (q5F (q2m hr) (pv 1) (pv 6) (fun _ _ => rfl))) (qp (i := 7) qL.nd rfl (Or.inl rfl)) (qf (qP (q3I (q7R (q2m hr) (pv 7) (pv 3))) (qc (q48 (q2m hr) (pv 3) (pv 7) (qt q1x (q5F (q2m hr) (pv 3) (pv 6) (fun _ _ => rfl)) qg) rfl)
   (qf (qJ (q7P PySem.F.plainAttrs_list PySem.F.slot_list_append PySem.F.type_list_append q13 (pv 2) (qa (pv 7) qd))))) qq)))))))
   (qf (qj (pv 3)))))))), ?_⟩
  walk_at "rd"
  refine ⟨b, _, rfl, .inl (SqL.of hb), fun R hR => ?_⟩
  have s1 := Same.upd (o := .lst ([p0].map V.ref)) hR
  have h1 := qb (H := H) (a := R) (o := .lst ([p0].map V.ref))
  generalize upd H R (.lst ([p0].map V.ref)) = H1 at s1 h1 ⊢
  have hb1 := s1 _ _ hb
  walk_at "rd"
  intro D hD1
  have hD : H D = none := s1.free hD1
  have s2 := s1.trans (Same.upd (o := .dT []) hD1)
  have h2 := (Same.upd (o := .dT []) hD1) _ _ h1
  have hb2 := (Same.upd (o := .dT []) hD1) _ _ hb1
  have d2 : DAtS (upd H1 D (.dT [])) D [] := qb
  generalize upd H1 D (.dT []) = H2 at s2 h2 hb2 d2 ⊢
  walk_at "rd"
  refine q1t ([p0].map V.ref) (fun i σ H' => ∃ v4, σ = [some (.ref b), some (.ref a), some (.ref R), some (.ref D), v4, none, none, none] /\ Same H H' /\ H' R = some (.lst ([p0].map V.ref)) /\ H' b = some (.lst ([p0].map V.ref)) /\ (i = 0 -> DAtS H' D []) /\ (i = 1 -> DAtS H' D (cnD [s0] [0]))) ⟨none, rfl, s2, h2, hb2, fun _ => d2, fun z => absurd z (by decide)⟩ ?_ ?_ ?_
  ·rintro i σ H' ⟨v4, rfl, _, _, e, _⟩
   exact SqL.of e
  ·rintro i x σ H' hx ⟨v4, rfl, s3, hR3, hb3, hz, _⟩
   have hi : i = 0 := by have := (List.getElem?_eq_some_iff.mp hx).1; simpa using this
   subst hi
   cases hx
   have hd := hz rfl
   walk_at "rd"
   refine ⟨D, _, rfl, q6t hd (s3 _ _ hp0) (by show 0 < sizeLine; omega) (by simp), ?_⟩
   have ne1 : R ≠ D := q3y hR3 hd (by intro z; cases z)
   have ne2 : b ≠ D := q3y hb3 hd (by intro z; cases z)
   exact ⟨_, rfl, s3.put hD, by rw [ql ne1]; exact hR3, by rw [ql ne2]; exact hb3, fun z => absurd z (by decide), fun _ => qb⟩
  ·rintro σ H3 ⟨v4, rfl, s3, hR3, hb3, _, hd3⟩
   have hd3 := hd3 rfl
   walk_at "rd"
   refine q7D (fun m σ H' => ∃ (row : List Sd) (ns : List Int) (pl : Nat) (v6 v7 : Option V), σ = [some (.ref b), some (.ref a), some (.ref R), some (.ref D), v4, some (.int pl), v6, v7] /\ Same H H' /\ qT SAt H' R row /\ DAtS H' D (cnD row ns) /\ ns.length = row.length /\ Srch (fun x y => y ∈ g x) s0 row pl /\ (∀ x ∈ row, x ∈ ss) /\ pl <= row.length /\ m = 2000 - pl) (2000 - 0)
    ⟨[s0], [0], 0, none, none, rfl, s3, ⟨[p0], hR3, Rows.nil.snoc (s3 _ _ hp0)⟩, hd3, rfl, Srch.start, fun x hx => by rw [List.mem_singleton.mp hx]; exact hs0, by simp, rfl⟩ ?_
   rintro m σ H4 ⟨row, ns, pl, v6, v7, rfl, s4, ⟨qs, hqs, rqs⟩, hd4, hns, sr, hsub, hpl, hm⟩
   have hql : qs.length = row.length := rqs.1
   have hrl : row.length <= ss.length := q2s sr.nd hsub
   walk_at "rd"
   rw [List.length_map, hql]
   refine ifd (fun hlt => ?_) (fun hge => ?_)
   ·have hlt' : pl < row.length := by omega
    obtain ⟨q, eq, hq4⟩ := rqs.get hlt'
    generalize hx : row[pl] = x at hq4
    have hrx : row[pl]? = some x := by rw [List.getElem?_eq_getElem hlt', hx]
    have hxr : x ∈ row := List.mem_of_getElem? hrx
    have hq4 : SAt H4 q x := hq4
    have hxs := hsub x hxr
    refine ⟨fun σ' H' => ∃ (row : List Sd) (ns : List Int) (v7 : Option V), σ' = [some (.ref b), some (.ref a), some (.ref R), some (.ref D), v4, some (.int ((pl : Int) + 1)), some (.ref q), v7] /\ Same H H' /\ qT SAt H' R row /\ DAtS H' D (cnD row ns) /\ ns.length = row.length /\ Srch (fun x y => y ∈ g x) s0 row (pl + 1) /\ (∀ x ∈ row, x ∈ ss) /\ pl + 1 <= row.length, ?_, ?_⟩
    ·rintro σ' H' ⟨row, ns, v7, rfl, z1, z2, z3, z4, z5, z6, z7⟩
     exact ⟨2000 - (pl + 1), by omega, row, ns, pl + 1, some (.ref q), v7, rfl, z1, z2, z3, z4, z5, z6, z7, rfl⟩
    ·walk_at "rd"
     obtain ⟨j, hj, ej⟩ := List.getElem_of_mem (hsub x hxr)
     have hll : ls.length = ss.length := hrw.1
     have hsj : ss[j]? = some x := by rw [List.getElem?_eq_getElem hj, ej]
     have hlj : ls[j]? = some (ls[j]'(by omega)) := List.getElem?_eq_getElem _
     generalize ls[j]'(by omega) = l at hlj
     obtain ⟨os, hos, ros⟩ := hrw.2 j l x hlj hsj
     have dg := q5k (Rd.same s4 ha) hq4
     rw [qah hll nd hsj hlj] at dg
     refine ⟨a, .ref l, rfl, dg, ?_⟩
     have hos4 := s4 _ _ hos
     walk_at "rd"
     refine q1t (os.map V.ref) (fun i σ' H' => ∃ (row : List Sd) (ns : List Int) (v7 : Option V), σ' = [some (.ref b), some (.ref a), some (.ref R), some (.ref D), v4, some (.int ((pl : Int) + 1)), some (.ref q), v7] /\ Same H H' /\ qT SAt H' R row /\ DAtS H' D (cnD row ns) /\ ns.length = row.length /\ Mid (fun x y => y ∈ g x) s0 x row pl ((g x).take i) /\ (∀ x ∈ row, x ∈ ss) /\ SAt H' q x)
      ⟨row, ns, v7, rfl, s4, ⟨qs, hqs, rqs⟩, hd4, hns, sr.mid hrx, hsub, hq4⟩ ?_ ?_ ?_
     ·rintro i σ' H' ⟨_, _, _, rfl, s5, _⟩
      exact SqL.of (s5 _ _ hos)
     ·rintro i z σ' H5 hz ⟨row, ns, v7, rfl, s5, ⟨qs, hqs, rqs⟩, hd5, hns, md, hsub, hx5⟩
      have hi : i < (g x).length := by have := (List.getElem?_eq_some_iff.mp hz).1; rw [List.length_map, ros.1] at this; exact this
      obtain ⟨p, ep, hp⟩ := ros.get hi
      rw [hz] at ep
      cases ep
      have hp5 : SAt H5 p (g x)[i] := SAt.mono s5.ts hp
      have hy : (g x)[i] ∈ g x := List.getElem_mem hi
      rw [List.take_succ_eq_append_getElem hi]
      generalize (g x)[i] = y at hp5 hy ⊢
      have hrl : row.length <= ss.length := q2s md.nd hsub
      walk_at "rd"
      refine ⟨D, _, rfl, q5k (.inl hd5) hp5, ?_⟩
      rw [q3M, q1Q hns]
      walk_at "rd"
      by_cases hin : y ∈ row
      ·rw [decide_eq_true hin]
       walk_at "rd"
       exact ⟨row, ns, _, rfl, s5, ⟨qs, hqs, rqs⟩, hd5, hns, md.old hin, hsub, hx5⟩
      ·rw [decide_eq_false hin]
       walk_at "rd"
       obtain ⟨n, hn⟩ := cnD_at hns md.nd (List.mem_of_getElem? md.at')
       have dg5 := q5k (.inl hd5) hx5
       rw [hn] at dg5
       refine ⟨D, _, rfl, dg5, ?_⟩
       walk_at "rd"
       have ne1 : R ≠ D := q3y hqs hd5 (by intro z; cases z)
       refine ⟨D, _, rfl, q6t hd5 hp5 (by rw [q8J hns]; omega) (by rw [q1Q hns]; exact hin), ?_⟩
       rw [<- qa0 hns]
       have hR6 : upd H5 D (.dT (dkv (cnD (row ++ [y]) (ns ++ [n + 1])))) R = some (.lst (qs.map V.ref)) := by rw [ql ne1]; exact hqs
       have hd6 : DAtS (upd H5 D (.dT (dkv (cnD (row ++ [y]) (ns ++ [n + 1]))))) D (cnD (row ++ [y]) (ns ++ [n + 1])) := qb
       walk_at "rd"
       refine ⟨R, _, _, rfl, rfl, hR6, by rw [List.length_map, rqs.1]; omega, ?_⟩
       refine ⟨row ++ [y], ns ++ [n + 1], _, rfl, (s5.put hD).put hR, ?_, DAtS.lput hR6 hd6, by simp [hns], md.new hin hy, ?_, SAt.put hR6 (SAt.mono (q9Z hd5) hx5)⟩
       ·exact q0F (fun _ _ => SAt.put hR6) (rqs.mono fun _ _ => SAt.mono (q9Z hd5)) (SAt.mono (q9Z hd5) hp5)
       ·intro z hz'
        rcases List.mem_append.mp hz' with z1 | z1
        ·exact hsub z z1
        ·rw [List.mem_singleton.mp z1]; exact hcl x hxs y hy
     ·rintro σ' H5 ⟨row, ns, v7, rfl, s5, hR5, hd5, hns, md, hsub, _⟩
      rw [List.length_map, ros.1, List.take_length] at md
      exact ⟨row, ns, v7, rfl, s5, hR5, hd5, hns, md.next fun y hy => hy, hsub, (List.getElem?_eq_some_iff.mp md.at').1⟩
   ·walk_at "rd"
    exact k D row ns H4 s4 hD hd4 hns sr.nd hsub (sr.end (by omega))
end
def gE (es : List (Sd × Sd)) (y : Sd) : List Sd := (es.filter fun e => decide (e.2 = y)).map (·.1)
theorem qbs {es : List (Sd × Sd)} {x y : Sd} : gE (es ++ [(x, y)]) y = gE es y ++ [x] := by simp [gE]
theorem q9R {es : List (Sd × Sd)} {x y z : Sd} (h : z ≠ y) : gE (es ++ [(x, y)]) z = gE es z := by simp [gE, Ne.symm h]
theorem gE_len (es : List (Sd × Sd)) (y : Sd) : (gE es y).length <= es.length := by rw [gE, List.length_map]; exact List.length_filter_le _ _
theorem q82 {es : List (Sd × Sd)} {x y : Sd} : x ∈ gE es y ↔ (x, y) ∈ es := by
 simp only [gE, List.mem_map, List.mem_filter, decide_eq_true_eq]
 constructor
 ·rintro ⟨⟨a, b⟩, ⟨h1, h2⟩, h3⟩
  have h2' : b = y := h2
  have h3' : a = x := h3
  subst h2' h3'
  exact h1
 ·exact fun h => ⟨(x, y), ⟨h, rfl⟩, rfl⟩
def eds (f : Sd -> List Sd) (ss : List Sd) : List (Sd × Sd) := ss.flatMap fun x => (f x).map fun y => (x, y)
theorem q9X (f : Sd -> List Sd) (ss : List Sd) (x : Sd) : eds f (ss ++ [x]) = eds f ss ++ (f x).map fun y => (x, y) := by simp [eds]
theorem q5J {f : Sd -> List Sd} {ss : List Sd} {x y : Sd} : (x, y) ∈ eds f ss ↔ x ∈ ss /\ y ∈ f x := by
 simp only [eds, List.mem_flatMap, List.mem_map, Prod.mk.injEq]
 constructor
 ·rintro ⟨a, h1, b, h2, h3, h4⟩
  subst h3 h4
  exact ⟨h1, h2⟩
 ·exact fun ⟨h1, h2⟩ => ⟨x, h1, y, h2, rfl, rfl⟩
theorem q5O {f : Sd -> List Sd} : ∀ {ss : List Sd}, (∀ x ∈ ss, (f x).length <= 500) -> (eds f ss).length <= 500 * ss.length
 | [], _ => Nat.zero_le _
 | x :: ss, h => by
  have := q5O (ss := ss) fun y hy => h y (List.mem_cons_of_mem _ hy)
  have h1 := h x (.head _)
  have e : (eds f (x :: ss)).length = (f x).length + (eds f ss).length := by simp [eds]
  rw [e, List.length_cons]
  omega
theorem q8x {ss : List Sd} {ls : List Addr} {i : Nat} {p : List Key × V} (hl : ls.length = ss.length) (h : (dkv (lkD ss ls))[i]? = some p) : ∃ s l, ss[i]? = some s /\ ls[i]? = some l /\ p = (s.key, .ref l) := by
 have hi : i < ss.length := by
  have := (List.getElem?_eq_some_iff.mp h).1
  rw [show (dkv (lkD ss ls)).length = (lkD ss ls).length by simp [dkv], q4e hl] at this
  exact this
 refine ⟨ss[i], ls[i]'(by omega), List.getElem?_eq_getElem hi, List.getElem?_eq_getElem (by omega), ?_⟩
 have e : (lkD ss ls)[i]? = some (ss[i], .ref (ls[i]'(by omega))) := by unfold lkD; rw [List.getElem?_zipWith, List.getElem?_eq_getElem hi, List.getElem?_eq_getElem (by omega)]
 rw [dkv, List.getElem?_map, e] at h
 exact (Option.some.inj h).symm
theorem q6m {α : Type} {l : List α} (h : l.Nodup) {i j : Nat} {x : α} (hi : l[i]? = some x) (hj : l[j]? = some x) : i = j := by
 obtain ⟨h1, e1⟩ := List.getElem?_eq_some_iff.mp hi
 obtain ⟨h2, e2⟩ := List.getElem?_eq_some_iff.mp hj
 exact (List.getElem_inj h).mp (e1.trans e2.symm)
theorem q7A {es : List (Sd × Sd)} {H : Hp} {ls qs : List Addr} {ss : List Sd} {j : Nat} {l p : Addr} {x y : Sd} (hr : Rows (LAt (gE es)) H ls ss) (hn : ls.Nodup) (hs : ss.Nodup) (hj : ls[j]? = some l) (hy : ss[j]? = some y) (hqs : H l = some (.lst (qs.map V.ref))) (rq : Rows SAt H qs (gE es y)) (hp : SAt H p x) :
  Rows (LAt (gE (es ++ [(x, y)]))) (upd H l (.lst (qs.map V.ref ++ [.ref p]))) ls ss := by
 refine ⟨hr.1, fun k q z hk hz => ?_⟩
 by_cases e : k = j
 ·subst e
  rw [hj] at hk
  cases hk
  rw [hy] at hz
  cases hz
  show qT SAt _ _ _
  rw [qbs]
  exact q0F (fun _ _ => SAt.put hqs) rq hp
 ·have nq : q ≠ l := fun z => e (q6m hn (z ▸ hk) hj)
  have nz : z ≠ y := fun w => e (q6m hs (w ▸ hz) hy)
  obtain ⟨rs, h1, h2⟩ := hr.2 k q z hk hz
  show qT SAt _ _ _
  rw [q9R nz]
  exact ⟨rs, by rw [ql nq]; exact h1, h2.mono fun _ _ => SAt.put hqs⟩
def spTL : Sp := fun vs H Q _ => ∃ (a : Addr) (o : Obj) (ss : List Sd) (f : Sd -> List Sd) (ls : List Addr), vs = [.ref a] /\ H a = some (.frz o (.dT (dkv (lkD ss ls)))) /\ Rows (LAt f) H ls ss /\ ss.Nodup /\ (∀ x ∈ ss, ∀ y ∈ f x, y ∈ ss) /\ ss.length <= 1000 /\ (∀ x ∈ ss, (f x).length <= 500) /\
 ∀ (t : Addr) (ls' : List Addr) (H' : Hp), Same H H' -> H t = none -> DAtS H' t (lkD ss ls') -> Rows (LAt (gE (eds f ss))) H' ls' ss -> Q (.ref t) H'
section
variable {P : Program} {w : World} {K : W.Frag} {mg : Str -> Option Value} {base : Heap} {cs : Cs}
theorem q7V (T : Txt mg cs) (L : Laid K mg "turned_links" q0m ["links"]) : Cal P w K mg base 1 "turned_links" ["links"] spTL := by
 refine L.cal (k := 0) qU (fun vs H Q E h => ?_) (fun f cdv A outer s H vs Q E hr h => ?_)
 ·obtain ⟨a, o, ss, f, ls, rfl, _⟩ := h
  rfl
 ·obtain ⟨a, o, ss, g, ls, rfl, ha, hrw, nd, hcl, hln, hfl, k⟩ := h
  have big := qD
  have hll : ls.length = ss.length := hrw.1
  have hkl : (dkv (lkD ss ls)).length = ss.length := by rw [show (dkv (lkD ss ls)).length = (lkD ss ls).length by simp [dkv], q4e hll]
  have hel := q5O hfl
  refine ⟨_, (qc (qv (i := 1) qU.nd rfl (Or.inl rfl) q4b)
   (qc (q0t PassesOwn.never rfl (qaf K (pv 0)) (qp (i := 2) qU.nd rfl (Or.inl rfl)) (qf (q48 (q2m hr) (pv 1) (pv 2) (q3J qd) rfl)))
   (qc (q0t PassesOwn.never rfl (pi_dpK K (pv 0)) (q1E (n := 2) K rfl (qG (qp (i := 2) qU.nd rfl (Or.inl rfl)) (qG (qp (i := 3) qU.nd rfl (Or.inl rfl)) q1D))) (qf (q0t PassesOwn.never rfl (q00 K (pv 3)) (qp (i := 4) qU.nd rfl (Or.inl rfl)) (qf (qJ (q7P PySem.F.plainAttrs_list PySem.F.slot_list_append PySem.F.type_list_append q13 (q5F (q2m hr) (pv 1) (pv 4) (fun _ _ => rfl)) (qa (pv 2) qd)))))))
   (qf (qj (pv 1)))))), ?_⟩
  walk_at "rd"
  intro D hD
  have s1 := Same.upd (o := .dT []) hD
  have d1 : DAtS (upd H D (.dT [])) D [] := qb
  generalize upd H D (.dT []) = H1 at s1 d1 ⊢
  walk_at "rd"
  refine ⟨a, o, _, rfl, s1 _ _ ha, ?_⟩
  refine for_dk (fun i σ H' => ∃ v2 ls', σ = [some (.ref a), some (.ref D), v2, none, none] /\ Same H H' /\ DAtS H' D (lkD (ss.take i) ls') /\ Rows (LAt (gE [])) H' ls' (ss.take i) /\ ls'.Nodup /\ ∀ l ∈ ls', H l = none) ⟨none, [], rfl, s1, d1, Rows.nil, List.nodup_nil, fun l h => nomatch h⟩ ?_ ?_ ?_
  ·rintro i σ H' ⟨v2, ls', rfl, s2, _⟩
   exact s2 _ _ ha
  ·rintro i b p σ H' hp hb ⟨v2, ls', rfl, s2, hd, hrw', hn', hfr⟩
   obtain ⟨x, l, hx, hl, rfl⟩ := q8x hll hp
   have hb' : SAt H' b x := hb
   have hi : i < ss.length := (List.getElem?_eq_some_iff.mp hx).1
   have ex : ss[i] = x := (List.getElem?_eq_some_iff.mp hx).2
   have hlen : ls'.length = (ss.take i).length := hrw'.1
   walk_at "rd"
   intro q hq
   have s3 := Same.upd (o := .lst []) hq
   have h3 := qb (H := H') (a := q) (o := .lst [])
   generalize upd H' q (.lst []) = H3 at s3 h3 ⊢
   have hd3 : DAtS H3 D _ := s3 _ _ hd
   have et : ss.take (i + 1) = ss.take i ++ [x] := by rw [List.take_succ_eq_append_getElem hi, ex]
   have hnx : x ∉ ss.take i := fun h => by
    have := nd.sublist (List.take_sublist (i + 1) ss)
    rw [et, List.nodup_append] at this
    exact this.2.2 _ h _ (by simp) rfl
   walk_at "rd"
   refine ⟨D, _, rfl, q6t hd3 (s3 _ _ hb') (by rw [q4e hlen, List.length_take]; omega) (by rw [q2k hlen]; exact hnx), ?_⟩
   refine ⟨_, ls' ++ [q], rfl, (s2.trans s3).put hD, ?_, ?_, ?_, ?_⟩
   ·rw [et, q6n hlen]
    exact qb
   ·rw [et]
    exact (hrw'.mono fun _ _ z => LAt.dput hd3 (LAt.mono s3 z)).snoc (LAt.dput hd3 ⟨[], h3, Rows.nil⟩)
   ·refine List.nodup_append.mpr ⟨hn', by simp, fun a' h1 b' h2 e => ?_⟩
    rw [List.mem_singleton.mp h2] at e
    subst e
    obtain ⟨y, _, rs, hy, _⟩ := Rows.mem hrw' h1
    rw [hq] at hy
    cases hy
   ·intro l h
    rcases List.mem_append.mp h with h | h
    ·exact hfr l h
    ·rw [List.mem_singleton.mp h]; exact s2.free hq
  ·rintro σ H2 ⟨v2, ls', rfl, s2, hd2, hrw2, hn2, hfr⟩
   rw [hkl, List.take_length] at hd2 hrw2
   have hlen : ls'.length = ss.length := hrw2.1
   walk_at "rd"
   refine ⟨a, o, _, rfl, s2 _ _ ha, ?_⟩
   refine for_dp (fun i σ H' => ∃ v2 v3 v4, σ = [some (.ref a), some (.ref D), v2, v3, v4] /\ Same H H' /\ DAtS H' D (lkD ss ls') /\ Rows (LAt (gE (eds g (ss.take i)))) H' ls' ss) ⟨_, _, _, rfl, s2, hd2, hrw2⟩ ?_ ?_ ?_
   ·rintro i σ H' ⟨v2, v3, v4, rfl, s3, _⟩
    exact s3 _ _ ha
   ·rintro i b T' p σ H' hp hb hT ⟨v2, v3, v4, rfl, s3, hd, hr3⟩
    obtain ⟨x, l, hx, hl, rfl⟩ := q8x hll hp
    have hi : i < ss.length := (List.getElem?_eq_some_iff.mp hx).1
    have ex : ss[i] = x := (List.getElem?_eq_some_iff.mp hx).2
    have hxs : x ∈ ss := List.mem_of_getElem? hx
    have hb' : SAt H' b x := hb
    have s4 := Same.upd (o := .tup [.ref b, .ref l]) hT
    have h4 := qb (H := H') (a := T') (o := .tup [.ref b, .ref l])
    show _
    generalize upd H' T' (.tup [.ref b, .ref l]) = H4 at s4 h4 ⊢
    have s34 := s3.trans s4
    have hb4 : SAt H4 b x := s4 _ _ hb'
    obtain ⟨os, hos, ros⟩ := hrw.2 i l x hl hx
    have hos4 := s34 _ _ hos
    have et : eds g (ss.take (i + 1)) = eds g (ss.take i) ++ (g x).map fun y => (x, y) := by rw [List.take_succ_eq_append_getElem hi, ex, q9X]
    have hel4 : (eds g (ss.take i)).length <= 500 * ss.length := Nat.le_trans (q5O fun y hy => hfl y (List.mem_of_mem_take hy)) (by rw [List.length_take]; omega)
    have hgx := hfl x hxs
    walk_at "rd"
    refine q1t (os.map V.ref) (fun j σ H' => ∃ v4, σ = [some (.ref a), some (.ref D), some (.ref b), some (.ref l), v4] /\ Same H H' /\ SAt H' b x /\ DAtS H' D (lkD ss ls') /\ Rows (LAt (gE (eds g (ss.take i) ++ ((g x).take j).map fun y => (x, y)))) H' ls' ss) ⟨v4, rfl, s34, hb4, s4 _ _ hd, by simpa using hr3.mono fun _ _ => LAt.mono s4⟩ ?_ ?_ ?_
    ·rintro j σ H' ⟨_, rfl, s5, _⟩
     exact SqL.of (s5 _ _ hos)
    ·rintro j z σ H5 hz ⟨v4, rfl, s5, hb5, hd5, hr5⟩
     have hj : j < (g x).length := by have := (List.getElem?_eq_some_iff.mp hz).1; rw [List.length_map, ros.1] at this; exact this
     obtain ⟨p, ep, hp⟩ := ros.get hj
     rw [hz] at ep
     cases ep
     have hp5 : SAt H5 p (g x)[j] := SAt.mono s5.ts hp
     have hy : (g x)[j] ∈ g x := List.getElem_mem hj
     rw [List.take_succ_eq_append_getElem hj, List.map_append, <- List.append_assoc]
     have hbd : (eds g (ss.take i) ++ ((g x).take j).map fun y => (x, y)).length <= 501000 := by rw [List.length_append, List.length_map, List.length_take]; omega
     generalize eds g (ss.take i) ++ ((g x).take j).map (fun y => (x, y)) = es at hr5 hbd ⊢
     generalize (g x)[j] = y at hp5 hy ⊢
     obtain ⟨m, hm, em⟩ := List.getElem_of_mem (hcl x hxs y hy)
     have hsm : ss[m]? = some y := by rw [List.getElem?_eq_getElem hm, em]
     have hlm : ls'[m]? = some (ls'[m]'(by omega)) := List.getElem?_eq_getElem _
     generalize ls'[m]'(by omega) = lm at hlm
     obtain ⟨qs, hqs, rqs⟩ := hr5.2 m lm y hlm hsm
     have hl5 := gE_len es y
     have hfm := hfr lm (List.mem_of_getElem? hlm)
     have dg := q5k (.inl hd5) hp5
     rw [qah hlen nd hsm hlm] at dg
     walk_at "rd"
     refine ⟨D, _, rfl, dg, ?_⟩
     walk_at "rd"
     refine ⟨lm, _, _, rfl, rfl, hqs, by rw [List.length_map, rqs.1]; omega, ?_⟩
     refine ⟨_, rfl, s5.put hfm, SAt.put hqs hb5, DAtS.lput hqs hd5, ?_⟩
     exact q7A hr5 hn2 nd hlm hsm hqs rqs hb5
    ·rintro σ H5 ⟨v4, rfl, s5, hb5, hd5, hr5⟩
     rw [List.length_map, ros.1, List.take_length] at hr5
     exact ⟨_, _, _, rfl, s5, hd5, by rw [et]; exact hr5⟩
   ·rintro σ H3 ⟨v2, v3, v4, rfl, s3, hd3, hr3⟩
    rw [hkl, List.take_length] at hr3
    walk_at "rd"
    exact k D ls' H3 s3 hD hd3 hr3
end
theorem q4j {C : Cl} {s t x y : Sd} (ok : ClOk C) (hx : x ∈ domS C s) (hy : y ∈ goL C x) : y ∈ domS C s := by
 obtain ⟨r, hr, rfl⟩ := q5K.mp hx
 unfold goL at hy
 obtain ⟨⟨d, i⟩, hi, rfl⟩ := List.mem_map.mp hy
 obtain ⟨h1, hc⟩ := List.mem_filter.mp hi
 obtain rfl : d = .go := by
  simp only [rowD, List.mem_map] at h1
  obtain ⟨_, _, e⟩ := h1
  exact (congrArg Prod.fst e).symm
 obtain ⟨z, hz, _, _, _, ed⟩ := go_of hc
 have hw := ok.w z (List.mem_of_getElem? hz)
 refine q5K.mpr ⟨if (q3v s r).rm = z.a then z.b else z.a, ?_, ?_⟩
 ·split
  ·exact hw.2.1
  ·exact hw.1
 ·rw [show q0K C (q3v s r) Wd.go (i : Int) = _ from ed]
  rfl
theorem q2X {C : Cl} {s : Sd} (h : s.ok C) : s ∈ domS C s := q5K.mpr ⟨s.rm, h.hrm, rfl⟩
theorem qbq {C : Cl} (ok : ClOk C) (x : Sd) : (goL C x).length <= 500 := by
 unfold goL
 rw [List.length_map]
 refine Nat.le_trans (List.length_filter_le _ _) ?_
 rw [q1L]
 have := ok.wl
 omega
theorem q5Q (C : Cl) (s : Sd) : (domS C s).length = C.rooms.toNat := by simp [domS]
theorem q5C {C : Cl} {s x : Sd} (ok : ClOk C) (h : s.ok C) (r : Rch (GoR C) s x) : x ∈ domS C s := by
 induction r with
 | refl => exact q2X h
 | step _ r ih => exact q4j (t := s) ok ih r
theorem q98 {C : Cl} {s x : Sd} (ok : ClOk C) (h : s.ok C) : Rch (fun x y => y ∈ gE (eds (goL C) (domS C s)) x) s x ↔ x ∈ domS C s /\ Rch (GoR C) x s := by
 constructor
 ·intro r
  induction r with
  | refl => exact ⟨q2X h, .refl⟩
  | step _ r ih =>
   obtain ⟨h1, h2⟩ := q5J.mp (q82.mp r)
   exact ⟨h1, Rch.head h2 ih.2⟩
 ·rintro ⟨hd, r⟩
  have key : ∀ {y : Sd}, Rch (GoR C) x y -> y ∈ domS C s /\ Rch (fun x y => y ∈ gE (eds (goL C) (domS C s)) x) y x := by
   intro y r
   induction r with
   | refl => exact ⟨hd, .refl⟩
   | step _ r ih => exact ⟨q4j (t := s) ok ih.1 r, Rch.head (q82.mpr (q5J.mpr ⟨ih.1, r⟩)) ih.2⟩
  exact (key r).2
def q3U : Sp := fun vs H Q _ => ∃ (c q : Addr) (C : Cl) (s : Sd), vs = [.ref c, .ref q] /\ ClAt H c C /\ ClOk C /\ SAt H q s /\ s.ok C /\ ∀ (l : Addr) (R : List Sd) (H' : Hp), Same H H' -> H l = none -> qT SAt H' l R -> IsR (GoR C) s R -> Q (.ref l) H'
theorem qT.pairs {H : Hp} {ps : List Addr} {R : List Sd} (h : Rows SAt H ps R) : ∃ l : List (Addr × List Int), l.map (·.1) = ps /\ l.map (·.2) = R.map Sd.ns /\ ∀ x ∈ l, H x.1 = some (.tup (x.2.map V.int)) /\ x.2.length = 5 := by
 refine ⟨List.zip ps (R.map Sd.ns), ?_, ?_, fun x hx => ?_⟩
 ·exact List.map_fst_zip (by rw [List.length_map, h.1]; exact Nat.le_refl _)
 ·exact List.map_snd_zip (by rw [List.length_map, h.1]; exact Nat.le_refl _)
 ·obtain ⟨i, hi, e⟩ := List.getElem_of_mem hx
  rw [List.length_zip, List.length_map] at hi
  have hi1 : i < ps.length := by omega
  have hi2 : i < R.length := by omega
  have := h.2 i ps[i] R[i] (List.getElem?_eq_getElem hi1) (List.getElem?_eq_getElem hi2)
  rw [List.getElem_zip] at e
  subst e
  simp only [List.getElem_map]
  exact ⟨this, rfl⟩
theorem q6K {H : Hp} {ps : List Addr} {R : List Sd} {l l' : List (Addr × List Int)} (h2 : l.map (·.2) = R.map Sd.ns) (h3 : ∀ x ∈ l, H x.1 = some (.tup (x.2.map V.int)) /\ x.2.length = 5) (hp : l'.Perm l) (hs : l'.Pairwise fun a b => ¬ b.2 < a.2) :
  ∃ R', R'.Perm R /\ Ord R' /\ Rows SAt H (l'.map (·.1)) R' := by
 have ex : ∀ x ∈ l', ∃ s : Sd, x.2 = s.ns := fun x hx => by
  have : x.2 ∈ l.map (·.2) := List.mem_map.mpr ⟨x, hp.mem_iff.mp hx, rfl⟩
  rw [h2] at this
  obtain ⟨s, _, e⟩ := List.mem_map.mp this
  exact ⟨s, e.symm⟩
 obtain ⟨R', hR⟩ : ∃ R' : List Sd, l'.map (·.2) = R'.map Sd.ns := by
  clear hp hs
  induction l' with
  | nil => exact ⟨[], rfl⟩
  | cons x l' ih =>
   obtain ⟨R', e⟩ := ih fun y hy => ex y (List.mem_cons_of_mem _ hy)
   obtain ⟨s, es⟩ := ex x (.head _)
   exact ⟨s :: R', by simp [e, es]⟩
 have pm : (R'.map Sd.ns).Perm (R.map Sd.ns) := by rw [<- hR, <- h2]; exact hp.map _
 refine ⟨R', ?_, ?_, ?_⟩
 ·have inv : ∀ l : List Sd, (l.map Sd.ns).map (fun k : List Int => (⟨k.getD 0 0, k.getD 1 0, k.getD 2 0, k.getD 3 0, k.getD 4 0⟩ : Sd)) = l := fun l => by
   rw [List.map_map]
   exact (List.map_congr_left fun a _ => rfl).trans (List.map_id l)
  have := pm.map fun k : List Int => (⟨k.getD 0 0, k.getD 1 0, k.getD 2 0, k.getD 3 0, k.getD 4 0⟩ : Sd)
  rwa [inv, inv] at this
 ·have : (l'.map (·.2)).Pairwise fun a b => ¬ b < a := List.pairwise_map.mpr hs
  rw [hR] at this
  exact List.pairwise_map.mp this
 ·have hl : l'.length = R'.length := by have := congrArg List.length hR; simpa using this
  refine ⟨by simpa using hl, fun i p x hp' hx => ?_⟩
  have hi : i < R'.length := (List.getElem?_eq_some_iff.mp hx).1
  have e1 : l'[i]'(by omega) ∈ l' := List.getElem_mem _
  have e2 := (h3 _ (hp.mem_iff.mp e1)).1
  have e3 : (l'[i]'(by omega)).1 = p := by simpa [show i < l'.length by omega] using hp'
  have e4 : (l'[i]'(by omega)).2 = x.ns := by
   have := congrArg (fun z => z[i]?) hR
   simp only [List.getElem?_map, hx, List.getElem?_eq_getElem (show i < l'.length by omega), Option.map_some] at this
   exact Option.some.inj this
  rw [e3, e4] at e2
  exact e2
section
variable {P : Program} {w : World} {K : W.Frag} {mg : Str -> Option Value} {base : Heap} {cs : Cs}
theorem q9r (T : Txt mg cs) (L : Laid K mg "round_of" q0X ["cellar", "stand"]) (C_go_links : Cal P w K mg base 8 "go_links" ["cellar", "stand"] spGL) (C_counts_from : Cal P w K mg base 1 "counts_from" ["begins", "links"] spCF) (C_turned_links : Cal P w K mg base 1 "turned_links" ["links"] spTL) : Cal P w K mg base 9 "round_of" ["cellar", "stand"] q3U := by
 refine L.cal (k := 8) q16 (fun vs H Q E h => ?_) (fun f cdv A outer s H vs Q E hr h => ?_)
 ·obtain ⟨c, q, C, st, rfl, _⟩ := h
  rfl
 ·obtain ⟨c, q, C, st, rfl, hC, ok, hq, sok, k⟩ := h
  have big := qD
  have ok1 := ok.r1
  have ok2 := ok.r2
  have hdl := q5Q C st
  have nd := q5j C st
  refine ⟨_, (qc (qv (i := 2) q16.nd rfl (Or.inl rfl) (qm C_go_links hr (by decide) rfl (qa (pv 0) (qa (pv 1) qd))))
   (qc (q7G (qv (i := 3) q16.nd rfl (Or.inl rfl) (qm C_counts_from hr (by decide) rfl (qa (q3J (qa (pv 1) qd)) (qa (pv 2) qd)))))
   (qc (qv (i := 4) q16.nd rfl (Or.inr rfl) (qm C_counts_from hr (by decide) rfl (qa (q3J (qa (pv 1) qd)) (qa (qm C_turned_links hr (by decide) rfl (qa (pv 2) qd)) qd))))
   (qf (q7G (qj (qB (sortTK K) rfl T.n_sorted q3n (qa (q0w (q0i (N := ["other", "gone_from"]) (own := 1) (caps := [4]) ["cellar", "stand", "links", "gone_to", "gone_from"] (qe q0X) (by decide +kernel)) rfl (qaf K (pv 3)) (fun _ _ _ _ => (qp (i := 0) (show List.Nodup (["other", "gone_from"] : List Str) by decide +kernel) rfl (Or.inl rfl))) (fun _ _ _ _ => (q7L (q3I (pc_din (q2m hr) (pv 0) (pv 1))))) (fun _ _ _ _ => (pv 0))) qd)))))))), ?_⟩
  walk_at "rd"
  refine ⟨c, q, C, st, rfl, hC, ok, hq, sok, fun a ls H1 s1 ha0 ha hrw => ?_⟩
  walk_at "rd"
  refine ⟨a, _, ha, fun o => ?_⟩
  have s2 : Same H (upd H1 a (.frz o (.dT (dkv (lkD (domS C st) ls))))) := s1.put ha0
  have ha2 := qb (H := H1) (a := a) (o := .frz o (.dT (dkv (lkD (domS C st) ls))))
  have hrw2 : Rows (LAt (goL C)) (upd H1 a (.frz o (.dT (dkv (lkD (domS C st) ls))))) ls (domS C st) := hrw.mono fun _ _ => LAt.dput ha
  generalize upd H1 a (.frz o (.dT (dkv (lkD (domS C st) ls)))) = H2 at s2 ha2 hrw2 ⊢
  walk_at "rd"
  intro b1 hb1
  have s3 := Same.upd (o := .lst [.ref q]) hb1
  have h3 := qb (H := H2) (a := b1) (o := .lst [.ref q])
  generalize upd H2 b1 (.lst [.ref q]) = H3 at s3 h3 ⊢
  have s03 := s2.trans s3
  walk_at "rd"
  refine ⟨b1, a, st, domS C st, goL C, ls, rfl, ⟨[q], h3, Rows.nil.snoc (s03 _ _ hq)⟩, .inr ⟨o, s3 _ _ ha2⟩, hrw2.mono fun _ _ => LAt.mono s3, nd, q2X sok, fun x hx y hy => q4j (t := st) ok hx hy, by omega, fun d1 row1 ns1 H4 s4 hd1f hd1 hns1 nd1 sub1 mem1 => ?_⟩
  have s04 := s03.trans s4
  walk_at "rd"
  intro b2 hb2
  have s5 := Same.upd (o := .lst [.ref q]) hb2
  have h5 := qb (H := H4) (a := b2) (o := .lst [.ref q])
  generalize upd H4 b2 (.lst [.ref q]) = H5 at s5 h5 ⊢
  have s35 := s3.trans (s4.trans s5)
  have s05 := s2.trans s35
  walk_at "rd"
  refine ⟨a, o, domS C st, goL C, ls, rfl, s35 _ _ ha2, hrw2.mono fun _ _ => LAt.mono s35, nd, fun x hx y hy => q4j (t := st) ok hx hy, by omega, fun x _ => qbq ok x, fun t ls' H6 s6 ht0 ht hrt => ?_⟩
  have s06 := s05.trans s6
  walk_at "rd"
  refine ⟨b2, t, st, domS C st, gE (eds (goL C) (domS C st)), ls', rfl, ⟨[q], s6 _ _ h5, Rows.nil.snoc (s06 _ _ hq)⟩, .inl ht, hrt, nd, q2X sok, fun x hx y hy => (q5J.mp (q82.mp hy)).1, by omega, fun d2 row2 ns2 H7 s7 hd2f hd2 hns2 nd2 sub2 mem2 => ?_⟩
  have s07 := s06.trans s7
  have hd1' : DAtS H7 d1 (cnD row1 ns1) := s7 _ _ (s6 _ _ (s5 _ _ hd1))
  have hd10 : H d1 = none := s03.free hd1f
  have ne12 : d2 ≠ d1 := fun z => by subst z; have := s6 _ _ (s5 _ _ hd1); rw [hd2f] at this; cases this
  walk_at "rd"
  refine ⟨d1, _, hd1', fun o1 => ?_⟩
  have s8 : Same H (upd H7 d1 (.frz o1 (.dT (dkv (cnD row1 ns1))))) := s07.put hd10
  have h8 := qb (H := H7) (a := d1) (o := .frz o1 (.dT (dkv (cnD row1 ns1))))
  have hd8 : DAtS (upd H7 d1 (.frz o1 (.dT (dkv (cnD row1 ns1))))) d2 (cnD row2 ns2) := by
   show upd H7 d1 _ d2 = _
   rw [ql ne12]; exact hd2
  generalize upd H7 d1 (.frz o1 (.dT (dkv (cnD row1 ns1)))) = H8 at s8 h8 hd8 ⊢
  have hl1 : row1.length <= 14 := by have := q2s nd1 sub1; omega
  have hkl : (dkv (cnD row1 ns1)).length = row1.length := by rw [show (dkv (cnD row1 ns1)).length = (cnD row1 ns1).length by simp [dkv], q8J hns1]
  walk_at "rd"
  refine ⟨d1, o1, _, rfl, h8, fun D hD => ?_⟩
  refine qbB (fun i σ H' => ∃ v0, σ = [v0, some (.ref d2)] /\ Same H8 H' /\ qT SAt H' D ((row1.take i).filter fun x => decide (x ∈ row2))) ⟨none, rfl, Same.upd hD, ⟨[], qb, Rows.nil⟩⟩ ?_ ?_ ?_
  ·rintro i σ H' ⟨v0, rfl, s9, _⟩
   exact s9 _ _ h8
  ·rintro i b p σ H' hp hb ⟨v0, rfl, s9, qs, hqs, rqs⟩
   have hi : i < row1.length := by have := (List.getElem?_eq_some_iff.mp hp).1; omega
   have hp' : p.1 = row1[i].key := by
    have e : (cnD row1 ns1)[i]? = some (row1[i], .int (ns1[i]'(by omega))) := by unfold cnD; rw [List.getElem?_zipWith, List.getElem?_eq_getElem hi, List.getElem?_eq_getElem (by omega)]
    rw [dkv, List.getElem?_map, e] at hp
    rw [<- Option.some.inj hp]
   have hb' : SAt H' b row1[i] := by rw [hp'] at hb; exact hb
   have hd9 : DAtS H' d2 (cnD row2 ns2) := s9 _ _ hd8
   have hql : qs.length <= 14 := by rw [rqs.1]; refine Nat.le_trans (List.length_filter_le _ _) ?_; rw [List.length_take]; omega
   rw [List.take_succ_eq_append_getElem hi, List.filter_append]
   walk_at "rd"
   refine ⟨d2, _, rfl, q5k (.inl hd9) hb', ?_⟩
   rw [q3M, q1Q hns2]
   walk_at "rd"
   by_cases hin : row1[i] ∈ row2
   ·rw [decide_eq_true hin]
    walk_at "rd"
    refine ⟨_, hqs, by rw [List.length_map]; omega, _, rfl, s9.put hD, ?_⟩
    rw [show ([row1[i]].filter fun x => decide (x ∈ row2)) = [row1[i]] by simp [hin]]
    exact q0F (fun _ _ => SAt.put hqs) rqs hb'
   ·rw [decide_eq_false hin]
    walk_at "rd"
    refine ⟨_, rfl, s9, qs, hqs, ?_⟩
    rw [show ([row1[i]].filter fun x => decide (x ∈ row2)) = [] by simp [hin], List.append_nil]
    exact rqs
  ·rintro σ H9 ⟨v0, rfl, s9, ps, hps, rps⟩
   rw [hkl, List.take_length] at rps
   have hpl : ps.length <= 14 := by rw [rps.1]; exact Nat.le_trans (List.length_filter_le _ _) hl1
   obtain ⟨l, e1, e2, e3⟩ := qT.pairs rps
   walk_at "rd"
   refine ⟨D, l, 5, rfl, SqL.of (by rw [hps, <- e1, List.map_map]; rfl), ?_, by decide, e3, fun r l' hr0 hp hs => ?_⟩
   ·have := congrArg List.length e1
    rw [List.length_map] at this
    omega
   ·obtain ⟨R', pm, od, rr⟩ := q6K (ps := ps) e2 e3 hp hs
    have s10 := Same.upd (o := .lst (l'.map fun x => V.ref x.1)) hr0
    have s0x := s8.trans s9
    refine k r R' _ (s0x.trans s10) (s0x.free hr0) ⟨l'.map (·.1), by rw [qb, List.map_map]; rfl, rr.mono fun _ _ => SAt.mono s10.ts⟩ ⟨?_, od, fun t => ?_⟩
    ·exact pm.nodup_iff.mpr (nd1.filter _)
    ·rw [pm.mem_iff, List.mem_filter, decide_eq_true_eq, mem1, mem2, q98 ok sok]
     exact ⟨fun ⟨a, _, b⟩ => ⟨a, b⟩, fun ⟨a, b⟩ => ⟨a, q5C ok sok a, b⟩⟩
end
theorem q7d {r : Int} {H : Hp} : ∀ {xs : List V}, (∀ x ∈ xs, q2r r H x) -> ∃ (ps : List Addr) (ws : List Way), xs = ps.map V.ref /\ Rows q4r H ps ws /\ ∀ x ∈ ws, (0 <= x.a /\ x.a < r) /\ (0 <= x.b /\ x.b < r) /\ x.a ≠ x.b /\ x.g.ok
 | [], _ => ⟨[], [], rfl, Rows.nil, fun x h => nomatch h⟩
 | x :: xs, h => by
  obtain ⟨ps, ws, e, hr, hw⟩ := q7d fun y hy => h y (List.mem_cons_of_mem _ hy)
  obtain ⟨p, g, a, b, bk, gt, ex, h1, h2, h3, h4, h5, h6⟩ := h x (.head _)
  refine ⟨p :: ps, ⟨a, b, gt, bk⟩ :: ws, by rw [ex, e]; rfl, ⟨by simp [hr.1], fun i q y hq hy => ?_⟩, fun y hy => ?_⟩
  ·cases i with
   | zero => cases hq; cases hy; exact ⟨g, h1, h2⟩
   | succ i => exact hr.2 i q y hq hy
  ·rcases List.mem_cons.mp hy with rfl | hy
   ·exact ⟨h4, h5, h6, h3⟩
   ·exact hw y hy
theorem q2U {r lo hi : Int} {H : Hp} : ∀ {xs : List V}, (∀ x ∈ xs, qZ r lo hi H x) -> ∃ (ps : List Addr) (ws : List (Int × Int)), xs = ps.map V.ref /\ Rows q15 H ps ws /\ ∀ x ∈ ws, (0 <= x.1 /\ x.1 < r) /\ lo <= x.2 /\ x.2 <= hi
 | [], _ => ⟨[], [], rfl, Rows.nil, fun x h => nomatch h⟩
 | x :: xs, h => by
  obtain ⟨ps, ws, e, hr, hw⟩ := q2U fun y hy => h y (List.mem_cons_of_mem _ hy)
  obtain ⟨p, a, n, ex, h1, h2, h3⟩ := h x (.head _)
  refine ⟨p :: ps, (a, n) :: ws, by rw [ex, e]; rfl, ⟨by simp [hr.1], fun i q y hq hy => ?_⟩, fun y hy => ?_⟩
  ·cases i with
   | zero => cases hq; cases hy; exact h1
   | succ i => exact hr.2 i q y hq hy
  ·rcases List.mem_cons.mp hy with rfl | hy
   ·exact ⟨h2, h3⟩
   ·exact hw y hy
theorem qbC {H : Hp} {p p1 p2 p3 p4 : Addr} {r f l b wt : Int} {x1 x2 x3 x4 : List V} (h0 : 1 <= r /\ r <= 14) (hf : 0 <= f /\ f < r) (hl : 0 <= l /\ l < r) (hb : 0 <= b /\ b < 256) (hw : 0 <= wt /\ wt < 10) (hp : H p = some (.tup [.int r, .int f, .int l, .ref p1, .ref p2, .ref p3, .ref p4, .int b, .int wt])) (e1 : H p1 = some (.tup x1)) (e2 : H p2 = some (.tup x2)) (e3 : H p3 = some (.tup x3)) (e4 : H p4 = some (.tup x4))
  (w1 : ∀ x ∈ x1, q2r r H x) (w2 : ∀ x ∈ x2, qZ r 0 11 H x) (w3 : ∀ x ∈ x3, qZ r 1 255 H x) (w4 : ∀ x ∈ x4, qZ r 0 9 H x) (l1 : x1.length <= 20) (l2 : x2.length <= 8) (l3 : x3.length <= 4) (l4 : x4.length <= 4) : ∃ C, ClAt H p C /\ ClOk C /\ C.rooms = r /\ C.ways.length = x1.length /\ C.things.length = x2.length /\ C.levers.length = x3.length /\ C.wheels.length = x4.length := by
 obtain ⟨q1, ws, rfl, r1, k1⟩ := q7d w1
 obtain ⟨q2, ts, rfl, r2, k2⟩ := q2U w2
 obtain ⟨q3, vs, rfl, r3, k3⟩ := q2U w3
 obtain ⟨q4, us, rfl, r4, k4⟩ := q2U w4
 rw [List.length_map] at l1 l2 l3 l4
 have n1 := r1.1
 have n2 := r2.1
 have n3 := r3.1
 have n4 := r4.1
 exact ⟨⟨r, f, l, ws, ts, vs, us, b, wt⟩, ⟨p1, p2, p3, p4, hp, ⟨q1, e1, r1⟩, ⟨q2, e2, r2⟩, ⟨q3, e3, r3⟩, ⟨q4, e4, r4⟩⟩,
  {r1 := h0.1, r2 := h0.2, f := hf, l := hl, wl := by show ws.length <= 20; omega, tl := by show ts.length <= 8; omega, ll := by show vs.length <= 4; omega, vl := by show us.length <= 4; omega, w := k1, t := fun x hx => ⟨(k2 x hx).1, by have := (k2 x hx).2; omega, by have := (k2 x hx).2; omega⟩, lv := fun x hx => ⟨(k3 x hx).1, by have := (k3 x hx).2; omega, by have := (k3 x hx).2; omega⟩, wh := fun x hx => ⟨(k4 x hx).1, by have := (k4 x hx).2; omega, by have := (k4 x hx).2; omega⟩, b := by show 0 <= b /\ b <= 255; omega, wa := by show 0 <= wt /\ wt <= 9; omega }, rfl, by rw [List.length_map]; exact n1.symm, by rw [List.length_map]; exact n2.symm, by rw [List.length_map]; exact n3.symm, by rw [List.length_map]; exact n4.symm⟩
section
variable {P : Program} {w : World} {K : W.Frag} {mg : Str -> Option Value} {base : Heap} {cs : Cs}
theorem q9u (T : Txt mg cs) (L : Laid K mg "_law_gate" q1a ["_law_cell"]) : Cal P w K mg base 1 "_law_gate" ["_law_cell"] qaa := by
 refine L.cal (k := 0) q1A (fun vs H Q E h => ?_) (fun f cdv A outer s H vs Q E hr h => ?_)
 ·obtain ⟨c, rfl, _⟩ := h
  rfl
 ·obtain ⟨c, rfl, k⟩ := h
  have a2 := qW (c / 10) (n := 2) (by decide)
  have a2' := qY (c / 10) (n := 2) (by decide)
  have a3 := qW (c / 10) (n := 3) (by decide)
  have a3' := qY (c / 10) (n := 3) (by decide)
  have b2 := qW (c / 10 / 3) (n := 2) (by decide)
  have b2' := qY (c / 10 / 3) (n := 2) (by decide)
  have door : ∀ p, H p = none -> Q (.ref p) (upd H p (.tup [.str "door", .int (c / 10 % 2)])) := fun p hp => k p (.door (c / 10 % 2)) _ (Same.upd hp) (show 0 <= c / 10 % 2 /\ c / 10 % 2 < 12 by omega) qb
  refine ⟨_, (qc (qv (i := 1) q1A.nd rfl (Or.inl rfl) (qt qN (pv 0) qg))
   (qc (qv (i := 0) q1A.nd rfl (Or.inl rfl) (qt qV (pv 0) qg))
   (qc (qP (PW.pt (q38 (qr q09 (pv 1) qg (qw _)) (q2i (qr q09 (pv 1) qg (qw _))))) (qf (qj (qM (qa qA (qa (qt qN (pv 0) qg) qd))))) qq)
   (qc (qP (qr q09 (pv 1) qg (qw _)) (qf (qj (qM (qa qA (qa (qt qN (pv 0) qg) qd))))) qq)
   (qc (qP (qr q09 (pv 1) qg (qw _)) (qf (qj (qM (qa qA (qa (qt qN (pv 0) qg) qd))))) qq)
   (qc (qP (qr q09 (pv 1) qg (qw _)) (qf (qj (qM (qa qA (qa (qt q1x (qt qN (pv 0) qg) qg) (qa (qt qN (qt qV (pv 0) qg) qg) qd)))))) qq)
   (qc (qP (qr q09 (pv 1) qg (qw _)) (qf (qj (qM (qa qA (qa (qt q1x (qt qN (pv 0) qg) qg) qd))))) qq)
   (qf (qj (qM (qa qA qd))))))))))), ?_⟩
  walk_at "rd"
  refine ifd (fun h1 => ?_) (fun h1 => ?_)
  ·walk_at "rd"
   exact door
  walk_at "rd"
  refine ifd (fun h2 => ?_) (fun h2 => ?_)
  ·walk_at "rd"
   exact door
  walk_at "rd"
  refine ifd (fun h3 => ?_) (fun h3 => ?_)
  ·walk_at "rd"
   exact fun p hp => k p (.need (c / 10 % 2)) _ (Same.upd hp) (show 0 <= c / 10 % 2 /\ c / 10 % 2 < 12 by omega) qb
  walk_at "rd"
  refine ifd (fun h4 => ?_) (fun h4 => ?_)
  ·walk_at "rd"
   exact fun p hp => k p (.bar (c / 10 % 2)) _ (Same.upd hp) (show 0 <= c / 10 % 2 /\ c / 10 % 2 < 8 by omega) qb
  walk_at "rd"
  refine ifd (fun h5 => ?_) (fun h5 => ?_)
  ·walk_at "rd"
   exact fun p hp => k p (.wade (c / 10 % 3 + 2) (c / 10 / 3 % 2)) _ (Same.upd hp) (show (0 <= c / 10 % 3 + 2 /\ c / 10 % 3 + 2 < 10) /\ 0 <= c / 10 / 3 % 2 /\ c / 10 / 3 % 2 < 12 by omega) qb
  walk_at "rd"
  refine ifd (fun h6 => ?_) (fun h6 => ?_)
  ·walk_at "rd"
   exact fun p hp => k p (.float (c / 10 % 3 + 2)) _ (Same.upd hp) (show 0 <= c / 10 % 3 + 2 /\ c / 10 % 3 + 2 < 10 by omega) qb
  walk_at "rd"
  exact fun p hp => k p .plain _ (Same.upd hp) trivial qb
def spCelL (K : W.Frag) : Sp := fun vs H Q _ => ∃ (a : Addr) (ns : List Int), vs = [.ref a] /\ SqL K H a (ns.map V.int) /\ ns.length <= 63 /\ ∀ (p : Addr) (C : Cl) (H' : Hp), Same H H' -> ClAt H' p C -> ClOk C -> Small C -> Q (.ref p) H'
theorem qb7 {d1 d2 : Tok} (T : Txt mg cs) (L : Laid K mg "_law_cellar" qR ["_law_script"]) (C__law_cell_at : Cal P w K mg base 1 "_law_cell_at" ["_law_script", "_law_k"] (q5v K)) (C__law_gate : Cal P w K mg base 1 "_law_gate" ["_law_cell"] qaa) (C_cellar : CalD P w K mg base 4 "cellar" ["rooms", "first", "last", "ways", "things", "levers", "wheels", "bars", "water"] qaF q0P [.none, .none, .none, .int 0 d1, .int 0 d2]) : Cal P w K mg base 5 "_law_cellar" ["_law_script"] (spCelL K) := by
 refine L.cal (k := 4) qx (fun vs H Q E h => ?_) (fun f cdv A outer s H vs Q E hr h => ?_)
 ·obtain ⟨a, ns, rfl, _⟩ := h
  rfl
 ·obtain ⟨a, ns, rfl, hS, hl, k⟩ := h
  have big := qD
  refine ⟨_, (qc (qv (i := 1) qx.nd rfl (Or.inl rfl) (qm C__law_cell_at hr (by decide) rfl (qa (pv 0) (qa qg qd))))
   (qc (qv (i := 2) qx.nd rfl (Or.inr rfl) (qt q1x qg (qt qN (pv 1) qg)))
   (qc (qv (i := 3) qx.nd rfl (Or.inl rfl) (q3J qd))
   (qc (q0t PassesOwn.never rfl (q08 rfl T.n_range (qa (qt op_mul (qt qN (qt qV (pv 1) qg) qg) (q0u int1 rfl T.n_int qas (qa (q0e q59 (pv 2) qg (qw _)) qd))) qd)) (qp (i := 4) qx.nd rfl (Or.inl rfl)) (qc (qv (i := 5) qx.nd rfl (Or.inl rfl) (qm C__law_cell_at hr (by decide) rfl (qa (pv 0) (qa (qt q1x qg (pv 4)) qd))))
   (qc (qv (i := 6) qx.nd rfl (Or.inl rfl) (qt qN (pv 5) (pv 2)))
   (qc (qv (i := 7) qx.nd rfl (Or.inl rfl) (qt qN (qt q1x (qt q1x (pv 6) qg) (qt qN (qt qV (pv 5) qg) (qt q3a (pv 2) qg))) (pv 2)))
   (qf (qJ (q7P PySem.F.plainAttrs_list PySem.F.slot_list_append PySem.F.type_list_append q13 (pv 3) (qa (qM (qa (pv 6) (qa (pv 7) (qa (qm C__law_gate hr (by decide) rfl (qa (qt qV (pv 5) qg) qd)) (qa (q0e q59 (qt qN (qt qV (pv 5) qg) qg) qg (qw _)) qd))))) qd))))))))
   (qc (qv (i := 8) qx.nd rfl (Or.inr rfl) (q0w (q0i (N := ["_law_k", "_law_script"]) (own := 1) (caps := [0]) ["_law_script", "_law_first", "_law_rooms", "_law_ways", "_law_k", "_law_cell", "_law_a", "_law_b", "_law_some", "_law_things", "_law_levers", "_law_wheels", "_law_last", "_law_more"] (qe qR) (by decide +kernel)) rfl (q08 rfl T.n_range (qa qg qd)) (fun _ _ _ _ => (qp (i := 0) (show List.Nodup (["_law_k", "_law_script"] : List Str) by decide +kernel) rfl (Or.inl rfl))) (fun _ _ _ _ => q0y) (fun _ _ _ _ => (qm C__law_cell_at hr (by decide) rfl (qa (pv 1) (qa (qt q1x qg (pv 0)) qd))))))
   (qc (q22 (i := 9) qx.nd rfl rfl (q0i (N := ["_law_k", "_law_some", "_law_rooms"]) (own := 1) (caps := [8, 2]) ["_law_script", "_law_first", "_law_rooms", "_law_ways", "_law_k", "_law_cell", "_law_a", "_law_b", "_law_some", "_law_things", "_law_levers", "_law_wheels", "_law_last", "_law_more"] (qe qR) (by decide +kernel)) rfl (q08 rfl T.n_range (qa (qt qN (qt qV (pv 1) qg) qg) qd)) (fun _ _ _ _ => (qp (i := 0) (show List.Nodup (["_law_k", "_law_some", "_law_rooms"] : List Str) by decide +kernel) rfl (Or.inl rfl))) (fun _ _ _ _ => q0y) (fun _ _ _ _ => (qM (qa (qt qN (qu (qS K) (pv 1) (pv 0) (fun _ _ => rfl)) (pv 2)) (qa (qt qN (qt qV (qu (qS K) (pv 1) (pv 0) (fun _ _ => rfl)) qg) qg) qd)))))
   (qc (q22 (i := 10) qx.nd rfl rfl (q0i (N := ["_law_k", "_law_some", "_law_rooms"]) (own := 1) (caps := [8, 2]) ["_law_script", "_law_first", "_law_rooms", "_law_ways", "_law_k", "_law_cell", "_law_a", "_law_b", "_law_some", "_law_things", "_law_levers", "_law_wheels", "_law_last", "_law_more"] (qe qR) (by decide +kernel)) rfl (q08 rfl T.n_range (qa (qt qN (qt qV (pv 1) qg) qg) qd)) (fun _ _ _ _ => (qp (i := 0) (show List.Nodup (["_law_k", "_law_some", "_law_rooms"] : List Str) by decide +kernel) rfl (Or.inl rfl))) (fun _ _ _ _ => q0y) (fun _ _ _ _ => (qM (qa (qt qN (qt qV (qu (qS K) (pv 1) (pv 0) (fun _ _ => rfl)) qg) (pv 2)) (qa (qt q1x qg (qt qN (qt qV (qu (qS K) (pv 1) (pv 0) (fun _ _ => rfl)) qg) qg)) qd)))))
   (qc (q22 (i := 11) qx.nd rfl rfl (q0i (N := ["_law_k", "_law_some", "_law_rooms"]) (own := 1) (caps := [8, 2]) ["_law_script", "_law_first", "_law_rooms", "_law_ways", "_law_k", "_law_cell", "_law_a", "_law_b", "_law_some", "_law_things", "_law_levers", "_law_wheels", "_law_last", "_law_more"] (qe qR) (by decide +kernel)) rfl (q08 rfl T.n_range (qa (qt qV (qt qN (qt qV (pv 1) qg) qg) qg) qd)) (fun _ _ _ _ => (qp (i := 0) (show List.Nodup (["_law_k", "_law_some", "_law_rooms"] : List Str) by decide +kernel) rfl (Or.inl rfl))) (fun _ _ _ _ => q0y) (fun _ _ _ _ => (qM (qa (qt qN (qt qV (qu (qS K) (pv 1) (pv 0) (fun _ _ => rfl)) qg) (pv 2)) (qa (qt qN (qt qV (qu (qS K) (pv 1) (pv 0) (fun _ _ => rfl)) qg) qg) qd)))))
   (qc (qv (i := 12) qx.nd rfl (Or.inl rfl) (qt qN (qm C__law_cell_at hr (by decide) rfl (qa (pv 0) (qa qg qd))) (pv 2)))
   (qc (qv (i := 13) qx.nd rfl (Or.inl rfl) (qm C__law_cell_at hr (by decide) rfl (qa (pv 0) (qa qg qd))))
   (qf (qj (qaW C_cellar (q5Z d1 d2) (q5P d1 d2) hr (by decide) rfl (qa (pv 2) (qa (qt qN (pv 13) (pv 2)) (qa (pv 12) (qa (pv 3) (qa (pv 9) (qa (pv 10) (qa (pv 11) (qa (qt qN (qt qV (pv 13) qg) qg) (qa (qt qN (qt qV (pv 13) qg) qg) qd)))))))))))))))))))))), ?_⟩
  walk_at "rd"
  refine ⟨a, ns, 0, rfl, hS, hl, by decide, ?_⟩
  generalize ns.getD (0 : Int).toNat 0 = n0
  have r0 := qW n0 (n := 5) (by decide)
  have r1 := qY n0 (n := 5) (by decide)
  have m0 := qW (n0 / 5) (n := 5) (by decide)
  have m1 := qY (n0 / 5) (n := 5) (by decide)
  walk_at "rd"
  intro W hW
  generalize hR : 1 + n0 % 5 = R
  have hSW := (Same.upd (o := .lst []) hW).seq hS
  walk_at "rd"
  obtain ⟨N, eN, hN4, hN1⟩ : ∃ N : Nat, (n0 / 5 % 5 * if decide (1 < R) = true then 1 else 0) = (N : Int) /\ N <= 4 /\ (0 < N -> 1 < R) := by
   by_cases h : 1 < R
   ·rw [decide_eq_true h, if_pos rfl, Int.mul_one]
    exact ⟨(n0 / 5 % 5).toNat, by omega, by omega, fun _ => h⟩
   ·rw [decide_eq_false h, if_neg (by decide), Int.mul_zero]
    exact ⟨0, rfl, by omega, fun h => absurd h (by decide)⟩
  rw [eN]
  refine r_rg (by omega) ?_
  have hR1 : 1 <= R := by omega
  have hR5 : R <= 5 := by omega
  refine q8r (fun i σ H' => ∃ v4 v5 v6 v7, σ = [some (.ref a), some (.int n0), some (.int R), some (.ref W), v4, v5, v6, v7, none, none, none, none, none, none] /\ Same H H' /\ ∃ xs, H' W = some (.lst xs) /\ xs.length <= i /\ ∀ x ∈ xs, q2r R H' x) ⟨none, none, none, none, rfl, Same.upd hW, [], qb, Nat.le_refl _, fun x hx => by cases hx⟩ ?_ ?_
  ·rintro i σ H' hi ⟨v4, v5, v6, v7, rfl, s1, xs, hx1, hxl, hok⟩
   have hi' : i < N := by simpa using hi
   have hR2 := hN1 (by omega)
   walk_at "rd"
   refine ⟨a, ns, _, rfl, s1.seq hS, hl, by omega, ?_⟩
   generalize ns.getD _ 0 = m
   have a0 := qW m (n := R) (by omega)
   have a1 := qY m (n := R) (by omega)
   have d0 := qW (m / 5) (n := R - 1) (by omega)
   have d1 := qY (m / 5) (n := R - 1) (by omega)
   have b0 := qW (m % R + 1 + m / 5 % (R - 1)) (n := R) (by omega)
   have b1 := qY (m % R + 1 + m / 5 % (R - 1)) (n := R) (by omega)
   have hab : m % R ≠ (m % R + 1 + m / 5 % (R - 1)) % R := by
    rw [Int.add_assoc]
    exact fun z => off_ne a0 a1 (by omega) (by omega) z.symm
   walk_at "rd"
   refine ⟨_, rfl, fun g gt H2 s2 gok hg => ?_⟩
   walk_at "rd"
   intro p hp
   have hD2 := q0c (o := .tup [.int (m % R), .int ((m % R + 1 + m / 5 % (R - 1)) % R), .ref g, .bl (decide (0 < m / 7 % 4))]) (s2 _ _ hx1) hp
   walk_at "rd"
   refine qaQ hD2 (by omega) ?_
   have ts2 := (s2.ts.trans (q03.new (o := .tup [.int (m % R), .int ((m % R + 1 + m / 5 % (R - 1)) % R), .ref g, .bl (decide (0 < m / 7 % 4))]) hp)).trans (q03.lst (o := .lst (xs ++ [.ref p])) hD2)
   refine ⟨_, _, _, _, rfl, ((s1.trans s2).trans (Same.upd hp)).put hW, _, qb, by rw [List.length_append]; simp only [List.length_singleton]; omega, fun x hx => ?_⟩
   rcases List.mem_append.mp hx with hx | hx
   ·exact q2r.mono ts2 (hok x hx)
   ·obtain rfl := List.mem_singleton.mp hx
    exact ⟨p, g, _, _, _, _, rfl, q03.lst (o := .lst (xs ++ [.ref p])) hD2 _ _ qb, (q03.lst (o := .lst (xs ++ [.ref p])) hD2) _ _ (q0c hg hp), gok, ⟨a0, a1⟩, ⟨b0, b1⟩, hab⟩
  ·rintro σ H1 ⟨v4, v5, v6, v7, rfl, s1, xw, hxw, hwl, hwok⟩
   have hwl' : xw.length <= N := by simpa using hwl
   walk_at "rd"
   intro S hS0
   refine q0G (fun i σ H' => ∃ v0, σ = [v0, some (.ref a)] /\ Same H1 H' /\ ∃ ms : List Int, H' S = some (.lst (ms.map V.int)) /\ ms.length = i) ⟨none, rfl, Same.upd hS0, [], qb, rfl⟩ ?_ ?_
   ·rintro i σ H' hi ⟨v0, rfl, s2, ms, hms, hml⟩
    have hi' : i < 5 := by simpa using hi
    walk_at "rd"
    refine ⟨a, ns, _, rfl, (s1.trans s2).seq hS, hl, by omega, ?_⟩
    generalize ns.getD _ 0 = m
    refine ⟨_, hms, by rw [List.length_map]; omega, _, rfl, s2.put hS0, ms ++ [m], ?_, by simp [hml]⟩
    rw [qb, List.map_append]
    rfl
   rintro σ H2 ⟨v0, rfl, s2, ms, hms, hml⟩
   have hml' : ms.length = 5 := by simpa using hml
   have s02 := s1.trans s2
   have t0 := qW (n0 / 35) (n := 3) (by decide)
   have t1 := qY (n0 / 35) (n := 3) (by decide)
   have u0 := qW (n0 / 105) (n := 2) (by decide)
   have u1 := qY (n0 / 105) (n := 2) (by decide)
   have q0 := qW (n0 / 210) (n := 3) (by decide)
   have q1 := qY (n0 / 210) (n := 3) (by decide)
   walk_at "rd"
   intro D1 hD1
   refine q0G (fun i σ H' => ∃ v0, σ = [v0, some (.ref S), some (.int R)] /\ Same H2 H' /\ ∃ xs, H' D1 = some (.lst xs) /\ xs.length = i /\ ∀ x ∈ xs, qZ R 0 11 H' x) ⟨none, rfl, Same.upd hD1, [], qb, rfl, fun x hx => by cases hx⟩ ?_ ?_
   ·rintro i σ H' hi ⟨v0, rfl, s3, xs, hx1, hxl, hok⟩
    have hi' : i < 3 := by omega
    have hat : (ms.map V.int)[i]? = some (.int (ms.getD i 0)) := by simp [List.getD_eq_getElem?_getD, show i < ms.length by omega]
    generalize ms.getD i 0 = m at hat
    have hms3 := s3 _ _ hms
    have a0 := qW m (n := R) (by omega)
    have a1 := qY m (n := R) (by omega)
    have b0 := qW (m / 5) (n := 2) (by decide)
    have b1 := qY (m / 5) (n := 2) (by decide)
    walk_at "rd"
    intro p hp
    have hD2 := q0c (o := .tup [.int (m % R), .int (m / 5 % 2)]) hx1 hp
    have ts2 := (q03.new (o := .tup [.int (m % R), .int (m / 5 % 2)]) hp).trans (q03.lst (o := .lst (xs ++ [.ref p])) hD2)
    refine ⟨_, hD2, by omega, _, rfl, (s3.trans (Same.upd hp)).put hD1, _, qb, by rw [List.length_append]; simp only [List.length_singleton]; omega, fun x hx => ?_⟩
    rcases List.mem_append.mp hx with hx | hx
    ·exact qZ.mono ts2 (hok x hx)
    ·obtain rfl := List.mem_singleton.mp hx
     exact ⟨p, _, _, rfl, q03.lst (o := .lst (xs ++ [.ref p])) hD2 _ _ qb, ⟨a0, a1⟩, by omega, by omega⟩
   rintro σ H3 ⟨v0, rfl, s3, x2, hx2, hl2, hok2⟩
   have hms3 := s3 _ _ hms
   walk_at "rd"
   intro D2 hD2'
   refine q0G (fun i σ H' => ∃ v0, σ = [v0, some (.ref S), some (.int R)] /\ Same H3 H' /\ ∃ xs, H' D2 = some (.lst xs) /\ xs.length = i /\ ∀ x ∈ xs, qZ R 1 255 H' x) ⟨none, rfl, Same.upd hD2', [], qb, rfl, fun x hx => by cases hx⟩ ?_ ?_
   ·rintro i σ H' hi ⟨v0, rfl, s4, xs, hx1, hxl, hok⟩
    have hi' : i < 3 := by omega
    have hat : (ms.map V.int)[i]? = some (.int (ms.getD i 0)) := by simp [List.getD_eq_getElem?_getD, show i < ms.length by omega]
    generalize ms.getD i 0 = m at hat
    have hms4 := s4 _ _ hms3
    have a0 := qW (m / 11) (n := R) (by omega)
    have a1 := qY (m / 11) (n := R) (by omega)
    have b0 := qW (m / 55) (n := 3) (by decide)
    have b1 := qY (m / 55) (n := 3) (by decide)
    walk_at "rd"
    intro p hp
    have hD2 := q0c (o := .tup [.int (m / 11 % R), .int (1 + m / 55 % 3)]) hx1 hp
    have ts2 := (q03.new (o := .tup [.int (m / 11 % R), .int (1 + m / 55 % 3)]) hp).trans (q03.lst (o := .lst (xs ++ [.ref p])) hD2)
    refine ⟨_, hD2, by omega, _, rfl, (s4.trans (Same.upd hp)).put hD2', _, qb, by rw [List.length_append]; simp only [List.length_singleton]; omega, fun x hx => ?_⟩
    rcases List.mem_append.mp hx with hx | hx
    ·exact qZ.mono ts2 (hok x hx)
    ·obtain rfl := List.mem_singleton.mp hx
     exact ⟨p, _, _, rfl, q03.lst (o := .lst (xs ++ [.ref p])) hD2 _ _ qb, ⟨a0, a1⟩, by omega, by omega⟩
   rintro σ H4 ⟨v0, rfl, s4, x3, hx3, hl3, hok3⟩
   have hms4 := s4 _ _ hms3
   walk_at "rd"
   intro D3 hD3
   refine q0G (fun i σ H' => ∃ v0, σ = [v0, some (.ref S), some (.int R)] /\ Same H4 H' /\ ∃ xs, H' D3 = some (.lst xs) /\ xs.length = i /\ ∀ x ∈ xs, qZ R 0 9 H' x) ⟨none, rfl, Same.upd hD3, [], qb, rfl, fun x hx => by cases hx⟩ ?_ ?_
   ·rintro i σ H' hi ⟨v0, rfl, s5, xs, hx1, hxl, hok⟩
    have hi' : i < 3 := by omega
    have hat : (ms.map V.int)[i]? = some (.int (ms.getD i 0)) := by simp [List.getD_eq_getElem?_getD, show i < ms.length by omega]
    generalize ms.getD i 0 = m at hat
    have hms5 := s5 _ _ hms4
    have a0 := qW (m / 13) (n := R) (by omega)
    have a1 := qY (m / 13) (n := R) (by omega)
    have b0 := qW (m / 65) (n := 6) (by decide)
    have b1 := qY (m / 65) (n := 6) (by decide)
    walk_at "rd"
    intro p hp
    have hD2 := q0c (o := .tup [.int (m / 13 % R), .int (m / 65 % 6)]) hx1 hp
    have ts2 := (q03.new (o := .tup [.int (m / 13 % R), .int (m / 65 % 6)]) hp).trans (q03.lst (o := .lst (xs ++ [.ref p])) hD2)
    refine ⟨_, hD2, by omega, _, rfl, (s5.trans (Same.upd hp)).put hD3, _, qb, by rw [List.length_append]; simp only [List.length_singleton]; omega, fun x hx => ?_⟩
    rcases List.mem_append.mp hx with hx | hx
    ·exact qZ.mono ts2 (hok x hx)
    ·obtain rfl := List.mem_singleton.mp hx
     exact ⟨p, _, _, rfl, q03.lst (o := .lst (xs ++ [.ref p])) hD2 _ _ qb, ⟨a0, a1⟩, by omega, by omega⟩
   rintro σ H5 ⟨v0, rfl, s5, x4, hx4, hl4, hok4⟩
   have s25 := s3.trans (s4.trans s5)
   have s15 := s2.trans s25
   have s05 := s1.trans s15
   walk_at "rd"
   refine ⟨a, ns, 1, rfl, s05.seq hS, hl, by decide, ?_⟩
   generalize ns.getD (1 : Int).toNat 0 = n1
   have la := qW n1 (n := R) (by omega)
   have lb := qY n1 (n := R) (by omega)
   walk_at "rd"
   refine ⟨a, ns, 2, rfl, s05.seq hS, hl, by decide, ?_⟩
   generalize ns.getD (2 : Int).toNat 0 = n2
   have fa := qW n2 (n := R) (by omega)
   have fb := qY n2 (n := R) (by omega)
   have ba := qW (n2 / 5) (n := 4) (by decide)
   have bb := qY (n2 / 5) (n := 4) (by decide)
   have wa := qW (n2 / 20) (n := 6) (by decide)
   have wb := qY (n2 / 20) (n := 6) (by decide)
   walk_at "rd"
   have w1 : ∀ x ∈ xw, q2r R H5 x := fun x hx => q2r.mono s15.ts (hwok x hx)
   have w2 : ∀ x ∈ x2, qZ R 0 11 H5 x := fun x hx => qZ.mono (s4.trans s5).ts (hok2 x hx)
   have w3 : ∀ x ∈ x3, qZ R 1 255 H5 x := fun x hx => qZ.mono s5.ts (hok3 x hx)
   refine ⟨R, n2 % R, n1 % R, n2 / 5 % 4, n2 / 20 % 6, .ref W, .ref D1, .ref D2, .ref D3, xw, x2, x3, x4, rfl, by omega, by omega, by omega, by omega, by omega, .inr (.inl ⟨W, rfl, s15 _ _ hxw⟩), .inr (.inl ⟨D1, rfl, (s4.trans s5) _ _ hx2⟩), .inr (.inl ⟨D2, rfl, s5 _ _ hx3⟩), .inr (.inl ⟨D3, rfl, hx4⟩), w1, w2, w3, hok4, by omega, by omega, by omega, by omega, fun p p1 p2 p3 p4 H6 s6 hp e1 e2 e3 e4 => ?_⟩
   obtain ⟨C, hC, ok, c1, c2, c3, c4, c5⟩ := qbC (by omega) (by omega) (by omega) (by omega) (by omega) hp e1 e2 e3 e4 (fun x hx => q2r.mono s6.ts (w1 x hx)) (fun x hx => qZ.mono s6.ts (w2 x hx)) (fun x hx => qZ.mono s6.ts (w3 x hx)) (fun x hx => qZ.mono s6.ts (hok4 x hx)) (by omega) (by omega) (by omega) (by omega)
   exact k p C H6 (s05.trans s6) hC ok ⟨by omega, by omega, by omega, by omega, by omega⟩
end
def spCome : Sp := fun vs H Q _ => ∃ (c q : Addr) (C : Cl) (s : Sd), vs = [.ref c, .ref q] /\ ClAt H c C /\ ClOk C /\ SAt H q s /\ s.ok C /\ ∀ (l : Addr) (sts : List Sd) (H' : Hp), Same H H' -> H l = none -> qT SAt H' l sts -> sts ≠ [] -> sts.length <= 1000 -> (∀ x ∈ sts, x.ok C) -> Q (.ref l) H'
theorem qbi {C : Cl} {x y : Sd} : y ∈ goL C x ↔ ∃ i : Nat, canD C x .go (i : Int) = true /\ y = q0K C x .go (i : Int) := by
 unfold goL
 simp only [List.mem_map, List.mem_filter]
 constructor
 ·rintro ⟨⟨d, i⟩, ⟨h1, hc⟩, rfl⟩
  obtain rfl : d = .go := by
   simp only [rowD, List.mem_map] at h1
   obtain ⟨_, _, e⟩ := h1
   exact (congrArg Prod.fst e).symm
  exact ⟨i, hc, rfl⟩
 ·rintro ⟨i, hc, rfl⟩
  refine ⟨(.go, i), ⟨?_, hc⟩, rfl⟩
  obtain ⟨_, j, e, hj, _⟩ := q1u hc
  have : i = j := by omega
  subst this
  simp only [rowD, List.mem_map, List.mem_range]
  exact ⟨i, hj, rfl⟩
theorem goL_ok {C : Cl} {x y : Sd} (ok : ClOk C) (h : x.ok C) (r : GoR C x y) : y.ok C := by
 obtain ⟨i, hc, rfl⟩ := qbi.mp r
 exact q4l ok h hc
theorem q7C {C : Cl} {x y : Sd} (ok : ClOk C) (h : x.ok C) (r : Rch (GoR C) x y) : y.ok C := by
 induction r with
 | refl => exact h
 | step _ r ih => exact goL_ok ok ih r
def q94 (K : W.Frag) : Sp := fun vs H Q _ => ∃ (a : Addr) (ns : List Int), vs = [.ref a] /\ SqL K H a (ns.map V.int) /\ ns.length <= 63 /\ ∀ H', Q (.bl true) H'
def spAny (K : W.Frag) : Sp := fun vs H Q _ => ∃ (a c : Addr) (ns : List Int) (C : Cl), vs = [.ref a, .ref c] /\ SqL K H a (ns.map V.int) /\ ns.length <= 63 /\ ClAt H c C /\ ClOk C /\ ∀ (p : Addr) (s : Sd) (H' : Hp), Same H H' -> SAt H' p s -> s.ok C -> Q (.ref p) H'
section
variable {P : Program} {w : World} {K : W.Frag} {mg : Str -> Option Value} {base : Heap} {cs : Cs}
theorem qb6 (T : Txt mg cs) (L : Laid K mg "_law_come" q1b ["_law_place", "_law_stand"]) (C_deeds_at : Cal P w K mg base 8 "deeds_at" ["cellar", "stand"] q28) (C_behind : Cal P w K mg base 7 "behind" ["cellar", "stand", "deed"] q2Q) : Cal P w K mg base 9 "_law_come" ["_law_place", "_law_stand"] spCome := by
 refine L.cal (k := 8) q0g (fun vs H Q E h => ?_) (fun f cdv A outer s H vs Q E hr h => ?_)
 ·obtain ⟨c, q, C, st, rfl, _⟩ := h
  rfl
 ·obtain ⟨c, q, C, st, rfl, hC, ok, hq, sok, k⟩ := h
  have big := qD
  refine ⟨_, (qc (qv (i := 2) q0g.nd rfl (Or.inl rfl) (q3J (qa (pv 1) qd)))
   (qc (qv (i := 3) q0g.nd rfl (Or.inl rfl) qg)
   (qc (q6e PassesOwn.never (PW.pt (pw_and (qr qaZ (pv 3) (qB (lenK K) rfl T.n_len q0k (qa (pv 2) qd)) (qw _)) (qaR (qr q9o (qB (lenK K) rfl T.n_len q0k (qa (pv 2) qd)) qg (qw _))))) (qc (q0t PassesOwn.never rfl (q00 K (qm C_deeds_at hr (by decide) rfl (qa (pv 0) (qa (qu (qS K) (pv 2) (pv 3) (fun _ _ => rfl)) qd)))) (qp (i := 4) q0g.nd rfl (Or.inl rfl)) (qc (qv (i := 5) q0g.nd rfl (Or.inl rfl) (qm C_behind hr (by decide) rfl (qa (pv 0) (qa (qu (qS K) (pv 2) (pv 3) (fun _ _ => rfl)) (qa (pv 4) qd)))))
   (qf (qP (qr (q58 K 1 (qal hr)) (pv 5) (pv 2) (by with_unfolding_all rfl)) (qf (qJ (q7P PySem.F.plainAttrs_list PySem.F.slot_list_append PySem.F.type_list_append q13 (pv 2) (qa (pv 5) qd)))) qq))))
   (qf (qv (i := 3) q0g.nd rfl (Or.inl rfl) (qt q1x (pv 3) qg)))))
   (qf (qj (pv 2)))))), ?_⟩
  walk_at "rd"
  intro F hF
  have s1 := Same.upd (o := .lst [.ref q]) hF
  have h1 := qb (H := H) (a := F) (o := .lst [.ref q])
  generalize upd H F (.lst [.ref q]) = H1 at s1 h1 ⊢
  walk_at "rd"
  refine q7D (fun m σ H' => ∃ (sts : List Sd) (pl : Nat) (v4 v5 : Option V), σ = [some (.ref c), some (.ref q), some (.ref F), some (.int pl), v4, v5] /\ Same H H' /\ qT SAt H' F sts /\ (∀ x ∈ sts, x.ok C) /\ sts ≠ [] /\ sts.length <= 400 /\ pl <= sts.length /\ m = 500 - pl) (500 - 0)
   ⟨[st], 0, none, none, rfl, s1, ⟨[q], h1, Rows.nil.snoc (s1 _ _ hq)⟩, fun x hx => by rw [List.mem_singleton.mp hx]; exact sok, by simp, by simp, by simp, rfl⟩ ?_
  rintro m σ H2 ⟨sts, pl, v4, v5, rfl, s2, ⟨qs, hqs, rqs⟩, hok, hne, hle, hpl, hm⟩
  have hql : qs.length = sts.length := rqs.1
  walk_at "rd"
  rw [List.length_map, hql]
  refine ifd (fun hlt => ?_) (fun hge => ?_)
  ·walk_at "rd"
   rw [List.length_map, hql]
   refine ifd (fun h300 => ?_) (fun h300 => ?_)
   ·have hlt' : pl < sts.length := by omega
    obtain ⟨p, ep, hp2⟩ := rqs.get hlt'
    generalize hx : sts[pl] = x at hp2
    have hrx : sts[pl]? = some x := by rw [List.getElem?_eq_getElem hlt', hx]
    have xok : x.ok C := hok x (List.mem_of_getElem? hrx)
    have hfl := q4k ok x
    refine ⟨fun σ' H' => ∃ m', m' < m /\ ∃ (sts : List Sd) (pl : Nat) (v4 v5 : Option V), σ' = [some (.ref c), some (.ref q), some (.ref F), some (.int pl), v4, v5] /\ Same H H' /\ qT SAt H' F sts /\ (∀ x ∈ sts, x.ok C) /\ sts ≠ [] /\ sts.length <= 400 /\ pl <= sts.length /\ m' = 500 - pl, fun _ _ z => z, ?_⟩
    walk_at "rd"
    refine ⟨c, p, C, x, rfl, hC.mono s2.ts, ok, hp2, xok, fun ld H3 s3 hld0 m3 => ?_⟩
    obtain ⟨ds, hds, rds⟩ := m3
    have s23 := s2.trans s3
    have hds0 : H ld = none := s2.free hld0
    have neF : ld ≠ F := fun z => by subst z; rw [hld0] at hqs; cases hqs
    walk_at "rd"
    refine q1t (ds.map V.ref) (fun j σ H' => ∃ (sts : List Sd) (v4 v5 : Option V), σ = [some (.ref c), some (.ref q), some (.ref F), some (.int pl), v4, v5] /\ Same H H' /\ H' ld = some (.lst (ds.map V.ref)) /\ Rows TAt H' ds (fitD C x) /\ qT SAt H' F sts /\ (∀ x ∈ sts, x.ok C) /\ sts.length <= 300 + j /\ sts[pl]? = some x) ⟨sts, v4, v5, rfl, s23, hds, rds, ⟨qs, s3 _ _ hqs, rqs.mono fun _ _ => SAt.mono s3.ts⟩, hok, by omega, hrx⟩ ?_ ?_ ?_
    ·rintro j σ H' ⟨_, _, _, rfl, _, e, _⟩
     exact SqL.of e
    ·rintro j z σ H4 hz ⟨sts, v4, v5, rfl, s4, hds4, rds4, ⟨qs, hqs, rqs⟩, hok, hlen, hrx⟩
     have hj : j < (fitD C x).length := by have := (List.getElem?_eq_some_iff.mp hz).1; rw [List.length_map, rds.1] at this; exact this
     obtain ⟨t, et, ht⟩ := rds4.get hj
     rw [hz] at et
     cases et
     have hc : canD C x (fitD C x)[j].1 ((fitD C x)[j].2 : Int) = true := q2W.mp (List.getElem_mem hj)
     generalize (fitD C x)[j] = dn at ht hc
     obtain ⟨d, i⟩ := dn
     have ht' : H4 t = some (.tup [.str d.str, .int (i : Int)]) := ht
     have hpl4 : pl < sts.length := (List.getElem?_eq_some_iff.mp hrx).1
     obtain ⟨p, ep, hp4⟩ := rqs.get hpl4
     rw [(List.getElem?_eq_some_iff.mp hrx).2] at hp4
     walk_at "rd"
     refine ⟨c, p, t, C, x, d, _, rfl, hC.mono s4.ts, ok, hp4, xok, ht', hc, fun r H5 s5 hr5 => ?_⟩
     have hr5' : SAt H5 r (q0K C x d (i : Int)) := hr5
     have yok := q4l ok xok hc
     generalize q0K C x d (i : Int) = y at hr5' yok
     have hqs5 := s5 _ _ hqs
     have rqs5 := rqs.mono fun _ _ => SAt.mono s5.ts
     have s45 := s4.trans s5
     walk_at "rd"
     refine q6c ⟨qs, hqs5, rqs5⟩ hr5' ?_
     walk_at "rd"
     by_cases hin : y ∈ sts
     ·rw [decide_eq_true hin]
      walk_at "rd"
      exact ⟨sts, _, _, rfl, s45, s5 _ _ hds4, rds4.mono fun _ _ => TAt.mono s5.ts, ⟨qs, hqs5, rqs5⟩, hok, by omega, hrx⟩
     ·rw [decide_eq_false hin]
      walk_at "rd"
      refine qaQ hqs5 (by rw [List.length_map, rqs.1]; omega) ?_
      refine ⟨sts ++ [y], _, _, rfl, s45.put hF, by rw [ql neF]; exact s5 _ _ hds4, rds4.mono fun _ _ h => TAt.put hqs5 (TAt.mono s5.ts h), q0F (fun _ _ => SAt.put hqs5) rqs5 hr5', ?_, by simp; omega, by rw [List.getElem?_append_left hpl4]; exact hrx⟩
      intro z hz
      rcases List.mem_append.mp hz with z1 | z1
      ·exact hok z z1
      ·rw [List.mem_singleton.mp z1]; exact yok
    ·rintro σ H4 ⟨sts, v4, v5, rfl, s4, hds4, rds4, hL, hok, hlen, hrx⟩
     rw [List.length_map, rds.1] at hlen
     have hpl4 : pl < sts.length := (List.getElem?_eq_some_iff.mp hrx).1
     walk_at "rd"
     exact ⟨500 - (pl + 1), by omega, sts, pl + 1, _, _, rfl, s4, hL, hok, fun z => by rw [z] at hpl4; simp at hpl4, by omega, by omega, rfl⟩
   ·walk_at "rd"
    exact k F sts H2 s2 hF ⟨qs, hqs, rqs⟩ hne (by omega) hok
  ·walk_at "rd"
   exact k F sts H2 s2 hF ⟨qs, hqs, rqs⟩ hne (by omega) hok
theorem ok_any (T : Txt mg cs) (L : Laid K mg "_law_any" q1I ["_law_script", "_law_place"]) (C__law_cell_at : Cal P w K mg base 1 "_law_cell_at" ["_law_script", "_law_k"] (q5v K)) : Cal P w K mg base 2 "_law_any" ["_law_script", "_law_place"] (spAny K) := by
 refine L.cal (k := 1) q21 (fun vs H Q E h => ?_) (fun f cdv A outer s H vs Q E hr h => ?_)
 ·obtain ⟨a, c, ns, C, rfl, _⟩ := h
  rfl
 ·obtain ⟨a, c, ns, C, rfl, hS, hl, hC, ok, k⟩ := h
  have big := qD
  obtain ⟨pw, pt, pl, pv', h0, h1, h2, _⟩ := hC.ex
  obtain ⟨tv, ht, htl, htg⟩ := h2.get
  have okt := ok.tl
  have r1 := ok.r1
  have htl2 : (tv.length : Int) <= 8 := by omega
  have hpow : (0 : Int) < 1 * 2 ^ ((tv.length : Int)).toNat := by rw [Int.one_mul]; exact q1M _
  have epow : (1 : Int) * 2 ^ ((tv.length : Int)).toNat = 2 ^ C.things.length := by rw [Int.one_mul, Int.toNat_natCast, htl]
  refine ⟨_, (qc (qv (i := 2) q21.nd rfl (Or.inl rfl) (qm C__law_cell_at hr (by decide) rfl (qa (pv 0) (qa qg qd))))
   (qc (qv (i := 3) q21.nd rfl (Or.inl rfl) (qt qN (qt qV (pv 2) qg) (qt q7T qg (qB (lenK K) rfl T.n_len q0k (qa (qu (qi K) (pv 1) qg (fun _ _ => rfl)) qd)))))
   (qf (qj (qM (qa (qt qN (pv 2) (qu (qi K) (pv 1) qg (fun _ _ => rfl))) (qa (pv 3) (qa qg (qa (qt qN (qt qV (pv 2) qg) qg) (qa (qt qN (qt qV (pv 2) qg) qg) qd)))))))))), ?_⟩
  walk_at "rd"
  refine ⟨a, ns, 9, rfl, hS, hl, by decide, ?_⟩
  generalize ns.getD (9 : Int).toNat 0 = m
  have a0 := qW m (n := C.rooms) (by omega)
  have a1 := qY m (n := C.rooms) (by omega)
  have b0 := qW (m / 20) (n := 256) (by decide)
  have b1 := qY (m / 20) (n := 256) (by decide)
  have w0 := qW (m / 5120) (n := 10) (by decide)
  have w1 := qY (m / 5120) (n := 10) (by decide)
  have t0 := qW (m / 5) hpow
  have t1 := qY (m / 5) hpow
  have hR : (0 : Int) < C.rooms := by omega
  walk_at "rd"
  intro p hp
  refine k p ⟨m % C.rooms, m / 5 % (1 * 2 ^ ((tv.length : Int)).toNat), 0, m / 20 % 256, m / 5120 % 10⟩ _ (Same.upd hp) qb ⟨⟨a0, a1⟩, ⟨t0, by rw [<- epow]; exact t1⟩, ⟨by show (0 : Int) <= 0; decide, by show (0 : Int) < _; exact q1M _⟩, fun i _ hb => (by have hb' : bit 0 i = true := hb; rw [q2Y] at hb'; cases hb'), by show 0 <= m / 20 % 256 /\ m / 20 % 256 <= 255; omega, by show 0 <= m / 5120 % 10 /\ m / 5120 % 10 <= 9; omega, fun k _ _ => ?_⟩
  show 0 <= hold C _ 0 k
  unfold hold
  rw [q6y fun i _ => q8H _ _ _]
  omega
end
def PrAt (C : Cl) (s : Sd) (H : Hp) (p : Addr) (x : Wd × Nat) : Prop := ∃ t r, H p = some (.tup [.ref t, .ref r]) /\ TAt H t x /\ SAt H r (q0K C s x.1 (x.2 : Int))
theorem PrAt.mono {C : Cl} {s : Sd} {H H' : Hp} (ts : q03 H H') {p : Addr} {x : Wd × Nat} (h : PrAt C s H p x) : PrAt C s H' p x := let ⟨t, r, a, b, c⟩ := h; ⟨t, r, ts _ _ a, ts _ _ b, ts _ _ c⟩
def q7r : Sp := fun vs H Q _ => ∃ (c q : Addr) (C : Cl) (s : Sd), vs = [.ref c, .ref q] /\ ClAt H c C /\ ClOk C /\ SAt H q s /\ s.ok C /\ ∀ (l : Addr) (H' : Hp), Same H H' -> H l = none -> qT (PrAt C s) H' l (fitD C s) -> Q (.ref l) H'
section
variable {P : Program} {w : World} {K : W.Frag} {mg : Str -> Option Value} {base : Heap} {cs : Cs}
theorem q9s (T : Txt mg cs) (L : Laid K mg "leads" q37 ["cellar", "stand"]) (C_fit_deeds : Cal P w K mg base 7 "fit_deeds" ["cellar", "stand"] (q66 cs)) (vt : ∀ d, VMeth P w K mg base 1 (dcls cs d) "told" ["self"] (q3W cs d)) (vd : ∀ d, VMeth P w K mg base 2 (dcls cs d) "done" ["self", "cellar", "stand"] (q27 cs d)) : Cal P w K mg base 8 "leads" ["cellar", "stand"] q7r := by
 refine L.cal (k := 7) q96 (fun vs H Q E h => ?_) (fun f cdv A outer s H vs Q E hr h => ?_)
 ·obtain ⟨c, q, C, st, rfl, _⟩ := h
  rfl
 ·obtain ⟨c, q, C, st, rfl, hC, ok, hq, sok, k⟩ := h
  have big := qD
  have hal := q4k ok st
  refine ⟨_, (qf (qj (q0w (q0i (N := ["deed", "cellar", "stand"]) (own := 1) (caps := [0, 1]) ["cellar", "stand"] (qe q37) (by decide +kernel)) rfl (q00 K (qm C_fit_deeds hr (by decide) rfl (qa (pv 0) (qa (pv 1) qd)))) (fun _ _ _ _ => (qp (i := 0) (show List.Nodup (["deed", "cellar", "stand"] : List Str) by decide +kernel) rfl (Or.inl rfl))) (fun _ _ _ _ => q0y) (fun _ _ _ _ => (qM (qa (q7M (k := 1) P w K mg base hr (by decide) (pv 0)) (qa (q6g (k := 2) P w K mg base hr (by decide) (pv 0) (qa (pv 1) (qa (pv 2) qd))) qd))))))), ?_⟩
  walk_at "rd"
  refine ⟨c, q, C, st, rfl, hC, ok, hq, sok, fun l H1 s1 hl0 m1 => ?_⟩
  obtain ⟨ps, e1, r1⟩ := m1
  walk_at "rd"
  intro D hD
  refine q2p (ps.map V.ref) (fun i σ H' => ∃ v0, σ = [v0, some (.ref c), some (.ref q)] /\ Same H1 H' /\ qT (PrAt C st) H' D ((fitD C st).take i)) ⟨none, rfl, Same.upd hD, ⟨[], qb, Rows.nil⟩⟩ ?_ ?_ ?_
  ·rintro i σ H' ⟨_, rfl, s2, _⟩
   exact SqL.of (s2 _ _ e1)
  ·rintro i x σ H' hx ⟨v0, rfl, s2, qs, hqs, hrw⟩
   have hi : i < (fitD C st).length := by have := (List.getElem?_eq_some_iff.mp hx).1; rw [List.length_map, r1.1] at this; exact this
   obtain ⟨p, ep, hob⟩ := r1.get hi
   rw [hx] at ep
   cases ep
   have hc : canD C st (fitD C st)[i].1 ((fitD C st)[i].2 : Int) = true := q2W.mp (List.getElem_mem hi)
   have hob2 := DAt.mono s2 hob
   obtain ⟨dx, hp⟩ := hob2.ex
   have hqlen : qs.length <= 100 := by
    rw [hrw.1, List.length_take]; omega
   have s12 := s1.trans s2
   walk_at "rd"
   refine r_vm hp (vt _) (q8z _ _) ?_
   refine ⟨p, _, rfl, hob2, fun t H3 s3 ht3 => ?_⟩
   have hq3 := s3 _ _ hqs
   have hob3 := DAt.mono s3 hob2
   obtain ⟨dx3, hp3⟩ := hob3.ex
   have s13 := s12.trans s3
   walk_at "rd"
   refine r_vm hp3 (vd _) (q5T _ _) ?_
   walk_at "rd"
   refine ⟨p, c, q, C, st, _, rfl, hob3, hC.mono s13.ts, ok, s13 _ _ hq, sok, hc, fun r H4 s4 hr4 => ?_⟩
   have hq4 := s4 _ _ hq3
   walk_at "rd"
   intro z hz
   have s5 := Same.upd (o := .tup [.ref t, .ref r]) hz
   have hq5 := s5 _ _ hq4
   have hz5 := qb (H := H4) (a := z) (o := .tup [.ref t, .ref r])
   generalize upd H4 z (.tup [.ref t, .ref r]) = H5 at s5 hq5 hz5 ⊢
   refine ⟨_, hq5, by rw [List.length_map]; omega, _, rfl, (((s2.trans s3).trans s4).trans s5).put hD, ?_⟩
   rw [List.take_succ_eq_append_getElem hi]
   exact q0F (fun _ _ h => PrAt.mono (q03.lst hq5) h) (hrw.mono fun _ _ => PrAt.mono ((s3.trans s4).trans s5).ts) ⟨t, r, hz5, (s4.trans s5) _ _ ht3, s5 _ _ hr4⟩
  ·rintro σ H' ⟨v0, rfl, s2, m2⟩
   rw [List.length_map, r1.1, List.take_length] at m2
   exact k D H' (s1.trans s2) (s1.free hD) m2
end
theorem q8i {A : Around} {k : Nat} (hr : Room k A) : A.units + 2 + 1 < cLine := by have := hr.un; omega
theorem q8j {A : Around} {k : Nat} (hr : Room k A) : A.units + 2 < cLine := by have := hr.un; omega
theorem qak {A : Around} {k : Nat} (hr : Room k A) : A.units + 4 < cLine := by have := hr.un; omega
noncomputable def q1R (C : Cl) (t : Sd) : Sd := @Classical.epsilon Sd ⟨t⟩ fun f => ∃ R, IsR (GoR C) t (f :: R)
theorem q9S {C : Cl} {t f : Sd} {R : List Sd} (h : IsR (GoR C) t (f :: R)) : q1R C t = f := by
 have e : ∃ f R, IsR (GoR C) t (f :: R) := ⟨f, R, h⟩
 obtain ⟨R', h'⟩ := @Classical.epsilon_spec_aux Sd ⟨t⟩ _ e
 exact (List.cons.inj (h'.uniq h ⟨.refl, .refl⟩)).1
def q7s : Sp := fun vs H Q _ => ∃ (c q : Addr) (C : Cl) (s : Sd), vs = [.ref c, .ref q] /\ ClAt H c C /\ ClOk C /\ SAt H q s /\ s.ok C /\ ∀ (p : Addr) (H' : Hp) (R : List Sd), Same H H' -> SAt H' p (q1R C s) -> IsR (GoR C) s (q1R C s :: R) -> Q (.ref p) H'
def dn (C : Cl) (h : Sd) (e : Wd × Nat) : Sd := q0K C h e.1 (e.2 : Int)
noncomputable def stq (C : Cl) (R : List Sd) (h : Sd) (l : List (Wd × Nat)) : List Stp := (l.filter fun e => decide (dn C h e ∉ R)).map fun e => (e, q1R C (dn C h e))
noncomputable def stA (C : Cl) (R l : List Sd) : List Stp := l.flatMap fun h => stq C R h (fitD C h)
def OrdS (L : List Stp) : Prop := L.Pairwise fun a b => ¬ Stp.lst b < Stp.lst a
structure IsS (C : Cl) (R : List Sd) (L : List Stp) : Prop where
 nd : L.Nodup
 ord : OrdS L
 mem : ∀ x, x ∈ L ↔ x ∈ stA C R R
 len : L.length <= 1000
theorem IsS.uniq {C : Cl} {R : List Sd} {L M : List Stp} (h1 : IsS C R L) (h2 : IsS C R M) : L = M :=
 ((List.perm_ext_iff_of_nodup h1.nd h2.nd).mpr fun x => by rw [h1.mem, h2.mem]).eq_of_pairwise (fun a b _ _ z1 z2 => Stp.lst_inj (List.le_antisymm (List.not_lt.mp z1) (List.not_lt.mp z2))) h1.ord h2.ord
def q7o : Sp := fun vs H Q _ => ∃ (c q : Addr) (C : Cl) (s : Sd), vs = [.ref c, .ref q] /\ ClAt H c C /\ ClOk C /\ Small C /\ SAt H q s /\ s.ok C /\ ∀ (l : Addr) (R : List Sd) (L : List Stp) (H' : Hp), Same H H' -> H l = none -> qT qX H' l L -> IsR (GoR C) s R -> IsS C R L -> Q (.ref l) H'
theorem q5h {C : Cl} (sm : Small C) (s : Sd) : (fitD C s).length <= 12 := by
 refine Nat.le_trans (List.length_filter_le _ _) ?_
 have := sm.w
 have := sm.t
 have := sm.l
 have := sm.v
 simp only [allD, List.length_append, q1L]
 omega
theorem q62 (C : Cl) (R : List Sd) (h : Sd) (l : List (Wd × Nat)) (e : Wd × Nat) : stq C R h (l ++ [e]) = stq C R h l ++ if dn C h e ∉ R then [(e, q1R C (dn C h e))] else [] := by
 unfold stq
 rw [List.filter_append, List.map_append]
 by_cases z : dn C h e ∉ R
 ·rw [if_pos z]; simp [z]
 ·rw [if_neg z]; simp [z]
structure Dso (P : Program) (w : World) (H : Hp) (D : Addr) (b : Nat) (M : List Stp) : Prop where
 ex : ∃ xs : List (Stp × Addr), H D = some (DnO P w D xs) /\ (∀ x ∈ xs, qX H x.2 x.1) /\ (xs.map (·.1)).Nodup /\ xs.length <= b /\ ∀ x, x ∈ xs.map (·.1) ↔ x ∈ M
theorem Dso.same {P : Program} {w : World} {H H' : Hp} {D : Addr} {b : Nat} {M : List Stp} (s : Same H H') (h : Dso P w H D b M) : Dso P w H' D b M :=
 let ⟨xs, a, c, d, e, f⟩ := h.ex
 ⟨xs, s _ _ a, fun x hx => qX.mono s.ts (c x hx), d, e, f⟩
theorem ext_ts {H : Hp} {D : Addr} {P : Program} {w : World} {xs : List (Stp × Addr)} {o : HO} (h : H D = some (DnO P w D xs)) : q03 H (upd H D o) := fun p ys e => by rw [ql (q3y e h (by intro z; cases z))]; exact e
theorem Dso.put {P : Program} {w : World} {H : Hp} {D b' : Addr} {b : Nat} {M : List Stp} {k : Stp} (h : Dso P w H D b M) (hb : b < 100000) (hk : qX H b' k) : ∃ H', NPut P w H D (.ref b') (.bl true) H' /\ (∃ o, H' = upd H D o) /\ q03 H H' /\ Dso P w H' D (b + 1) (M ++ [k]) := by
 obtain ⟨xs, h1, h2, h3, h4, h5⟩ := h.ex
 have big := qD
 have ts := ext_ts (o := DnO P w D (putS xs k b')) h1
 refine ⟨_, ⟨xs, b', k, h1, rfl, hk, rfl, by omega, h2, h3, rfl⟩, ⟨_, rfl⟩, ts, ⟨putS xs k b', qb, ?_, ?_, ?_, ?_⟩⟩
 ·intro x hx
  refine qX.mono ts ?_
  unfold putS at hx
  split at hx
  ·exact h2 x hx
  ·rcases List.mem_append.mp hx with z | z
   ·exact h2 x z
   ·rw [List.mem_singleton.mp z]; exact hk
 ·unfold putS
  split
  ·exact h3
  ·rename_i hn
   rw [List.map_append, List.nodup_append]
   refine ⟨h3, by simp, fun a ha c hc e => ?_⟩
   rw [show c = k from List.mem_singleton.mp hc] at e
   subst e
   exact hn ha
 ·unfold putS
  split
  ·omega
  ·rw [List.length_append, List.length_singleton]; omega
 ·intro x
  rw [List.mem_append, List.mem_singleton, <- h5]
  unfold putS
  split
  ·rename_i hn
   exact ⟨.inl, fun z => z.elim id fun e => by rw [e]; exact hn⟩
  ·rw [List.map_append, List.mem_append]
   exact Iff.rfl.trans (or_congr Iff.rfl List.mem_singleton)
theorem Dso.more {P : Program} {w : World} {H : Hp} {D : Addr} {b b' : Nat} {M M' : List Stp} (h : Dso P w H D b M) (hb : b <= b') (hm : ∀ x, x ∈ M ↔ x ∈ M') : Dso P w H D b' M' :=
 let ⟨xs, a, c, d, e, f⟩ := h.ex
 ⟨xs, a, c, d, Nat.le_trans e hb, fun x => (f x).trans (hm x)⟩
theorem Dso.at_ {P : Program} {w : World} {H : Hp} {D : Addr} {b : Nat} {M : List Stp} (h : Dso P w H D b M) : ∃ φ, H D = some (.ext φ) := let ⟨_, a, _⟩ := h.ex; ⟨_, a⟩
theorem Dso.sort {P : Program} {w : World} {H : Hp} {D : Addr} {b : Nat} {M : List Stp} {Q : VK} (h : Dso P w H D b M) (hb : b < 64) (hs : (D == sysModules) = false) (k : ∀ (q : Addr) (L : List Stp) (H' : Hp), Same H H' -> H q = none -> qT qX H' q L -> L.Nodup -> OrdS L -> (∀ x, x ∈ L ↔ x ∈ M) -> L.length <= b -> Q (.ref q) H') : qad P w [.ref D] H Q := by
 obtain ⟨xs, h1, h2, h3, h4, h5⟩ := h.ex
 have big := qD
 refine ⟨D, xs, rfl, h1, hs, by omega, h2, fun q l' hq hp ho ha => ?_⟩
 have s := Same.upd (o := .lst (l'.map fun x => V.ref x.1)) hq
 refine k q (l'.map (·.2)) _ s hq ⟨l'.map (·.1), by rw [qb, List.map_map]; rfl, ⟨by simp, fun i p x hi hx => ?_⟩⟩ (hp.nodup_iff.mpr h3) (List.pairwise_map.mpr ho) (fun x => by rw [hp.mem_iff, h5]) (by rw [hp.length_eq, List.length_map]; exact h4)
 rw [List.getElem?_map] at hi hx
 cases e : l'[i]? with
 | none => rw [e] at hi; cases hi
 | some z =>
  rw [e] at hi hx
  cases hi
  cases hx
  exact qX.mono s.ts (ha z (List.mem_of_getElem? e))
section
variable {P : Program} {w : World} {K : W.Frag} {mg : Str -> Option Value} {base : Heap} {cs : Cs}
theorem qb4 (T : Txt mg cs) (L : Laid K mg "fold" q69 ["cellar", "stand"]) (C_round_of : Cal P w K mg base 9 "round_of" ["cellar", "stand"] q3U) : Cal P w K mg base 10 "fold" ["cellar", "stand"] q7s := by
 refine L.cal (k := 9) qaI (fun vs H Q E h => ?_) (fun f cdv A outer s H vs Q E hr h => ?_)
 ·obtain ⟨c, q, C, st, rfl, _⟩ := h
  rfl
 ·obtain ⟨c, q, C, st, rfl, hC, ok, hq, sok, k⟩ := h
  refine ⟨_, (qf (qj (qu (qS K) (qm C_round_of hr (by decide) rfl (qa (pv 0) (qa (pv 1) qd))) qg (fun _ _ => rfl)))), ?_⟩
  walk_at "rd"
  refine ⟨c, q, C, st, rfl, hC, ok, hq, sok, fun l R H1 s1 hl0 hl hR => ?_⟩
  obtain ⟨ps, hps, rps⟩ := hl
  have hne : R ≠ [] := fun z => by have := hR.self; rw [z] at this; cases this
  obtain ⟨f0, R', rfl⟩ := List.exists_cons_of_ne_nil hne
  obtain ⟨p, ps', rfl⟩ : ∃ p ps', ps = p :: ps' := List.exists_cons_of_ne_nil fun z => by have := rps.1; rw [z] at this; cases this
  have hp : SAt H1 p f0 := rps.2 0 p f0 rfl rfl
  have ef := q9S hR
  walk_at "rd"
  exact k p H1 R' s1 (by rw [ef]; exact hp) (by rw [ef]; exact hR)
theorem q9p (T : Txt mg cs) (L : Laid K mg "steps" q45 ["cellar", "stand"]) (C_round_of : Cal P w K mg base 9 "round_of" ["cellar", "stand"] q3U) (C_leads : Cal P w K mg base 8 "leads" ["cellar", "stand"] q7r) (C_fold : Cal P w K mg base 10 "fold" ["cellar", "stand"] q7s) : Cal P w K mg base 11 "steps" ["cellar", "stand"] q7o := by
 refine L.cal (k := 10) q1G (fun vs H Q E h => ?_) (fun f cdv A outer s H vs Q E hr h => ?_)
 ·obtain ⟨c, q, C, st, rfl, _⟩ := h
  rfl
 ·obtain ⟨c, q, C, st, rfl, hC, ok, sm, hq, sok, k⟩ := h
  have big := qD
  refine ⟨_, (qc (qv (i := 2) q1G.nd rfl (Or.inl rfl) (qm C_round_of hr (by decide) rfl (qa (pv 0) (qa (pv 1) qd))))
   (qc (qv (i := 3) q1G.nd rfl (Or.inl rfl) (q6h P w))
   (qc (q0t PassesOwn.never rfl (q00 K (pv 2)) (qp (i := 4) q1G.nd rfl (Or.inl rfl)) (qf (q0t PassesOwn.never rfl (q00 K (qm C_leads hr (by decide) rfl (qa (pv 0) (qa (pv 4) qd)))) (q1E (n := 2) K rfl (qG (qp (i := 5) q1G.nd rfl (Or.inl rfl)) (qG (qp (i := 6) q1G.nd rfl (Or.inl rfl)) q1D))) (qf (qP (qr (q58 K 1 (qal hr)) (pv 6) (pv 2) (by with_unfolding_all rfl)) (qf (q6f P w (q8j hr) (pv 3) (qM (qa (pv 5) (qa (qm C_fold hr (by decide) rfl (qa (pv 0) (qa (pv 6) qd))) qd))) q2N rfl)) qq)))))
   (qf (qj (qB (qab P w (qak hr)) rfl T.n_sorted q3n (qa (pv 3) qd))))))), ?_⟩
  walk_at "rd"
  refine ⟨c, q, C, st, rfl, hC, ok, hq, sok, fun lr R H1 s1 hlr0 hlr hR => ?_⟩
  have hRl : R.length <= 5 := by
   have := q2s hR.nd fun x hx => q5C ok sok ((hR.mem x).mp hx).1
   have := q5Q C st
   have := sm.r
   omega
  obtain ⟨rs, hrs, rrs⟩ := id hlr
  have hrl := rrs.1
  walk_at "rd"
  intro D hD hDs
  have s2 := Same.upd (o := DnO P w D []) hD
  have d2 : Dso P w (upd H1 D (DnO P w D [])) D 0 [] := ⟨[], qb, (fun x hx => nomatch hx), List.nodup_nil, Nat.le_refl _, fun x => Iff.rfl⟩
  generalize upd H1 D (DnO P w D []) = H2 at s2 d2 ⊢
  have hrs2 := s2 _ _ hrs
  walk_at "rd"
  refine q1t (rs.map V.ref) (fun i σ H' => ∃ v4 v5 v6, σ = [some (.ref c), some (.ref q), some (.ref lr), some (.ref D), v4, v5, v6] /\ Same H1 H' /\ Dso P w H' D (i * 12) (stA C R (R.take i))) ⟨none, none, none, rfl, s2, d2.more (by omega) fun x => Iff.rfl⟩ ?_ ?_ ?_
  ·rintro i σ H' ⟨_, _, _, rfl, s3, _⟩
   exact SqL.of (s3 _ _ hrs)
  ·rintro i z σ H3 hz ⟨v4, v5, v6, rfl, s3, d3⟩
   have hi : i < R.length := by have := (List.getElem?_eq_some_iff.mp hz).1; rw [List.length_map, rrs.1] at this; exact this
   obtain ⟨p, ep, hp1⟩ := rrs.get hi
   rw [hz] at ep
   cases ep
   have xR : R[i] ∈ R := List.getElem_mem hi
   rw [show R.take (i + 1) = R.take i ++ [R[i]] from List.take_succ_eq_append_getElem hi]
   generalize R[i] = x at hp1 xR ⊢
   have xok : x.ok C := q7C ok sok ((hR.mem x).mp xR).1
   have s03 := s1.trans s3
   have hfl := q5h sm x
   walk_at "rd"
   refine ⟨c, p, C, x, rfl, hC.mono s03.ts, ok, SAt.mono s3.ts hp1, xok, fun lp H4 s4 hl0 m4 => ?_⟩
   obtain ⟨ps, hps, rps⟩ := m4
   have neD : lp ≠ D := fun z => by
    obtain ⟨φ, e⟩ := d3.at_
    rw [z, e] at hl0
    cases hl0
   have s14 := s3.trans s4
   walk_at "rd"
   refine q1t (ps.map V.ref) (fun j σ H' => ∃ v5 v6, σ = [some (.ref c), some (.ref q), some (.ref lr), some (.ref D), some (.ref p), v5, v6] /\ Same H1 H' /\ H' lp = some (.lst (ps.map V.ref)) /\ Rows (PrAt C x) H' ps (fitD C x) /\ Dso P w H' D (i * 12 + j) (stA C R (R.take i) ++ stq C R x ((fitD C x).take j))) ⟨v5, v6, rfl, s14, hps, rps, (d3.same s4).more (by omega) fun y => by simp [stq]⟩ ?_ ?_ ?_
   ·rintro j σ H' ⟨_, _, rfl, _, e, _⟩
    exact SqL.of e
   ·rintro j z σ H5 hz ⟨v5, v6, rfl, s5, l5, rps5, d5⟩
    have hj : j < (fitD C x).length := by have := (List.getElem?_eq_some_iff.mp hz).1; rw [List.length_map, rps.1] at this; exact this
    obtain ⟨p', ep', hp'⟩ := rps5.get hj
    rw [hz] at ep'
    cases ep'
    have hc : canD C x (fitD C x)[j].1 ((fitD C x)[j].2 : Int) = true := q2W.mp (List.getElem_mem hj)
    rw [List.take_succ_eq_append_getElem hj, q62]
    generalize (fitD C x)[j] = e at hp' hc ⊢
    obtain ⟨t, r, e5, ht5, hr5⟩ := hp'
    have yok := q4l ok xok hc
    have hr5 : SAt H5 r (dn C x e) := hr5
    have yok : (dn C x e).ok C := yok
    walk_at "rd"
    refine q6c ⟨rs, s5 _ _ hrs, rrs.mono fun _ _ => SAt.mono s5.ts⟩ hr5 ?_
    walk_at "rd"
    by_cases hin : dn C x e ∈ R
    ·rw [show (if dn C x e ∉ R then [(e, q1R C (dn C x e))] else []) = [] from if_neg (fun z => z hin), List.append_nil]
     rw [decide_eq_true hin]
     walk_at "rd"
     exact ⟨_, _, rfl, s5, l5, rps5, d5.more (by omega) fun _ => Iff.rfl⟩
    ·rw [show (if dn C x e ∉ R then [(e, q1R C (dn C x e))] else []) = [(e, q1R C (dn C x e))] from if_pos hin]
     rw [decide_eq_false hin]
     walk_at "rd"
     show tC (.bl true) _ _ _
     walk_at "rd"
     have s05 := s1.trans s5
     refine ⟨c, r, C, _, rfl, hC.mono s05.ts, ok, hr5, yok, fun pf H6 R' s6 hpf _ => ?_⟩
     walk_at "rd"
     intro z hz
     have s7 := Same.upd (o := .tup [.ref t, .ref pf]) hz
     have s57 := s6.trans s7
     have hz7 : qX (upd H6 z (.tup [.ref t, .ref pf])) z (e, q1R C (dn C x e)) := ⟨t, pf, qb, s57 _ _ ht5, s7 _ _ hpf⟩
     generalize upd H6 z (.tup [.ref t, .ref pf]) = H7 at s7 s57 hz7 ⊢
     obtain ⟨H8, np, ⟨o, eo⟩, ts, d8⟩ := (d5.same s57).put (by omega) hz7
     refine ⟨D, H8, rfl, np, ?_⟩
     refine ⟨_, _, rfl, by rw [eo]; exact (s5.trans s57).put hD, by rw [eo, ql neD]; exact s57 _ _ l5, rps5.mono fun _ _ h => PrAt.mono (s57.ts.trans ts) h, d8.more (by omega) fun y => by rw [List.append_assoc]⟩
   ·rintro σ H5 ⟨v5, v6, rfl, s5, l5, rps5, d5⟩
    rw [List.length_map, rps.1, List.take_length] at d5
    exact ⟨_, _, _, rfl, s5, d5.more (by omega) fun y => by simp [stA]⟩
  ·rintro σ H3 ⟨v4, v5, v6, rfl, s3, d3⟩
   rw [List.length_map, rrs.1, List.take_length] at d3
   walk_at "rd"
   exact d3.sort (by omega) hDs fun q' L H4 s4 hq' hL nd od mem len => k q' R L H4 ((s1.trans s3).trans s4) ((s1.trans s3).free hq') hL hR ⟨nd, od, mem, by omega⟩
end
theorem qbt {C : Cl} {s y f0 : Sd} {R R2 : List Sd} (h : IsR (GoR C) s (f0 :: R)) (h2 : IsR (GoR C) y (q1R C y :: R2)) : q1R C y = f0 ↔ y ∈ f0 :: R := by
 constructor
 ·intro e
  have a := (h.mem f0).mp (.head _)
  have b := (h2.mem f0).mp (by rw [e]; exact .head _)
  exact (h.mem y).mpr ⟨a.1.trans b.2, b.1.trans a.2⟩
 ·intro e
  have a := (h.mem y).mp e
  exact (List.cons.inj (h2.uniq h ⟨a.2, a.1⟩)).1
theorem sd_neV (x y : Sd) : (!eqVs x.vs y.vs) = !decide (x = y) := by
 congr 1
 have e3 : decide (x = y) = (decide (x.rm = y.rm) && (decide (x.tk = y.tk) && (decide (x.op = y.op) && (decide (x.b = y.b) && decide (x.wt = y.wt))))) := by
  cases x; cases y; simp [Bool.decide_and]
 rw [e3]
 simp [eqVs, Sd.vs, eqV]
 rfl
theorem deq_d {K : W.Frag} {H : Hp} {a b : Addr} {x y : Wd × Nat} (ha : H a = some (.tup [.str x.1.str, .int (x.2 : Int)])) (hb : H b = some (.tup [.str y.1.str, .int (y.2 : Int)])) : Deq K H 1 (.ref a) (.ref b) (decide (x = y)) := by
 by_cases e : a = b
 ·subst e
  rw [ha] at hb
  simp only [Option.some.injEq, HO.tup.injEq, List.cons.injEq, V.str.injEq, V.int.injEq, and_true] at hb
  have : x = y := Prod.ext (Wd.str_inj hb.1) (by omega)
  rw [decide_eq_true this]
  exact .same a
 ·have h := Deq.tup (K := K) (n := 0) (e := fun j => eqV ([V.str x.1.str, .int (x.2 : Int)].getD j .non) ([V.str y.1.str, .int (y.2 : Int)].getD j .non)) e (SqT.of ha) (SqT.of hb) fun j h1 h2 => .flat (by
    have : j < 2 := h1
    obtain rfl | rfl : j = 0 \/ j = 1 := by omega
    all_goals rfl) (by
    have : j < 2 := h1
    obtain rfl | rfl : j = 0 \/ j = 1 := by omega
    all_goals rfl)
  have e2 : ((List.range (min [V.str x.1.str, .int (x.2 : Int)].length [V.str y.1.str, .int (y.2 : Int)].length)).all (fun j => eqV ([V.str x.1.str, .int (x.2 : Int)].getD j .non) ([V.str y.1.str, .int (y.2 : Int)].getD j .non)) && [V.str x.1.str, .int (x.2 : Int)].length == [V.str y.1.str, .int (y.2 : Int)].length) = decide (x = y) := by
   show (((x.1.str == y.1.str) && (((x.2 : Int) == (y.2 : Int)) && true)) && true) = _
   by_cases ee : x = y
   ·subst ee; simp
   ·rw [decide_eq_false ee]
    by_cases e3 : x.1 = y.1
    ·have : x.2 ≠ y.2 := fun z => ee (Prod.ext e3 z)
     have : ((x.2 : Int) == (y.2 : Int)) = false := by simpa using show ¬ (x.2 : Int) = (y.2 : Int) by omega
     simp [this]
    ·have : (x.1.str == y.1.str) = false := by simpa using fun z => e3 (Wd.str_inj z)
     simp [this]
  rw [e2] at h
  exact h
theorem q5U {K : W.Frag} {H : Hp} {a b : Addr} {x y : Stp} (ha : qX H a x) (hb : qX H b y) : Deq K H 2 (.ref a) (.ref b) (decide (x = y)) := by
 by_cases e : a = b
 ·subst e
  rw [decide_eq_true (ha.uniq hb)]
  exact .same a
 ·obtain ⟨t, q, h1, h2, h3⟩ := ha
  obtain ⟨t', q', g1, g2, g3⟩ := hb
  have h := Deq.tup (K := K) (n := 1) (e := fun j => if j = 0 then decide (x.1 = y.1) else decide (x.2 = y.2)) e (SqT.of h1) (SqT.of g1) fun j z1 z2 => by
   have : j < 2 := z1
   obtain rfl | rfl : j = 0 \/ j = 1 := by omega
   ·exact deq_d h2 g2
   ·exact qam h3 g3
  have e2 : ((List.range (min [V.ref t, .ref q].length [V.ref t', .ref q'].length)).all (fun j => if j = 0 then decide (x.1 = y.1) else decide (x.2 = y.2)) && [V.ref t, .ref q].length == [V.ref t', .ref q'].length) = decide (x = y) := by
   show ((decide (x.1 = y.1) && (decide (x.2 = y.2) && true)) && true) = _
   by_cases ee : x = y
   ·subst ee; simp
   ·rw [decide_eq_false ee]
    by_cases e3 : x.1 = y.1
    ·simp [show ¬ x.2 = y.2 from fun z => ee (Prod.ext e3 z)]
    ·simp [e3]
  rw [e2] at h
  exact h
section
variable {α : Type} [DecidableEq α] {At : Hp -> Addr -> α -> Prop} {K : W.Frag} {H : Hp} {Q : VK} {p q : Addr} {R1 R2 : List α} {n : Nat}
theorem qau (hl : R1.length = R2.length) {m : Nat} (hm : m = R1.length) : ((List.range m).all fun j => decide (R1[j]? = R2[j]?)) = decide (R1 = R2) := by
 subst hm
 rw [Bool.eq_iff_iff, List.all_eq_true, decide_eq_true_eq]
 constructor
 ·intro h
  refine List.ext_getElem? fun i => ?_
  by_cases hi : i < R1.length
  ·exact of_decide_eq_true (h i (List.mem_range.mpr hi))
  ·rw [List.getElem?_eq_none (by omega), List.getElem?_eq_none (by omega)]
 ·rintro rfl j _
  exact decide_eq_true rfl
theorem qan (dq : ∀ a b x y, At H a x -> At H b y -> Deq K H n (.ref a) (.ref b) (decide (x = y))) {ps qs : List Addr} (r1 : Rows At H ps R1) (r2 : Rows At H qs R2) {j : Nat} (h1 : j < R1.length) (h2 : j < R2.length) : Deq K H n ((ps.map V.ref).getD j .non) ((qs.map V.ref).getD j .non) (decide (R1[j]? = R2[j]?)) := by
 obtain ⟨a, ea, ha⟩ := r1.get h1
 obtain ⟨b, eb, hb⟩ := r2.get h2
 rw [List.getD_eq_getElem?_getD, List.getD_eq_getElem?_getD, ea, eb, List.getElem?_eq_getElem h1, List.getElem?_eq_getElem h2]
 have := dq a b _ _ ha hb
 simpa using this
theorem r_eqG (dq : ∀ a b x y, At H a x -> At H b y -> Deq K H n (.ref a) (.ref b) (decide (x = y))) (h1 : qT At H p R1) (h2 : qT At H q R2) (k : Q (.bl (decide (R1 = R2))) H) : rEqD K n (.ref p) (.ref q) H Q := by
 obtain ⟨ps, e1, r1⟩ := h1
 obtain ⟨qs, e2, r2⟩ := h2
 by_cases hl : R1.length = R2.length
 ·refine .inr (.inl ⟨p, q, _, _, fun j => decide (R1[j]? = R2[j]?), rfl, rfl, SqL.of e1, SqL.of e2, by rw [List.length_map, List.length_map, r1.1, r2.1, hl], fun j h1 h2 => ?_, ?_⟩)
  ·rw [List.length_map, r1.1] at h1
   rw [List.length_map, r2.1] at h2
   exact qan dq r1 r2 h1 h2
  ·rw [qau hl (by rw [List.length_map, r1.1])]
   exact k
 ·refine .inr (.inr ⟨p, q, _, _, rfl, rfl, SqL.of e1, SqL.of e2, by rw [List.length_map, List.length_map, r1.1, r2.1]; exact hl, ?_⟩)
  rw [decide_eq_false (fun e => hl (by rw [e]))] at k
  exact k
theorem r_neG (dq : ∀ a b x y, At H a x -> At H b y -> Deq K H n (.ref a) (.ref b) (decide (x = y))) (h1 : qT At H p R1) (h2 : qT At H q R2) (k : Q (.bl (!decide (R1 = R2))) H) : rNeD K n (.ref p) (.ref q) H Q := by
 obtain ⟨ps, e1, r1⟩ := h1
 obtain ⟨qs, e2, r2⟩ := h2
 by_cases hl : R1.length = R2.length
 ·refine .inl ⟨p, q, _, _, fun j => decide (R1[j]? = R2[j]?), rfl, rfl, SqL.of e1, SqL.of e2, by rw [List.length_map, List.length_map, r1.1, r2.1, hl], fun j h1 h2 => ?_, ?_⟩
  ·rw [List.length_map, r1.1] at h1
   rw [List.length_map, r2.1] at h2
   exact qan dq r1 r2 h1 h2
  ·rw [qau hl (by rw [List.length_map, r1.1])]
   exact k
 ·refine .inr ⟨p, q, _, _, rfl, rfl, SqL.of e1, SqL.of e2, by rw [List.length_map, List.length_map, r1.1, r2.1]; exact hl, ?_⟩
  rw [decide_eq_false (fun e => hl (by rw [e]))] at k
  exact k
end
theorem qX.same {H H' : Hp} (s : Same H H') {p : Addr} {L : List Stp} (h : qT qX H p L) : qT qX H' p L := by
 obtain ⟨ps, h1, h2⟩ := h
 exact ⟨ps, s _ _ h1, h2.mono fun _ _ => qX.mono s.ts⟩
theorem atI_last {xs : List V} {v : V} (h : xs.getLast? = some v) : atI xs (-1) = some v := by
 rw [List.getLast?_eq_getElem?] at h
 have hl : xs.length - 1 < xs.length := (List.getElem?_eq_some_iff.mp h).1
 unfold atI ixN
 rw [if_neg (by decide), if_pos (by omega)]
 show xs[((-1 : Int) + (xs.length : Int)).toNat]? = some v
 rw [show ((-1 : Int) + (xs.length : Int)).toNat = xs.length - 1 by omega]
 exact h
section
variable {P : Program} {w : World} {K : W.Frag} {mg : Str -> Option Value} {base : Heap} {cs : Cs}
theorem law_b {f : Addr} {cdv : Value} {A : Around} {outer : List Env} {s : Shared} {H0 : Hp} {E : XK} (T : Txt mg cs) (C_round_of : Cal P w K mg base 9 "round_of" ["cellar", "stand"] q3U) (C_fold : Cal P w K mg base 10 "fold" ["cellar", "stand"] q7s) (C_steps : Cal P w K mg base 11 "steps" ["cellar", "stand"] q7o) (C_deeds_at : Cal P w K mg base 8 "deeds_at" ["cellar", "stand"] q28) (C_behind : Cal P w K mg base 7 "behind" ["cellar", "stand", "deed"] q2Q)
  (hr : Room 11 (A.deeper (PyProof.Rows.envOfC "law" (qe q6R) s.heap.objs.size f cdv))) :
  ∃ t, PSs (cxOf CX0 P w K mg base ["_law_script", "_law_place", "_law_some", "_law_stand", "_law_circle", "_law_found", "_law_one", "_law_deed", "_law_other", "_law_due", "_law_told", "_law_pair"] "law" (qe q6R) f cdv A outer s H0 E).nox ((qK q6R).drop 4) t /\ ∀ (nx bk ct : St -> Hp -> Prop) (rt : VK) (v0 : Option V) (c p1 : Addr) (v2 : Option V) (C : Cl) (s1 : Sd) (H : Hp), ClAt H c C -> ClOk C -> Small C -> SAt H p1 s1 -> s1.ok C -> (∀ H', rt (.bl true) H') ->
   t ⟨nx, rt, bk, ct⟩ [v0, some (.ref c), v2, some (.ref p1), none, none, none, none, none, none, none, none] H := by
 have hu := hu_of hr
 have hu := Nat.lt_of_succ_lt hu
 refine ⟨_, (qc (qv (i := 4) q0W.nd rfl (Or.inl rfl) (qm C_round_of hr (by decide) rfl (qa (pv 1) (qa (pv 3) qd))))
   (qc (qv (i := 5) q0W.nd rfl (Or.inl rfl) (q6h P w))
   (qc (q0t PassesOwn.never rfl (q00 K (pv 4)) (qp (i := 6) q0W.nd rfl (Or.inl rfl)) (qf (q0t PassesOwn.never rfl (q00 K (qm C_deeds_at hr (by decide) rfl (qa (pv 1) (qa (pv 6) qd)))) (qp (i := 7) q0W.nd rfl (Or.inl rfl)) (qc (qv (i := 8) q0W.nd rfl (Or.inl rfl) (qm C_fold hr (by decide) rfl (qa (pv 1) (qa (qm C_behind hr (by decide) rfl (qa (pv 1) (qa (pv 6) (qa (pv 7) qd)))) qd))))
   (qf (qP (qr (qaX K hu) (pv 8) (qu (qS K) (pv 4) qg (fun _ _ => rfl)) (qw _)) (qf (q6f P w (q8j hr) (pv 5) (qM (qa (pv 7) (qa (pv 8) qd))) q2N rfl)) qq))))))
   (qc (qv (i := 9) q0W.nd rfl (Or.inl rfl) (qB (qab P w (qak hr)) rfl T.n_sorted q3n (qa (pv 5) qd)))
   (qc (qv (i := 10) q0W.nd rfl (Or.inl rfl) (qm C_steps hr (by decide) rfl (qa (pv 1) (qa (pv 3) qd))))
   (qc (qP (PW.pt (q38 (q1w (q0j (qB q0L rfl T.n_isinstance q02 (qa (pv 10) (qa (q23 (v := .ty "list") rfl T.n_list q8T rfl) qd))))) (q2i (qr (qag K 2 (q8i hr)) (pv 10) (pv 9) (qw _))))) (qf (qj q2N)) qq)
   (qc (q0t PassesOwn.never rfl (q00 K (pv 10)) (qp (i := 11) q0W.nd rfl (Or.inl rfl)) (qf (qP (PW.pt (q38 (q1w (q0j (qB q0L rfl T.n_isinstance q02 (qa (pv 11) (qa (q23 (v := .ty "tuple") rfl T.n_tuple q0q rfl) qd))))) (q38 (q1w (q0j (qB q0L rfl T.n_isinstance q02 (qa (qu (qi K) (pv 11) qg (fun _ _ => rfl)) (qa (q23 (v := .ty "tuple") rfl T.n_tuple q0q rfl) qd))))) (q2i (q1w (q0j (qB q0L rfl T.n_isinstance q02 (qa (qu (qi K) (pv 11) qg (fun _ _ => rfl)) (qa (q23 (v := .ty "tuple") rfl T.n_tuple q0q rfl) qd))))))))) (qf (qj q2N)) qq)))
   (qc (qP (qr (qag K 2 (q8i hr)) (qm C_steps hr (by decide) rfl (qa (pv 1) (qa (qu (qS K) (pv 4) (pe_un un_neg qg) (fun _ _ => rfl)) qd))) (pv 9) (qw _)) (qf (qj q2N)) qq)
   (qc (qJ (q7P PySem.F.plainAttrs_list PySem.F.slot_list_append PySem.F.type_list_append q13 (pv 10) (qa q7N qd)))
   (qf (qj (q0e (op_eqD K 2 (q8i hr)) (qm C_steps hr (by decide) rfl (qa (pv 1) (qa (pv 3) qd))) (pv 9) (qw _))))))))))))), ?_⟩
 intro nx bk ct rt v0 c p1 v2 C s1 H hC ok sm hp1 sok k
 have big := qD
 walk_at "rd"
 refine ⟨c, p1, C, s1, rfl, hC, ok, hp1, sok, fun lr R H1 s01 hlr0 hlr hR => ?_⟩
 have hRl : R.length <= 5 := by
  have := q2s hR.nd fun x hx => q5C ok sok ((hR.mem x).mp hx).1
  have := q5Q C s1
  have := sm.r
  omega
 have hne : R ≠ [] := fun z => by have := hR.self; rw [z] at this; cases this
 obtain ⟨rs, hrs, rrs⟩ := id hlr
 obtain ⟨f0, R', eR⟩ := List.exists_cons_of_ne_nil hne
 obtain ⟨p0, rs', ers⟩ : ∃ p ps', rs = p :: ps' := List.exists_cons_of_ne_nil fun z => by have := rrs.1; rw [z, eR] at this; cases this
 have hp0 : SAt H1 p0 f0 := rrs.2 0 p0 f0 (by rw [ers]; rfl) (by rw [eR]; rfl)
 walk_at "rd"
 intro D hD hDs
 have s2 := Same.upd (o := DnO P w D []) hD
 have d2 : Dso P w (upd H1 D (DnO P w D [])) D 0 [] := ⟨[], qb, (fun x hx => nomatch hx), List.nodup_nil, Nat.le_refl _, fun x => Iff.rfl⟩
 generalize upd H1 D (DnO P w D []) = H2 at s2 d2 ⊢
 have hrs2 := s2 _ _ hrs
 walk_at "rd"
 refine q1t (rs.map V.ref) (fun i σ H' => ∃ v6 v7 v8, σ = [v0, some (.ref c), v2, some (.ref p1), some (.ref lr), some (.ref D), v6, v7, v8, none, none, none] /\ Same H1 H' /\ Dso P w H' D (i * 12) (stA C R (R.take i))) ⟨none, none, none, rfl, s2, d2.more (by omega) fun x => Iff.rfl⟩ ?_ ?_ ?_
 ·rintro i σ H' ⟨_, _, _, rfl, s3, _⟩
  exact SqL.of (s3 _ _ hrs)
 ·rintro i z σ H3 hz ⟨v6, v7, v8, rfl, s3, d3⟩
  have hi : i < R.length := by have := (List.getElem?_eq_some_iff.mp hz).1; rw [List.length_map, rrs.1] at this; exact this
  obtain ⟨p, ep, hpp⟩ := rrs.get hi
  rw [hz] at ep
  cases ep
  have xR : R[i] ∈ R := List.getElem_mem hi
  rw [show R.take (i + 1) = R.take i ++ [R[i]] from List.take_succ_eq_append_getElem hi]
  generalize R[i] = x at hpp xR ⊢
  have xok : x.ok C := q7C ok sok ((hR.mem x).mp xR).1
  have s03 := s01.trans s3
  have hfl := q5h sm x
  walk_at "rd"
  refine ⟨c, p, C, x, rfl, hC.mono s03.ts, ok, SAt.mono s3.ts hpp, xok, fun lp H4 s4 hl0 m4 => ?_⟩
  obtain ⟨ps, hps, rps⟩ := m4
  have neD : lp ≠ D := fun z => by
   obtain ⟨φ, e⟩ := d3.at_
   rw [z, e] at hl0
   cases hl0
  have s14 := s3.trans s4
  walk_at "rd"
  refine q1t (ps.map V.ref) (fun j σ H' => ∃ v7 v8, σ = [v0, some (.ref c), v2, some (.ref p1), some (.ref lr), some (.ref D), some (.ref p), v7, v8, none, none, none] /\ Same H1 H' /\ H' lp = some (.lst (ps.map V.ref)) /\ Rows TAt H' ps (fitD C x) /\ Dso P w H' D (i * 12 + j) (stA C R (R.take i) ++ stq C R x ((fitD C x).take j))) ⟨v7, v8, rfl, s14, hps, rps, (d3.same s4).more (by omega) fun y => by simp [stq]⟩ ?_ ?_ ?_
  ·rintro j σ H' ⟨_, _, rfl, _, e, _⟩
   exact SqL.of e
  ·rintro j z σ H5 hz ⟨v7, v8, rfl, s5, l5, rps5, d5⟩
   have hj : j < (fitD C x).length := by have := (List.getElem?_eq_some_iff.mp hz).1; rw [List.length_map, rps.1] at this; exact this
   obtain ⟨t, et, ht⟩ := rps5.get hj
   rw [hz] at et
   cases et
   have hc : canD C x (fitD C x)[j].1 ((fitD C x)[j].2 : Int) = true := q2W.mp (List.getElem_mem hj)
   rw [List.take_succ_eq_append_getElem hj, q62]
   generalize (fitD C x)[j] = e at ht hc ⊢
   obtain ⟨d, m⟩ := e
   have ht' : H5 t = some (.tup [.str d.str, .int (m : Int)]) := ht
   have yok : (dn C x (d, m)).ok C := q4l ok xok hc
   have s05 := s01.trans s5
   walk_at "rd"
   refine ⟨c, p, t, C, x, d, _, rfl, hC.mono s05.ts, ok, SAt.mono s5.ts hpp, xok, ht', hc, fun r H6 s6 hr6 => ?_⟩
   have hr6 : SAt H6 r (dn C x (d, m)) := hr6
   have s06 := s05.trans s6
   walk_at "rd"
   refine ⟨c, r, C, _, rfl, hC.mono s06.ts, ok, hr6, yok, fun pf H7 R2 s7 hpf hRf => ?_⟩
   have s67 := s6.trans s7
   have s17 := s5.trans s67
   have hfn : q1R C (dn C x (d, m)) = f0 ↔ dn C x (d, m) ∈ R := by rw [eR]; exact qbt (by rw [<- eR]; exact hR) hRf
   have hrs7 : H7 lr = some (.lst (V.ref p0 :: rs'.map V.ref)) := by rw [s17 _ _ hrs, ers]; rfl
   walk_at "rd"
   refine r_neT (SqT.of hpf) (SqT.of (s17 _ _ hp0)) rfl rfl ?_
   rw [sd_neV]
   walk_at "rd"
   by_cases hin : dn C x (d, m) ∈ R
   ·rw [show (if dn C x (d, m) ∉ R then [((d, m), q1R C (dn C x (d, m)))] else []) = [] from if_neg (fun z => z hin), List.append_nil]
    rw [decide_eq_true (hfn.mpr hin)]
    walk_at "rd"
    exact ⟨_, _, rfl, s17, s67 _ _ l5, rps5.mono fun _ _ => TAt.mono s67.ts, (d5.same s67).more (by omega) fun _ => Iff.rfl⟩
   ·rw [show (if dn C x (d, m) ∉ R then [((d, m), q1R C (dn C x (d, m)))] else []) = [((d, m), q1R C (dn C x (d, m)))] from if_pos hin]
    rw [decide_eq_false fun z => hin (hfn.mp z)]
    walk_at "rd"
    show tC (.bl true) _ _ _
    walk_at "rd"
    intro z hz
    have s8 := Same.upd (o := .tup [.ref t, .ref pf]) hz
    have s58 := s67.trans s8
    have hz8 : qX (upd H7 z (.tup [.ref t, .ref pf])) z ((d, m), q1R C (dn C x (d, m))) := ⟨t, pf, qb, s58 _ _ ht', s8 _ _ hpf⟩
    generalize upd H7 z (.tup [.ref t, .ref pf]) = H8 at s8 s58 hz8 ⊢
    obtain ⟨H9, np, ⟨o, eo⟩, ts, d9⟩ := (d5.same s58).put (by omega) hz8
    refine ⟨D, H9, rfl, np, ?_⟩
    exact ⟨_, _, rfl, by rw [eo]; exact (s5.trans s58).put hD, by rw [eo, ql neD]; exact s58 _ _ l5, rps5.mono fun _ _ h => TAt.mono (s58.ts.trans ts) h, d9.more (by omega) fun y => by rw [List.append_assoc]⟩
  ·rintro σ H5 ⟨v7, v8, rfl, s5, l5, rps5, d5⟩
   rw [List.length_map, rps.1, List.take_length] at d5
   exact ⟨_, _, _, rfl, s5, d5.more (by omega) fun y => by simp [stA]⟩
 ·rintro σ H3 ⟨v6, v7, v8, rfl, s3, d3⟩
  rw [List.length_map, rrs.1, List.take_length] at d3
  have hrl := rrs.1
  walk_at "rd"
  refine d3.sort (by omega) hDs fun ld L H4 s4 hld hL nd od mem len => ?_
  have isL : IsS C R L := ⟨nd, od, mem, by omega⟩
  have s14 := s3.trans s4
  have s04 := s01.trans s14
  walk_at "rd"
  refine ⟨c, p1, C, s1, rfl, hC.mono s04.ts, ok, sm, SAt.mono s04.ts hp1, sok, fun lt Ra La H5 s5 hlt0 hLa hRa isa => ?_⟩
  obtain rfl : Ra = R := hRa.uniq hR ⟨.refl, .refl⟩
  obtain rfl : La = L := isa.uniq isL
  obtain ⟨ls, hls, rls⟩ := id hLa
  have s15 := s14.trans s5
  walk_at "rd"
  refine r_neG (fun _ _ _ _ => q5U) hLa (qX.same s5 hL) ?_
  rw [decide_eq_true rfl]
  walk_at "rd"
  refine q1t (ls.map V.ref) (fun i σ H' => ∃ v11, σ = [v0, some (.ref c), v2, some (.ref p1), some (.ref lr), some (.ref D), v6, v7, v8, some (.ref ld), some (.ref lt), v11] /\ H' = H5) ⟨none, rfl, rfl⟩ ?_ ?_ ?_
  ·rintro i σ H' ⟨_, rfl, rfl⟩
   exact SqL.of hls
  ·rintro i z σ H' hz ⟨v11, rfl, rfl⟩
   have hi : i < La.length := by have := (List.getElem?_eq_some_iff.mp hz).1; rw [List.length_map, rls.1] at this; exact this
   obtain ⟨p, ep, hpp⟩ := rls.get hi
   rw [hz] at ep
   cases ep
   obtain ⟨t, r, g1, g2, g3⟩ := hpp
   have g3 : H' r = some (.tup _) := g3
   walk_at "rd"
   exact ⟨_, rfl, rfl⟩
  ·rintro σ H' ⟨v11, rfl, rfl⟩
   have hC5 := hC.mono (s01.trans s15).ts
   have hrs5 := s15 _ _ hrs
   obtain ⟨pl, hpl⟩ : ∃ pl, rs.getLast? = some pl := ⟨rs.getLast (by rw [ers]; simp), List.getLast?_eq_some_getLast _⟩
   obtain ⟨xl, hxl, hxat⟩ := Rows.mem rrs (List.mem_of_getLast? hpl)
   have xlok : xl.ok C := q7C ok sok ((hR.mem xl).mp hxl).1
   walk_at "rd"
   refine q47 (SqL.of hrs5) (atI_last (v := .ref pl) (by rw [List.getLast?_map, hpl]; rfl)) ?_
   walk_at "rd"
   refine ⟨c, pl, C, xl, rfl, hC5, ok, sm, SAt.mono s15.ts hxat, xlok, fun lu Rb Lb H6 s6 hlu0 hLb hRb isb => ?_⟩
   obtain rfl : Rb = Ra := hRb.uniq hR ((hR.mem xl).mp hxl).symm
   obtain rfl : Lb = La := isb.uniq isL
   walk_at "rd"
   refine r_neG (fun _ _ _ _ => q5U) hLb (qX.same (s5.trans s6) hL) ?_
   rw [decide_eq_true rfl]
   have hls6 := s6 _ _ hls
   walk_at "rd"
   have hlen := rls.1
   have hln := isL.len
   refine qaQ hls6 (by rw [List.length_map]; omega) ?_
   have neL : ld ≠ lt := fun z => by
    obtain ⟨_, e, _⟩ := hL
    rw [z, hlt0] at e
    cases e
   have s06 := (s04.trans s5).trans s6
   have s07 : Same H (upd H6 lt (.lst (ls.map V.ref ++ [.non]))) := s06.put (s04.free hlt0)
   have hL7 : qT qX (upd H6 lt (.lst (ls.map V.ref ++ [.non]))) ld Lb := by
    obtain ⟨qs, e, r⟩ := qX.same (s5.trans s6) hL
    exact ⟨qs, by rw [ql neL]; exact e, r.mono fun _ _ h => qX.mono (q03.lst hls6) h⟩
   generalize upd H6 lt (.lst (ls.map V.ref ++ [.non])) = H7 at s07 hL7 ⊢
   walk_at "rd"
   refine ⟨c, p1, C, s1, rfl, hC.mono s07.ts, ok, sm, SAt.mono s07.ts hp1, sok, fun lv Rc Lc H8 s8 hlv0 hLc hRc isc => ?_⟩
   obtain rfl : Rc = Rb := hRc.uniq hR ⟨.refl, .refl⟩
   obtain rfl : Lc = Lb := isc.uniq isL
   walk_at "rd"
   refine r_eqG (fun _ _ _ _ => q5U) hLc (qX.same s8 hL7) ?_
   rw [decide_eq_true rfl]
   exact k _
end
section
variable {P : Program} {w : World} {K : W.Frag} {mg : Str -> Option Value} {base : Heap} {cs : Cs}
theorem ok_law {f : Addr} {fd : FuncData} (F : Fun K "law" "law" q6R f fd) (T : Txt mg cs) (TC : Tcl K cs) (L__wall : Laid K mg "_wall" q7z ["k"]) (L_within : Laid K mg "within" q2R ["number", "least", "most"]) (L_has_bit : Laid K mg "has_bit" q2a ["bits", "place"]) (L_changed : Laid K mg "changed" q2d ["parts", "place", "part"]) (L_gate_of : Laid K mg "gate_of" q2b ["gate"]) (L_is_gate : Laid K mg "is_gate" q1B ["thing"]) (L_tops_of : Laid K mg "tops_of" q29 ["word"]) (L_cellar : ∃ d1 d2, LaidD K mg "cellar" q0P [.none, .none, .none, .int 0 d1, .int 0 d2]) (L_check_number : Laid K mg "check_number" q0n ["name", "number", "least", "most"]) (L_made_ways : Laid K mg "made_ways" q18 ["rooms", "ways"]) (L_made_pairs : Laid K mg "made_pairs" q0O ["name", "rooms", "pairs", "most_pairs", "least", "most"]) (L_made_rows : Laid K mg "made_rows" q0d ["name", "rows", "most"]) (L_start : Laid K mg "start" q46 ["cellar"]) (L_held : Laid K mg "held" q68 ["cellar", "stand"]) (L_door_kinds : Laid K mg "door_kinds" q0s ["cellar"]) (L_can_enter : Laid K mg "can_enter" q19 ["way", "room"]) (L_deed_of : Laid K mg "deed_of" q2c ["deed"]) (L_deeds_at : Laid K mg "deeds_at" q0Y ["cellar", "stand"]) (L_behind : Laid K mg "behind" q2S ["cellar", "stand", "deed"]) (L_leads : Laid K mg "leads" q37 ["cellar", "stand"]) (L_stands_by_go : Laid K mg "stands_by_go" q0b ["cellar", "stand"]) (L_fit_deeds : Laid K mg "fit_deeds" q0I ["cellar", "stand"]) (L_all_goes : Laid K mg "all_goes" q0Z ["cellar"]) (L_all_deeds : Laid K mg "all_deeds" q07 ["cellar"]) (L_counts_from : Laid K mg "counts_from" q0A ["begins", "links"]) (L_turned_links : Laid K mg "turned_links" q0m ["links"]) (L_round_of : Laid K mg "round_of" q0X ["cellar", "stand"]) (L_fold : Laid K mg "fold" q69 ["cellar", "stand"]) (L_steps : Laid K mg "steps" q45 ["cellar", "stand"]) (L_go_links : Laid K mg "go_links" q1H ["cellar", "stand"]) (L__law_cell_at : Laid K mg "_law_cell_at" q0o ["_law_script", "_law_k"]) (L__law_gate : Laid K mg "_law_gate" q1a ["_law_cell"]) (L__law_cellar : Laid K mg "_law_cellar" qR ["_law_script"]) (L__law_come : Laid K mg "_law_come" q1b ["_law_place", "_law_stand"]) (L__law_any : Laid K mg "_law_any" q1I ["_law_script", "_law_place"]) (LM_Plain_lets : LaidM K cs.Plain "lets" "Plain.lets" q0Q ["self", "held", "opened", "bars", "water"]) (LM_Plain_told : LaidM K cs.Plain "told" "Gate.told" qH ["self"]) (LI_Plain : LaidI K mg "Plain" cs.Plain "Plain.__init__" q0R ["self"]) (LM_Door_lets : LaidM K cs.Door "lets" "Door.lets" q1q ["self", "held", "opened", "bars", "water"]) (LM_Door_told : LaidM K cs.Door "told" "Gate.told" qH ["self"]) (LI_Door : LaidI K mg "Door" cs.Door "Door.__init__" q1r ["self", "kind"]) (LM_Need_lets : LaidM K cs.Need "lets" "Need.lets" q1n ["self", "held", "opened", "bars", "water"]) (LM_Need_told : LaidM K cs.Need "told" "Gate.told" qH ["self"]) (LI_Need : LaidI K mg "Need" cs.Need "Need.__init__" q1o ["self", "kind"]) (LM_Bar_lets : LaidM K cs.Bar "lets" "Bar.lets" q1J ["self", "held", "opened", "bars", "water"]) (LM_Bar_told : LaidM K cs.Bar "told" "Gate.told" qH ["self"]) (LI_Bar : LaidI K mg "Bar" cs.Bar "Bar.__init__" q1K ["self", "bar"]) (LM_Wade_lets : LaidM K cs.Wade "lets" "Wade.lets" q1c ["self", "held", "opened", "bars", "water"]) (LM_Wade_told : LaidM K cs.Wade "told" "Gate.told" qH ["self"]) (LI_Wade : LaidI K mg "Wade" cs.Wade "Wade.__init__" q1d ["self", "height", "kind"]) (LM_Float_lets : LaidM K cs.Float "lets" "Float.lets" q0S ["self", "held", "opened", "bars", "water"]) (LM_Float_told : LaidM K cs.Float "told" "Gate.told" qH ["self"]) (LI_Float : LaidI K mg "Float" cs.Float "Float.__init__" q0T ["self", "height"]) (LM_Go_can : LaidM K cs.Go "can" "Deed.can" qQ ["self", "cellar", "stand"]) (LM_Go_done : LaidM K cs.Go "done" "Go.done" q2g ["self", "cellar", "stand"]) (LM_Go_fits : LaidM K cs.Go "fits" "Go.fits" q2f ["self", "cellar", "stand"]) (LM_Go_own_part : LaidM K cs.Go "own_part" "Deed.own_part" qy ["self", "cellar"]) (LM_Go_told : LaidM K cs.Go "told" "Deed.told" qI ["self"]) (LI_Go : LaidI K mg "Go" cs.Go "Go.__init__" q2e ["self", "number"]) (LM_Pull_can : LaidM K cs.Pull "can" "Deed.can" qQ ["self", "cellar", "stand"]) (LM_Pull_done : LaidM K cs.Pull "done" "Pull.done" q1m ["self", "cellar", "stand"]) (LM_Pull_fits : LaidM K cs.Pull "fits" "Pull.fits" q1l ["self", "cellar", "stand"]) (LM_Pull_own_part : LaidM K cs.Pull "own_part" "Deed.own_part" qy ["self", "cellar"]) (LM_Pull_told : LaidM K cs.Pull "told" "Deed.told" qI ["self"]) (LI_Pull : LaidI K mg "Pull" cs.Pull "Pull.__init__" q1k ["self", "number"]) (LM_Take_can : LaidM K cs.Take "can" "Deed.can" qQ ["self", "cellar", "stand"]) (LM_Take_done : LaidM K cs.Take "done" "Take.done" q1j ["self", "cellar", "stand"]) (LM_Take_fits : LaidM K cs.Take "fits" "Take.fits" q1i ["self", "cellar", "stand"]) (LM_Take_own_part : LaidM K cs.Take "own_part" "Deed.own_part" qy ["self", "cellar"]) (LM_Take_told : LaidM K cs.Take "told" "Deed.told" qI ["self"]) (LI_Take : LaidI K mg "Take" cs.Take "Take.__init__" q1h ["self", "number"]) (LM_Turn_can : LaidM K cs.Turn "can" "Deed.can" qQ ["self", "cellar", "stand"]) (LM_Turn_done : LaidM K cs.Turn "done" "Turn.done" q1g ["self", "cellar", "stand"]) (LM_Turn_fits : LaidM K cs.Turn "fits" "Turn.fits" q1f ["self", "cellar", "stand"]) (LM_Turn_own_part : LaidM K cs.Turn "own_part" "Deed.own_part" qy ["self", "cellar"]) (LM_Turn_told : LaidM K cs.Turn "told" "Deed.told" qI ["self"]) (LI_Turn : LaidI K mg "Turn" cs.Turn "Turn.__init__" q1e ["self", "number"]) (LM_Unlock_can : LaidM K cs.Unlock "can" "Deed.can" qQ ["self", "cellar", "stand"]) (LM_Unlock_done : LaidM K cs.Unlock "done" "Unlock.done" q0D ["self", "cellar", "stand"]) (LM_Unlock_fits : LaidM K cs.Unlock "fits" "Unlock.fits" q0C ["self", "cellar", "stand"]) (LM_Unlock_own_part : LaidM K cs.Unlock "own_part" "Deed.own_part" qy ["self", "cellar"]) (LM_Unlock_told : LaidM K cs.Unlock "told" "Deed.told" qI ["self"]) (LI_Unlock : LaidI K mg "Unlock" cs.Unlock "Unlock.__init__" q0B ["self", "number"]) (LC_Deed_init : LaidC K mg "Deed" "__init__" "Deed.__init__" q1s ["self", "word", "number", "part"]) (LC_Gate_init : LaidC K mg "Gate" "__init__" "Gate.__init__" q1p ["self", "word", "numbers"]) : FnOk P w K mg base CX0 12 f fd ["_law_script"] (q94 K) := by
 obtain ⟨d1, d2, L_cellar⟩ := L_cellar
 have C_has_bit : Cal P w K mg base 1 "has_bit" ["bits", "place"] q5w := q6W T L_has_bit
 have C_within : Cal P w K mg base 1 "within" ["number", "least", "most"] q26 := q7U T L_within
 have C_can_enter : Cal P w K mg base 1 "can_enter" ["way", "room"] q3V := q9v T L_can_enter
 have C_changed : Cal P w K mg base 1 "changed" ["parts", "place", "part"] q4H := q70 T L_changed
 have C_door_kinds : Cal P w K mg base 1 "door_kinds" ["cellar"] spDk := ok_dk T L_door_kinds
 have C_held : Cal P w K mg base 2 "held" ["cellar", "stand"] q64 := qb2 T L_held C_has_bit C_door_kinds
 have C_Gate_init : CCal P w K mg base 1 "Gate" "__init__" ["self", "word", "numbers"] (q1z K) := q9t T LC_Gate_init
 have C_Plain : Makes P w K mg base 2 "Plain" cs.Plain ["self"] (spMk cs "plain") := q9C T TC LI_Plain C_Gate_init
 have C_Door : Makes P w K mg base 2 "Door" cs.Door ["self", "kind"] (spMk cs "door") := qbh T TC LI_Door C_Gate_init
 have C_Need : Makes P w K mg base 2 "Need" cs.Need ["self", "kind"] (spMk cs "need") := qbg T TC LI_Need C_Gate_init
 have C_Bar : Makes P w K mg base 2 "Bar" cs.Bar ["self", "bar"] (spMk cs "bar") := mk_bar T TC LI_Bar C_Gate_init
 have C_Wade : Makes P w K mg base 2 "Wade" cs.Wade ["self", "height", "kind"] (spMk cs "wade") := qbc T TC LI_Wade C_Gate_init
 have C_Float : Makes P w K mg base 2 "Float" cs.Float ["self", "height"] (spMk cs "float") := q9D T TC LI_Float C_Gate_init
 have C_gate_of : Cal P w K mg base 4 "gate_of" ["gate"] (qaE cs) := q6X T L_gate_of C_Plain C_Door C_Need C_Bar C_Wade C_Float
 have vl : ∀ g : Gt, VMeth P w K mg base 2 (q8K cs g) "lets" ["self", "held", "opened", "bars", "water"] (q2G cs g.word) := fun g => by
  cases g
  ·exact q3O T TC LM_Plain_lets
  ·exact q4x T TC LM_Door_lets
  ·exact q4w T TC LM_Need_lets
  ·exact q5t T TC LM_Bar_lets C_has_bit
  ·exact q4v T TC LM_Wade_lets
  ·exact q3P T TC LM_Float_lets
 have C_Deed_init : CCal P w K mg base 1 "Deed" "__init__" ["self", "word", "number", "part"] (q20 K) := q9w T LC_Deed_init
 have C_Go : Makes P w K mg base 2 "Go" cs.Go ["self", "number"] (q0M cs .go) := mk_go T TC LI_Go C_Deed_init
 have C_Pull : Makes P w K mg base 2 "Pull" cs.Pull ["self", "number"] (q0M cs .pull) := qbf T TC LI_Pull C_Deed_init
 have C_Take : Makes P w K mg base 2 "Take" cs.Take ["self", "number"] (q0M cs .take) := qbe T TC LI_Take C_Deed_init
 have C_Turn : Makes P w K mg base 2 "Turn" cs.Turn ["self", "number"] (q0M cs .turn) := qbd T TC LI_Turn C_Deed_init
 have C_Unlock : Makes P w K mg base 2 "Unlock" cs.Unlock ["self", "number"] (q0M cs .unlock) := q81 T TC LI_Unlock C_Deed_init
 have C_deed_of : Cal P w K mg base 4 "deed_of" ["deed"] (qaG cs) := q6Z T L_deed_of C_Go C_Pull C_Take C_Turn C_Unlock
 have vo : ∀ d, VMeth P w K mg base 1 (dcls cs d) "own_part" ["self", "cellar"] (q3t cs d) := fun d => by
  have D := q1Y TC d
  cases d
  ·exact q4u LM_Go_own_part D
  ·exact q4u LM_Pull_own_part D
  ·exact q4u LM_Take_own_part D
  ·exact q4u LM_Turn_own_part D
  ·exact q4u LM_Unlock_own_part D
 have vf : ∀ d, VMeth P w K mg base 5 (dcls cs d) "fits" ["self", "cellar", "stand"] (q33 cs d) := fun d => by
  have D := q1Y TC d
  have v := vo d
  cases d
  ·exact q6E T D LM_Go_fits v C_can_enter C_has_bit C_gate_of vl C_held
  ·exact q4A T D LM_Pull_fits v
  ·exact q4z T D LM_Take_fits v C_has_bit
  ·exact q4y T D LM_Turn_fits v
  ·exact q3q T D LM_Unlock_fits v C_can_enter C_has_bit C_held
 have vc : ∀ d, VMeth P w K mg base 6 (dcls cs d) "can" ["self", "cellar", "stand"] (q7t cs d) := fun d => by
  have D := q1Y TC d
  have v := vf d
  cases d
  ·exact q4E T LM_Go_can D C_within v
  ·exact q4E T LM_Pull_can D C_within v
  ·exact q4E T LM_Take_can D C_within v
  ·exact q4E T LM_Turn_can D C_within v
  ·exact q4E T LM_Unlock_can D C_within v
 have vd : ∀ d, VMeth P w K mg base 2 (dcls cs d) "done" ["self", "cellar", "stand"] (q27 cs d) := fun d => by
  have D := q1Y TC d
  have v := vo d
  cases d
  ·exact q6F T D LM_Go_done v C_changed
  ·exact q4D T D LM_Pull_done v C_changed
  ·exact q4C T D LM_Take_done C_changed
  ·exact q4B T D LM_Turn_done v C_changed
  ·exact q3r T D LM_Unlock_done C_changed
 have vt : ∀ d, VMeth P w K mg base 1 (dcls cs d) "told" ["self"] (q3W cs d) := fun d => by
  have D := q1Y TC d
  cases d
  ·exact q24 LM_Go_told D
  ·exact q24 LM_Pull_told D
  ·exact q24 LM_Take_told D
  ·exact q24 LM_Turn_told D
  ·exact q24 LM_Unlock_told D
 have C_start : Cal P w K mg base 1 "start" ["cellar"] q7p := q9q T L_start
 have C_all_goes : Cal P w K mg base 4 "all_goes" ["cellar"] (q65 cs) := qb3 T L_all_goes C_Go
 have C_all_deeds : Cal P w K mg base 5 "all_deeds" ["cellar"] (q7u cs) := qb9 T L_all_deeds C_all_goes C_Pull C_Take C_Turn C_Unlock
 have C_fit_deeds : Cal P w K mg base 7 "fit_deeds" ["cellar", "stand"] (q66 cs) := qb5 T L_fit_deeds C_all_deeds vc
 have C_deeds_at : Cal P w K mg base 8 "deeds_at" ["cellar", "stand"] q28 := q6Y T L_deeds_at C_fit_deeds vt
 have C_behind : Cal P w K mg base 7 "behind" ["cellar", "stand", "deed"] q2Q := q7X T L_behind C_deed_of vc vd
 have C_tops_of := q6U (P := P) (w := w) (base := base) T L_tops_of
 have C_is_gate := q6V (P := P) (w := w) (base := base) T L_is_gate C_tops_of C_within
 have C_check_number := q9x (P := P) (w := w) (base := base) T L_check_number C_within
 have C_made_rows := qb1 (P := P) (w := w) (base := base) T L_made_rows
 have C_made_ways := ok_mw (P := P) (w := w) (base := base) T L_made_ways C_check_number C_made_rows C_is_gate
 have C_made_pairs := ok_mp (P := P) (w := w) (base := base) T L_made_pairs C_check_number C_made_rows
 have C_cellar : CalD P w K mg base 4 "cellar" psC qaF q0P (dsC d1 d2) := ok_mkc (P := P) (w := w) (base := base) T L_cellar C_check_number C_made_ways C_made_pairs
 have C_leads := q9s T L_leads C_fit_deeds vt vd
 have C_stands_by_go := qb8 T L_stands_by_go C_all_goes vc vd
 have C_go_links := q7W T L_go_links C_changed C_stands_by_go
 have C_counts_from := q9y (P := P) (w := w) (base := base) T L_counts_from
 have C_turned_links := q7V (P := P) (w := w) (base := base) T L_turned_links
 have C_round_of := q9r T L_round_of C_go_links C_counts_from C_turned_links
 have C_fold := qb4 T L_fold C_round_of
 have C_steps := q9p T L_steps C_round_of C_leads C_fold
 have C__law_cell_at := q9z (P := P) (w := w) (base := base) T L__law_cell_at
 have C__law_gate := q9u (P := P) (w := w) (base := base) T L__law_gate
 have C__law_cellar := qb7 T L__law_cellar C__law_cell_at C__law_gate C_cellar
 have C__law_come := qb6 T L__law_come C_deeds_at C_behind
 have C__law_any := ok_any T L__law_any C__law_cell_at
 refine F.ok (k := 11) q0W (fun vs H Q E h => ?_) (fun cdv A outer s H vs Q E hr h => ?_)
 ·obtain ⟨a, ns, rfl, _⟩ := h
  rfl
 ·obtain ⟨a, ns, rfl, hS, hl, k⟩ := h
  have big := qD
  obtain ⟨tb, hb, kb⟩ := law_b (P := P) (w := w) (base := base) (outer := outer) (H0 := H) (E := E) T C_round_of C_fold C_steps C_deeds_at C_behind hr
  refine ⟨_, (qc (qv (i := 1) q0W.nd rfl (Or.inl rfl) (qm C__law_cellar hr (by decide) rfl (qa (pv 0) qd)))
   (qc (qv (i := 2) q0W.nd rfl (Or.inl rfl) (qm C__law_come hr (by decide) rfl (qa (pv 1) (qa (qm C_start hr (by decide) rfl (qa (pv 1) qd)) qd))))
   (qc (qv (i := 3) q0W.nd rfl (Or.inl rfl) (qu (qS K) (pv 2) (qt qN (qm C__law_cell_at hr (by decide) rfl (qa (pv 0) (qa qg qd))) (qB (lenK K) rfl T.n_len q0k (qa (pv 2) qd))) (fun _ _ => rfl)))
   (qc (qP (qr q09 (qt qN (qm C__law_cell_at hr (by decide) rfl (qa (pv 0) (qa qg qd))) qg) qg (qw _)) (qf (qv (i := 3) q0W.nd rfl (Or.inl rfl) (qm C__law_any hr (by decide) rfl (qa (pv 0) (qa (pv 1) qd))))) qq)
   hb)))), ?_⟩
  rw [show L2.start ["_law_script", "_law_place", "_law_some", "_law_stand", "_law_circle", "_law_found", "_law_one", "_law_deed", "_law_other", "_law_due", "_law_told", "_law_pair"] [V.ref a] = [some (V.ref a), none, none, none, none, none, none, none, none, none, none, none] from rfl]
  walk_at "rd"
  refine ⟨a, ns, rfl, hS, hl, fun c C H1 s1 hC ok sm => ?_⟩
  walk_at "rd"
  refine ⟨c, C, rfl, hC, fun p0 H2 s2 hp0 => ?_⟩
  have s02 := s1.trans s2
  have hp0' : SAt H2 p0 ⟨C.fst, 0, 0, C.bars, C.water⟩ := hp0
  walk_at "rd"
  refine ⟨c, p0, C, _, rfl, hC.mono s2.ts, ok, hp0', q93 ok, fun l sts H3 s3 hl0 hsts hne hlen hok => ?_⟩
  have s03 := s02.trans s3
  have hC3 := hC.mono (s2.trans s3).ts
  obtain ⟨qs, hqs, rqs⟩ := id hsts
  have hql : qs.length = sts.length := rqs.1
  have hpos : 0 < sts.length := List.length_pos_iff.mpr hne
  have hlpos : (0 : Int) < ((qs.map V.ref).length : Nat) := by rw [List.length_map]; omega
  walk_at "rd"
  refine ⟨a, ns, 7, rfl, s03.seq hS, hl, by decide, ?_⟩
  generalize ns.getD (7 : Int).toNat 0 = m
  walk_at "rd"
  obtain ⟨j, hj, ej⟩ := qbb m (qs.map V.ref).length (by rw [List.length_map]; omega)
  rw [ej]
  rw [List.length_map] at hj
  obtain ⟨p1, ep1, hp1⟩ := rqs.get (show j < sts.length by omega)
  have ok1 := hok _ (List.getElem_mem (show j < sts.length by omega))
  generalize sts[j]'(by omega) = s1' at hp1 ok1
  refine q47 (SqL.of hqs) (q0x ep1) ?_
  walk_at "rd"
  refine ⟨a, ns, 8, rfl, s03.seq hS, hl, by decide, ?_⟩
  walk_at "rd"
  refine ifd (fun h3 => ?_) (fun h3 => ?_)
  ·walk_at "rd"
   refine ⟨a, c, ns, C, rfl, s03.seq hS, hl, hC3, ok, fun p4 s4 H4 s34 hp4 ok4 => ?_⟩
   walk_at "rd"
   exact kb _ _ _ _ _ c p4 _ C s4 H4 (hC3.mono s34.ts) ok sm hp4 ok4 k
  ·walk_at "rd"
   exact kb _ _ _ _ _ c p1 _ C s1' H3 hC3 ok sm hp1 ok1 k
end
section
variable {K : W.Frag} {h : Heap} {mg : Str -> Option Value} {x m q : Str} {C : Addr} {st : Stmt} {ps : List Str} {ds : List Value}
inductive GA (K : W.Frag) (x : Str) (st : Stmt) : Prop
 | mk {f : Addr} {od an : Option Addr} {sl : Array (Option Value)} {oc kV dc pm cd ct : Value} : W.nsIn K mainGlobals x = some (some (.ref f)) -> K.lookup f = some ⟨oc, od, .func (W.fnOf x x (q05 st) (qK st) (qe st) .none kV dc pm an cd ct), sl⟩ -> W.codeIn K cd x = true -> W.keepIn K (.ref f) = true -> GA K x st
theorem GA.laid (X : K.In h) (G : h.Ns mainGlobals mg) (g : GA K x st) (hb : ∀ (kV doc pm : Value) (an : Option Addr) (cdv ct : Value) (us : List Value), us.length = ps.length -> bindArgs (W.fnOf x x (q05 st) (qK st) (qe st) .none kV doc pm an cdv ct) ⟨us, []⟩ = pure (ps.zip us)) : Laid K mg x st ps := let ⟨a, l, c, k⟩ := g; qbk X G a l c k hb
inductive DA (K : W.Frag) (x : Str) (st : Stmt) (ds : List Value) : Prop
 | mk {f : Addr} {od an : Option Addr} {sl : Array (Option Value)} {oc kV dc pm cd ct : Value} {T : Addr} {oT : Value} {odT : Option Addr} {nT : Nat} {slT : Array (Option Value)} : W.nsIn K mainGlobals x = some (some (.ref f)) -> K.lookup f = some ⟨oc, od, .func (W.fnOf x x (q05 st) (qK st) (qe st) (.ref T) kV dc pm an cd ct), sl⟩ -> W.codeIn K cd x = true -> W.keepIn K (.ref f) = true -> K.lookup T = some ⟨oT, odT, .seq ds.toArray nT, slT⟩ -> DA K x st ds
theorem DA.laid (X : K.In h) (G : h.Ns mainGlobals mg) (g : DA K x st ds) : LaidD K mg x st ds := let ⟨a, l, c, k, d⟩ := g; q9J X G a l c k d rfl
inductive MA (K : W.Frag) (C : Addr) (m q : Str) (st : Stmt) : Prop
 | mk {f : Addr} {od an : Option Addr} {sl : Array (Option Value)} {oc kV dc pm cd ct : Value} : W.findIn K (.ref C) m = some (some (.ref f)) -> W.isFn K (.ref f) = true -> K.lookup f = some ⟨oc, od, .func (W.fnOf m q (q05 st) (qK st) (qe st) .none kV dc pm an cd ct), sl⟩ -> W.codeIn K cd q = true -> W.keepIn K (.ref f) = true -> MA K C m q st
theorem MA.laid (g : MA K C m q st) (hb : ∀ (kV doc pm : Value) (an : Option Addr) (cdv ct : Value) (us : List Value), us.length = ps.length -> bindArgs (W.fnOf m q (q05 st) (qK st) (qe st) .none kV doc pm an cdv ct) ⟨us, []⟩ = pure (ps.zip us)) : LaidM K C m q st ps := let ⟨a, i, l, c, k⟩ := g; ⟨_, _, q2n l c k, ⟨a, i, k⟩, (q2n l c k).binds hb⟩
inductive IA (K : W.Frag) (C : Addr) (q : Str) (st : Stmt) : Prop
 | mk {f : Addr} {od an : Option Addr} {sl : Array (Option Value)} {oc kV dc pm cd ct : Value} : W.makesIn K C = true -> W.keepIn K (.ref C) = true -> W.findIn K (.ref C) "__init__" = some (some (.ref f)) -> W.isFn K (.ref f) = true -> K.lookup f = some ⟨oc, od, .func (W.fnOf "__init__" q (q05 st) (qK st) (qe st) .none kV dc pm an cd ct), sl⟩ -> W.codeIn K cd q = true -> W.keepIn K (.ref f) = true -> IA K C q st
theorem IA.laid (g : IA K C q st) (hx : mg x = some (.ref C)) (hb : ∀ (kV doc pm : Value) (an : Option Addr) (cdv ct : Value) (us : List Value), us.length = ps.length -> bindArgs (W.fnOf "__init__" q (q05 st) (qK st) (qe st) .none kV doc pm an cdv ct) ⟨us, []⟩ = pure (ps.zip us)) : LaidI K mg x C q st ps := let ⟨z, y, a, i, l, c, k⟩ := g; ⟨⟨_, _, q2n l c k, ⟨z, a, i, y⟩, (q2n l c k).binds hb⟩, hx⟩
inductive CA (K : W.Frag) (C : Addr) (m q : Str) (st : Stmt) : Prop
 | mk {f : Addr} {od an : Option Addr} {sl : Array (Option Value)} {oc kV dc pm cd ct : Value} : W.readsIn K C (.type "type") = true -> W.findCls K (.ref C) (.type "type") m = some (.val (.ref f)) -> W.specialIn K (.ref C) "__getattribute__" = some (some (.builtin "type.__getattribute__")) -> K.lookup f = some ⟨oc, od, .func (W.fnOf m q (q05 st) (qK st) (qe st) .none kV dc pm an cd ct), sl⟩ -> W.codeIn K cd q = true -> W.keepIn K (.ref f) = true -> CA K C m q st
theorem CA.laid (g : CA K C m q st) (hx : mg x = some (.ref C)) (hb : ∀ (kV doc pm : Value) (an : Option Addr) (cdv ct : Value) (us : List Value), us.length = ps.length -> bindArgs (W.fnOf m q (q05 st) (qK st) (qe st) .none kV doc pm an cdv ct) ⟨us, []⟩ = pure (ps.zip us)) : LaidC K mg x m q st ps := let ⟨r, y, z, l, c, k⟩ := g; ⟨C, _, _, hx, q2n l c k, ⟨r, y, z, k⟩, (q2n l c k).binds hb⟩
end
local macro_rules | `(tactic| walk_at "b1") => `(tactic| exact fun _ _ _ _ _ _ us hl => match us, hl with | [_], _ => rfl)
local macro_rules | `(tactic| walk_at "b2") => `(tactic| exact fun _ _ _ _ _ _ us hl => match us, hl with | [_, _], _ => rfl)
local macro_rules | `(tactic| walk_at "b3") => `(tactic| exact fun _ _ _ _ _ _ us hl => match us, hl with | [_, _, _], _ => rfl)
local macro_rules | `(tactic| walk_at "b4") => `(tactic| exact fun _ _ _ _ _ _ us hl => match us, hl with | [_, _, _, _], _ => rfl)
local macro_rules | `(tactic| walk_at "b5") => `(tactic| exact fun _ _ _ _ _ _ us hl => match us, hl with | [_, _, _, _, _], _ => rfl)
local macro_rules | `(tactic| walk_at "b6") => `(tactic| exact fun _ _ _ _ _ _ us hl => match us, hl with | [_, _, _, _, _, _], _ => rfl)
local macro_rules | `(tactic| walk_at "b9") => `(tactic| exact fun _ _ _ _ _ _ us hl => match us, hl with | [_, _, _, _, _, _, _, _, _], _ => rfl)
theorem all_mk {l : W.OpenLaw} {w : World} {K : W.Frag} {h : Heap} {mg : Str -> Option Value} {fa C_Gate C_Plain C_Door C_Need C_Bar C_Wade C_Float C_Deed C_Go C_Pull C_Take C_Turn C_Unlock : Addr} (X : K.In h) (G : h.Ns mainGlobals mg) (hfa : mg "law" = some (.ref fa))
  (T0 : TxtR (fun x v => W.nsIn K mainGlobals x = some (some v)) (fun x => W.nsIn K mainGlobals x = some none) (Cs.mk C_Gate C_Plain C_Door C_Need C_Bar C_Wade C_Float C_Deed C_Go C_Pull C_Take C_Turn C_Unlock))
  (TC : Tcl K (Cs.mk C_Gate C_Plain C_Door C_Need C_Bar C_Wade C_Float C_Deed C_Go C_Pull C_Take C_Turn C_Unlock))
  (h1 : GA K "_wall" q7z)
  (h2 : GA K "within" q2R)
  (h3 : GA K "has_bit" q2a)
  (h4 : GA K "changed" q2d)
  (h5 : GA K "gate_of" q2b)
  (h6 : GA K "is_gate" q1B)
  (h7 : GA K "tops_of" q29)
  (h8 : ∃ d1 d2, DA K "cellar" q0P [.none, .none, .none, .int 0 d1, .int 0 d2])
  (h9 : GA K "check_number" q0n)
  (h10 : GA K "made_ways" q18)
  (h11 : GA K "made_pairs" q0O)
  (h12 : GA K "made_rows" q0d)
  (h13 : GA K "start" q46)
  (h14 : GA K "held" q68)
  (h15 : GA K "door_kinds" q0s)
  (h16 : GA K "can_enter" q19)
  (h17 : GA K "deed_of" q2c)
  (h18 : GA K "deeds_at" q0Y)
  (h19 : GA K "behind" q2S)
  (h20 : GA K "leads" q37)
  (h21 : GA K "stands_by_go" q0b)
  (h22 : GA K "fit_deeds" q0I)
  (h23 : GA K "all_goes" q0Z)
  (h24 : GA K "all_deeds" q07)
  (h25 : GA K "counts_from" q0A)
  (h26 : GA K "turned_links" q0m)
  (h27 : GA K "round_of" q0X)
  (h28 : GA K "fold" q69)
  (h29 : GA K "steps" q45)
  (h30 : GA K "go_links" q1H)
  (h31 : GA K "_law_cell_at" q0o)
  (h32 : GA K "_law_gate" q1a)
  (h33 : GA K "_law_cellar" qR)
  (h34 : GA K "_law_come" q1b)
  (h35 : GA K "_law_any" q1I)
  (h36 : GA K "law" q6R)
  (h37 : MA K C_Plain "lets" "Plain.lets" q0Q)
  (h38 : MA K C_Plain "told" "Gate.told" qH)
  (h39 : IA K C_Plain "Plain.__init__" q0R)
  (h40 : MA K C_Door "lets" "Door.lets" q1q)
  (h41 : MA K C_Door "told" "Gate.told" qH)
  (h42 : IA K C_Door "Door.__init__" q1r)
  (h43 : MA K C_Need "lets" "Need.lets" q1n)
  (h44 : MA K C_Need "told" "Gate.told" qH)
  (h45 : IA K C_Need "Need.__init__" q1o)
  (h46 : MA K C_Bar "lets" "Bar.lets" q1J)
  (h47 : MA K C_Bar "told" "Gate.told" qH)
  (h48 : IA K C_Bar "Bar.__init__" q1K)
  (h49 : MA K C_Wade "lets" "Wade.lets" q1c)
  (h50 : MA K C_Wade "told" "Gate.told" qH)
  (h51 : IA K C_Wade "Wade.__init__" q1d)
  (h52 : MA K C_Float "lets" "Float.lets" q0S)
  (h53 : MA K C_Float "told" "Gate.told" qH)
  (h54 : IA K C_Float "Float.__init__" q0T)
  (h55 : MA K C_Go "can" "Deed.can" qQ)
  (h56 : MA K C_Go "done" "Go.done" q2g)
  (h57 : MA K C_Go "fits" "Go.fits" q2f)
  (h58 : MA K C_Go "own_part" "Deed.own_part" qy)
  (h59 : MA K C_Go "told" "Deed.told" qI)
  (h60 : IA K C_Go "Go.__init__" q2e)
  (h61 : MA K C_Pull "can" "Deed.can" qQ)
  (h62 : MA K C_Pull "done" "Pull.done" q1m)
  (h63 : MA K C_Pull "fits" "Pull.fits" q1l)
  (h64 : MA K C_Pull "own_part" "Deed.own_part" qy)
  (h65 : MA K C_Pull "told" "Deed.told" qI)
  (h66 : IA K C_Pull "Pull.__init__" q1k)
  (h67 : MA K C_Take "can" "Deed.can" qQ)
  (h68 : MA K C_Take "done" "Take.done" q1j)
  (h69 : MA K C_Take "fits" "Take.fits" q1i)
  (h70 : MA K C_Take "own_part" "Deed.own_part" qy)
  (h71 : MA K C_Take "told" "Deed.told" qI)
  (h72 : IA K C_Take "Take.__init__" q1h)
  (h73 : MA K C_Turn "can" "Deed.can" qQ)
  (h74 : MA K C_Turn "done" "Turn.done" q1g)
  (h75 : MA K C_Turn "fits" "Turn.fits" q1f)
  (h76 : MA K C_Turn "own_part" "Deed.own_part" qy)
  (h77 : MA K C_Turn "told" "Deed.told" qI)
  (h78 : IA K C_Turn "Turn.__init__" q1e)
  (h79 : MA K C_Unlock "can" "Deed.can" qQ)
  (h80 : MA K C_Unlock "done" "Unlock.done" q0D)
  (h81 : MA K C_Unlock "fits" "Unlock.fits" q0C)
  (h82 : MA K C_Unlock "own_part" "Deed.own_part" qy)
  (h83 : MA K C_Unlock "told" "Deed.told" qI)
  (h84 : IA K C_Unlock "Unlock.__init__" q0B)
  (h85 : CA K C_Deed "__init__" "Deed.__init__" q1s)
  (h86 : CA K C_Gate "__init__" "Gate.__init__" q1p) :
  ∃ fd : FuncData, (∀ (s : Shared) (v : Value), BindsTo s fd ⟨[v], []⟩ [("_law_script", v)]) /\ ∀ base : Heap, K.In base -> base.Ns mainGlobals mg -> FnOk l.prog w K mg base CX0 12 fa fd ["_law_script"] (q94 K) := by
 obtain ⟨al, ll, cl, kl⟩ := h36
 have e := hfa.symm.trans (W.mg_of X G al)
 cases e
 have T : Txt mg (Cs.mk C_Gate C_Plain C_Door C_Need C_Bar C_Wade C_Float C_Deed C_Go C_Pull C_Take C_Turn C_Unlock) := T0.up (fun _ _ z => W.mg_of X G z) fun _ z => W.mg_none_of X G z
 exact ⟨_, fun s v => .of_eq rfl, fun base _ _ => ok_law (q2n ll cl kl) T TC (h1.laid X G (by walk_at "b1")) (h2.laid X G (by walk_at "b3")) (h3.laid X G (by walk_at "b2")) (h4.laid X G (by walk_at "b3")) (h5.laid X G (by walk_at "b1")) (h6.laid X G (by walk_at "b1")) (h7.laid X G (by walk_at "b1")) (let ⟨d1, d2, z⟩ := h8; ⟨d1, d2, z.laid X G⟩) (h9.laid X G (by walk_at "b4")) (h10.laid X G (by walk_at "b2")) (h11.laid X G (by walk_at "b6")) (h12.laid X G (by walk_at "b3")) (h13.laid X G (by walk_at "b1")) (h14.laid X G (by walk_at "b2")) (h15.laid X G (by walk_at "b1")) (h16.laid X G (by walk_at "b2")) (h17.laid X G (by walk_at "b1")) (h18.laid X G (by walk_at "b2")) (h19.laid X G (by walk_at "b3")) (h20.laid X G (by walk_at "b2")) (h21.laid X G (by walk_at "b2")) (h22.laid X G (by walk_at "b2")) (h23.laid X G (by walk_at "b1")) (h24.laid X G (by walk_at "b1")) (h25.laid X G (by walk_at "b2")) (h26.laid X G (by walk_at "b1")) (h27.laid X G (by walk_at "b2")) (h28.laid X G (by walk_at "b2")) (h29.laid X G (by walk_at "b2")) (h30.laid X G (by walk_at "b2")) (h31.laid X G (by walk_at "b2")) (h32.laid X G (by walk_at "b1")) (h33.laid X G (by walk_at "b1")) (h34.laid X G (by walk_at "b2")) (h35.laid X G (by walk_at "b2")) (h37.laid (by walk_at "b5")) (h38.laid (by walk_at "b1")) (h39.laid T.c_Plain (by walk_at "b1")) (h40.laid (by walk_at "b5")) (h41.laid (by walk_at "b1")) (h42.laid T.c_Door (by walk_at "b2")) (h43.laid (by walk_at "b5")) (h44.laid (by walk_at "b1")) (h45.laid T.c_Need (by walk_at "b2")) (h46.laid (by walk_at "b5")) (h47.laid (by walk_at "b1")) (h48.laid T.c_Bar (by walk_at "b2")) (h49.laid (by walk_at "b5")) (h50.laid (by walk_at "b1")) (h51.laid T.c_Wade (by walk_at "b3")) (h52.laid (by walk_at "b5")) (h53.laid (by walk_at "b1")) (h54.laid T.c_Float (by walk_at "b2")) (h55.laid (by walk_at "b3")) (h56.laid (by walk_at "b3")) (h57.laid (by walk_at "b3")) (h58.laid (by walk_at "b2")) (h59.laid (by walk_at "b1")) (h60.laid T.c_Go (by walk_at "b2")) (h61.laid (by walk_at "b3")) (h62.laid (by walk_at "b3")) (h63.laid (by walk_at "b3")) (h64.laid (by walk_at "b2")) (h65.laid (by walk_at "b1")) (h66.laid T.c_Pull (by walk_at "b2")) (h67.laid (by walk_at "b3")) (h68.laid (by walk_at "b3")) (h69.laid (by walk_at "b3")) (h70.laid (by walk_at "b2")) (h71.laid (by walk_at "b1")) (h72.laid T.c_Take (by walk_at "b2")) (h73.laid (by walk_at "b3")) (h74.laid (by walk_at "b3")) (h75.laid (by walk_at "b3")) (h76.laid (by walk_at "b2")) (h77.laid (by walk_at "b1")) (h78.laid T.c_Turn (by walk_at "b2")) (h79.laid (by walk_at "b3")) (h80.laid (by walk_at "b3")) (h81.laid (by walk_at "b3")) (h82.laid (by walk_at "b2")) (h83.laid (by walk_at "b1")) (h84.laid T.c_Unlock (by walk_at "b2")) (h85.laid T.c_Deed (by walk_at "b4")) (h86.laid T.c_Gate (by walk_at "b3"))⟩
theorem walk {l : W.OpenLaw} {q : Program} {loose : List Str} {XP : (Str -> Option Value) -> Heap -> Prop} {YP : World -> Heap -> Prop} {d : DefRec} {K : Params -> W.Frag} (hn : l.most = some 63) (hdf : d.params.defaults = [])
  (hY : ∀ (w : World) (h : Heap), YP w h -> (K w.params).In h)
  (F : ∀ (w : World) (mg : Str -> Option Value) (fa : Addr) (h : Heap), (K w.params).In h -> h.Ns mainGlobals mg -> mg d.name = some (.ref fa) ->
   ∃ fd : FuncData, (∀ (s : Shared) (u : Value), BindsTo s fd ⟨[u], []⟩ [("_law_script", u)]) /\ ∀ base : Heap, (K w.params).In base -> base.Ns mainGlobals mg -> FnOk l.prog w (K w.params) mg base CX0 12 fa fd ["_law_script"] (q94 (K w.params))) :
  W.WalkO q loose XP YP l.row.toRowW d [] (fun f vs => PySem.call f vs) :=
 L2.qax (n := 63) (k := 12) (x := "_law_script") (CX := fun _ => CX0) (sp := fun w => q94 (K w.params)) hn (by decide) hdf ⟨rfl, by decide, by decide, rfl⟩ hY F (fun _ _ a ns hl _ hS => ⟨a, ns, rfl, hS, hl, fun _ => rfl⟩) fun _ _ _ _ _ z => z
end Mine
open PySem PySem.W PyProof.Rows
set_option maxRecDepth 100000 in
set_option maxHeartbeats 0 in
theorem PySem.Challenge.cw_delve_k26_steps_of_folds_holds : PySem.Challenge.rw_delve_k26_steps_of_folds.Holds := by
 w_on; o_law; k_head; (case hw => w_witness2)
 k_fill
 refine Mine.walk (l := PySem.Challenge.rw_delve_k26_steps_of_folds) rfl rfl (fun w h Y => PySem.W.kIn_of Y) ?F
 case F =>
  intro w mg fa h KX G hmg
  refine' Mine.all_mk KX G hmg ?T ?C ?_ ?_ ?_ ?_ ?_ ?_ ?_ ?_ ?_ ?_ ?_ ?_ ?_ ?_ ?_ ?_ ?_ ?_ ?_ ?_ ?_ ?_ ?_ ?_ ?_ ?_ ?_ ?_ ?_ ?_ ?_ ?_ ?_ ?_ ?_ ?_ ?_ ?_ ?_ ?_ ?_ ?_ ?_ ?_ ?_ ?_ ?_ ?_ ?_ ?_ ?_ ?_ ?_ ?_ ?_ ?_ ?_ ?_ ?_ ?_ ?_ ?_ ?_ ?_ ?_ ?_ ?_ ?_ ?_ ?_ ?_ ?_ ?_ ?_ ?_ ?_ ?_ ?_ ?_ ?_ ?_ ?_ ?_ ?_ ?_ ?_
  case T => constructor <;> (try dsimp only) <;> first | k_is | exact ⟨_, by k_is⟩
  case C => constructor <;> (try dsimp only) <;> first | exact ⟨by k_is, by k_is, by k_is, by k_is⟩ | (unfold L2.qz; k_is)
  all_goals try dsimp only
  all_goals first | exact Mine.GA.mk (by k_is) (by k_is) (by k_is) (by k_is) | exact Mine.MA.mk (by k_is) (by k_is) (by k_is) (by k_is) (by k_is) | exact Mine.IA.mk (by k_is) (by k_is) (by k_is) (by k_is) (by k_is) (by k_is) (by k_is) | exact Mine.CA.mk (by k_is) (by k_is) (by k_is) (by k_is) (by k_is) (by k_is) | exact Mine.DA.mk (by k_is) (by k_is) (by k_is) (by k_is) (by k_is) | exact ⟨_, Mine.DA.mk (by k_is) (by k_is) (by k_is) (by k_is) (by k_is)⟩ | exact ⟨_, _, Mine.DA.mk (by k_is) (by k_is) (by k_is) (by k_is) (by k_is)⟩
