import PyProof.Rows.All
import Wide.All
import OpenK.AllK
import Wide.FinOn
import Lean
import PyProof.EqAt
import PyProof.EqKinds
import PyProof.TupleCall
import PyProof.NeKinds
import KE.KDictSum
import KE.KItemsList
import PySem.Challenge.RW_delve_k22_depths
namespace PySem.W.Fast
def tw9834551103834508972 := 0
def tw5588897048217333261 := 0
def tw8562464908842857843 := 0
def tw7337936138486591354 := 0
def tw17312976999656806588 := 0
def tw16815736324226924995 := 0
def tw10830482024440505274 := 0
def tw351541297370080135 := 0
def tw4739912026672564565 := 0
def tw10572741188782408234 := 0
def tw17757771033714209080 := 0
def tw6782393117460221739 := 0
def tw12210755082277402952 := 0
def tw1972234423830941229 := 0
def tw13367481658450449989 := 0
def tw10220953534094668589 := 0
def tw15923380380583336934 := 0
def tw6286024468265065448 := 0
def tw12428846718840546100 := 0
def tw15029069694701079693 := 0
def tw3164958635965380328 := 0
def tw4390715790218074934 := 0
def tw7103220126587355284 := 0
def tw3507521492466221975 := 0
def tw12403284998710847562 := 0
def tw6507851369184846533 := 0
def tw4627643980277235230 := 0
def tw10457228533544304827 := 0
def tw14375426491995890937 := 0
def tw8233510199022195973 := 0
def tw18274603451957199890 := 0
def tw1854806154892569121 := 0
def tw5288773274024812151 := 0
def tw9162700946980518965 := 0
def tw10758640810271817994 := 0
def tw5185347052410209661 := 0
def tw6027105519713000068 := 0
def tw13274307776443052227 := 0
def tw12313106901497366928 := 0
def tw3004371265563458416 := 0
def tw12827591064288050459 := 0
def tw10671688779017901336 := 0
def tw18246538910742033677 := 0
def tw15044671970760109957 := 0
def tw10882827937129219112 := 0
def tw1016181109514663258 := 0
def tw8738997349951335818 := 0
def tw13197080987801126688 := 0
def tw2050322276286418977 := 0
def tw12724202087243544567 := 0
def tw2447817146514395928 := 0
def tw6163015094426339669 := 0
def tw1815960934411850782 := 0
def tw11055562843560775491 := 0
def tw5420432152639790702 := 0
def tw1309651788365737361 := 0
def tw6518424022536702496 := 0
def tw341929956377491682 := 0
def tw17609472445513687458 := 0
def tw3601951449121554621 := 0
def tw1936091658832061520 := 0
def tw6745957468347215685 := 0
def tw16651342396917865125 := 0
def tw18031152429746326893 := 0
def tw7829932721818099302 := 0
def tw15311740614112299734 := 0
def tw15571751483862842992 := 0
def tw7951308594759129136 := 0
def tw1250666979714768429 := 0
def tw995921769676596792 := 0
def tw17700888977969706865 := 0
def tw1087857215265663001 := 0
def tw16843881577667969103 := 0
def tw5689053985304998297 := 0
def tw2208074365806061615 := 0
def tw3028077612786597754 := 0
def tw2506506736104786394 := 0
def tw12935779813739891330 := 0
def tw4806746959362292716 := 0
def tw11812658357695602310 := 0
def tw1807156313237134297 := 0
def tw14377666958052813090 := 0
def tw9600793960811215197 := 0
def tw5722634902276143800 := 0
def tw16006876109170658691 := 0
def tw7687633149514933564 := 0
def tw10584628788488897035 := 0
def tw15200223654942495070 := 0
def tw1311931591759152449 := 0
def tw9858500455463700528 := 0
def tw17560825849277401536 := 0
def tw12202946491357762195 := 0
def tw11758377608461985511 := 0
def tw9008189493712427558 := 0
def tw5018670762648873438 := 0
def tw17059585441578038752 := 0
def tw9115249899469604773 := 0
def tw9882815310313942560 := 0
def tw5840645315837435997 := 0
def tw14819821771210844839 := 0
def tw1623585751105897569 := 0
def tw105626109628447122 := 0
def tw14863842752688505533 := 0
def tw1985996214806606481 := 0
def tw10339286421054827093 := 0
def tw8067714525361216303 := 0
def tw1245228295320855908 := 0
def tw2794339752962760182 := 0
def tw2054140098671829101 := 0
def tw5185728742146097439 := 0
def tw10964340992578173630 := 0
def tw16921728473522689871 := 0
def tw11271559836858720328 := 0
def tw5342052676799709736 := 0
def tw6147109746800874088 := 0
def tw11834299070484090197 := 0
def tw1809714206470674674 := 0
def tw6823827846033778716 := 0
def tw13553442692213003632 := 0
def tw829227352342854183 := 0
def tw17775334290286599984 := 0
def tw6961647357387087014 := 0
def tw11841012792583193408 := 0
def tw5584116489528519856 := 0
def tw13077659492728483069 := 0
def tw10948788005646217073 := 0
def tw14027665442219843408 := 0
def tw4998879573372317444 := 0
def tw7782999007249102963 := 0
def tw1974085406527483316 := 0
def tw12243881442174028330 := 0
def tw13282842229620068210 := 0
def tw8732994015114651245 := 0
def tw8430459454302091704 := 0
def tw15578509525091884978 := 0
def tw4898752861168043925 := 0
def tw5648802967165741875 := 0
def tw9386610836164902204 := 0
def tw18207737610831758749 := 0
def tw4144452396917646437 := 0
def tw7895542397380636453 := 0
def tw17388764046610255011 := 0
def tw15355133864696043422 := 0
def tw2500407644186284246 := 0
def tw9906130927094767262 := 0
def tw8423237355368730914 := 0
def tw6913404538503849829 := 0
def tw16989518778159267241 := 0
def tw15055451516670849796 := 0
def tw568586154765568293 := 0
def tw8767320152453909713 := 0
def tw8950514646662194154 := 0
def tw3922288801184817124 := 0
def tw14031831780116567391 := 0
def tw9704376598651933086 := 0
def tw14424932466999729360 := 0
def tw5598957349526294534 := 0
def tw8095902418732361498 := 0
def tw2676027326973884765 := 0
def tw11083557264749682985 := 0
def tw17050437346118531922 := 0
def tw14100277252996620793 := 0
def tw2657129384515063050 := 0
def tw5662556930473597183 := 0
def tw11785583690746037610 := 0
def tw6778009838390006458 := 0
def tw16831984703886066323 := 0
def tw5627748406126935788 := 0
def tw7395229243293297394 := 0
def tw4328226253938586703 := 0
def tw10814062930430649797 := 0
def tw16631073485733419696 := 0
def tw17238401448308376769 := 0
def tw13584121015273516031 := 0
def tw15844189799023027176 := 0
def tw13332822556501952517 := 0
def tw17442685262485395417 := 0
def tw7055037737384293763 := 0
def tw17189712724655139209 := 0
def tw15955682748504789942 := 0
def tw8914519686920441619 := 0
def tw15705735842957777499 := 0
def tw7347280566831284102 := 0
def tw13674397131020077438 := 0
def tw13961220968753504621 := 0
def tw8525496250331057796 := 0
def tw10878098428652731010 := 0
def tw11710922510114013785 := 0
def tw12223088559757098979 := 0
def tw856815043364155 := 0
def tw17574812873294994309 := 0
def tw4088869205640181584 := 0
def tw5037376587018617771 := 0
def tw5693273055793178885 := 0
def tw15346484714615825895 := 0
def tw16081514902969918815 := 0
def tw9825701456286596537 := 0
def tw9726689143262676688 := 0
def tw9777673603082341437 := 0
def tw11909403283048038410 := 0
def tw10142143735487855324 := 0
def tw960556549965044094 := 0
def tw11151033552891518677 := 0
def tw10415611929676671631 := 0
def tw5487456747229016257 := 0
def tw2110797470284510080 := 0
def tw7402139322872036480 := 0
def tw13047085358975616135 := 0
def tw15376059049722341344 := 0
def tw13364473324457183320 := 0
def tw12579531613551524500 := 0
def tw14515534734070387163 := 0
def tw11241616067990193659 := 0
def tw3256017515066816530 := 0
def tw8498383407116431825 := 0
def tw198178019896983876 := 0
def tw9042220704519699528 := 0
def tw10686358982370456321 := 0
def tw14929097177395343813 := 0
def tw3639974829430333405 := 0
def tw3610718992468389625 := 0
def tw3524677656494725220 := 0
def tw14161116361063972931 := 0
def tw7145340266295987712 := 0
def tw14962358850570832355 := 0
def tw1462706743386692822 := 0
def tw6406439460515615982 := 0
def tw10600490532072039952 := 0
def tw15970036194833786789 := 0
def tw13301075135077022921 := 0
def tw8315913132956473952 := 0
def tw1642458906567639609 := 0
def tw10211727042719936120 := 0
def tw5860617791494351634 := 0
def tw1918084657303132244 := 0
def tw8009851511947949084 := 0
def tw12016058639361633571 := 0
def tw14136936744408552694 := 0
def tw13468110112934933954 := 0
def tw12404126043408030091 := 0
def tw14764086369113835791 := 0
def tw9979002435203664857 := 0
def tw13147633939729539058 := 0
def tw6811735797721518769 := 0
def tw1219423309088558748 := 0
def tw15409504278082611987 := 0
def tw16234553349354023495 := 0
def tw733687242988949031 := 0
def tw1515863957958669033 := 0
def tw9995653368769548743 := 0
def tw6193979770419090547 := 0
def tw12119757407545869748 := 0
def tw6624329559024267965 := 0
def tw12202139596308281484 := 0
def tw7227856434100230474 := 0
def tw6645042064778141548 := 0
def tw12885477809800769682 := 0
def tw12314669335920930799 := 0
def tw13546967841551499135 := 0
def tw7270788132982648819 := 0
def tw3898833363324756549 := 0
def tw1086267594718160696 := 0
def tw12151171041838007830 := 0
def tw4835294951639240150 := 0
def tw13445922070122283967 := 0
def tw14473898671070939531 := 0
def tw16235519698658504010 := 0
def tw13688212972402203476 := 0
def tw10982516526903006016 := 0
def tw959351757414618357 := 0
def tw11621487790541803347 := 0
def tw7587022641347653818 := 0
def tw14200725022483833156 := 0
def tw1917558739703063213 := 0
def tw1183778591962774315 := 0
def tw1196233703606737392 := 0
def tw10341791688487263731 := 0
def tw7952371356992667794 := 0
def tw8791594021362639897 := 0
def tw8677835914126231007 := 0
def tw471042963497995564 := 0
def tw14756394805607333578 := 0
def tw13726826469209656656 := 0
def tw9143188113130917054 := 0
def tw13750172117851307925 := 0
def tw17715470780024849284 := 0
def tw17788053238695544907 := 0
def tw16785220860021979155 := 0
def tw9850872774070006134 := 0
def tw8219476473220035052 := 0
def tw10444831677361541475 := 0
def tw4199631413973125911 := 0
def tw1331074965960859878 := 0
def tw12430140336734243083 := 0
def tw9708335458466091875 := 0
def tw4868103455648937086 := 0
def tw13666421861095982136 := 0
def tw11557255505328443247 := 0
def tw10936231165108502738 := 0
def tw8848465630614639176 := 0
def tw18044173231035837696 := 0
def tw11423815496772065456 := 0
def tw5332787247876744093 := 0
def tw2530199919978815051 := 0
def tw7424685607091423954 := 0
def tw9574241794547327959 := 0
def tw5743390571232353013 := 0
def tw9273742090823016478 := 0
def tw8119557441003403400 := 0
def tw11015851816655862994 := 0
def tw11005860181190477116 := 0
def tw16842235375120952218 := 0
def tw13970177878095997924 := 0
def tw15165666009642278750 := 0
def tw1583429935839071049 := 0
def tw764287697413711806 := 0
def tw6351455323087249983 := 0
def tw3082418716856325911 := 0
def tw16805406761519865867 := 0
def tw1143144875427891789 := 0
def tw3752907886075014692 := 0
def tw17532753067722375652 := 0
def tw16233622152601363516 := 0
def tw3309682461986721679 := 0
def tw10766920165135947564 := 0
def tw5922684017789299097 := 0
def tw16099977768010811589 := 0
def tw9992515499913566593 := 0
def tw5773706309638794087 := 0
def tw4076499865080191334 := 0
def tw13527386662375761780 := 0
def tw4711948164606031279 := 0
def tw6084834535143871787 := 0
def tw7007047208413600177 := 0
def tw4143694226936331449 := 0
def tw14869699866846393873 := 0
def tw13103523773407752257 := 0
def tw4379427468376533247 := 0
def tw16307449341164968119 := 0
def tw957595684971790299 := 0
def tw4353759760191040458 := 0
def tw14771223626395897713 := 0
def tw11059760682303056154 := 0
def tw13039167338454027865 := 0
def tw4754552743976249824 := 0
def tw1085995385127485453 := 0
def tw13504515658118358055 := 0
def tw16634357151598015207 := 0
def tw14884355351488056879 := 0
def tw5634140448247944412 := 0
def tw2395958771141878597 := 0
def tw1130560633438382406 := 0
def tw12911489882307362227 := 0
def tw9516755840379986496 := 0
def tw4380494716215424667 := 0
def tw14105688843295270630 := 0
def tw13907187028691458002 := 0
def tw4531587249724649013 := 0
def tw850114175126619023 := 0
def tw16095389211476188925 := 0
def tw8149934230790028988 := 0
def tw16706851360819714431 := 0
def tw8643356213339137870 := 0
def tw6183870719306561300 := 0
def tw3056783812515729413 := 0
def tw14608929700723881907 := 0
def tw4185490546872886885 := 0
def tw15281094104196767548 := 0
def tw10986845103919506702 := 0
def tw9179261711358953851 := 0
def tw9350620990085276551 := 0
def tw17676027179211891014 := 0
def tw16824767728692869808 := 0
def tw3217947009294223207 := 0
def tw1720693914556621805 := 0
def tw3239325275017090313 := 0
def tw8346031608097112905 := 0
def tw8647652218731036761 := 0
def tw2372172388686487207 := 0
def tw1528308926209995078 := 0
def tw327853741369395307 := 0
def tw15569453788319725339 := 0
def tw13612851337644339472 := 0
def tw15398294250095123836 := 0
def tw1415784620581087437 := 0
def tw17202294943879793828 := 0
def tw7566168770422083721 := 0
def tw5353414998051030337 := 0
def tw8326057341659355786 := 0
def tw1851063566077344675 := 0
def tw13347143322912553714 := 0
def tw10777567670328918589 := 0
def tw14748218877824683611 := 0
def tw8504985832360865976 := 0
def tw8973066102319905920 := 0
def tw3738200480724284311 := 0
def tw7406680029955347844 := 0
def tw17793221505344793653 := 0
def tw3229364985869377500 := 0
def tw4777855032042291270 := 0
def tw907831336449958285 := 0
def tw17227994123034956489 := 0
def tw4052659919132969680 := 0
def tw6623895686563619223 := 0
def tw9859176780884980175 := 0
def tw6339005491287746030 := 0
def tw15527371579571125921 := 0
def tw12618785781767253199 := 0
def tw16888170553787898545 := 0
def tw13404733490955556909 := 0
def tw1649156207694851635 := 0
def tw2683252078012599603 := 0
def tw4138692634094585898 := 0
def tw3159360391741300403 := 0
def tw5322437807529299525 := 0
def tw12139288529450397722 := 0
def tw14242618938891528588 := 0
def tw4282730313287321029 := 0
def tw14014776634873388055 := 0
def tw11942409068236980898 := 0
def tw9873461238192215860 := 0
def tw3897240575375424811 := 0
def tw17349650077780037559 := 0
def tw16766692819268449980 := 0
def tw6926547504506982076 := 0
def tw11612901488253185287 := 0
def tw6680202280116606775 := 0
def tw2376933436470844088 := 0
def tw13822658157590922055 := 0
def tw4298187972672487062 := 0
def tw8454391483853431872 := 0
def tw15722830107128884025 := 0
def tw4071481797756782305 := 0
def tw7126961219937565509 := 0
def tw267518271475715258 := 0
def tw12098452367325059899 := 0
def tw8064117682787430315 := 0
def tw16499459006953932317 := 0
def tw2375380206422557916 := 0
def tw11225799947234706006 := 0
def tw512782612735326736 := 0
def tw17617011364388412897 := 0
def tw6883958557226352113 := 0
def tw516398247255085614 := 0
def tw7645932975590142092 := 0
def tw3508357199504811367 := 0
def tw16401049968369873923 := 0
def tw5314735088184739798 := 0
def tw8252522616603085552 := 0
def tw2671139448949945929 := 0
def tw3199951815815454595 := 0
def tw14365246723787051846 := 0
def tw11506544009741757614 := 0
def tw15974790247792161369 := 0
def tw16296034123604620866 := 0
def tw5063944366459270557 := 0
def tw11140981801277785488 := 0
def tw2476423764537242257 := 0
def tw16729147776044841862 := 0
def tw16974467072585620781 := 0
def tw3645428320646279337 := 0
def tw6015418270396457414 := 0
def tw12140759370793102954 := 0
def tw12433935468124346788 := 0
def tw3366380106536941560 := 0
def tw11110185094263669910 := 0
def tw10621918973584814068 := 0
def tw15381830938512092583 := 0
def tw7757575774527456405 := 0
def tw15434797815224221300 := 0
def tw6778189102298253470 := 0
def tw1028372954326617738 := 0
def tw18130768637354697883 := 0
def tw9179644264186598280 := 0
def tw3854133361235434046 := 0
def tw17137945720854177858 := 0
def tw12490542856109573477 := 0
def tw13625782542056395940 := 0
def tw13568078424578009873 := 0
def tw15970863695750399726 := 0
def tw13925850599326119576 := 0
def tw15887828267630415515 := 0
def tw3058733595333282534 := 0
def tw11812487602755048288 := 0
def tw7238837085883204050 := 0
def tw17266273353468008146 := 0
def tw3885069718672574195 := 0
def tw8044234157083413323 := 0
def tw8628275576344001256 := 0
def tw3539580376742644628 := 0
def tw15081507013704047331 := 0
def tw11636716433183800384 := 0
def tw10622240996442823973 := 0
def tw1924621401603466863 := 0
def tw312142225553151451 := 0
def tw6374077611043806475 := 0
def tw4456566273844128588 := 0
def tw11816204772483837228 := 0
def tw4339414507594293356 := 0
def tw9589969830993655650 := 0
def tw763611648372644068 := 0
def tw1575982842510755796 := 0
def tw9289571225928904878 := 0
def tw11412765356058133475 := 0
def tw6963497714511458757 := 0
def tw11655818109150595685 := 0
def tw10371653732554843834 := 0
def tw10790038370546248115 := 0
def tw661389914948365774 := 0
def tw13692226606127499843 := 0
def tw7081952661236900366 := 0
def tw1308038778706380109 := 0
def tw14944814960332597296 := 0
def tw4757082138630074006 := 0
def tw11640672296735193665 := 0
def tw18273542086430239543 := 0
def tw8259886221375856871 := 0
def tw7038942048018555794 := 0
def tw17857949565787494208 := 0
def tw14373590773313321071 := 0
def tw8468932216614967668 := 0
def tw15295274460973619588 := 0
def tw8062205201769963109 := 0
def tw11474046540014707680 := 0
def tw16028271592342322516 := 0
def tw13089621689102617652 := 0
def tw2951648524786399276 := 0
def tw11688977629320620225 := 0
def tw6695836025037720364 := 0
def tw10050754964994344799 := 0
def tw13313569370021953731 := 0
def tw13003801105087589186 := 0
def tw8812844027958365981 := 0
def tw7496967355165124386 := 0
def tw9383304662190057399 := 0
def tw10436868656464524670 := 0
def tw8209876399536301606 := 0
def tw3192545603073607818 := 0
def tw8689789090970535392 := 0
def tw10058773921477817265 := 0
def tw12920937716503409358 := 0
def tw5458980907217191984 := 0
def tw5424204180783353935 := 0
def tw193542141454099189 := 0
def tw2067395989533149803 := 0
def tw10566272125883173600 := 0
def tw2627457625572852699 := 0
def tw2692895129721588940 := 0
def tw3206375665303776552 := 0
def tw13323991362838207176 := 0
def tw7142059944354934582 := 0
def tw5431577875669452331 := 0
def tw10348430670718237383 := 0
def tw16729001634993692908 := 0
def tw6104828448829974523 := 0
def tw4524811806076372532 := 0
def tw8469476499356690373 := 0
def tw13858472123651473060 := 0
def tw2153904549215144222 := 0
def tw6165979841967027219 := 0
def tw15156866178105500294 := 0
def tw16756075714416889731 := 0
def tw918904847691787042 := 0
def tw11624676077132133972 := 0
def tw12786623663616084732 := 0
def tw2413105166430511741 := 0
def tw14614237271733552194 := 0
def tw16278346518820008924 := 0
def tw918828569766260993 := 0
def tw608512831549934653 := 0
def tw8508644642330157360 := 0
def tw5941835530836905634 := 0
def tw11501712418162782197 := 0
def tw15128680674275446818 := 0
def tw7749028734023820750 := 0
def tw1980200402334366398 := 0
def tw11445451407968365748 := 0
def tw2606019037720677913 := 0
def tw9216806337795400234 := 0
def tw10751939867779026829 := 0
def tw15908366319234540197 := 0
def tw7599660018769102259 := 0
def tw13113908633056076677 := 0
def tw2461601627311537407 := 0
def tw11442727476408347047 := 0
def tw8712634458473074872 := 0
def tw1614093319053770168 := 0
def tw4935081414310035765 := 0
def tw7994666828647816306 := 0
def tw4477925829254027825 := 0
def tw12397563177552256312 := 0
def tw7826836557441433940 := 0
def tw5205146407612482595 := 0
def tw11758333812289918607 := 0
def tw3093936448588735292 := 0
def tw17947637355503025800 := 0
def tw3176238939551116958 := 0
def tw14052326130611407565 := 0
def tw18069957983340729394 := 0
def tw2501014258130407641 := 0
def tw8678080524649691264 := 0
def tw16272436918904653145 := 0
def tw15074125504989036458 := 0
def tw12459829215545177657 := 0
def tw12990100258560897027 := 0
def tw9989140106936849834 := 0
def tw16363455075001343916 := 0
def tw5955488133340508814 := 0
def tw3013385143496476851 := 0
def tw4937909023133525602 := 0
def tw492085131520702789 := 0
def tw11936104854476768516 := 0
def tw2780708246781908929 := 0
def tw15313533506436030078 := 0
def tw7032849283799417422 := 0
def tw16467278142506458875 := 0
def tw13602805413699884785 := 0
def tw7123472058058895019 := 0
def tw13898704450690148559 := 0
def tw6264584784938889013 := 0
def tw5911994528663079795 := 0
def tw9736238461316521267 := 0
def tw6450995870364250771 := 0
def tw3888935867276266692 := 0
def tw11960846077089616611 := 0
def tw5558618884092555825 := 0
def tw4445373569703153475 := 0
def tw15210713409414644518 := 0
def tw17783611956029795281 := 0
def tw16629168910998864671 := 0
def tw8519729804461212823 := 0
def tw86967469303692573 := 0
def tw3851446223595982430 := 0
def tw927030430689991747 := 0
def tw564158258512209706 := 0
def tw7600084607695564105 := 0
def tw6060241249891012906 := 0
def tw12230009268658685998 := 0
def tw12349753948409679131 := 0
def tw17506042711118102363 := 0
def tw5510975315157979976 := 0
def tw589783975818968740 := 0
def tw6975518035975633646 := 0
def tw1358829220804960007 := 0
def tw11047825662320942271 := 0
def tw16382387588638972007 := 0
def tw7160951524594401376 := 0
def tw11257452338753181708 := 0
def tw6238476089167814117 := 0
def tw10812925139332805364 := 0
def tw17856181629840809583 := 0
def tw16950107876074537109 := 0
def tw1636570254719539070 := 0
def tw846074770180892679 := 0
def tw12355654594496246797 := 0
def tw6651751729218638467 := 0
def tw8279365211359658820 := 0
def tw6225913815067338482 := 0
def tw11343173655766368662 := 0
def tw470080069282478303 := 0
def tw6510291959631364544 := 0
def tw13481327800445385838 := 0
def tw6378733910350750372 := 0
def tw15714518752444041817 := 0
def tw5899732643603260028 := 0
def tw18069510632989179836 := 0
def tw10264865480317029016 := 0
def tw2166422697158218202 := 0
def tw1700813638731080014 := 0
def tw959966932238514311 := 0
def tw10901069538607735550 := 0
def tw9278385797954866489 := 0
def tw10530318170519836237 := 0
def tw14662197780250369845 := 0
def tw16772799962356468719 := 0
def tw12828954790371764290 := 0
def tw353013449477554282 := 0
def tw6723960264292911723 := 0
def tw118931919635673067 := 0
def tw512758339966368980 := 0
def tw17886414317316857240 := 0
def tw5292289028686806231 := 0
def tw9298980711586143908 := 0
def tw10194873220595337820 := 0
def tw10837592746305955875 := 0
def tw15240849143319059613 := 0
def tw17665831640818663953 := 0
def tw3513957571011008458 := 0
end PySem.W.Fast
set_option Elab.async false
set_option linter.all false
set_option maxRecDepth 100000
namespace L2
open PySem PySem.Spec PyProof.Rows
abbrev Key:=Sum Int Str
def q7k:Key->Value->Bool
 | .inl k,v=>Value.isInt k v
 | .inr x,v=>Value.isStrOf x v
def keyH (w:World):Key->Int
 | .inl k=>hashInt k
 | .inr x=>hashStr w x
theorem qY:∀{k:Key} {v:Value},q7k k v=true->(∃i t,k=Sum.inl i/\v=Value.int i t)\/(∃x t,k=Sum.inr x/\v=Value.str x t)
 | .inl i,v,h=>by
  obtain⟨t,e⟩:=Value.isInt_shape (k:=i) (v:=v) h
  exact .inl ⟨i,t,rfl,e⟩
 | .inr x,v,h=>by
  obtain⟨t,e⟩:=Value.isStrOf_shape (x:=x) (v:=v) h
  exact .inr ⟨x,t,rfl,e⟩
theorem q8j (i:Int)(t:Tok):q7k (.inl i) (.int i t)=true:=by simp[q7k,Value.isInt]
theorem q8i (x:Str)(t:Tok):q7k (.inr x) (.str x t)=true:=by simp[q7k,Value.isStrOf]
theorem key_ll (a b:Int):decide ((Sum.inl a:Key)=Sum.inl b)=(a==b):=by
 by_cases e:a=b
 ·subst e;simp
 ·have h:¬(Sum.inl a:Key)=Sum.inl b:=fun q=>e (Sum.inl.inj q)
  rw[decide_eq_false h]
  exact(beq_eq_false_iff_ne.mpr e).symm
theorem key_rr (a b:Str):decide ((Sum.inr a:Key)=Sum.inr b)=decide (a=b):=by
 by_cases e:a=b
 ·subst e;simp
 ·have h:¬(Sum.inr a:Key)=Sum.inr b:=fun q=>e (Sum.inr.inj q)
  rw[decide_eq_false h,decide_eq_false e]
theorem key_lr (a:Int)(b:Str):decide ((Sum.inl a:Key)=Sum.inr b)=false:=decide_eq_false (fun q=>nomatch q)
theorem key_rl (a:Str)(b:Int):decide ((Sum.inr a:Key)=Sum.inl b)=false:=decide_eq_false (fun q=>nomatch q)
def qJ (prog:Program)(w:World):PySem.KeyKind prog w Key where
 is:=q7k
 hash:=keyH w
 inj:=fun v a b ha hb=>by
  rcases qY ha with⟨i,t,rfl,rfl⟩|⟨x,t,rfl,rfl⟩
  ·rcases qY hb with⟨j,u,rfl,e⟩|⟨y,u,rfl,e⟩
   ·injection e with e1 _;rw[e1]
   ·exact nomatch e
  ·rcases qY hb with⟨j,u,rfl,e⟩|⟨y,u,rfl,e⟩
   ·exact nomatch e
   ·injection e with e1 _;rw[e1]
 byValue:=fun k v h=>by
  rcases qY h with⟨i,t,rfl,rfl⟩|⟨x,t,rfl,rfl⟩<;>rfl
 pyHash:=fun hv h=>by
  rcases qY hv with⟨i,t,rfl,rfl⟩|⟨x,t,rfl,rfl⟩
  ·exact wpAny_pyHash_int h
  ·exact wpAny_pyHash_str h
 eqBool:=fun hu hv h=>by
  rcases qY hu with⟨i,t,rfl,rfl⟩|⟨x,t,rfl,rfl⟩
  ·rcases qY hv with⟨j,u,rfl,rfl⟩|⟨y,u,rfl,rfl⟩
   ·rw [key_ll] at h;exact wpAny_eqBool_int h
   ·rw [key_lr] at h;exact SeqAt.EqAt.int_str i t y u _ _ _ _ h
  ·rcases qY hv with⟨j,u,rfl,rfl⟩|⟨y,u,rfl,rfl⟩
   ·rw [key_rl] at h;exact SeqAt.EqAt.str_int x t j u _ _ _ _ h
   ·rw [key_rr] at h;exact wpAny_eqBool_str h
 «strs» :=fun k x t v h=>by
  rcases qY h with⟨i,u,rfl,e⟩|⟨y,u,rfl,e⟩
  ·exact nomatch e
  ·injection e with e1 _
   subst e1
   cases v<;>rfl
theorem q65 (prog:Program)(w:World)(i:Int)(t:Tok):(qJ prog w).is (.inl i) (.int i t)=true:=q8j i t
theorem q64 (prog:Program)(w:World)(x:Str)(t:Tok):(qJ prog w).is (.inr x) (.str x t)=true:=q8i x t
end L2
namespace L2
open PySem PySem.Spec PyProof.Rows
inductive V where
 |non|bl (b:Bool)|int (i:Int)|str (x:Str)|byt (b:Array UInt8)|flt (b:UInt64)|ref (a:Addr)|ty (n:String)
 deriving DecidableEq
def RelV:V->Value->Prop
 | .non,u=>u=Value.none
 | .bl b,u=>u=Value.bool b
 | .int i,u=>∃t,u=Value.int i t
 | .str x,u=>∃t,u=Value.str x t
 | .byt b,u=>∃t,u=Value.bytes b t
 | .flt b,u=>∃t,u=Value.float b t
 | .ref a,u=>u=Value.ref a
 | .ty n,u=>u=Value.type n
abbrev Vals:List V->List Value->Prop:=Paired RelV
theorem Vals.length {xs:List V}{us:List Value}(r:Vals xs us):xs.length=us.length:=Paired.length r
theorem Vals.get:∀{xs:List V} {us:List Value} {i:Nat} {x:V},Vals xs us->xs[i]? =some x->∃u,us[i]? =some u/\RelV x u
 |_,_,_,_,.nil,e=>by simp at e
 |_,_,0,_,.cons r _,e=>by simp at e;subst e;exact⟨_,rfl,r⟩
 |_,_,i+1,x,.cons _ t,e=>by
  obtain⟨u,h1,h2⟩:=Vals.get (i:=i) (x:=x) t (by simpa using e)
  exact⟨u,by simpa using h1,h2⟩
theorem Vals.set {x:V}{u:Value}(r:RelV x u):∀{xs:List V} {us:List Value} (i:Nat),Vals xs us->Vals (xs.set i x) (us.set i u)
 |_,_,_,.nil=> .nil
 |_,_,0,.cons _ t=> .cons r t
 |_,_,i+1,.cons q t=> .cons q (Vals.set r i t)
theorem Vals.append:∀{xs ys:List V} {us ws:List Value},Vals xs us->Vals ys ws->Vals (xs++ys) (us++ws)
 |_,_,_,_,.nil,s=>s
 |_,_,_,_,.cons r t,s=> .cons r (Vals.append t s)
theorem Vals.take:∀{xs:List V} {us:List Value} (n:Nat),Vals xs us->Vals (xs.take n) (us.take n)
 |_,_,0,_=> .nil
 |_,_,_+1,.nil=> .nil
 |_,_,n+1,.cons r t=> .cons r (Vals.take n t)
theorem Vals.drop:∀{xs:List V} {us:List Value} (n:Nat),Vals xs us->Vals (xs.drop n) (us.drop n)
 |_,_,0,r=>r
 |_,_,_+1,.nil=> .nil
 |_,_,n+1,.cons _ t=>Vals.drop n t
def RelO:Option V->Option Value->Prop
 |some v,some u=>RelV v u
 |none,none=>True
 |_,_=>False
def KV {κ:Type}:List (κ×V)->List (κ×Value)->Prop:=Paired fun(p:κ×V) (q:κ×Value)=>p.1=q.1/\RelV p.2 q.2
def kV:Key->V
 | .inl i=> .int i
 | .inr x=> .str x
inductive HO where
 /-- a list -/
 |lst (xs:List V)
 /-- a tuple (never changes) -/
 |tup (xs:List V)
 /-- a dict whose keys are ints and texts;one whose keys are tuples of ints and texts (the empty one is both) -/
 |dK (kvs:List (Key×V))|dT (kvs:List (List Key×V))
 /-- a set of ints: its members,its size -/
 |set (S:Int->Bool) (n:Nat)
 /-- an instance of the class at C,its dict at dx,its attributes -/
 |ins (C dx:Addr) (fs:List (Str×V))
 /-- the dict of the instance at x -/
 |own (x:Addr)
 /-- the dict of an exception -/
 |xd (fs:List (Str×V))
 /-- a bound method,f of x -/
 |met (f x:Addr)
 /-- a range object lo,lo+1,.. below hi -/
 |rng (lo hi:Int)
 /-- a thing that is known to the object (the script;a dict while a loop walks it):read,never written while it is so -/
 |frz (o:Obj) (u:HO)
 /-- a code object's table -/
 |tbl (ps:Array Value)
 /-- any other thing,by what is true of its one object (a def of one's own: SetO a S n:=HO.ext fun h=> ..) -/
 |ext (φ:Heap->Prop)
abbrev Hp:=Addr->Option HO
def upd (H:Hp)(a:Addr)(o:HO):Hp:=fun b=>if b=a then some o else H b
theorem qb {H:Hp}{a:Addr}{o:HO}:upd H a o a=some o:=by unfold upd;rw[if_pos rfl]
theorem qj {H:Hp}{a b:Addr}{o:HO}(h:b≠a):upd H a o b=H b:=by unfold upd;rw[if_neg h]
theorem q1F {H:Hp}{a:Addr}{o u:HO}:upd (upd H a o) a u=upd H a u:=by
 funext b;unfold upd;split<;>rfl
theorem q2H {H:Hp}{a b:Addr}{o u:HO}(h:H a=some o)(h':H b=some u)(d:o≠u):a≠b:=by
 intro e;subst e;rw[h] at h';exact d (Option.some.inj h')
theorem ql {H:Hp}{a b:Addr}{o:HO}(h:H a=some o)(h':H b=none):a≠b:=by
 intro e;subst e;rw[h] at h';cases h'
section
variable (P:Program)(w:World)
def q0a (H:Hp)(h:Heap)(a:Addr):HO->Prop
 | .lst xs=>xs.length<=sizeLine/\∃(its:List Value) (n:Nat),Vals xs its/\h.get? a=some {cls:= .type "list",data:= .seq its.toArray n}
 | .tup xs=>xs.length<=sizeLine/\∃its:List Value,Vals xs its/\IsTup h a its.toArray
 | .dK kvs=>kvs.length<=sizeLine/\(a==sysModules)=false/\∃vs,KV kvs vs/\h.DictOf (qJ P w) a vs
 | .dT kvs=>kvs.length<=sizeLine/\(a==sysModules)=false/\∃xs:List (List Key×Addr×Value),
   Paired (fun(p:List Key×V) (q:List Key×Addr×Value)=>p.1=q.1/\H q.2.1=some (.tup (p.1.map kV))/\RelV p.2 q.2.2) kvs xs/\
   ∃o es ep,h.get? a=some o/\o.ExactDict/\o.data= .dict es ep/\es.toList=xs.map (entryOfKey (tupleKind (qJ P w)))/\(xs.map (·.1)).Nodup
 | .set S n=>h.SetOf (intKind P w) a S n
 | .ins C dx fs=>H dx=some (.own a)/\fs.length<=1000/\dx≠a/\h.get? a=some (PySem.W.instObj C dx)/\
   ∃mA,h.Ns1 dx mA/\(∀f,RelO (fs.lookup f) (mA f))/\PySem.Within mA (fs.map (·.1))
 | .own _=>∃o,h.get? a=some o
 | .xd fs=>∃mA,h.Ns1 a mA/\∀f,RelO (fs.lookup f) (mA f)
 | .rng lo hi=>∃t u v,h.get? a=some {cls:= .type "range",data:= .fields #[.int lo t,.int hi u,.int 1 v]}
 | .frz o u=>h.get? a=some o/\q0a H h a u
 | .tbl ps=>h.get? a=some {cls:= .none,data:= .fields ps}
 | .met f x=>h.get? a=some (PySem.W.methodObj (.ref f) (.ref x))
 | .ext φ=>φ h/\(∃o,h.get? a=some o)/\∀h1 h2:Heap,φ h1->(∀o,h1.get? a=some o->h2.get? a=some o)->φ h2
def HOk (H:Hp)(h:Heap):Prop:=∀a o,H a=some o->q0a P w H h a o
end
section
variable {P:Program}{w:World}{H H':Hp}{h h':Heap}{a:Addr}{o:HO}
theorem q0a.lt (x:q0a P w H h a o):a<h.objs.size:=by
 cases o with
 |lst xs=>obtain⟨_,_,_,_,e⟩:=x;exact Heap.lt_size e
 |tup xs=>obtain⟨_,_,_,p⟩:=x;exact p.lt
 |dK kvs=>obtain⟨_,_,_,_,o,_,_,e,_⟩:=x;exact Heap.lt_size e
 |dT kvs=>obtain⟨_,_,_,_,o,_,_,e,_⟩:=x;exact Heap.lt_size e
 |set S n=>obtain⟨o,_,_,_,e,_⟩:=x;exact Heap.lt_size e
 |ins C dx fs=>obtain⟨_,_,_,e,_⟩:=x;exact Heap.lt_size e
 |own y=>obtain⟨_,e⟩:=x;exact Heap.lt_size e
 |xd fs=>obtain⟨_,⟨_,_,_,e,_⟩,_⟩:=x;exact Heap.lt_size e
 |rng lo hi=>obtain⟨_,_,_,e⟩:=x;exact Heap.lt_size e
 |frz ob u=>obtain⟨e,_⟩:=x;exact Heap.lt_size e
 |tbl ps=>exact Heap.lt_size (show h.get? a=some _ from x)
 |met f y=>exact Heap.lt_size (show h.get? a=some _ from x)
 |ext φ=>obtain⟨_,⟨_,e⟩,_⟩:=x;exact Heap.lt_size e
theorem Paired.mapP {α β:Type}{F G:α->β->Prop}:∀{l₁:List α} {l₂:List β},Paired F l₁ l₂->(∀a b,F a b->G a b)->Paired G l₁ l₂
 |_,_,.nil,_=> .nil
 |_,_,.cons r t,f=> .cons (f _ _ r) (Paired.mapP t f)
theorem q0a.stay (x:q0a P w H h a o)(k:∀b u,(b=a\/H b=some (.own a))->h.get? b=some u->h'.get? b=some u)
  (ho:∀b,H b=some (.own a)->H' b=some (.own a))(ht:∀b xs,H b=some (.tup xs)->H' b=some (.tup xs)):q0a P w H' h' a o:=by
 induction o with
 |lst xs=>obtain⟨z,its,n,r,e⟩:=x;exact⟨z,its,n,r,k _ _ (.inl rfl) e⟩
 |tup xs=>obtain⟨z,its,r,ob,e,c⟩:=x;exact⟨z,its,r,ob,k _ _ (.inl rfl) e,c⟩
 |dK kvs=>obtain⟨z,y,vs,r,ob,es,ep,e,c⟩:=x;exact⟨z,y,vs,r,ob,es,ep,k _ _ (.inl rfl) e,c⟩
 |dT kvs=>
  obtain⟨z,y,xs,r,ob,es,ep,e,c⟩:=x
  exact⟨z,y,xs,Paired.mapP r fun p q z=>⟨z.1,ht _ _ z.2.1,z.2.2⟩,ob,es,ep,k _ _ (.inl rfl) e,c⟩
 |set S n=>obtain⟨ob,es,ep,t,e,c⟩:=x;exact⟨ob,es,ep,t,k _ _ (.inl rfl) e,c⟩
 |ins C dx fs=>
  obtain⟨d,z,ne,e,mA,⟨od,es,ep,e2,c⟩,r⟩:=x
  exact⟨ho _ d,z,ne,k _ _ (.inl rfl) e,mA,⟨od,es,ep,k _ _ (.inr d) e2,c⟩,r⟩
 |own y=>obtain⟨ob,e⟩:=x;exact⟨ob,k _ _ (.inl rfl) e⟩
 |xd fs=>obtain⟨mA,⟨od,es,ep,e,c⟩,r⟩:=x;exact⟨mA,⟨od,es,ep,k _ _ (.inl rfl) e,c⟩,r⟩
 |rng lo hi=>obtain⟨t,u,v,e⟩:=x;exact⟨t,u,v,k _ _ (.inl rfl) e⟩
 |frz ob u ih=>obtain⟨e,q⟩:=x;exact⟨k _ _ (.inl rfl) e,ih q⟩
 |tbl ps=>
  have e:h.get? a=some {cls:= .none,data:= .fields ps}:=x
  show h'.get? a=some {cls:= .none,data:= .fields ps}
  exact k a _ (.inl rfl) e
 |met f y=>
  have e:h.get? a=some (PySem.W.methodObj (.ref f) (.ref y)):=x
  show h'.get? a=some (PySem.W.methodObj (.ref f) (.ref y))
  exact k a _ (.inl rfl) e
 |ext φ=>obtain⟨p,⟨o,e⟩,st⟩:=x;exact⟨st _ _ p fun o q=>k _ _ (.inl rfl) q,⟨o,k _ _ (.inl rfl) e⟩,st⟩
theorem HOk.lt (x:HOk P w H h)(e:H a=some o):a<h.objs.size:=(x a o e).lt
theorem HOk.fresh (x:HOk P w H h)(e:h.objs.size<=a):H a=none:=by
 cases q:H a with
 |none=>rfl
 |some u=>exact absurd (Nat.lt_of_lt_of_le (x.lt q) e) (Nat.lt_irrefl _)
theorem HOk.kept (x:HOk P w H h)(k:∀b u,h.get? b=some u->h'.get? b=some u):HOk P w H h':=fun a o e=>
 (x a o e).stay (fun b u _ q=>k b u q) (fun _ q=>q) fun _ _ q=>q
theorem HOk.laid (x:HOk P w H h)(k:∀b u,h.get? b=some u->h'.get? b=some u)(hp:h.objs.size<=a)(new:q0a P w (upd H a o) h' a o):HOk P w (upd H a o) h':=fun b u e=>by
 have hn:=x.fresh hp
 by_cases hb:b=a
 ·subst hb;rw[qb] at e;cases e;exact new
 ·rw [qj hb] at e
  exact(x b u e).stay (fun c v _ q=>k c v q) (fun c q=>by rw[qj (ql q hn)];exact q) fun c xs q=>by rw[qj (ql q hn)];exact q
end
def Rd (H:Hp)(a:Addr)(u:HO):Prop:=H a=some u\/∃o,H a=some (.frz o u)
theorem Rd.ok {P:Program}{w:World}{H:Hp}{h:Heap}{a:Addr}{u:HO}(r:Rd H a u)(x:HOk P w H h):q0a P w H h a u:=by
 rcases r with r|⟨o,r⟩
 ·exact x a u r
 ·obtain ⟨_,q⟩:=x a _ r
  exact q
def Mut:Option HO->Prop
 |some (.lst _)=>True
 |some (.dK _)=>True
 |some (.dT _)=>True
 |some (.set _ _)=>True
 |some (.ins _ _ _)=>True
 |some (.ext _)=>True
 |_=>False
section
variable {P:Program}{w:World}{H:Hp}{h h':Heap}{x e:Addr}{o':HO}
theorem HOk.write (ok:HOk P w H h)(mu:Mut (H x))(he:e=x\/H e=some (.own x))(k:∀b u,b≠e->h.get? b=some u->h'.get? b=some u)(heo:∃u,h'.get? e=some u)
  (new:q0a P w (upd H x o') h' x o'):HOk P w (upd H x o') h':=fun b u q=>by
 have nown:∀c y,H c=some (.own y)->c≠x:=fun c y r z=>by subst z;rw[r] at mu;exact mu
 have ntup:∀c xs,H c=some (.tup xs)->c≠x:=fun c xs r z=>by subst z;rw[r] at mu;exact mu
 by_cases hb:b=x
 ·subst hb;rw[qb] at q;cases q;exact new
 ·rw [qj hb] at q
  by_cases hbe:b=e
  ·have q':H b=some (.own x):=by
    rcases he with z|z
    ·exact absurd (hbe.trans z) hb
    ·rw [hbe];exact z
   rw[q] at q';cases q'
   obtain⟨v,hv⟩:=heo
   exact⟨v,by rw[hbe];exact hv⟩
  ·refine (ok b u q).stay (fun c v hc r=>k c v ?_ r) (fun c r=>by rw[qj (nown c b r)];exact r) fun c xs r=>by rw[qj (ntup c xs r)];exact r
   rcases hc with rfl|hc
   ·exact hbe
   ·rintro rfl
    rcases he with z|z
    ·exact nown c b hc z
    ·rw [hc] at z;cases z;exact hb rfl
end
structure Un (fs ex:List Addr)(H H':Hp)(h h':Heap):Prop where
 keep:∀b o,h.get? b=some o->H b=none->b∉fs->b∉ex->h'.get? b=some o
 slot:∀b o,h.get? b=some o->H b=none->b∈fs->b∉ex->∃sl,h'.get? b=some {o with slots:=sl}
 free:∀b o,h.get? b=some o->H b=none->b∉ex->H' b=none
 there:∀b o,h.get? b=some o->b∉ex->∃o',h'.get? b=some o'
 tups:∀b xs,H b=some (.tup xs)->H' b=some (.tup xs)
 frzs:∀b o u,H b=some (.frz o u)->H' b=some (.frz o u)
 tbls:∀b ps,H b=some (.tbl ps)->∃more,H' b=some (.tbl (ps++more))
section
variable {fs fs' ex ex':List Addr}{H H1 H2:Hp}{h h1 h2 h':Heap}{a x e:Addr}{o:HO}
theorem Un.any (u:Un fs ex H H1 h h1){b:Addr}{ob:Obj}(q:h.get? b=some ob)(n:H b=none)(hx:b∉ex):∃sl,h1.get? b=some {ob with slots:=sl}:=by
 by_cases hb:b∈fs
 ·exact u.slot b ob q n hb hx
 ·exact ⟨ob.slots,u.keep b ob q n hb hx⟩
theorem Un.kept (k:∀b u,h.get? b=some u->h'.get? b=some u):Un fs ex H H h h':=
 ⟨fun b ob q _ _ _=>k b ob q,fun b ob q _ _ _=>⟨ob.slots,k b ob q⟩,fun _ _ _ n _=>n,fun b ob q _=>⟨ob,k b ob q⟩,fun _ _ q=>q,fun _ _ _ q=>q,fun _ ps q=>⟨#[],by rw[q];simp⟩⟩
theorem Un.refl:Un fs ex H H h h:=Un.kept fun _ _ q=>q
theorem Un.laid (k:∀b u,h.get? b=some u->h'.get? b=some u)(hp:h.objs.size<=a)(hn:H a=none):Un fs ex H (upd H a o) h h' where
 keep:=fun b u q _ _ _=>k b u q
 slot:=fun b u q _ _ _=>⟨u.slots,k b u q⟩
 free:=fun b u q n _=>by rw[qj (Nat.ne_of_lt (Nat.lt_of_lt_of_le (Heap.lt_size q) hp))];exact n
 there:=fun b u q _=>⟨u,k b u q⟩
 tups:=fun b xs q=>by rw[qj (ql q hn)];exact q
 frzs:=fun b u xs q=>by rw[qj (ql q hn)];exact q
 tbls:=fun b ps q=>⟨#[],by rw[qj (ql q hn),q];simp⟩
theorem Un.write (mu:Mut (H x))(he:e=x\/H e=some (.own x))(k:∀b u,b≠e->h.get? b=some u->h'.get? b=some u)(heo:∃u,h'.get? e=some u):Un fs ex H (upd H x o) h h':=by
 have hx:∀b,H b=none->b≠x:=fun b n z=>by subst z;rw[n] at mu;exact mu
 have hb:∀b,H b=none->b≠e:=fun b n z=>by
  subst z
  rcases he with r|r
  ·exact hx b n r
  ·rw [n] at r;cases r
 have hm:∀b u,H b=some u->¬Mut (some u)->b≠x:=fun b u q nm z=>by subst z;rw[q] at mu;exact nm mu
 refine⟨fun b u q n _ _=>k b u (hb b n) q,fun b u q n _ _=>⟨u.slots,k b u (hb b n) q⟩,fun b u q n _=>by rw[qj (hx b n)];exact n,fun b u q _=>?_,
  fun b xs q=>by rw[qj (hm b _ q fun z=>z)];exact q,fun b u xs q=>by rw[qj (hm b _ q fun z=>z)];exact q,fun b ps q=>⟨#[],by rw[qj (hm b _ q fun z=>z),q];simp⟩⟩
 by_cases hbe:b=e
 ·subst hbe;exact heo
 ·exact ⟨u,k b u hbe q⟩
end
def trk (h:Heap)(H:Hp):List Addr:=(List.range h.objs.size).filter fun a=>(H a).isSome
def hidT (h:Heap)(H:Hp):Heap:=PySem.W.hideAll h (trk h H)
theorem q8u (h:Heap)(H:Hp):(hidT h H).objs.size=h.objs.size:=PySem.W.hideAll_size _ _
theorem qab {h:Heap}{H:Hp}{b:Addr}{o:Obj}(e:h.get? b=some o)(n:H b=none):(hidT h H).get? b=some o:=
 PySem.W.hideAll_get _ e fun hm=>by
  have q:(H b).isSome=true:=(List.mem_filter.mp hm).2
  rw[n] at q;simp at q
theorem qbG {h:Heap}{H:Hp}{b:Addr}{o:Obj}(e:(hidT h H).get? b=some o):h.get? b=some o/\H b=none:=by
 have e':h.get? b=some o:=PySem.W.of_hideAll (trk h H) e
 refine⟨e',?_⟩
 cases q:H b with
 |none=>rfl
 |some x=>
  have hm:b∈trk h H:=List.mem_filter.mpr ⟨List.mem_range.mpr (Heap.lt_size e'),by simp[q]⟩
  have z:(hidT h H).get? b=none:=PySem.W.hideAll_none (trk h H) hm
  rw[z] at e;cases e
def qcf (g h:Heap)(L:Addr):List (Addr×Obj):=(List.range h.objs.size).filterMap fun a=>if a=L\/(g.get? a).isSome=true then none else(h.get? a).map fun o=>(a,o)
def rest (g h:Heap)(L d:Addr):List (Addr×Obj):=(qcf g h L).filter fun p=>decide (p.1≠d)
end L2
namespace L2
open PySem PySem.Spec PyProof.Rows
structure Mod (K:PySem.W.Frag)(mg:Str->Option Value)(base:Heap):Prop where
 kin:K.In base
 glob:base.Ns mainGlobals mg
 blt:∃mb,base.Ns builtinsNs mb/\∀x:Str,x≠"__name__"->mb x=bootBuiltins x
 nolimit:base.NoLimit
structure Cx where
 prog:Program
 w:World
 K:PySem.W.Frag
 mg:Str->Option Value
 base:Heap
 A:Around
 N:List Str
 s₀:Shared
 H₀:Hp
 env:Env
 outer:List Env
 stack:List Env
 ex:List Addr
 fn:Str->Bool
 calm:Bool
 pn:List (Addr×Obj)
 xe:Value->Shared->Prop
def frs (l:List Env):List Addr:=l.filterMap (·.frame)
abbrev Cx.fs (X:Cx):List Addr:=frs X.outer
def Vis (sc:Scope)(x:Str):Prop:=sc.names.lookup x=some .local\/sc.names.lookup x=some .cell\/sc.names.lookup x=some .free
def Loc (sc:Scope)(x:Str):Prop:=sc.names.lookup x=some .local\/sc.names.lookup x=some .cell
def Look (env:Env)(h:Heap)(m:Str->Option Value)(x:Str)(u:Value):Prop:=
 (env.kindOf x=some .local/\m x=some u)\/((env.kindOf x=some .cell\/env.kindOf x=some .free)/\∃c,env.cells.lookup x=some c/\h.IsCell c (some u))
structure Cx.Ok (X:Cx):Prop where
 mod:Mod X.K X.mg X.base
 kind:X.env.scope.kind= .function
 glob:X.env.globals=mainGlobals
 blt:X.env.builtins=builtinsNs
 above:X.s₀.heap.objs.size<=X.env.locals
 inj:∀x y c,X.env.cells.lookup x=some c->X.env.cells.lookup y=some c->x=y
 has:∀x,(X.env.kindOf x=some .cell\/X.env.kindOf x=some .free)->∃c,X.env.cells.lookup x=some c
 cab:∀x c,X.fn x=true->X.env.cells.lookup x=some c->X.s₀.heap.objs.size<=c
 hd:X.calm=true->X.A.handled=none
 frames:X.A.frames=some X.stack
 stk:X.stack=X.outer\/(X.stack=X.env::X.outer/\X.env.frame=some X.env.locals)
 exf:∀b∈X.ex,b≠X.env.locals/\∀x c,X.env.cells.lookup x=some c->c≠b
 bs:∀b o,X.base.get? b=some o->X.s₀.heap.get? b=some o/\X.H₀ b=none
 bsz:X.base.objs.size<=X.s₀.heap.objs.size
 noex:∀b o,X.base.get? b=some o->b∉X.ex
 exfs:∀b∈X.ex,b∉X.fs
 funs:X.s₀.heap.FunFrames X.base X.outer
 frf:∀b∈X.fs,X.H₀ b=none
structure Inv (X:Cx)(pins:List (Addr×Obj))(σ:List (Option V))(H:Hp)(s:Shared):Prop where
 ok:X.Ok
 os:s.os=X.s₀.os
 bare:AllBare s.gens
 base:Un X.fs X.ex X.H₀ H X.s₀.heap s.heap
 loc:∃m,s.heap.Ns X.env.locals m/\∀(i:Nat) (x:Str) (v:V),X.N[i]? =some x->σ[i]? =some (some v)->Vis X.env.scope x->∃u,RelV v u/\Look X.env s.heap m x u
 cell:∀x c,X.env.cells.lookup x=some c->∃v,s.heap.IsCell c v
 free:H X.env.locals=none
 freeC:∀x c,X.env.cells.lookup x=some c->H c=none
 pin:∀p∈X.pn++pins,s.heap.get? p.1=some p.2/\H p.1=none/\p.1≠X.env.locals/\p.1∉X.fs/\∀v,p.2.data≠ .cell v
 hok:HOk X.prog X.w H s.heap
 len:σ.length=X.N.length
section
variable {X:Cx}{pins:List (Addr×Obj)}{σ:List (Option V)}{H H':Hp}{s:Shared}{h':Heap}
theorem Cx.Ok.nofr (ok:X.Ok){b:Addr}{o:Obj}(e:X.base.get? b=some o):b∉X.fs:=fun hb=>by
 have:=(ok.funs.mem hb).1
 rw[e] at this;cases this
theorem Inv.bs (I:Inv X pins σ H s):∀b o,X.base.get? b=some o->s.heap.get? b=some o/\H b=none:=fun b o e=>
 ⟨I.base.keep b o (I.ok.bs b o e).1 (I.ok.bs b o e).2 (I.ok.nofr e) (I.ok.noex b o e),I.base.free b o (I.ok.bs b o e).1 (I.ok.bs b o e).2 (I.ok.noex b o e)⟩
theorem Inv.bk (I:Inv X pins σ H s):∀b o,X.base.get? b=some o->s.heap.get? b=some o:=fun b o e=>(I.bs b o e).1
theorem Inv.mod (I:Inv X pins σ H s):Mod X.K X.mg X.base:=I.ok.mod
theorem Inv.kIn (I:Inv X pins σ H s):X.K.In s.heap:=I.ok.mod.kin.keeps I.bk
theorem Inv.lt (I:Inv X pins σ H s):X.env.locals<s.heap.objs.size:=let ⟨_,hn,_⟩:=I.loc;hn.lt
theorem Inv.sz (I:Inv X pins σ H s):X.s₀.heap.objs.size<=s.heap.objs.size:=Nat.le_trans I.ok.above (Nat.le_of_lt I.lt)
theorem Inv.nofs (I:Inv X pins σ H s){a:Addr}(h:s.heap.objs.size<=a):a∉X.fs:=fun hb=>by
 obtain⟨_,o,ho,_⟩:=I.ok.funs.mem hb
 exact absurd (Nat.lt_of_lt_of_le (Heap.lt_size ho) (Nat.le_trans I.sz h)) (Nat.lt_irrefl _)
theorem Inv.cne (I:Inv X pins σ H s):∀x c,X.env.cells.lookup x=some c->c≠X.env.locals:=fun x c e z=>by
 obtain⟨v,o,ho,hd⟩:=I.cell x c e
 obtain⟨m,⟨o',es,ep,ho',hd',_⟩,_⟩:=I.loc
 rw[z,ho'] at ho;cases ho;rw[hd'] at hd;cases hd
theorem Inv.funs (I:Inv X pins σ H s):s.heap.FunFrames X.base X.outer:=by
 have all:∀(l:List Env),(∀b∈frs l,b∈X.fs)->X.s₀.heap.FunFrames X.base l->s.heap.FunFrames X.base l:=by
  intro l
  induction l with
  |nil=>intro _ _;trivial
  |cons env r ih=>
   intro hs hl
   obtain⟨hk,⟨L,o,hf,hn,ho,hd⟩,hr⟩:=hl
   have hL:L∈X.fs:=hs L (by unfold frs;rw[List.filterMap_cons,hf];exact List.mem_cons_self)
   obtain⟨sl,e⟩:=I.base.slot L o ho (I.ok.frf L hL) hL fun z=>I.ok.exfs L z hL
   exact⟨hk,⟨L,_,hf,hn,e,hd⟩,ih (fun b hb=>hs b (by unfold frs;rw[List.filterMap_cons,hf];exact List.mem_cons_of_mem _ hb)) hr⟩
 exact all X.outer (fun _ hb=>hb) I.ok.funs
theorem Inv.stack (I:Inv X pins σ H s):s.heap.FunFrames X.base X.stack:=by
 rcases I.ok.stk with e|⟨e,hf⟩
 ·rw [e];exact I.funs
 ·rw [e]
  obtain⟨m,hn,_⟩:=I.loc
  refine .cons (by rw[I.ok.kind];decide) hf hn ?_ I.funs
  exact Heap.get?_none_of_le (Nat.le_trans I.ok.bsz I.ok.above)
theorem Inv.stkSub (I:Inv X pins σ H s):∀b∈frs X.stack,b∈X.env.locals::X.fs:=fun b hb=>by
 rcases I.ok.stk with e|⟨e,hf⟩
 ·rw [e] at hb;exact List.mem_cons_of_mem _ hb
 ·rw [e] at hb
  unfold frs at hb
  rw[List.filterMap_cons,hf] at hb
  exact hb
theorem Inv.stkFree (I:Inv X pins σ H s):∀b∈frs X.stack,H b=none:=fun b hb=>by
 rcases List.mem_cons.mp (I.stkSub b hb) with e|hb
 ·rw [e];exact I.free
 ·obtain ⟨_,o,ho,_⟩:=I.ok.funs.mem hb
  exact I.base.free b o ho (I.ok.frf b hb) fun z=>I.ok.exfs b z hb
theorem Inv.step {g':Array GenState}{t':Nat}{d':Drawn}{ch:List Addr}(I:Inv X pins σ H s)
  (hch:∀b∈ch,(b∈X.ex\/X.s₀.heap.objs.size<=b)/\b≠X.env.locals/\(∀x c,X.env.cells.lookup x=some c->c≠b)/\∀p∈X.pn++pins,p.1≠b)
  (keep:∀b o,b≠X.env.locals->b∉X.fs->b∉ch->s.heap.get? b=some o->H b=none->h'.get? b=some o)
  (slot:∀b o,b≠X.env.locals->b∈X.fs->b∉ch->s.heap.get? b=some o->H b=none->∃sl,h'.get? b=some {o with slots:=sl})(free:∀b o,b∉ch->s.heap.get? b=some o->H b=none->H' b=none)
  (there:∀b o,b∉ch->s.heap.get? b=some o->∃o',h'.get? b=some o')
  (tups:∀b xs,H b=some (.tup xs)->H' b=some (.tup xs))(frzs:∀b o u,H b=some (.frz o u)->H' b=some (.frz o u))(tbls:∀b ps,H b=some (.tbl ps)->∃more,H' b=some (.tbl (ps++more)))
  (ns:∀m,s.heap.Ns X.env.locals m->h'.Ns X.env.locals m)(hok:HOk X.prog X.w H' h')(hg:AllBare g'):
  Inv X pins σ H' {s with heap:=h',gens:=g',drawn:=d',toks:=t'}:=by
 have neL:∀b o,X.s₀.heap.get? b=some o->b≠X.env.locals:=fun b o e=>Nat.ne_of_lt (Nat.lt_of_lt_of_le (Heap.lt_size e) I.ok.above)
 have neC:∀b o,X.s₀.heap.get? b=some o->b∉X.ex->b∉ch:=fun b o e hx hb=>by
  rcases(hch b hb).1 with z|z
  ·exact hx z
  ·exact absurd (Nat.lt_of_lt_of_le (Heap.lt_size e) z) (Nat.lt_irrefl _)
 have cellK:∀x c,X.env.cells.lookup x=some c->∀v,s.heap.IsCell c v->h'.IsCell c v:=fun x c e v ⟨o,ho,hd⟩=>by
  have nch:c∉ch:=fun z=>(hch c z).2.2.1 x c e rfl
  by_cases hc:c∈X.fs
  ·obtain ⟨sl,q⟩:=slot c o (I.cne x c e) hc nch ho (I.freeC x c e)
   exact⟨_,q,hd⟩
  ·exact ⟨o,keep c o (I.cne x c e) hc nch ho (I.freeC x c e),hd⟩
 refine⟨I.ok,I.os,hg,⟨fun b o e n hb hx=>?_,fun b o e n hb hx=>?_,fun b o e n hx=>?_,fun b o e hx=>?_,fun b xs e=>tups b xs (I.base.tups b xs e),fun b o xs e=>frzs b o xs (I.base.frzs b o xs e),fun b ps e=>?_⟩,?_,fun x c e=>?_,?_,fun x c e=>?_,fun p hp=>?_,hok,I.len⟩
 ·exact keep b o (neL b o e) hb (neC b o e hx) (I.base.keep b o e n hb hx) (I.base.free b o e n hx)
 ·obtain ⟨sl,e1⟩:=I.base.slot b o e n hb hx
  obtain⟨sl',e2⟩:=slot b _ (neL b o e) hb (neC b o e hx) e1 (I.base.free b o e n hx)
  exact⟨sl',e2⟩
 ·obtain ⟨o',e1⟩:=I.base.there b o e hx
  exact free b o' (neC b o e hx) e1 (I.base.free b o e n hx)
 ·obtain ⟨o',e1⟩:=I.base.there b o e hx
  exact there b o' (neC b o e hx) e1
 ·obtain ⟨m1,e1⟩:=I.base.tbls b ps e
  obtain⟨m2,e2⟩:=tbls b _ e1
  exact⟨m1++m2,by rw[e2,Array.append_assoc]⟩
 ·obtain ⟨m,hn,hl⟩:=I.loc
  refine⟨m,ns m hn,fun i x v e1 e2 e3=>?_⟩
  obtain⟨u,r,l⟩:=hl i x v e1 e2 e3
  refine⟨u,r,?_⟩
  rcases l with l|⟨k,c,e,z⟩
  ·exact .inl l
  ·exact .inr ⟨k,c,e,cellK x c e _ z⟩
 ·obtain ⟨v,z⟩:=I.cell x c e
  exact⟨v,cellK x c e v z⟩
 ·obtain ⟨m,⟨o,_,_,ho,_⟩,_⟩:=I.loc
  exact free _ o (fun z=>(hch _ z).2.1 rfl) ho I.free
 ·obtain ⟨v,o,ho,hd⟩:=I.cell x c e
  exact free c o (fun z=>(hch c z).2.2.1 x c e rfl) ho (I.freeC x c e)
 ·obtain ⟨e,n,ne,nf,d⟩:=I.pin p hp
  have nch:p.1∉ch:=fun z=>(hch p.1 z).2.2.2 p hp rfl
  exact⟨keep p.1 p.2 ne nf nch e n,free p.1 p.2 nch e n,ne,nf,d⟩
theorem Inv.un {t':Nat}(I:Inv X pins σ H s)(u:Un X.fs [] H H' s.heap h')(hok:HOk X.prog X.w H' h'):Inv X pins σ H' {s with heap:=h',toks:=t'}:=by
 obtain⟨m,⟨o,es,ep,ho,r⟩,_⟩:=id I.loc
 obtain⟨sl,hL⟩:=u.any ho I.free (by simp)
 exact I.step (g':=s.gens) (d':=s.drawn) (ch:=[]) (fun _ z=>nomatch z) (fun b o _ hb _ e n=>u.keep b o e n hb (by simp)) (fun b o _ hb _ e n=>u.slot b o e n hb (by simp)) (fun b o _ e n=>u.free b o e n (by simp)) (fun b o _ e=>u.there b o e (by simp)) u.tups u.frzs u.tbls (fun m' hm=>by
  obtain⟨o',es',ep',ho',r'⟩:=hm
  rw[ho] at ho';cases ho'
  exact⟨_,es',ep',hL,r'⟩) hok I.bare
theorem Inv.call {g':Array GenState}{t':Nat}{d':Drawn}{ch:List Addr}(I:Inv X pins σ H s)(u:Un (frs X.stack) ch H H' s.heap h')(hok:HOk X.prog X.w H' h')(hg:AllBare g')
  (hch:∀b∈ch,(b∈X.ex\/X.s₀.heap.objs.size<=b)/\b≠X.env.locals/\(∀x c,X.env.cells.lookup x=some c->c≠b)/\∀p∈X.pn++pins,p.1≠b):
  Inv X pins σ H' {s with heap:=h',gens:=g',drawn:=d',toks:=t'}:=by
 obtain⟨m,⟨o,es,ep,ho,r⟩,_⟩:=id I.loc
 obtain⟨sl,hL⟩:=u.any ho I.free fun z=>(hch _ z).2.1 rfl
 exact I.step (ch:=ch) hch (fun b o hL hb hc e n=>u.keep b o e n (fun z=>(List.mem_cons.mp (I.stkSub b z)).elim hL hb) hc) (fun b o _ _ hc e n=>u.any e n hc) (fun b o hc e n=>u.free b o e n hc) (fun b o hc e=>u.there b o e hc) u.tups u.frzs u.tbls (fun m' hm=>by
  obtain⟨o',es',ep',ho',r'⟩:=hm
  rw[ho] at ho';cases ho'
  exact⟨_,es',ep',hL,r'⟩) hok hg
theorem Inv.turned {t':Nat}{it:Addr}(I:Inv X pins σ H s)(k:∀b o,b≠it->s.heap.get? b=some o->h'.get? b=some o)(hn:H it=none)(hL:it≠X.env.locals)
  (h1:it∈X.ex\/X.s₀.heap.objs.size<=it)(h2:∀x c,X.env.cells.lookup x=some c->c≠it)(h3:∀p∈X.pn++pins,p.1≠it):Inv X pins σ H {s with heap:=h',toks:=t'}:=by
 have nit:∀b u,H b=some u->b≠it:=fun b u e z=>by rw[z,hn] at e;cases e
 refine I.step (g':=s.gens) (d':=s.drawn) (ch:=[it]) (fun b hb=>?_) (fun b o _ _ hc e _=>k b o (fun z=>hc (by simp[z])) e) (fun b o _ _ hc e _=>⟨o.slots,k b o (fun z=>hc (by simp[z])) e⟩) (fun _ _ _ _ n=>n)
  (fun b o hc e=>⟨o,k b o (fun z=>hc (by simp[z])) e⟩) (fun _ _ e=>e) (fun _ _ _ e=>e) (fun b ps e=>⟨#[],by rw[e];simp⟩) (fun m hm=>?_) (fun b u e=>?_) I.bare
 ·have e:b=it:=by simpa using hb
  subst e
  exact⟨h1,hL,h2,h3⟩
 ·obtain ⟨o,es,ep,ho,r⟩:=hm
  exact⟨o,es,ep,k _ o (Ne.symm hL) ho,r⟩
 ·refine (I.hok b u e).stay (fun c v hc q=>k c v ?_ q) (fun _ q=>q) fun _ _ q=>q
  rcases hc with z|z
  ·rw [z];exact nit b u e
  ·exact nit c _ z
theorem Inv.tok (I:Inv X pins σ H s)(t:Nat):Inv X pins σ H {s with toks:=t}:=I.un (h':=s.heap) (t':=t) Un.refl I.hok
theorem Inv.kept {t':Nat}(I:Inv X pins σ H s)(k:∀b u,s.heap.get? b=some u->h'.get? b=some u):Inv X pins σ H {s with heap:=h',toks:=t'}:=I.un (Un.kept k) (I.hok.kept k)
theorem Inv.laid {a:Addr}{o:HO}{t':Nat}(I:Inv X pins σ H s)(k:∀b u,s.heap.get? b=some u->h'.get? b=some u)(hp:s.heap.objs.size<=a)(new:q0a X.prog X.w (upd H a o) h' a o):
  Inv X pins σ (upd H a o) {s with heap:=h',toks:=t'}:=I.un (Un.laid k hp (I.hok.fresh hp)) (I.hok.laid k hp new)
theorem Inv.write {x e:Addr}{o:HO}{t':Nat}(I:Inv X pins σ H s)(mu:Mut (H x))(he:e=x\/H e=some (.own x))(k:∀b u,b≠e->s.heap.get? b=some u->h'.get? b=some u)(heo:∃u,h'.get? e=some u)
  (new:q0a X.prog X.w (upd H x o) h' x o):Inv X pins σ (upd H x o) {s with heap:=h',toks:=t'}:=I.un (Un.write mu he k heo) (I.hok.write mu he k heo new)
theorem Inv.pins_of {pins':List (Addr×Obj)}(I:Inv X pins σ H s)(h:∀p∈pins',s.heap.get? p.1=some p.2/\H p.1=none/\p.1≠X.env.locals/\p.1∉X.fs/\∀v,p.2.data≠ .cell v):Inv X pins' σ H s:=
 ⟨I.ok,I.os,I.bare,I.base,I.loc,I.cell,I.free,I.freeC,fun p hp=>(List.mem_append.mp hp).elim (fun z=>I.pin p (List.mem_append_left _ z)) (h p),I.hok,I.len⟩
theorem q6B {N:List Str}(hN:N.Nodup){i j:Nat}{x:Str}(a:N[i]? =some x)(b:N[j]? =some x):i=j:=by
 obtain⟨h1,e1⟩:=List.getElem?_eq_some_iff.mp a
 obtain⟨h2,e2⟩:=List.getElem?_eq_some_iff.mp b
 exact(List.getElem_inj hN).mp (e1.trans e2.symm)
theorem q52 {M:Model}{A:Around}{E:Value->Shared->Prop}{i:Nat}{x:Str}{v:V}{u:Value}{Q:Unit->Shared->Prop}(I:Inv X pins σ H s)(hN:X.N.Nodup)(hi:X.N[i]? =some x)(hx:Loc X.env.scope x)(r:RelV v u)
  (h:∀s',Inv X pins (σ.set i (some v)) H s'->(∃a,Heap.SameBut a s.heap s'.heap/\(a=X.env.locals\/X.env.cells.lookup x=some a))->Q () s')(hf:X.fn x=true\/X.env.scope.names.lookup x=some .local:=by first|exact .inl rfl|exact .inr rfl|assumption):wpAny M A (storeName X.env x u) Q E s:=by
 obtain⟨m,hn,hl⟩:=id I.loc
 have hcls:(X.env.scope.kind== .class||(X.env.scope.kind== .module&&X.env.locals != X.env.globals))=false:=by rw[I.ok.kind];rfl
 have hiσ:i<σ.length:=by rw[I.len];exact(List.getElem?_eq_some_iff.mp hi).1
 have cne:=I.cne
 have tracked:∀{a:Addr} {h':Heap},(∃o,s.heap.get? a=some o/\H a=none)->Heap.SameBut a s.heap h'->HOk X.prog X.w H h':=fun {a h'} ha hs b ob e=>by
  obtain⟨_,_,hfree⟩:=ha
  refine(I.hok b ob e).stay (fun c w' hc q=>(hs.2 c ?_).trans q) (fun _ q=>q) fun _ _ q=>q
  rintro rfl
  rcases hc with rfl|hc
  ·rw [hfree] at e;cases e
  ·rw [hfree] at hc;cases hc
 rcases hx with hk|hk
 ·refine wpAny_storeName_local hk hn (fun h' hn' hs=>?_) hcls
  obtain⟨oL,_,_,hoL,_⟩:=id hn
  refine h _ ⟨I.ok,I.os,I.bare,⟨fun b o e n hb hx=>?_,fun b o e n hb hx=>?_,I.base.free,fun b o e hx=>?_,I.base.tups,I.base.frzs,I.base.tbls⟩,⟨_,hn',fun j y v' e1 e2 e3=>?_⟩,fun y c e=>?_,I.free,I.freeC,fun p hp=>?_,tracked ⟨oL,hoL,I.free⟩ hs,by simpa using I.len⟩ ⟨_,hs,.inl rfl⟩
  ·exact (hs.2 b (Nat.ne_of_lt (Nat.lt_of_lt_of_le (Heap.lt_size e) I.ok.above))).trans (I.base.keep b o e n hb hx)
  ·obtain ⟨sl,e1⟩:=I.base.slot b o e n hb hx
   exact⟨sl,(hs.2 b (Nat.ne_of_lt (Nat.lt_of_lt_of_le (Heap.lt_size e) I.ok.above))).trans e1⟩
  ·obtain ⟨o',e1⟩:=I.base.there b o e hx
   exact⟨o',(hs.2 b (Nat.ne_of_lt (Nat.lt_of_lt_of_le (Heap.lt_size e) I.ok.above))).trans e1⟩
  ·by_cases hj:j=i
   ·subst hj
    rw[hi] at e1;cases e1
    rw[List.getElem?_set_self hiσ] at e2
    cases e2
    exact⟨u,r,.inl ⟨hk,by simp⟩⟩
   ·rw [List.getElem?_set_ne (Ne.symm hj)] at e2
    obtain⟨u',r',q⟩:=hl j y v' e1 e2 e3
    refine⟨u',r',?_⟩
    rcases q with⟨k,e⟩|⟨k,c,e,z⟩
    ·refine .inl ⟨k,?_⟩
     have:y≠x:=fun e=>hj (q6B hN e1 (e▸hi))
     simp[this,e]
    ·exact .inr ⟨k,c,e,z.sameBut hs (cne y c e)⟩
  ·obtain ⟨w',z⟩:=I.cell y c e
   exact⟨w',z.sameBut hs (cne y c e)⟩
  ·obtain ⟨e,n,ne,nf,d⟩:=I.pin p hp
   exact⟨(hs.2 p.1 ne).trans e,n,ne,nf,d⟩
 ·have hfn:X.fn x=true:=by
   rcases hf with z|z
   ·exact z
   ·rw [z] at hk;cases hk
  obtain⟨c,hc⟩:=I.ok.has x (.inl hk)
  obtain⟨w',z⟩:=I.cell x c hc
  refine wpAny_storeName_cell I.ok.kind hk hc z (fun h' hc' hs=>?_)
  obtain⟨oc,hoc,hocd⟩:=id z
  refine h {s with heap:=h'} ⟨I.ok,I.os,I.bare,⟨fun b o e n hb hx=>?_,fun b o e n hb hx=>?_,I.base.free,fun b o e hx=>?_,I.base.tups,I.base.frzs,I.base.tbls⟩,⟨m,hn.sameBut hs (Ne.symm (cne x c hc)),fun j y v' e1 e2 e3=>?_⟩,fun y c' e=>?_,I.free,I.freeC,fun p hp=>?_,tracked ⟨oc,hoc,I.freeC x c hc⟩ hs,by simpa using I.len⟩ ⟨c,hs,.inr hc⟩
  ·exact (hs.2 b (Nat.ne_of_lt (Nat.lt_of_lt_of_le (Heap.lt_size e) (I.ok.cab x c hfn hc)))).trans (I.base.keep b o e n hb hx)
  ·obtain ⟨sl,e1⟩:=I.base.slot b o e n hb hx
   exact⟨sl,(hs.2 b (Nat.ne_of_lt (Nat.lt_of_lt_of_le (Heap.lt_size e) (I.ok.cab x c hfn hc)))).trans e1⟩
  ·obtain ⟨o',e1⟩:=I.base.there b o e hx
   exact⟨o',(hs.2 b (Nat.ne_of_lt (Nat.lt_of_lt_of_le (Heap.lt_size e) (I.ok.cab x c hfn hc)))).trans e1⟩
  ·by_cases hj:j=i
   ·subst hj
    rw[hi] at e1;cases e1
    rw[List.getElem?_set_self hiσ] at e2
    cases e2
    exact⟨u,r,.inr ⟨.inl hk,c,hc,hc'⟩⟩
   ·rw [List.getElem?_set_ne (Ne.symm hj)] at e2
    obtain⟨u',r',q⟩:=hl j y v' e1 e2 e3
    refine⟨u',r',?_⟩
    rcases q with q|⟨k,c',e,z'⟩
    ·exact .inl q
    ·refine .inr ⟨k,c',e,z'.sameBut hs ?_⟩
     rintro rfl
     exact hj (q6B hN e1 (I.ok.inj _ _ _ e hc▸hi))
  ·by_cases hcc:c'=c
   ·subst hcc;exact⟨_,hc'⟩
   ·obtain ⟨w2,z2⟩:=I.cell y c' e
    exact⟨w2,z2.sameBut hs hcc⟩
  ·obtain ⟨e,n,ne,nf,d⟩:=I.pin p hp
   refine⟨(hs.2 p.1 ?_).trans e,n,ne,nf,d⟩
   intro q
   rw[q,hoc] at e
   have q':oc=p.2:=Option.some.inj e
   exact d w' (by rw[<-q'];exact hocd)
theorem q4c {M:Model}{A:Around}{E:Value->Shared->Prop}{i:Nat}{x:Str}{v:V}{u:Value}{Q:Unit->Shared->Prop}(I:Inv X pins σ H s)(hN:X.N.Nodup)(hi:X.N[i]? =some x)(hx:Loc X.env.scope x)(r:RelV v u)
  (h:∀s',Inv X pins (σ.set i (some v)) H s'->Q () s')(hf:X.fn x=true\/X.env.scope.names.lookup x=some .local:=by first|exact .inl rfl|exact .inr rfl|assumption):wpAny M A (storeName X.env x u) Q E s:=
 q52 I hN hi hx r (fun s' I' _=>h s' I') hf
theorem Inv.call' {s':Shared}{ch:List Addr}(I:Inv X pins σ H s)(ho:s'.os=s.os)(u:Un (frs X.stack) ch H H' s.heap s'.heap)(hok:HOk X.prog X.w H' s'.heap)(hg:AllBare s'.gens)
  (hch:∀b∈ch,(b∈X.ex\/X.s₀.heap.objs.size<=b)/\b≠X.env.locals/\(∀x c,X.env.cells.lookup x=some c->c≠b)/\∀p∈X.pn++pins,p.1≠b):Inv X pins σ H' s':=by
 obtain⟨h',g',d',t',o'⟩:=s'
 have e:o'=s.os:=ho
 subst e
 exact I.call (g':=g') (t':=t') (d':=d') u hok hg hch
end
abbrev XK:=Value->Option Addr->Hp->Prop
abbrev St:=List (Option V)
abbrev VK:=V->Hp->Prop
abbrev TE:=St->Hp->VK->Prop
abbrev TT:=St->Hp->(Bool->Hp->Prop)->Prop
abbrev TA:=St->Hp->(List V->Hp->Prop)->Prop
structure Ends where
 nx:St->Hp->Prop
 rt:VK
 bk:St->Hp->Prop:=fun _ _=>False
 ct:St->Hp->Prop:=fun _ _=>False
abbrev TS:=Ends->St->Hp->Prop
def EP (X:Cx)(pins:List (Addr×Obj))(σ:St)(Q:VK)(u:Value)(s':Shared):Prop:=∃v H',Inv X pins σ H' s'/\RelV v u/\Q v H'
def TP (X:Cx)(pins:List (Addr×Obj))(σ:St)(Q:Bool->Hp->Prop)(b:Bool)(s':Shared):Prop:=∃H',Inv X pins σ H' s'/\Q b H'
def AP (X:Cx)(pins:List (Addr×Obj))(σ:St)(Q:List V->Hp->Prop)(us:List Value)(s':Shared):Prop:=∃vs H',Inv X pins σ H' s'/\Vals vs us/\Q vs H'
def SP (X:Cx)(pins:List (Addr×Obj))(D:Ends)(f:Flow)(s':Shared):Prop:=
 match f with
 | .next=>∃σ' H',Inv X pins σ' H' s'/\D.nx σ' H'
 | .brk=>∃σ' H',Inv X pins σ' H' s'/\D.bk σ' H'
 | .cont=>∃σ' H',Inv X pins σ' H' s'/\D.ct σ' H'
 | .ret u=>∃v σ' H',Inv X pins σ' H' s'/\RelV v u/\D.rt v H'
def PE (X:Cx)(e:Expr)(t:TE):Prop:=
 ∀(pins:List (Addr×Obj)) (s:Shared) (σ:St) (H:Hp) (Q:VK),Inv X pins σ H s->t σ H Q->wpAny (model X.prog X.w) X.A (eval e X.env) (EP X pins σ Q) X.xe s
def PT (X:Cx)(e:Expr)(t:TT):Prop:=
 ∀(pins:List (Addr×Obj)) (s:Shared) (σ:St) (H:Hp) (Q:Bool->Hp->Prop),Inv X pins σ H s->t σ H Q->wpAny (model X.prog X.w) X.A (isTrue e X.env (eval e X.env)) (TP X pins σ Q) X.xe s
def PW (X:Cx)(e:Expr)(t:TT):Prop:=
 ∀(whole:Sem Value) (pins:List (Addr×Obj)) (s:Shared) (σ:St) (H:Hp) (Q:Bool->Hp->Prop),Inv X pins σ H s->t σ H Q->wpAny (model X.prog X.w) X.A (isTrue e X.env whole) (TP X pins σ Q) X.xe s
theorem PW.pt {X:Cx}{e:Expr}{t:TT}(h:PW X e t):PT X e t:=h _
def PA (X:Cx)(es:List Expr)(t:TA):Prop:=
 ∀(pos:Pos) (pins:List (Addr×Obj)) (s:Shared) (σ:St) (H:Hp) (Q:List V->Hp->Prop),Inv X pins σ H s->t σ H Q->wpAny (model X.prog X.w) X.A (spliced (backTo pos (starEach es X.env))) (AP X pins σ Q) X.xe s
def PS (X:Cx)(st:Stmt)(t:TS):Prop:=
 ∀(pins:List (Addr×Obj)) (s:Shared) (σ:St) (H:Hp) (D:Ends),Inv X pins σ H s->t D σ H->wpAny (model X.prog X.w) X.A (exec st X.env) (SP X pins D) X.xe s
def PSs (X:Cx)(st:List Stmt)(t:TS):Prop:=
 ∀(pins:List (Addr×Obj)) (s:Shared) (σ:St) (H:Hp) (D:Ends),Inv X pins σ H s->t D σ H->wpAny (model X.prog X.w) X.A (execs st X.env) (SP X pins D) X.xe s
theorem thn {α:Type}{t:Sem α}{Q Q':α->Shared->Prop}{M:Model}{A:Around}{E:Value->Shared->Prop}{s:Shared}(h:wpAny M A t Q E s)(hQ:∀a s,Q a s->Q' a s):wpAny M A t Q' E s:=wpAny_mono h hQ fun _ _ x=>x
end L2
namespace L2
open PySem PySem.Spec PyProof.Rows
section
variable {X:Cx}
theorem bin {a b:Expr}{ta tb:TE}(ha:PE X a ta)(hb:PE X b tb){pins:List (Addr×Obj)}{s:Shared}{σ:St}{H:Hp}{R:V->V->Hp->Prop}(I:Inv X pins σ H s)(h:ta σ H fun x H1=>tb σ H1 fun y H2=>R x y H2)
  {α:Type}{Q:α->Shared->Prop}{f:Value->Value->Sem α}
  (hf:∀v u s2 x y H2,Inv X pins σ H2 s2->RelV x v->RelV y u->R x y H2->wpAny (model X.prog X.w) X.A (f v u) Q X.xe s2):
  wpAny (model X.prog X.w) X.A (eval a X.env) (fun v s₁=>wpAny (model X.prog X.w) X.A (eval b X.env) (fun u s₂=>wpAny (model X.prog X.w) X.A (f v u) Q X.xe s₂) X.xe s₁) X.xe s:=by
 refine thn (ha pins s σ H _ I h) fun v s1 ⟨x,H1,I1,r1,q1⟩=>?_
 refine thn (hb pins s1 σ H1 _ I1 q1) fun u s2 ⟨y,H2,I2,r2,q2⟩=>?_
 exact hf v u s2 x y H2 I2 r1 r2 q2
def tVar (i:Nat):TE:=fun σ H Q=>∃v,σ[i]? =some (some v)/\Q v H
def tC (v:V):TE:=fun _ H Q=>Q v H
theorem pe_var {i:Nat}{x:Str}{pos:Pos}(hN:X.N[i]? =some x)(hv:Vis X.env.scope x)(hd:(x==("__debug__":Str))=false:=by decide)(hcd:(x==("__classdict__":Str))=false:=by decide):PE X (.Name x pos) (tVar i):=by
 intro pins s σ H Q I h
 obtain⟨v,e,h⟩:=h
 obtain⟨m,hn,hl⟩:=I.loc
 obtain⟨u,r,l⟩:=hl i x v hN e hv
 have fin:EP X pins σ Q u s:=⟨v,H,I,r,h⟩
 rcases l with⟨hk,hm⟩|⟨hk,c,hc,hcell⟩
 ·exact wpAny_Name (wpAny_loadName_local I.ok.kind hk hn hm fin) hd
 ·rcases hk with hk|hk
  ·exact wpAny_Name (wpAny_loadName_cell I.ok.kind hk hc hcell fin) hd
  ·exact wpAny_Name (wpAny_loadName_free I.ok.kind hk hc hcell fin hcd) hd
theorem qg {i j pos}:PE X (.Constant (.int i) j pos) (tC (.int i)):=fun _ _ _ H _ I h=>wpAny_Constant_int ⟨.int i,H,I.tok _,⟨_,rfl⟩,h⟩
theorem q1X {b j pos}:PE X (.Constant (.bool b) j pos) (tC (.bl b)):=fun _ _ _ H _ I h=>Constant_bool ⟨.bl b,H,I,rfl,h⟩
theorem q6x {j pos}:PE X (.Constant .none j pos) (tC .non):=fun _ _ _ H _ I h=>Constant_none ⟨.non,H,I,rfl,h⟩
theorem qA {x j pos}:PE X (.Constant (.str x) j pos) (tC (.str x)):=fun _ _ _ H _ I h=>Calls.Constant_str ⟨.str x,H,I.tok _,⟨_,rfl⟩,h⟩
def Gl (X:Cx)(x:Str):Prop:=X.env.kindOf x=some .globalImplicit
theorem q3y {E:Value->Shared->Prop}{pins:List (Addr×Obj)}{s:Shared}{σ:St}{H:Hp}{x:Str}{u:Value}{pos:Pos}{Q:Value->Shared->Prop}(I:Inv X pins σ H s)(hg:Gl X x)(hm:X.mg x=some u)(h:Q u s)
  (hd:(x==("__debug__":Str))=false:=by decide):wpAny (model X.prog X.w) X.A (eval (.Name x pos) X.env) Q E s:=
 Calls.Name_function_global I.ok.kind hg (Calls.loadGlobal_global (by rw[I.ok.glob];exact I.mod.glob.keeps I.bk) hm h) hd
theorem q2V {E:Value->Shared->Prop}{pins:List (Addr×Obj)}{s:Shared}{σ:St}{H:Hp}{x:Str}{u:Value}{pos:Pos}{Q:Value->Shared->Prop}(I:Inv X pins σ H s)(hg:Gl X x)(hm:X.mg x=none)(hv:bootBuiltins x=some u)(h:Q u s)
  (hn:x≠"__name__":=by decide)(hd:(x==("__debug__":Str))=false:=by decide):wpAny (model X.prog X.w) X.A (eval (.Name x pos) X.env) Q E s:=by
 obtain⟨mb,h1,h2⟩:=I.mod.blt
 exact Calls.Name_function_global I.ok.kind hg (Calls.loadGlobal_builtin (by rw[I.ok.glob];exact I.mod.glob.keeps I.bk) hm (by rw[I.ok.blt];exact h1.keeps I.bk) ((h2 x hn).trans hv) h) hd
theorem qh {x:Str}{v:V}{u:Value}{pos:Pos}(hg:Gl X x)(hm:X.mg x=some u)(r:RelV v u)(hd:(x==("__debug__":Str))=false:=by decide):PE X (.Name x pos) (tC v):=
 fun _ _ _ H _ I h=>q3y I hg hm ⟨v,H,I,r,h⟩ hd
theorem q2b {x:Str}{v:V}{u:Value}{pos:Pos}(hg:Gl X x)(hm:X.mg x=none)(hv:bootBuiltins x=some u)(r:RelV v u)(hn:x≠"__name__":=by decide)(hd:(x==("__debug__":Str))=false:=by decide):PE X (.Name x pos) (tC v):=
 fun _ _ _ H _ I h=>q2V I hg hm hv ⟨v,H,I,r,h⟩ hn hd
variable {a b:Expr}{ta tb:TE}{pos:Pos}
def PC (X:Cx)(op:CmpOp)(a b:Expr)(t:TE):Prop:=
 ∀(pins:List (Addr×Obj)) (s:Shared) (σ:St) (H:Hp) (Q:VK),Inv X pins σ H s->t σ H Q->
  wpAny (model X.prog X.w) X.A (eval a X.env) (fun v s₁=>wpAny (model X.prog X.w) X.A (eval b X.env) (fun u s₂=>wpAny (model X.prog X.w) X.A (compareOp op v u) (EP X pins σ Q) X.xe s₂) X.xe s₁) X.xe s
theorem q6C (b:Expr){op:CmpOp}(h:op≠ .In)(h2:op≠ .NotIn):behindInMarks op b=false:=by
 have e1:(op==CmpOp.In)=false:=by cases op<;>first|rfl|exact absurd rfl h
 have e2:(op==CmpOp.NotIn)=false:=by cases op<;>first|rfl|exact absurd rfl h2
 cases b<;>simp[behindInMarks,e1,e2]
def tIsN (ta:TE):TE:=fun σ H Q=>ta σ H fun x H1=>Q (.bl (decide (x= .non))) H1
theorem RelV.none_iff {x:V}{v:Value}(r:RelV x v):(v==Value.none)=decide (x= .non):=by
 cases x with
 |non=>cases r;rfl
 |bl _=>cases r;rfl
 |int _=>obtain⟨t,rfl⟩:=r;rfl
 |str _=>obtain⟨t,rfl⟩:=r;rfl
 |byt _=>obtain⟨t,rfl⟩:=r;rfl
 |flt _=>obtain⟨t,rfl⟩:=r;rfl
 |ref _=>cases r;rfl
 |ty _=>cases r;rfl
theorem q2s {j pos'}(ha:PE X a ta):PC X .Is a (.Constant .none j pos') (tIsN ta):=by
 intro pins s σ H Q I h
 refine thn (ha pins s σ H _ I h) fun v s1 ⟨x,H1,I1,r1,q1⟩=>?_
 exact Constant_none (is_none_gen ⟨.bl _,H1,I1,by rw[r1.none_iff];rfl,q1⟩)
def tB (t:TE):TT:=fun σ H Q=>t σ H fun x H1=>∃c,x= .bl c/\Q c H1
theorem qaG {op:CmpOp}{t:TE}(h:PC X op a b t)(h1:behindInMarks op b=false:=by first|exact q6C _ (by decide) (by decide)|rfl):PE X (.Compare a [op] [b] pos) t:=fun pins s σ H Q I hw=>wpAny_Compare1 (h pins s σ H Q I hw) h1
theorem q24 {op:CmpOp}{t:TE}(h:PC X op a b t)(h1:behindInMarks op b=false:=by first|exact q6C _ (by decide) (by decide)|rfl):PT X (.Compare a [op] [b] pos) (tB t):=by
 intro pins s σ H Q I hw
 refine wpAny_isTrue_Compare1 (thn (h pins s σ H _ I hw) fun v s1 h1=>thn h1 fun u s2 h2=>thn h2 fun c s3 ⟨x,H1,I1,r1,q1⟩=>?_) h1
 obtain⟨d,rfl,q⟩:=q1
 cases r1
 exact wpAny_truthy_bool ⟨H1,I1,q⟩
theorem q0l {e:Expr}{t:TE}(h:PE X e t)(he:∀whole,isTrue e X.env whole=(do let v<-whole;standAt e.pos;holding [v] (truthy v)):=by intro _;rfl):PT X e (tB t):=by
 intro pins s σ H Q I hw
 refine isTrue_plain (thn (h pins s σ H _ I hw) fun v s1 ⟨x,H1,I1,r1,q1⟩=>?_) (he _)
 obtain⟨d,rfl,q⟩:=q1
 cases r1
 exact wpAny_truthy_bool ⟨H1,I1,q⟩
variable {tA tB':TT}{rest:List Expr}
def tAnd (t u:TT):TT:=fun σ H Q=>t σ H fun c H1=>if c=true then u σ H1 Q else Q false H1
def tOr (t u:TT):TT:=fun σ H Q=>t σ H fun c H1=>if c=true then Q true H1 else u σ H1 Q
def tNot (t:TT):TT:=fun σ H Q=>t σ H fun c H1=>Q (!c) H1
theorem qbm (ha:PT X a tA):PW X (.BoolOp .And [a] pos) tA:=by
 intro wh pins s σ H Q I h
 refine isTrue_and (thn (ha pins s σ H Q I h) fun c s1 e=>?_)
 cases c with
 |true=>exact isTrue_and_nil e
 |false=>exact e
theorem q19 (ha:PT X a tA):PW X (.BoolOp .Or [a] pos) tA:=by
 intro wh pins s σ H Q I h
 refine isTrue_or (thn (ha pins s σ H Q I h) fun c s1 e=>?_)
 cases c with
 |false=>exact isTrue_or_nil e
 |true=>exact e
theorem pw_and (ha:PT X a tA)(hb:PW X (.BoolOp .And (b::rest) pos) tB'):PW X (.BoolOp .And (a::b::rest) pos) (tAnd tA tB'):=by
 intro wh pins s σ H Q I h
 refine isTrue_and (thn (ha pins s σ H _ I h) fun c s1 ⟨H1,I1,q1⟩=>?_)
 cases c with
 |true=>exact hb wh pins s1 σ H1 Q I1 q1
 |false=>exact⟨H1,I1,q1⟩
theorem q1W (ha:PT X a tA)(hb:PW X (.BoolOp .Or (b::rest) pos) tB'):PW X (.BoolOp .Or (a::b::rest) pos) (tOr tA tB'):=by
 intro wh pins s σ H Q I h
 refine isTrue_or (thn (ha pins s σ H _ I h) fun c s1 ⟨H1,I1,q1⟩=>?_)
 cases c with
 |true=>exact⟨H1,I1,q1⟩
 |false=>exact hb wh pins s1 σ H1 Q I1 q1
theorem q1a (ha:PT X a tA):PT X (.UnaryOp .Not a pos) (tNot tA):=by
 intro pins s σ H Q I h
 exact isTrue_not (ha pins s σ H (fun c H1=>Q (!c) H1) I h)
def tAndV (ta tb:TE):TE:=fun σ H Q=>ta σ H fun x H1=>∃c,x= .bl c/\if c=true then tb σ H1 Q else Q (.bl false) H1
def tOrV (ta tb:TE):TE:=fun σ H Q=>ta σ H fun x H1=>∃c,x= .bl c/\if c=true then Q (.bl true) H1 else tb σ H1 Q
def tNotV (ta:TE):TE:=fun σ H Q=>ta σ H fun x H1=>∃c,x= .bl c/\Q (.bl (!c)) H1
theorem q3Y {op}{t:TE}(h:PE X a t):PE X (.BoolOp op [a] pos) t:=fun pins s σ H Q I hw=>BoolOp_one (h pins s σ H Q I hw)
theorem q6y (ha:PE X a ta)(hb:PE X (.BoolOp .And (b::rest) pos) tb):PE X (.BoolOp .And (a::b::rest) pos) (tAndV ta tb):=by
 intro pins s σ H Q I h
 refine BoolOp_and (thn (ha pins s σ H _ I h) fun v s1 ⟨x,H1,I1,r1,q1⟩=>?_)
 obtain⟨c,rfl,q1⟩:=q1
 cases r1
 refine wpAny_truthy_bool ?_
 cases c with
 |true=>exact hb pins s1 σ H1 Q I1 q1
 |false=>exact⟨.bl false,H1,I1,rfl,q1⟩
theorem pe_or (ha:PE X a ta)(hb:PE X (.BoolOp .Or (b::rest) pos) tb):PE X (.BoolOp .Or (a::b::rest) pos) (tOrV ta tb):=by
 intro pins s σ H Q I h
 refine BoolOp_or (thn (ha pins s σ H _ I h) fun v s1 ⟨x,H1,I1,r1,q1⟩=>?_)
 obtain⟨c,rfl,q1⟩:=q1
 cases r1
 refine wpAny_truthy_bool ?_
 cases c with
 |false=>exact hb pins s1 σ H1 Q I1 q1
 |true=>exact⟨.bl true,H1,I1,rfl,q1⟩
theorem pe_not (ha:PE X a ta):PE X (.UnaryOp .Not a pos) (tNotV ta):=by
 intro pins s σ H Q I h
 refine UnaryOp_ (thn (ha pins s σ H _ I h) fun v s1 ⟨x,H1,I1,r1,q1⟩=>?_)
 obtain⟨c,rfl,q1⟩:=q1
 cases r1
 exact not_of (wpAny_truthy_bool ⟨.bl (!c),H1,I1,rfl,q1⟩)
def tIf (t:TT)(ta tb:TE):TE:=fun σ H Q=>t σ H fun c H1=>if c=true then ta σ H1 Q else tb σ H1 Q
theorem q1Q {c:Expr}(hc:PT X c tA)(ha:PE X a ta)(hb:PE X b tb):PE X (.IfExp c a b pos) (tIf tA ta tb):=by
 intro pins s σ H Q I h
 refine wpAny_IfExp (thn (hc pins s σ H _ I h) fun d s1 ⟨H1,I1,q1⟩=>?_)
 cases d with
 |true=>exact ha pins s1 σ H1 Q I1 q1
 |false=>exact hb pins s1 σ H1 Q I1 q1
end
end L2
namespace L2
open PySem PySem.Spec PyProof.Rows
def SqL (K:PySem.W.Frag)(H:Hp)(a:Addr)(xs:List V):Prop:=
 Rd H a (.lst xs)\/
  ∃(o:Obj) (its:Array Value) (n:Nat),K.lookup a=some o/\o.cls= .type "list"/\o.dict=none/\o.data= .seq its n/\its.size<=sizeLine/\Vals xs its.toList
def SqT (K:PySem.W.Frag)(H:Hp)(a:Addr)(xs:List V):Prop:=
 Rd H a (.tup xs)\/
  ∃(o:Obj) (its:Array Value) (n:Nat),K.lookup a=some o/\o.cls= .type "tuple"/\o.data= .seq its n/\its.size<=sizeLine/\Vals xs its.toList
def absV:Value->Option V
 | .none=>some .non
 | .bool b=>some (.bl b)
 | .int i _=>some (.int i)
 | .str x _=>some (.str x)
 | .bytes b _=>some (.byt b)
 | .float b _=>some (.flt b)
 | .ref a=>some (.ref a)
 | .type n=>some (.ty n)
 |_=>none
theorem RelV.abs {x:V}{u:Value}(r:RelV x u):absV u=some x:=by
 cases x with
 |non=>cases r;rfl
 |bl _=>cases r;rfl
 |int _=>obtain⟨t,rfl⟩:=r;rfl
 |str _=>obtain⟨t,rfl⟩:=r;rfl
 |byt _=>obtain⟨t,rfl⟩:=r;rfl
 |flt _=>obtain⟨t,rfl⟩:=r;rfl
 |ref _=>cases r;rfl
 |ty _=>cases r;rfl
theorem RelV.inj {x y:V}{u:Value}(r:RelV x u)(q:RelV y u):x=y:=Option.some.inj (r.abs.symm.trans q.abs)
theorem Vals.inj:∀{xs ys:List V} {us:List Value},Vals xs us->Vals ys us->xs=ys
 |_,_,_,.nil,.nil=>rfl
 |_,_,_,.cons r t,.cons r' t'=>by rw[r.inj r',Vals.inj t t']
section
variable {X:Cx}{pins:List (Addr×Obj)}{σ:St}{H:Hp}{s:Shared}{a:Addr}{xs ys:List V}
theorem SqL.of {K:PySem.W.Frag}(h:H a=some (.lst xs)):SqL K H a xs:= .inl (.inl h)
theorem SqT.of {K:PySem.W.Frag}(h:H a=some (.tup xs)):SqT K H a xs:= .inl (.inl h)
theorem Inv.list (I:Inv X pins σ H s)(h:SqL X.K H a xs):∃its:List Value,Vals xs its/\PlainL s.heap a its.toArray/\xs.length<=sizeLine:=by
 rcases h with h|⟨o,its,n,hk,hc,hd,hs,hz,r⟩
 ·obtain ⟨z,its,n,r,e⟩:=h.ok I.hok
  exact⟨its,r,⟨_,n,e,rfl,rfl,rfl⟩,z⟩
 ·refine ⟨its.toList,r,⟨o,n,I.kIn a o hk,hc,hd,by simpa using hs⟩,?_⟩
  have e:=r.length
  simp only[Array.length_toList] at e
  omega
theorem Inv.tuple (I:Inv X pins σ H s)(h:SqT X.K H a xs):∃its:List Value,Vals xs its/\IsTup s.heap a its.toArray/\xs.length<=sizeLine:=by
 rcases h with h|⟨o,its,n,hk,hc,hs,hz,r⟩
 ·obtain ⟨z,its,r,p⟩:=h.ok I.hok
  exact⟨its,r,p,z⟩
 ·refine ⟨its.toList,r,⟨o,I.kIn a o hk,hc,n,by simpa using hs⟩,?_⟩
  have e:=r.length
  simp only[Array.length_toList] at e
  omega
theorem Inv.list_inj (I:Inv X pins σ H s)(h:SqL X.K H a xs)(h':SqL X.K H a ys):xs=ys:=by
 obtain⟨its,r,⟨o,n,e,_,_,d⟩,_⟩:=I.list h
 obtain⟨its',r',⟨o',n',e',_,_,d'⟩,_⟩:=I.list h'
 rw[e] at e';cases e'
 rw[d] at d'
 injection d' with d1 _
 have:its=its':=by simpa using congrArg Array.toList d1
 subst this
 exact r.inj r'
theorem Inv.tuple_inj (I:Inv X pins σ H s)(h:SqT X.K H a xs)(h':SqT X.K H a ys):xs=ys:=by
 obtain⟨its,r,⟨o,e,_,n,d⟩,_⟩:=I.tuple h
 obtain⟨its',r',⟨o',e',_,n',d'⟩,_⟩:=I.tuple h'
 rw[e] at e';cases e'
 rw[d] at d'
 injection d' with d1 _
 have:its=its':=by simpa using congrArg Array.toList d1
 subst this
 exact r.inj r'
end
abbrev Cx.wish (X:Cx)(E:Value->Shared->Prop):Cx:={X with xe:=E}
abbrev Cx.nox (X:Cx):Cx:=X.wish fun _ _=>False
theorem Cx.Ok.wish {X:Cx}(ok:X.Ok)(E:Value->Shared->Prop):(X.wish E).Ok:=
 ⟨ok.mod,ok.kind,ok.glob,ok.blt,ok.above,ok.inj,ok.has,ok.cab,ok.hd,ok.frames,ok.stk,ok.exf,ok.bs,ok.bsz,ok.noex,ok.exfs,ok.funs,ok.frf⟩
theorem Cx.Ok.unwish {X:Cx}{E:Value->Shared->Prop}(ok:(X.wish E).Ok):X.Ok:=
 ⟨ok.mod,ok.kind,ok.glob,ok.blt,ok.above,ok.inj,ok.has,ok.cab,ok.hd,ok.frames,ok.stk,ok.exf,ok.bs,ok.bsz,ok.noex,ok.exfs,ok.funs,ok.frf⟩
section
variable {X:Cx}{pins:List (Addr×Obj)}{σ:St}{H:Hp}{s:Shared}{E:Value->Shared->Prop}
theorem Inv.wish (I:Inv X pins σ H s)(E:Value->Shared->Prop):Inv (X.wish E) pins σ H s:=⟨I.ok.wish E,I.os,I.bare,I.base,I.loc,I.cell,I.free,I.freeC,I.pin,I.hok,I.len⟩
theorem Inv.unwish (I:Inv (X.wish E) pins σ H s):Inv X pins σ H s:=⟨I.ok.unwish,I.os,I.bare,I.base,I.loc,I.cell,I.free,I.freeC,I.pin,I.hok,I.len⟩
theorem SP.unwish {D:Ends}{f:Flow}{s':Shared}(h:SP (X.wish E) pins D f s'):SP X pins D f s':=by
 cases f with
 |next=>obtain⟨σ',H',I,q⟩:=h;exact⟨σ',H',I.unwish,q⟩
 |brk=>obtain⟨σ',H',I,q⟩:=h;exact⟨σ',H',I.unwish,q⟩
 |cont=>obtain⟨σ',H',I,q⟩:=h;exact⟨σ',H',I.unwish,q⟩
 |ret u=>obtain⟨v,σ',H',I,r,q⟩:=h;exact⟨v,σ',H',I.unwish,r,q⟩
theorem PSs.nox {st:List Stmt}{t:TS}(h:PSs X.nox st t):PSs X st t:=fun pins s σ H D I hw=>
 wpAny_mono (h pins s σ H D (I.wish _) hw) (fun _ _ q=>q.unwish) fun _ _ z=>False.elim z
end
section
variable {X:Cx}{st:Stmt}{rest:List Stmt}{t u:TS}{e:Expr}{te:TE}{pos:Pos}
def tNext:TS:=fun D σ H=>D.nx σ H
def tSeq (t u:TS):TS:=fun D σ H=>t {D with nx:=u D} σ H
theorem qm:PSs X [] tNext:=fun _ _ σ H _ I h=>wpAny_execs_nil ⟨σ,H,I,h⟩
theorem qc (h1:PS X st t)(h2:PSs X rest u):PSs X (st::rest) (tSeq t u):=by
 intro pins s σ H D I h
 refine wpAny_execs_cons (thn (h1 pins s σ H {D with nx:=u D} I h) fun f s1 q=>?_)
 cases f with
 |next=>
  obtain⟨σ',H',I',q⟩:=q
  exact h2 pins s1 σ' H' D I' q
 |ret v=>exact q
 |brk=>exact q
 |cont=>exact q
theorem qf (h1:PS X st t):PSs X [st] t:=by
 intro pins s σ H D I h
 refine wpAny_execs_cons (thn (h1 pins s σ H D I h) fun f s1 q=>?_)
 cases f with
 |next=>exact wpAny_execs_nil q
 |ret v=>exact q
 |brk=>exact q
 |cont=>exact q
theorem Inv.quiet {pins:List (Addr×Obj)}{σ:St}{H:Hp}{s:Shared}(I:Inv X pins σ H s):interactive X.env=false:=by simp[interactive,I.ok.kind]
def tDrop (te:TE):TS:=fun D σ H=>te σ H fun _ H1=>D.nx σ H1
theorem qI (he:PE X e te)(hs:swapsWith e none pos.line X.env=pure false:=by rfl):PS X (.Expr e pos) (tDrop te):=by
 intro pins s σ H D I h
 exact wpAny_Expr_any (thn (he pins s σ H _ I h) fun v s1 ⟨x,H1,I1,r1,q1⟩=>⟨σ,H1,I1,q1⟩) I.quiet hs
def tRet (te:TE):TS:=fun D σ H=>te σ H D.rt
theorem qk (he:PE X e te):PS X (.Return (some e) pos) (tRet te):=by
 intro pins s σ H D I h
 exact wpAny_Return_some (thn (he pins s σ H _ I h) fun v s1 ⟨x,H1,I1,r1,q1⟩=>⟨x,σ,H1,I1,r1,q1⟩)
def tIfS (c:TT)(t u:TS):TS:=fun D σ H=>c σ H fun b H1=>if b=true then t D σ H1 else u D σ H1
theorem qN {c:Expr}{a b:List Stmt}{tc:TT}(hc:PT X c tc)(ha:PSs X a t)(hb:PSs X b u):PS X (.If c a b pos) (tIfS tc t u):=by
 intro pins s σ H D I h
 refine wpAny_If (thn (hc pins s σ H _ I h) fun d s1 ⟨H1,I1,q1⟩=>?_)
 cases d with
 |true=>exact ha pins s1 σ H1 D I1 q1
 |false=>exact hb pins s1 σ H1 D I1 q1
def tNever:TS:=fun _ _ _=>False
theorem q0s:PS X st tNever:=fun _ _ _ _ _ _ h=>h.elim
end
abbrev TG:=V->St->Hp->(St->Hp->Prop)->Prop
abbrev TGs:=List V->St->Hp->(St->Hp->Prop)->Prop
def PG (X:Cx)(target:Expr)(t:TG):Prop:=
 ∀(pins:List (Addr×Obj)) (s:Shared) (σ:St) (H:Hp) (v:V) (u:Value) (Q:St->Hp->Prop),Inv X pins σ H s->RelV v u->t v σ H Q->
  wpAny (model X.prog X.w) X.A (assign target X.env u) (fun _ s'=>∃σ' H',Inv X pins σ' H' s'/\Q σ' H') X.xe s
def PGs (X:Cx)(ts:List Expr)(t:TGs):Prop:=
 ∀(pins:List (Addr×Obj)) (s:Shared) (σ:St) (H:Hp) (vs:List V) (us:List Value) (Q:St->Hp->Prop),Inv X pins σ H s->Vals vs us->t vs σ H Q->
  wpAny (model X.prog X.w) X.A (assignInOrder ((assignEach ts X.env).map (·.2)) us) (fun _ s'=>∃σ' H',Inv X pins σ' H' s'/\Q σ' H') X.xe s
abbrev TSet:=V->V->V->Hp->(Hp->Prop)->Prop
def PSet (X:Cx)(t:TSet):Prop:=
 ∀(pins:List (Addr×Obj)) (s:Shared) (σ:St) (H:Hp) (o i v:V) (ov iv u:Value) (Q:Hp->Prop),Inv X pins σ H s->RelV o ov->RelV i iv->RelV v u->t o i v H Q->
  wpAny (model X.prog X.w) X.A (setItem ov iv u) (fun _ s'=>∃H',Inv X pins σ H' s'/\Q H') X.xe s
abbrev TIp:=V->V->Hp->VK->Prop
def PIp (X:Cx)(op:Operator)(t:TIp):Prop:=
 ∀(pins:List (Addr×Obj)) (s:Shared) (σ:St) (H:Hp) (x y:V) (v u:Value) (Q:VK),Inv X pins σ H s->RelV x v->RelV y u->t x y H Q->
  wpAny (model X.prog X.w) X.A (inplaceOp op v u) (EP X pins σ Q) X.xe s
section
variable {X:Cx}{pos:Pos}
def qae (i:Nat):TG:=fun v σ H Q=>Q (σ.set i (some v)) H
theorem qr {i:Nat}{x:Str}(hN:X.N.Nodup)(hi:X.N[i]? =some x)(hx:Loc X.env.scope x)(hf:X.fn x=true\/X.env.scope.names.lookup x=some .local:=by first|exact .inl rfl|exact .inr rfl|assumption):PG X (.Name x pos) (qae i):=by
 intro pins s σ H v u Q I r h
 exact wpAny_assign_Name (q4c I hN hi hx r (fun s' I'=>⟨_,H,I',h⟩) hf)
def gNil:TGs:=fun vs σ H Q=>vs=[]/\Q σ H
def gCons (t:TG)(u:TGs):TGs:=fun vs σ H Q=>∃v r,vs=v::r/\t v σ H fun σ' H'=>u r σ' H' Q
theorem q0K:PGs X [] gNil:=by
 intro pins s σ H vs us Q I r h
 obtain⟨e,h⟩:=h
 subst e
 cases r
 exact assignInOrder_nil ⟨σ,H,I,h⟩
theorem qD {e:Expr}{es:List Expr}{t:TG}{u:TGs}(h1:PG X e t)(h2:PGs X es u)
  (hs:(assignEach (e::es) X.env).map (·.2)=assign e X.env::(assignEach es X.env).map (·.2):=by rfl):PGs X (e::es) (gCons t u):=by
 intro pins s σ H vs us Q I r h
 obtain⟨v,vr,e1,h⟩:=h
 subst e1
 cases r with
 |cons r rr=>
  rw[hs]
  refine assignInOrder_cons (thn (h1 pins s σ H _ _ _ I r h) fun _ s1 ⟨σ1,H1,I1,q1⟩=>?_)
  exact h2 pins s1 σ1 H1 _ _ Q I1 rr q1
def gTup (K:PySem.W.Frag)(n:Nat)(t:TGs):TG:=fun v σ H Q=>∃a xs,v= .ref a/\SqT K H a xs/\xs.length=n/\t xs σ H Q
theorem pg_tup {es:List Expr}{k:Nat}{t:TGs}{n:Nat}(hc:X.calm=true)(h:PGs X es t)
  (hn:(assignEach es X.env).length=n:=by rfl)(hst:(assignEach es X.env).findIdx? (·.1)=none:=by rfl):PG X (.Tuple es k pos) (gTup X.K n t):=by
 intro pins s σ H v u Q I r hw
 obtain⟨a,xs,e1,hq,hl,hw⟩:=hw
 subst e1
 cases r
 obtain⟨its,rv,ht,hz⟩:=I.tuple hq
 refine assign_Tuple_tuple (I.ok.hd hc) ht (by simp[hn,<-hl,rv.length]) hst fun h' hx=>?_
 have I1:Inv X pins σ H {s with heap:=h'}:=I.kept (t':=s.toks) fun b o e=>hx b o (Nat.ne_of_lt (Heap.lt_size e)) e
 exact h pins _ σ H xs _ Q I1 (by simpa using rv) hw
def tAsg (te:TE)(g:TG):TS:=fun D σ H=>te σ H fun x H1=>g x σ H1 D.nx
theorem qz {i:Nat}{x:Str}{e:Expr}{te:TE}{pos':Pos}(hN:X.N.Nodup)(hi:X.N[i]? =some x)(hx:Loc X.env.scope x)(he:PE X e te)(hs:swapsWith e (some (.Name x pos')) pos.line X.env=pure false:=by rfl)(hf:X.fn x=true\/X.env.scope.names.lookup x=some .local:=by first|exact .inl rfl|exact .inr rfl|assumption):
  PS X (.Assign [.Name x pos'] e pos) (tAsg te (qae i)):=by
 intro pins s σ H D I h
 refine wpAny_Assign_Name (thn (he pins s σ H _ I h) fun v s1 ⟨y,H1,I1,r1,q1⟩=>?_) hs
 exact q4c I1 hN hi hx r1 (fun s2 I2=>⟨_,H1,I2,q1⟩) hf
def tAug (i:Nat)(te:TE)(ti:TIp):TS:=fun D σ H=>∃x,σ[i]? =some (some x)/\te σ H fun y H1=>ti x y H1 fun z H2=>D.nx (σ.set i (some z)) H2
theorem qaE {i:Nat}{x:Str}{e:Expr}{te:TE}{op:Operator}{ti:TIp}{pos':Pos}(hN:X.N.Nodup)(hi:X.N[i]? =some x)(hx:Loc X.env.scope x)(he:PE X e te)(ho:PIp X op ti)(hf:X.fn x=true\/X.env.scope.names.lookup x=some .local:=by first|exact .inl rfl|exact .inr rfl|assumption):
  PS X (.AugAssign (.Name x pos') op e pos) (tAug i te ti):=by
 intro pins s σ H D I h
 obtain⟨v,e1,h⟩:=h
 obtain⟨m,hn,hl⟩:=I.loc
 have vis:Vis X.env.scope x:=by rcases hx with k|k;exact .inl k;exact .inr (.inl k)
 obtain⟨u,r,l⟩:=hl i x v hi e1 vis
 refine wpAny_AugAssign_Name ?_
 have go:wpAny (model X.prog X.w) X.A (eval e X.env) (fun w s₂=>wpAny (model X.prog X.w) X.A (inplaceOp op u w) (fun r s₃=>wpAny (model X.prog X.w) X.A (storeName X.env x r) (fun _=>SP X pins D .next) X.xe s₃) X.xe s₂) X.xe s:=by
  refine thn (he pins s σ H _ I h) fun w s1 ⟨y,H1,I1,r1,q1⟩=>?_
  refine thn (ho pins s1 σ H1 v y u w _ I1 r r1 q1) fun z s2 ⟨zv,H2,I2,r2,q2⟩=>?_
  exact q4c I2 hN hi hx r2 (fun s3 I3=>⟨_,H2,I3,q2⟩) hf
 rcases l with⟨hk,hm⟩|⟨hk,c,hc,hcell⟩
 ·exact wpAny_loadName_local I.ok.kind hk hn hm go
 ·rcases hk with hk|hk
  ·exact wpAny_loadName_cell I.ok.kind hk hc hcell go
  ·rcases hx with k|k
   ·have:X.env.scope.names.lookup x=some .free:=hk
    rw[k] at this;cases this
   ·have:X.env.scope.names.lookup x=some .free:=hk
    rw[k] at this;cases this
def tAugS (to ti te:TE)(tget:V->V->Hp->VK->Prop)(tip:TIp)(tset:TSet):TS:=fun D σ H=>to σ H fun o H1=>ti σ H1 fun i H2=>tget o i H2 fun x H3=>te σ H3 fun y H4=>tip x y H4 fun z H5=>tset o i z H5 fun H6=>D.nx σ H6
def PGet (X:Cx)(t:V->V->Hp->VK->Prop):Prop:=
 ∀(pins:List (Addr×Obj)) (s:Shared) (σ:St) (H:Hp) (o i:V) (ov iv:Value) (Q:VK),Inv X pins σ H s->RelV o ov->RelV i iv->t o i H Q->
  wpAny (model X.prog X.w) X.A (getItem ov iv) (EP X pins σ Q) X.xe s
theorem q7X {o i e:Expr}{to ti te:TE}{tget:V->V->Hp->VK->Prop}{tip:TIp}{tset:TSet}{op:Operator}{tpos:Pos}(ho:PE X o to)(hi:PE X i ti)(hg:PGet X tget)(he:PE X e te)(hp:PIp X op tip)(hs:PSet X tset)
  (ha:∀ov iv new,augStore i ov iv new=(do holding [new,ov,iv] (setItem ov iv new);release [new,ov,iv] [];pure .next):=by intros;rfl):PS X (.AugAssign (.Subscript o i tpos) op e pos) (tAugS to ti te tget tip tset):=by
 intro pins s σ H D I h
 refine wpAny_AugAssign_SubscriptAny (thn (ho pins s σ H _ I h) fun ov s1 ⟨x1,H1,I1,r1,q1⟩=>?_) ha
 refine thn (hi pins s1 σ H1 _ I1 q1) fun iv s2 ⟨x2,H2,I2,r2,q2⟩=>?_
 refine thn (hg pins s2 σ H2 x1 x2 ov iv _ I2 r1 r2 q2) fun old s3 ⟨x3,H3,I3,r3,q3⟩=>?_
 refine thn (he pins s3 σ H3 _ I3 q3) fun v s4 ⟨x4,H4,I4,r4,q4⟩=>?_
 refine thn (hp pins s4 σ H4 x3 x4 old v _ I4 r3 r4 q4) fun new s5 ⟨x5,H5,I5,r5,q5⟩=>?_
 exact thn (hs pins s5 σ H5 x1 x2 x5 ov iv new _ I5 r1 r2 r5 q5) fun _ s6 ⟨H6,I6,q6⟩=>⟨σ,H6,I6,q6⟩
def ipI (f:Int->Int->Int):TIp:=fun x y H Q=>∃i j,x= .int i/\y= .int j/\Q (.int (f i j)) H
theorem q8n:PIp X .Add (ipI fun i j=>i+j):=by
 intro pins s σ H x y v u Q I r1 r2 h
 obtain⟨i,j,e1,e2,q⟩:=h
 subst e1;subst e2
 obtain⟨t,rfl⟩:=r1
 obtain⟨t',rfl⟩:=r2
 exact iadd_int ⟨.int _,H,I.tok _,⟨_,rfl⟩,q⟩
theorem ip_sub:PIp X .Sub (ipI fun i j=>i - j):=by
 intro pins s σ H x y v u Q I r1 r2 h
 obtain⟨i,j,e1,e2,q⟩:=h
 subst e1;subst e2
 obtain⟨t,rfl⟩:=r1
 obtain⟨t',rfl⟩:=r2
 exact isub_int ⟨.int _,H,I.tok _,⟨_,rfl⟩,q⟩
end
section
variable {X:Cx}{pos:Pos}
def qar (c:TT)(tb:TS):TS:=fun D σ H=>∃W:Nat->St->Hp->Prop,(∃m,W m σ H)/\∀m σ H,W m σ H->
 c σ H fun b H1=>if b=true then∃N:St->Hp->Prop,(∀σ' H',N σ' H'->∃m',m'<m/\W m' σ' H')/\tb {D with nx:=N,ct:=N,bk:=D.nx} σ H1 else D.nx σ H1
theorem q6w {c:Expr}{body:List Stmt}{tc:TT}{tb:TS}(hp:PassesOwn (model X.prog X.w) X.A X.env X.xe)(hc:PT X c tc)(hb:PSs X body tb):PS X (.While c body [] pos) (qar tc tb):=by
 intro pins s σ H D I h
 obtain⟨W,⟨m0,w0⟩,turn⟩:=h
 refine wpAny_While (codeAny_whileLoop (fun n s'=>∃σ' H',Inv X pins σ' H' s'/\W n σ' H') ?_ m0 ⟨σ,H,I,w0⟩)
 rintro n s1 ⟨σ1,H1,I1,w1⟩
 refine wpAny_passesOwn hp (thn (hc pins s1 σ1 H1 _ I1 (turn n σ1 H1 w1)) fun b s2 ⟨H2,I2,q2⟩=>?_)
 cases b with
 |true=>
  obtain⟨N,hN,q2⟩:=q2
  rw[if_pos rfl]
  refine wpAny_passesOwn hp (thn (hb pins s2 σ1 H2 _ I2 q2) fun f s3 q3=>?_)
  cases f with
  |next=>
   obtain⟨σ3,H3,I3,n3⟩:=q3
   obtain⟨m',hm,w3⟩:=hN σ3 H3 n3
   exact⟨m',hm,σ3,H3,I3,w3⟩
  |cont=>
   obtain⟨σ3,H3,I3,n3⟩:=q3
   obtain⟨m',hm,w3⟩:=hN σ3 H3 n3
   exact⟨m',hm,σ3,H3,I3,w3⟩
  |brk=>exact q3
  |ret v=>exact q3
 |false=>
  rw[if_neg Bool.false_ne_true]
  exact wpAny_execs_nil ⟨σ1,H2,I2,q2⟩
end
structure It where
 go:Nat->Hp->Prop
 yld:Nat->Hp->V->Hp->Prop
 stop:Nat->Hp->Prop
def FpOk (X:Cx)(pins:List (Addr×Obj))(H:Hp)(b:Addr):Prop:=
 H b=none/\b≠X.env.locals/\b∉X.fs/\(b∈X.ex\/X.s₀.heap.objs.size<=b)/\(∀x c,X.env.cells.lookup x=some c->c≠b)/\∀p∈X.pn++pins,p.1≠b
theorem Inv.fpOk {X:Cx}{pins:List (Addr×Obj)}{σ:St}{H H':Hp}{s:Shared}{b:Addr}(I:Inv X pins σ H s)(hb:s.heap.objs.size<=b)(hn:H' b=none):FpOk X pins H' b:=by
 refine⟨hn,Nat.ne_of_gt (Nat.lt_of_lt_of_le I.lt hb),I.nofs hb,.inr (Nat.le_trans I.sz hb),fun x c e z=>?_,fun p hp z=>?_⟩
 ·obtain ⟨v,q⟩:=I.cell x c e
  exact absurd (Nat.lt_of_lt_of_le q.lt (by rw[z];exact hb)) (Nat.lt_irrefl _)
 ·exact absurd (Nat.lt_of_lt_of_le (Heap.lt_size (I.pin p hp).1) (by rw[z];exact hb)) (Nat.lt_irrefl _)
structure Turn (P:Program)(w:World)(K:PySem.W.Frag)(tg:Expr)(J:It)(fp:List Addr)(it:Addr)(tn:Nat->Heap->Prop):Prop where
 mem:it∈fp
 obj:∀i h,tn i h->∀b∈fp,∃o,h.get? b=some o/\∀v,o.data≠ .cell v
 keep:∀i h h',tn i h->(∀b∈fp,∀o,h.get? b=some o->h'.get? b=some o)->tn i h'
 item:∀(X:Cx),X.prog=P->X.w=w->X.K=K->X.calm=true->∀(i:Nat) (pins:List (Addr×Obj)) (s:Shared) (σ:St) (H:Hp) (E:Value->Shared->Prop),Inv X pins σ H s->(∀b∈fp,FpOk X pins H b)->tn i s.heap->J.go i H->
  wpAny (model P w) X.A (pyNext (.ref it)) (fun r s1=>∃u,r=some u/\
   wpAny (model P w) X.A (letOwnedTupleGo tg (.ref it) u) (fun _ s2=>∃x H',Inv X pins σ H' s2/\RelV x u/\J.yld i H x H'/\tn (i+1) s2.heap/\∀b∈fp,H' b=none) E s1) E s
 done:∀(X:Cx),X.prog=P->X.w=w->X.K=K->X.calm=true->∀(i:Nat) (pins:List (Addr×Obj)) (s:Shared) (σ:St) (H:Hp) (E:Value->Shared->Prop),Inv X pins σ H s->(∀b∈fp,FpOk X pins H b)->tn i s.heap->J.stop i H->
  wpAny (model P w) X.A (pyNext (.ref it)) (fun r s1=>r=none/\Inv X pins σ H s1) E s
 self:∀(A:Around) (i:Nat) (s:Shared) (Q:Value->Shared->Prop) (E:Value->Shared->Prop),tn i s.heap->Q (.ref it) s->wpAny (model P w) A (pyIter (.ref it)) Q E s
abbrev TI:=St->Hp->(It->Hp->Prop)->Prop
def PIE (X:Cx)(pins:List (Addr×Obj))(σ:St)(tg:Expr)(R:It->Hp->Prop)(itv:Value)(s2:Shared):Prop:=
 ∃(it:Addr) (fp:List Addr) (tn:Nat->Heap->Prop) (J:It) (H':Hp),itv= .ref it/\Inv X pins σ H' s2/\Turn X.prog X.w X.K tg J fp it tn/\tn 0 s2.heap/\(∀b∈fp,FpOk X pins H' b)/\R J H'
def PI (X:Cx)(tg iter:Expr)(wi:TI):Prop:=
 ∀(pins:List (Addr×Obj)) (s:Shared) (σ:St) (H:Hp) (R:It->Hp->Prop),Inv X pins σ H s->wi σ H R->
  wpAny (model X.prog X.w) X.A (eval iter X.env) (fun v s1=>wpAny (model X.prog X.w) X.A (pyIter v) (PIE X pins σ tg R) X.xe s1) X.xe s
theorem go_of {M:Model}{A:Around}{E:Value->Shared->Prop}{s:Shared}{tg:Expr}{it:Addr}{u:Value}{o:Obj}{n:String}{vs:Array Value}{Q:Unit->Shared->Prop}(ho:s.heap.get? it=some o)(hc:o.cls= .type n)(hd:o.data= .fields vs)
  (hn:["enumerate","zip","dict_itemiterator","dict_reverseitemiterator","odict_iterator","itertools.zip_longest","itertools.pairwise"].contains n=false)(hQ:Q () s):wpAny M A (letOwnedTupleGo tg (.ref it) u) Q E s:=by
 unfold letOwnedTupleGo
 cases tg<;>first
  |exact wpAny_pure hQ
  |(cases u<;>first
    |exact wpAny_pure hQ
    |(refine wpAny_bind (wpAny_load ho ?_)
      rw[hc,hd]
      show wpAny M A (if (["enumerate","zip","dict_itemiterator","dict_reverseitemiterator","odict_iterator","itertools.zip_longest","itertools.pairwise"].contains n&&vs[0]? ==some (rawInt _))=true then _ else _) Q E s
      rw[if_neg (by intro h;rw[hn,Bool.false_and] at h;cases h)]
      exact wpAny_pure hQ))
def Itl (K:PySem.W.Frag)(a:Addr):It:=
 ⟨fun i H=>∃xs x,SqL K H a xs/\xs[i]? =some x,fun i H x H'=>H'=H/\∀xs,SqL K H a xs->xs[i]? =some x,fun i H=>∃xs,SqL K H a xs/\xs.length<=i⟩
def Itt (K:PySem.W.Frag)(a:Addr):It:=
 ⟨fun i H=>∃xs x,SqT K H a xs/\xs[i]? =some x,fun i H x H'=>H'=H/\∀xs,SqT K H a xs->xs[i]? =some x,fun i H=>∃xs,SqT K H a xs/\xs.length<=i⟩
def Itr (lo:Int)(n:Nat):It:=⟨fun i _=>i<n,fun i H x H'=>H'=H/\x= .int (lo+i),fun i _=>n<=i⟩
theorem q7y {P:Program}{w:World}{K:PySem.W.Frag}{tg:Expr}(a it:Addr):Turn P w K tg (Itl K a) [it] it (fun i h=>h.IsListIter it a i) where
 mem:=by simp
 obj:=fun i h st b hb=>by
  have e:b=it:=by simpa using hb
  subst e
  obtain⟨o,e,c,d⟩:=st
  exact⟨o,e,fun v z=>by rw[d] at z;cases z⟩
 keep:=fun i h h' st k=>st.at fun o e=>k it (by simp) o e
 item:=by
  intro X hP hw hK hc i pins s σ H E I hf st hg
  subst hP hw hK
  obtain⟨xs,x,hq,hx⟩:=hg
  obtain⟨its,rv,p,hz⟩:=I.list hq
  obtain⟨u,hu,ru⟩:=rv.get hx
  obtain⟨f0,f1,f2,f3,f4,f5⟩:=hf it (by simp)
  refine wpAny_pyNext_list_item st p.isList (x:=u) (by simpa using hu) fun h' st' sb=>?_
  have I1:Inv X pins σ H {s with heap:=h'}:=I.turned (t':=s.toks) (fun b o hb e=>(sb.2 b hb).trans e) f0 f1 f3 f4 f5
  obtain⟨o,e,c,d⟩:=id st'
  exact⟨u,rfl,go_of (s:={s with heap:=h'}) e c d (by decide) ⟨x,H,I1,ru,⟨rfl,fun ys hy=>by rw[I.list_inj hy hq];exact hx⟩,st',fun b hb=>(hf b hb).1⟩⟩
 done:=by
  intro X hP hw hK hc i pins s σ H E I hf st hg
  subst hP hw hK
  obtain⟨xs,hq,hx⟩:=hg
  obtain⟨its,rv,p,hz⟩:=I.list hq
  obtain⟨f0,f1,f2,f3,f4,f5⟩:=hf it (by simp)
  have hl:=rv.length
  exact wpAny_pyNext_list_end (I.ok.hd hc) st p.isList (by simp;omega) fun h' eb=>⟨rfl,I.turned (t':=s.toks) (fun b o hb e=>eb b o hb e) f0 f1 f3 f4 f5⟩
 self:=fun _ _ _ _ _ st h=>wpAny_pyIter_listiter st h
theorem q6U {P:Program}{w:World}{K:PySem.W.Frag}{tg:Expr}(a it:Addr):Turn P w K tg (Itt K a) [it] it (fun i h=>h.IsTupleIter it a i) where
 mem:=by simp
 obj:=fun i h st b hb=>by
  have e:b=it:=by simpa using hb
  subst e
  obtain⟨o,e,c,d⟩:=st
  exact⟨o,e,fun v z=>by rw[d] at z;cases z⟩
 keep:=fun i h h' st k=>st.at fun o e=>k it (by simp) o e
 item:=by
  intro X hP hw hK hc i pins s σ H E I hf st hg
  subst hP hw hK
  obtain⟨xs,x,hq,hx⟩:=hg
  obtain⟨its,rv,p,hz⟩:=I.tuple hq
  obtain⟨u,hu,ru⟩:=rv.get hx
  obtain⟨f0,f1,f2,f3,f4,f5⟩:=hf it (by simp)
  refine wpAny_pyNext_tuple_item st (show s.heap.IsTuple a its.toArray from p) (x:=u) (by simpa using hu) fun h' st' sb=>?_
  have I1:Inv X pins σ H {s with heap:=h'}:=I.turned (t':=s.toks) (fun b o hb e=>(sb.2 b hb).trans e) f0 f1 f3 f4 f5
  obtain⟨o,e,c,d⟩:=id st'
  exact⟨u,rfl,go_of (s:={s with heap:=h'}) e c d (by decide) ⟨x,H,I1,ru,⟨rfl,fun ys hy=>by rw[I.tuple_inj hy hq];exact hx⟩,st',fun b hb=>(hf b hb).1⟩⟩
 done:=by
  intro X hP hw hK hc i pins s σ H E I hf st hg
  subst hP hw hK
  obtain⟨xs,hq,hx⟩:=hg
  obtain⟨its,rv,p,hz⟩:=I.tuple hq
  obtain⟨f0,f1,f2,f3,f4,f5⟩:=hf it (by simp)
  have hl:=rv.length
  exact wpAny_pyNext_tuple_end (I.ok.hd hc) st (show s.heap.IsTuple a its.toArray from p) (by simp;omega) fun h' eb=>⟨rfl,I.turned (t':=s.toks) (fun b o hb e=>eb b o hb e) f0 f1 f3 f4 f5⟩
 self:=fun _ _ _ _ _ st h=>wpAny_pyIter_tupleiter st h
theorem q6V {P:Program}{w:World}{K:PySem.W.Frag}{tg:Expr}(it:Addr)(lo:Int)(n:Nat):Turn P w K tg (Itr lo n) [it] it (fun i h=>IsRangeIter h it (lo+(i:Nat)*1) ((n:Int) - (i:Nat)) 1) where
 mem:=by simp
 obj:=fun i h st b hb=>by
  have e:b=it:=by simpa using hb
  subst e
  exact⟨_,st,fun v z=>by
   have z':Data.fields _=Data.cell v:=z
   cases z'⟩
 keep:=fun i h h' st k=>k it (by simp) _ st
 item:=by
  intro X hP hw hK hc i pins s σ H E I hf st hg
  subst hP hw hK
  obtain⟨f0,f1,f2,f3,f4,f5⟩:=hf it (by simp)
  have W:=Walks.range (prog:=X.prog) (w:=X.w) (I.ok.hd hc) it lo 1 n
  refine W.item i s _ _ hg st fun v h' tk hv st' kk=>?_
  obtain⟨t,rfl⟩:=hv
  have I1:Inv X pins σ H {s with heap:=h',toks:=tk}:=I.turned (fun b o hb e=>kk b o (by simpa using hb) e) f0 f1 f3 f4 f5
  refine⟨_,rfl,go_of (s:={s with heap:=h',toks:=tk}) (n:="range_iterator") st' rfl rfl (by decide) ⟨.int (lo+i),H,I1,⟨t,?_⟩,⟨rfl,rfl⟩,st',fun b hb=>(hf b hb).1⟩⟩
  rw[Int.mul_one]
 done:=by
  intro X hP hw hK hc i pins s σ H E I hf st hg
  subst hP hw hK
  obtain⟨f0,f1,f2,f3,f4,f5⟩:=hf it (by simp)
  exact wpAny_pyNext_range_end (I.ok.hd hc) st (by have:n<=i:=hg;omega) fun h' eb=>⟨rfl,I.turned (t':=s.toks) (fun b o hb e=>eb b o hb e) f0 f1 f3 f4 f5⟩
 self:=fun _ _ _ _ _ st h=>wpAny_pyIter_rangeiter st h
end L2
namespace L2
open PySem PySem.Spec PyProof.Rows
section
variable {X:Cx}{tg:Expr}
def qbV (K:PySem.W.Frag)(tl:TE):TI:=fun σ H R=>tl σ H fun x H1=>∃a,x= .ref a/\(∃xs,SqL K H1 a xs)/\R (Itl K a) H1
def iTup (K:PySem.W.Frag)(tl:TE):TI:=fun σ H R=>tl σ H fun x H1=>∃a,x= .ref a/\(∃xs,SqT K H1 a xs)/\R (Itt K a) H1
theorem qbs {l:Expr}{tl:TE}(hl:PE X l tl):PI X tg l (qbV X.K tl):=by
 intro pins s σ H R I h
 refine thn (hl pins s σ H _ I h) fun v s1 ⟨x,H1,I1,r1,q1⟩=>?_
 obtain⟨a,e,⟨xs,hq⟩,q⟩:=q1
 subst e
 cases r1
 obtain⟨its,rv,p,hz⟩:=I1.list hq
 refine wpAny_pyIter_list p.isList ?_
 refine⟨s1.heap.objs.size,[s1.heap.objs.size],_,_,H1,rfl,I1.kept (t':=s1.toks) fun b o e=>Heap.get?_push_of_some _ e,q7y a _,⟨_,Heap.get?_push_size _ rfl,rfl,rfl⟩,fun b hb=>?_,q⟩
 have e:b=s1.heap.objs.size:=by simpa using hb
 subst e
 exact I1.fpOk (Nat.le_refl _) (I1.hok.fresh (Nat.le_refl _))
theorem pi_tup {l:Expr}{tl:TE}(hl:PE X l tl):PI X tg l (iTup X.K tl):=by
 intro pins s σ H R I h
 refine thn (hl pins s σ H _ I h) fun v s1 ⟨x,H1,I1,r1,q1⟩=>?_
 obtain⟨a,e,⟨xs,hq⟩,q⟩:=q1
 subst e
 cases r1
 obtain⟨its,rv,p,hz⟩:=I1.tuple hq
 refine wpAny_pyIter_tuple (show s1.heap.IsTuple a its.toArray from p) ?_
 refine⟨s1.heap.objs.size,[s1.heap.objs.size],_,_,H1,rfl,I1.kept (t':=s1.toks) fun b o e=>Heap.get?_push_of_some _ e,q6U a _,⟨_,Heap.get?_push_size _ rfl,rfl,rfl⟩,fun b hb=>?_,q⟩
 have e:b=s1.heap.objs.size:=by simpa using hb
 subst e
 exact I1.fpOk (Nat.le_refl _) (I1.hok.fresh (Nat.le_refl _))
theorem q9q {pins:List (Addr×Obj)}{σ:St}{H:Hp}{s:Shared}{R:It->Hp->Prop}{E:Value->Shared->Prop}{lo hi:Int}{t u v:Tok}{tk:Nat}(I:Inv X pins σ H s)(h1: -(2 ^ 62)<=lo)(h2:lo<2 ^ 62)(h3: -(2 ^ 62)<=hi)(h4:hi<2 ^ 62)
  (q:R (Itr lo (hi - lo).toNat) H):wpAny (model X.prog X.w) X.A (pyIter (.ref s.heap.objs.size)) (PIE X pins σ tg R) E {s with heap:=s.heap.push {cls:= .type "range",data:= .fields #[.int lo t,.int hi u,.int 1 v]},toks:=tk}:=by
 refine wpAny_pyIter_range (IsRange.new ..) (small_one h1 h2 h3 h4) ?_
 have I1:Inv X pins σ H {s with heap:=s.heap.push {cls:= .type "range",data:= .fields #[.int lo t,.int hi u,.int 1 v]},toks:=tk}:=I.kept fun b o e=>Heap.get?_push_of_some _ e
 refine⟨(s.heap.push {cls:= .type "range",data:= .fields #[.int lo t,.int hi u,.int 1 v]}).objs.size,[(s.heap.push {cls:= .type "range",data:= .fields #[.int lo t,.int hi u,.int 1 v]}).objs.size],_,_,H,rfl,
  I1.kept (t':=tk) fun b o e=>Heap.get?_push_of_some _ e,q6V _ lo (hi - lo).toNat,?_,fun b hb=>?_,q⟩
 ·have e1:lo+((0:Nat):Int)*1=lo:=by simp
  have e2:(((hi - lo).toNat:Nat):Int) - ((0:Nat):Int)=Builtin.Range.rangeSize lo hi 1:=by rw[rangeSize_one];split<;>omega
  show IsRangeIter _ _ (lo+((0:Nat):Int)*1) ((((hi - lo).toNat:Nat):Int) - ((0:Nat):Int)) 1
  rw[e1,e2]
  exact Heap.get?_push_size _ rfl
 ·have e:b=(s.heap.push {cls:= .type "range",data:= .fields #[.int lo t,.int hi u,.int 1 v]}).objs.size:=by simpa using hb
  subst e
  exact I1.fpOk (Nat.le_refl _) (I1.hok.fresh (Nat.le_refl _))
def iRng1 (ta:TA):TI:=fun σ H R=>ta σ H fun vs H1=>∃j:Int,vs=[.int j]/\ -(2 ^ 62)<=j/\j<2 ^ 62/\R (Itr 0 j.toNat) H1
theorem q06 {a:Expr}{ta:TA}{p pos:Pos}(hg:Gl X "range")(hm:X.mg "range"=none)(ha:PA X [a] ta)(hs:starEach [a] X.env=[(false,eval a X.env)]:=by rfl):PI X tg (.Call (.Name "range" p) [a] [] pos) (iRng1 ta):=by
 intro pins s σ H R I h
 refine Call_ (q2V I hg hm boot_range (PyProof.Rows.callWith_type1 (thn (ha pos pins s σ H _ I h) fun us s1 ⟨vs,H1,I1,r1,q1⟩=>?_) hs rfl))
 obtain⟨j,e,q1,q2,q⟩:=q1
 subst e
 cases r1 with
 |cons r rr=>
  cases rr
  obtain⟨t,rfl⟩:=r
  exact call_range_1 (q9q I1 (by omega) (by omega) q1 q2 (by simpa using q))
def tFor (wi:TI)(g:TG)(tb:TS):TS:=fun D σ H=>wi σ H fun J H1=>∃W:Nat->Nat->St->Hp->Prop,(∃m,W 0 m σ H1)/\∀i m σ H,W i m σ H->
 (J.stop i H/\D.nx σ H)\/(J.go i H/\∃N:St->Hp->Prop,(∀σ' H',N σ' H'->∃m',m'<m/\W (i+1) m' σ' H')/\∀x H',J.yld i H x H'->g x σ H' fun σ2 H2=>tb {D with nx:=N,ct:=N,bk:=D.nx} σ2 H2)
def q5r (fp:List Addr)(h:Heap):List (Addr×Obj):=fp.filterMap fun b=>(h.get? b).map fun o=>(b,o)
theorem q1S {fp:List Addr}{h:Heap}{b:Addr}{o:Obj}(hb:b∈fp)(e:h.get? b=some o):(b,o)∈q5r fp h:=List.mem_filterMap.mpr ⟨b,hb,by rw[e];rfl⟩
theorem q8a {fp:List Addr}{h:Heap}{p:Addr×Obj}(hp:p∈q5r fp h):p.1∈fp/\h.get? p.1=some p.2:=by
 obtain⟨b,hb,e⟩:=List.mem_filterMap.mp hp
 cases q:h.get? b with
 |none=>rw[q] at e;cases e
 |some o=>
  rw[q] at e
  have e':(b,o)=p:=Option.some.inj e
  subst e'
  exact⟨hb,q⟩
theorem Inv.pinned {pins:List (Addr×Obj)}{σ:St}{H:Hp}{s:Shared}{fp:List Addr}(I:Inv X pins σ H s)(hf:∀b∈fp,FpOk X pins H b)(ho:∀b∈fp,∃o,s.heap.get? b=some o/\∀v,o.data≠ .cell v):Inv X (pins++q5r fp s.heap) σ H s:=
 I.pins_of fun p hp=>(List.mem_append.mp hp).elim (fun z=>I.pin p (List.mem_append_right _ z)) fun z=>by
  obtain⟨hb,e⟩:=q8a z
  obtain⟨f0,f1,f2,_⟩:=hf p.1 hb
  obtain⟨o,e',d⟩:=ho p.1 hb
  rw[e] at e';cases e'
  exact⟨e,f0,f1,f2,d⟩
theorem Inv.unpinned {pins pl:List (Addr×Obj)}{σ:St}{H:Hp}{s:Shared}(I:Inv X (pins++pl) σ H s):Inv X pins σ H s:=I.pins_of fun p hp=>I.pin p (List.mem_append_right _ (List.mem_append_left _ hp))
theorem q1b {iter:Expr}{body:List Stmt}{wi:TI}{g:TG}{tb:TS}{pos:Pos}(hp:PassesOwn (model X.prog X.w) X.A X.env X.xe)(hc:X.calm=true)(hi:PI X tg iter wi)(hg:PG X tg g)(hb:PSs X body tb)
  (hs:∀x,foldedSetIterable iter X.env x=pure x:=by intro _;rfl):PS X (.For tg iter body [] pos) (tFor wi g tb):=by
 intro pins s σ H D I h
 refine wpAny_For (thn (hi pins s σ H _ I h) fun v s1 h1=>thn h1 fun itv s2 h2=>?_) hs
 obtain⟨it,fp,tn,J,H2,e,I2,T,st2,f2,W,⟨m0,w0⟩,turn⟩:=h2
 subst e
 -- what stays true of the iterator's objects through the loop
 have stat:∀{H':Hp},(∀b∈fp,H' b=none)->∀b∈fp,FpOk X pins H' b:=fun hn b hb=>⟨hn b hb,(f2 b hb).2⟩
 refine codeAny_forLoop_any (fun n s'=>∃i σ' H',Inv X pins σ' H' s'/\tn i s'.heap/\(∀b∈fp,H' b=none)/\W i n σ' H') ?_ m0 ⟨0,σ,H2,I2,st2,fun b hb=>(f2 b hb).1,w0⟩
 rintro n s3 ⟨i,σ3,H3,I3,st3,fr3,w3⟩
 rcases turn i n σ3 H3 w3 with⟨stop,qn⟩|⟨go,N,hN,step⟩
 ·refine wpAny_passesOwn hp (thn (T.done X rfl rfl rfl hc i pins s3 σ3 H3 X.xe I3 (stat fr3) st3 stop) fun r s4 ⟨hr,I4⟩=>?_)
  subst hr
  exact wpAny_execs_nil ⟨σ3,H3,I4,qn⟩
 ·refine wpAny_passesOwn hp (thn (T.item X rfl rfl rfl hc i pins s3 σ3 H3 X.xe I3 (stat fr3) st3 go) fun r s4 ⟨u,hr,h4⟩=>?_)
  subst hr
  refine wpAny_passesOwn hp (thn h4 fun _ s5 ⟨x,H5,I5,r5,y5,st5,fr5⟩=>?_)
  have I5':=I5.pinned (stat fr5) (T.obj _ _ st5)
  refine wpAny_passesOwn hp (thn (hg _ s5 σ3 H5 x u _ I5' r5 (step x H5 y5)) fun _ s6 ⟨σ6,H6,I6,q6⟩=>?_)
  refine wpAny_passesOwn hp (thn (hb _ s6 σ6 H6 _ I6 q6) fun f s7 q7=>?_)
  have again:∀{σ7:St} {H7:Hp},Inv X (pins++q5r fp s5.heap) σ7 H7 s7->N σ7 H7->∃m,m<n/\∃i σ' H',Inv X pins σ' H' s7/\tn i s7.heap/\(∀b∈fp,H' b=none)/\W i m σ' H':=fun {σ7 H7} I7 n7=>by
   obtain⟨m',hm,w7⟩:=hN σ7 H7 n7
   refine⟨m',hm,i+1,σ7,H7,I7.unpinned,T.keep _ _ _ st5 fun b hb o e=>(I7.pin (b,o) (List.mem_append_right _ (List.mem_append_right _ (q1S hb e)))).1,fun b hb=>?_,w7⟩
   obtain⟨o,e,d⟩:=T.obj _ _ st5 b hb
   exact(I7.pin (b,o) (List.mem_append_right _ (List.mem_append_right _ (q1S hb e)))).2.1
  cases f with
  |next=>obtain⟨σ7,H7,I7,n7⟩:=q7;exact again I7 n7
  |cont=>obtain⟨σ7,H7,I7,n7⟩:=q7;exact again I7 n7
  |brk=>obtain⟨σ7,H7,I7,q7⟩:=q7;exact⟨σ7,H7,I7.unpinned,q7⟩
  |ret v=>obtain⟨x7,σ7,H7,I7,r7,q7⟩:=q7;exact⟨x7,σ7,H7,I7.unpinned,r7,q7⟩
end
end L2
namespace L2
open PySem PySem.Spec PyProof.Rows
abbrev R2:=V->V->Hp->VK->Prop
def OpR (X:Cx)(f:Value->Value->Sem Value)(r:R2):Prop:=
 ∀(pins:List (Addr×Obj)) (s:Shared) (σ:St) (H:Hp) (x y:V) (v u:Value) (Q:VK),Inv X pins σ H s->RelV x v->RelV y u->r x y H Q->
  wpAny (model X.prog X.w) X.A (f v u) (EP X pins σ Q) X.xe s
def q1Y (X:Cx)(f:Value)(r:List V->Hp->VK->Prop):Prop:=
 ∀(pins:List (Addr×Obj)) (s:Shared) (σ:St) (H:Hp) (xs:List V) (us:List Value) (Q:VK),Inv X pins σ H s->Vals xs us->r xs H Q->
  wpAny (model X.prog X.w) X.A (call f us) (EP X pins σ Q) X.xe s
def tOp (r:R2)(ta tb:TE):TE:=fun σ H Q=>ta σ H fun x H1=>tb σ H1 fun y H2=>r x y H2 Q
def rI (C:Int->Int->Prop)(g:Int->Int->V):R2:=fun x y H Q=>∃i j,x= .int i/\y= .int j/\C i j/\Q (g i j) H
def rI0 (g:Int->Int->V):R2:=fun x y H Q=>∃i j,x= .int i/\y= .int j/\Q (g i j) H
section
variable {X:Cx}{a b c:Expr}{ta tb tc:TE}{pos:Pos}
theorem binT (ha:PE X a ta)(hb:PE X b tb){pins:List (Addr×Obj)}{s:Shared}{σ:St}{H:Hp}{R:V->V->Hp->Prop}(I:Inv X pins σ H s)
  (h:ta σ H fun x H1=>tb σ H1 fun y H2=>R x y H2){Q:Value->Shared->Prop}{f:Value->Value->Sem Value}
  (hf:∀v u s2 x y H2,Inv X pins σ H2 s2->RelV x v->RelV y u->R x y H2->wpAny (model X.prog X.w) X.A (f v u) Q X.xe s2):
  wpAny (model X.prog X.w) X.A (eval a X.env) (fun v s₁=>wpAny (model X.prog X.w) X.A (eval b X.env) (fun u s₂=>wpAny (model X.prog X.w) X.A (f v u) Q X.xe s₂) X.xe s₁) X.xe s:=by
 refine thn (ha pins s σ H _ I h) fun v s1 ⟨x,H1,I1,r1,q1⟩=>?_
 refine thn (hb pins s1 σ H1 _ I1 q1) fun u s2 ⟨y,H2,I2,r2,q2⟩=>?_
 exact hf v u s2 x y H2 I2 r1 r2 q2
theorem qw {op:Operator}{r:R2}(ho:OpR X (binaryOp op) r)(ha:PE X a ta)(hb:PE X b tb):PE X (.BinOp a op b pos) (tOp r ta tb):=by
 intro pins s σ H Q I h
 exact wpAny_BinOp (binT ha hb I h fun v u s2 x y H2 I2 rx ry q=>ho pins s2 σ H2 x y v u Q I2 rx ry q)
theorem opI {f:Value->Value->Sem Value}{C:Int->Int->Prop}{g:Int->Int->Int}
  (rule:∀(i j:Int) (t u:Tok) (s:Shared) (Q:Value->Shared->Prop) (E:Value->Shared->Prop),C i j->Q (.int (g i j) s.toks) {s with toks:=s.toks+1}->wpAny (model X.prog X.w) X.A (f (.int i t) (.int j u)) Q E s):
  OpR X f (rI C fun i j=> .int (g i j)):=by
 intro pins s σ H x y v u Q I rx ry h
 obtain⟨i,j,rfl,rfl,hc,q⟩:=h
 obtain⟨t,rfl⟩:=rx
 obtain⟨t',rfl⟩:=ry
 exact rule i j t t' s _ _ hc ⟨.int (g i j),H,I.tok _,⟨_,rfl⟩,q⟩
theorem opI0 {f:Value->Value->Sem Value}{g:Int->Int->Int}
  (rule:∀(i j:Int) (t u:Tok) (s:Shared) (Q:Value->Shared->Prop) (E:Value->Shared->Prop),Q (.int (g i j) s.toks) {s with toks:=s.toks+1}->wpAny (model X.prog X.w) X.A (f (.int i t) (.int j u)) Q E s):
  OpR X f (rI0 fun i j=> .int (g i j)):=by
 intro pins s σ H x y v u Q I rx ry h
 obtain⟨i,j,rfl,rfl,q⟩:=h
 obtain⟨t,rfl⟩:=rx
 obtain⟨t',rfl⟩:=ry
 exact rule i j t t' s _ _ ⟨.int (g i j),H,I.tok _,⟨_,rfl⟩,q⟩
theorem opB0 {f:Value->Value->Sem Value}{g:Int->Int->Bool}
  (rule:∀(i j:Int) (t u:Tok) (s:Shared) (Q:Value->Shared->Prop) (E:Value->Shared->Prop),Q (.bool (g i j)) s->wpAny (model X.prog X.w) X.A (f (.int i t) (.int j u)) Q E s):
  OpR X f (rI0 fun i j=> .bl (g i j)):=by
 intro pins s σ H x y v u Q I rx ry h
 obtain⟨i,j,rfl,rfl,q⟩:=h
 obtain⟨t,rfl⟩:=rx
 obtain⟨t',rfl⟩:=ry
 exact rule i j t t' s _ _ ⟨.bl (g i j),H,I,rfl,q⟩
def CDiv (i j:Int):Prop:=0<j/\j<1073741824
def CPow (i j:Int):Prop:=0<=j/\j<=1000000/\i.natAbs<2 ^ 64
def CMul (i j:Int):Prop:=(-(2 ^ 64)<i/\i<2 ^ 64)\/(-(2 ^ 64)<j/\j<2 ^ 64)
theorem CMul.ok {i j:Int}(h:CMul i j):IntMulOk i j:=by
 rcases h with⟨h1,h2⟩|⟨h1,h2⟩
 ·exact .of_left (intBits_le_64 h1 h2)
 ·exact .of_right (intBits_le_64 h1 h2)
theorem two_pow_nn (k:Nat):(0:Int)<=2 ^ k:=by
 rw[two_pow_cast]
 exact Int.natCast_nonneg _
theorem q1c:OpR X (binaryOp .Add) (rI0 fun i j=> .int (i+j)):=opI0 fun _ _ _ _ _ _ _ q=>add_int q
theorem q3r:OpR X (binaryOp .Sub) (rI0 fun i j=> .int (i - j)):=opI0 fun _ _ _ _ _ _ _ q=>sub_int q
theorem op_mul:OpR X (binaryOp .Mult) (rI CMul fun i j=> .int (i*j)):=opI fun _ _ _ _ _ _ _ hc q=>mul_int q hc.ok
theorem q08:OpR X (binaryOp .FloorDiv) (rI CDiv fun i j=> .int (i / j)):=opI fun i j _ _ _ _ _ hc q=>by
 have h1:(0:Int)<j:=hc.1
 have h2:j<1073741824:=hc.2
 exact floordiv_int (by omega) (by rw[Int.fdiv_eq_ediv_of_nonneg i (by omega)];exact q) (.inl (PyProof.noPylong_small (by omega)))
theorem qW:OpR X (binaryOp .Mod) (rI (fun _ j=>0<j) fun i j=> .int (i % j)):=opI fun i j _ _ _ _ _ hc q=>by
 have h1:(0:Int)<j:=hc
 exact mod_int' (by omega) (by rw[Int.fmod_eq_emod_of_nonneg i (by omega)];exact q)
theorem qaH:OpR X (binaryOp .LShift) (rI CPow fun i j=> .int (i*2 ^ j.toNat)):=opI fun _ _ _ _ _ _ _ hc q=>lshift_int_small hc.1 hc.2.1 hc.2.2 q
theorem op_shr:OpR X (binaryOp .RShift) (rI (fun _ j=>0<=j) fun i j=> .int (i / 2 ^ j.toNat)):=opI fun i j _ _ _ _ _ hc q=>
 rshift_int hc (by rw[Int.fdiv_eq_ediv_of_nonneg i (two_pow_nn _)];exact q)
theorem op_and:OpR X (binaryOp .BitAnd) (rI0 fun i j=> .int (Builtin.bitAnd i j)):=opI0 fun _ _ _ _ _ _ _ q=>and_int q
theorem op_or:OpR X (binaryOp .BitOr) (rI0 fun i j=> .int (Builtin.bitOr i j)):=opI0 fun _ _ _ _ _ _ _ q=>or_int q
theorem op_xor:OpR X (binaryOp .BitXor) (rI0 fun i j=> .int (Builtin.bitXor i j)):=opI0 fun _ _ _ _ _ _ _ q=>xor_int q
end
def scal:V->V->Bool
 | .non,.non=>true| .non,.int _=>true| .int _,.non=>true| .non,.bl _=>true| .bl _,.non=>true| .non,.str _=>true| .str _,.non=>true
 | .int _,.int _=>true| .bl _,.bl _=>true| .str _,.str _=>true| .byt _,.byt _=>true
 | .int _,.str _=>true| .str _,.int _=>true| .bl _,.str _=>true| .str _,.bl _=>true
 |_,_=>false
def rEq:R2:=fun x y H Q=>scal x y=true/\Q (.bl (decide (x=y))) H
def rNe:R2:=fun x y H Q=>scal x y=true/\Q (.bl (!decide (x=y))) H
theorem q8M {i j:Int}:decide (V.int i=V.int j)=(i==j):=by
 rw[Bool.eq_iff_iff]
 simp
theorem qaN {i j:Bool}:decide (V.bl i=V.bl j)=(i==j):=by
 rw[Bool.eq_iff_iff]
 simp
theorem q8L {i j:Str}:decide (V.str i=V.str j)=(i==j):=by
 rw[Bool.eq_iff_iff]
 simp
theorem q8N {i j:Array UInt8}:decide (V.byt i=V.byt j)=(i.toList==j.toList):=by
 rw[Bool.eq_iff_iff]
 cases i
 cases j
 simp
section
variable {X:Cx}{a b c:Expr}{ta tb tc:TE}{pos:Pos}
theorem qO {pins:List (Addr×Obj)}{σ:St}{H:Hp}{s:Shared}{Q:VK}{k k':Bool}(I:Inv X pins σ H s)(q:Q (.bl k) H)(e:k=k'):EP X pins σ Q (.bool k') s:=by
 subst e
 exact⟨.bl k,H,I,rfl,q⟩
theorem q04:OpR X (compareOp .Eq) rEq:=by
 intro pins s σ H x y v u Q I rx ry h
 obtain⟨hs,q⟩:=h
 cases x with
 |non=>
  cases rx
  cases y with
  |non=>cases ry;exact PySem.EqNone.eq_none_none (qO I q (by simp))
  |bl j=>cases ry;exact PySem.EqNone.eq_none_bool (qO I q (by simp))
  |int j=>obtain⟨t',rfl⟩:=ry;exact PySem.EqNone.eq_none_int (qO I q (by simp))
  |str j=>obtain⟨t',rfl⟩:=ry;exact PySem.EqNone.eq_none_str (qO I q (by simp))
  |_=>exact absurd (show false=true from hs) Bool.false_ne_true
 |bl i=>
  cases rx
  cases y with
  |non=>cases ry;exact PySem.EqNone.eq_bool_none (qO I q (by simp))
  |bl j=>cases ry;exact eq_bool (qO I q qaN)
  |str j=>obtain⟨t',rfl⟩:=ry;exact PySem.EqMixed.eq_bool_str (qO I q (by simp))
  |_=>exact absurd (show false=true from hs) Bool.false_ne_true
 |int i=>
  obtain⟨t,rfl⟩:=rx
  cases y with
  |non=>cases ry;exact PySem.EqNone.eq_int_none (qO I q (by simp))
  |int j=>obtain⟨t',rfl⟩:=ry;exact eq_int (qO I q q8M)
  |str j=>obtain⟨t',rfl⟩:=ry;exact PySem.EqMixed.eq_int_str (qO I q (by simp))
  |_=>exact absurd (show false=true from hs) Bool.false_ne_true
 |str i=>
  obtain⟨t,rfl⟩:=rx
  cases y with
  |non=>cases ry;exact PySem.EqNone.eq_str_none (qO I q (by simp))
  |bl j=>cases ry;exact PySem.EqMixed.eq_str_bool (qO I q (by simp))
  |int j=>obtain⟨t',rfl⟩:=ry;exact PySem.EqMixed.eq_str_int (qO I q (by simp))
  |str j=>obtain⟨t',rfl⟩:=ry;exact eq_str (qO I q q8L)
  |_=>exact absurd (show false=true from hs) Bool.false_ne_true
 |byt i=>
  obtain⟨t,rfl⟩:=rx
  cases y with
  |byt j=>obtain⟨t',rfl⟩:=ry;exact PySem.W.eq_bytes (qO I q q8N)
  |_=>exact absurd (show false=true from hs) Bool.false_ne_true
 |_=>cases y<;>exact absurd (show false=true from hs) Bool.false_ne_true
theorem q78:OpR X (compareOp .NotEq) rNe:=by
 intro pins s σ H x y v u Q I rx ry h
 obtain⟨hs,q⟩:=h
 cases x with
 |non=>
  cases rx
  cases y with
  |non=>cases ry;exact PySem.EqNone.ne_none_none (qO I q (by simp))
  |bl j=>cases ry;exact PySem.EqNone.ne_none_bool (qO I q (by simp))
  |int j=>obtain⟨t',rfl⟩:=ry;exact PySem.EqNone.ne_none_int (qO I q (by simp))
  |str j=>obtain⟨t',rfl⟩:=ry;exact PySem.EqNone.ne_none_str (qO I q (by simp))
  |_=>exact absurd (show false=true from hs) Bool.false_ne_true
 |bl i=>
  cases rx
  cases y with
  |non=>cases ry;exact PySem.EqNone.ne_bool_none (qO I q (by simp))
  |bl j=>cases ry;exact ne_bool (qO I q (congrArg not qaN))
  |str j=>obtain⟨t',rfl⟩:=ry;exact PySem.EqMixed.ne_bool_str (qO I q (by simp))
  |_=>exact absurd (show false=true from hs) Bool.false_ne_true
 |int i=>
  obtain⟨t,rfl⟩:=rx
  cases y with
  |non=>cases ry;exact PySem.EqNone.ne_int_none (qO I q (by simp))
  |int j=>obtain⟨t',rfl⟩:=ry;exact ne_int (qO I q (congrArg not q8M))
  |str j=>obtain⟨t',rfl⟩:=ry;exact PySem.EqMixed.ne_int_str (qO I q (by simp))
  |_=>exact absurd (show false=true from hs) Bool.false_ne_true
 |str i=>
  obtain⟨t,rfl⟩:=rx
  cases y with
  |non=>cases ry;exact PySem.EqNone.ne_str_none (qO I q (by simp))
  |bl j=>cases ry;exact PySem.EqMixed.ne_str_bool (qO I q (by simp))
  |int j=>obtain⟨t',rfl⟩:=ry;exact PySem.EqMixed.ne_str_int (qO I q (by simp))
  |str j=>obtain⟨t',rfl⟩:=ry;exact ne_str (qO I q (congrArg not q8L))
  |_=>exact absurd (show false=true from hs) Bool.false_ne_true
 |byt i=>
  obtain⟨t,rfl⟩:=rx
  cases y with
  |byt j=>obtain⟨t',rfl⟩:=ry;exact PySem.W.ne_bytes (qO I q (congrArg not q8N))
  |_=>exact absurd (show false=true from hs) Bool.false_ne_true
 |_=>cases y<;>exact absurd (show false=true from hs) Bool.false_ne_true
theorem q9I:OpR X (compareOp .Lt) (rI0 fun i j=> .bl (decide (i<j))):=opB0 fun _ _ _ _ _ _ _ q=>lt_int q
theorem qbw:OpR X (compareOp .LtE) (rI0 fun i j=> .bl (decide (i<=j))):=opB0 fun _ _ _ _ _ _ _ q=>le_int q
theorem q3s:OpR X (compareOp .Gt) (rI0 fun i j=> .bl (decide (j<i))):=opB0 fun _ _ _ _ _ _ _ q=>gt_int q
theorem op_ge:OpR X (compareOp .GtE) (rI0 fun i j=> .bl (decide (j<=i))):=opB0 fun _ _ _ _ _ _ _ q=>ge_int q
theorem qq (b:Expr){op:CmpOp}(h:op≠ .In:=by decide)(h2:op≠ .NotIn:=by decide):behindInMarks op b=false:=by
 have e1:(op==CmpOp.In)=false:=by cases op<;>first|rfl|exact absurd rfl h
 have e2:(op==CmpOp.NotIn)=false:=by cases op<;>first|rfl|exact absurd rfl h2
 cases b<;>simp[behindInMarks,e1,e2]
theorem q07 {op:CmpOp}{r:R2}(ho:OpR X (compareOp op) r)(ha:PE X a ta)(hb:PE X b tb)(hm:behindInMarks op b=false):PE X (.Compare a [op] [b] pos) (tOp r ta tb):=by
 intro pins s σ H Q I h
 exact wpAny_Compare1 (binT ha hb I h fun v u s2 x y H2 I2 rx ry q=>ho pins s2 σ H2 x y v u Q I2 rx ry q) hm
def tTest (t:TE):TT:=fun σ H Q=>t σ H fun x H'=>∃k,x= .bl k/\Q k H'
theorem qt {op:CmpOp}{r:R2}(ho:OpR X (compareOp op) r)(ha:PE X a ta)(hb:PE X b tb)(hm:behindInMarks op b=false):PT X (.Compare a [op] [b] pos) (tTest (tOp r ta tb)):=by
 intro pins s σ H Q I h
 refine wpAny_isTrue_Compare1 (thn (ha pins s σ H _ I h) fun v s1 ⟨x,H1,I1,r1,q1⟩=>thn (hb pins s1 σ H1 _ I1 q1) fun u s2 ⟨y,H2,I2,r2,q2⟩=>
  thn (ho pins s2 σ H2 x y v u _ I2 r1 r2 q2) fun c s3 ⟨z,H3,I3,r3,k,e,q3⟩=>?_) hm
 subst e
 cases r3
 exact wpAny_truthy_bool ⟨H3,I3,q3⟩
def qav (r r':R2)(ta tb tc:TE):TE:=fun σ H Q=>ta σ H fun x H1=>tb σ H1 fun y H2=>r x y H2 fun z H3=>∃k,z= .bl k/\
 (if k=true then tc σ H3 fun w' H4=>r' y w' H4 Q else Q (.bl false) H3)
theorem q9G {op op':CmpOp}{r r':R2}(ho:OpR X (compareOp op) r)(ho':OpR X (compareOp op') r')(ha:PE X a ta)(hb:PE X b tb)(hc:PE X c tc)
  (hm:lastMarks [op,op'] [b,c]=false:=by with_unfolding_all rfl):PE X (.Compare a [op,op'] [b,c] pos) (qav r r' ta tb tc):=by
 intro pins s σ H Q I h
 refine Compare_chain (thn (ha pins s σ H _ I h) fun v s1 ⟨x,H1,I1,r1,q1⟩=>chain_link (thn (hb pins s1 σ H1 _ I1 q1) fun u s2 ⟨y,H2,I2,r2,q2⟩=>
  thn (ho pins s2 σ H2 x y v u _ I2 r1 r2 q2) fun d s3 ⟨z,H3,I3,r3,k,e,q3⟩=>?_)) hm
 subst e
 cases r3
 refine wpAny_truthy_bool ?_
 cases k with
 |false=>exact ite_ff ⟨.bl false,H3,I3,rfl,q3⟩
 |true=>exact ite_tt (chain_last (thn (hc pins s3 σ H3 _ I3 q3) fun w' s4 ⟨z',H4,I4,r4,q4⟩=>ho' pins s4 σ H4 y z' u w' Q I4 r2 r4 q4))
theorem q5t:(sizeLine:Nat)<2 ^ 63:=by rw[sizeLine_eq];decide
theorem q3J {x:V}{us:List Value}(r:Vals [x] us):∃u,us=[u]/\RelV x u:=by
 cases r with
 |cons r1 r2=>cases r2;exact⟨_,rfl,r1⟩
theorem qaW {x y:V}{us:List Value}(r:Vals [x,y] us):∃u w',us=[u,w']/\RelV x u/\RelV y w':=by
 cases r with
 |cons r1 r2=>
  cases r2 with
  |cons r3 r4=>cases r4;exact⟨_,_,rfl,r1,r3⟩
theorem q91:q1Y X (.type "int") (fun xs H Q=>(∃i,xs=[.int i]/\Q (.int i) H)\/∃k,xs=[.bl k]/\Q (.int (if k then 1 else 0)) H):=by
 intro pins s σ H xs us Q I r h
 rcases h with⟨i,rfl,q⟩|⟨k,rfl,q⟩
 ·obtain ⟨u,rfl,t,rfl⟩:=q3J r
  exact call_int_int ⟨.int i,H,I,⟨_,rfl⟩,q⟩
 ·obtain ⟨u,rfl,r1⟩:=q3J r
  cases r1
  exact call_int_bool ⟨.int (if k then 1 else 0),H,I.tok _,⟨_,rfl⟩,q⟩
end
end L2
namespace L2
open PySem PySem.Spec PyProof.Rows
structure ObjM (h:Heap)(x dx C:Addr)(mA:Str->Option Value):Prop where
 obj:h.get? x=some (PySem.W.instObj C dx)
 ns:h.Ns1 dx mA
 ne:dx≠x
theorem q8d {h:Heap}{dx:Addr}{mA:Str->Option Value}(n:h.Ns1 dx mA):∃od,h.get? dx=some od/\∀name,PySem.W.lookIn name od=some (mA name):=by
 obtain⟨o,es,ep,ho,hd,hk,_,hm⟩:=n
 refine⟨o,ho,fun name=>?_⟩
 have e:=hm name
 unfold nsFind findBy at e
 rw[<-Array.find?_toList] at e
 unfold PySem.W.lookIn
 rw[hd]
 dsimp only
 split
 ·rename_i y q
  rw[q] at e
  exact congrArg some e
 ·rename_i q
  rw[q] at e
  have a:es.toList.any (·.refKey)=false:=by
   rw[List.any_eq_false]
   intro y hy
   obtain⟨z,t,hkey⟩:=hk y (Array.mem_toList_iff.mp hy)
   simp[DictEntry.refKey,hkey]
  have a':¬es.toList.any (·.refKey)=true:=by rw[a];exact Bool.false_ne_true
  rw[if_neg a']
  exact congrArg some e
theorem ObjM.look {h:Heap}{x dx C:Addr}{mA:Str->Option Value}(I:ObjM h x dx C mA):∃od,PySem.W.InstAt h x (PySem.W.instObj C dx) C (some od)/\∀name,PySem.W.lookIn name od=some (mA name):=
 let ⟨od,ho,hl⟩:=q8d I.ns
 ⟨od,⟨I.obj,rfl,rfl,ho⟩,hl⟩
section
variable {prog:Program}{w:World}{A:Around}{E:Value->Shared->Prop}{s:Shared}{K:PySem.W.Frag}{x dx C f:Addr}{mA:Str->Option Value}{name:Str}{v:Value}
theorem qbW {expr:Bool}{Q:Value->Shared->Prop}(X:K.In s.heap)(I:ObjM s.heap x dx C mA)(hg:PySem.W.plainGet K C name=true)(hh:PySem.W.hasDictIn K C=true)
  (ha:PySem.W.findIn K (.ref C) name=some none)(hv:mA name=some v)(hv':PySem.W.handedIn v=true)(h:Q v {s with toks:=s.toks+1}):
  wpAny (model prog w) A (getAttr (.ref x) name expr) Q E s:=by
 obtain⟨od,J,hl⟩:=I.look
 exact PySem.W.get_value X J (PySem.W.plainGet_of hg).1 (PySem.W.findObj_own hh ha rfl (by rw[hl,hv])) hv' h
theorem qac {pl:Sem Bool}{Q:Value×List Value->Shared->Prop}(X:K.In s.heap)(I:ObjM s.heap x dx C mA)(hg:PySem.W.plainGet K C name=true)
  (hf:PySem.W.findIn K (.ref C) name=some (some (.ref f)))(ht:PySem.W.isFn K (.ref f)=true)(hv:mA name=none)(h:Q (.ref f,[.ref x]) s):
  wpAny (model prog w) A (getMethod (.ref x) name pl) Q E s:=by
 obtain⟨od,J,hl⟩:=I.look
 exact PySem.W.method_fn X J (PySem.W.plainGet_of hg).1 (PySem.W.plainGet_of hg).2 hf (beq_iff_eq.mp ht) (by show(PySem.W.lookIn name od).map (·.isSome)=some false;rw[hl,hv];rfl) h
theorem set_map {ns:List Str}{Q:Unit->Shared->Prop}(X:K.In s.heap)(I:ObjM s.heap x dx C mA)
  (hs:PySem.W.findIn K (.ref C) "__setattr__"=some (some (.builtin "object.__setattr__")))(hp:PySem.W.plainOver K C=true)(ht:PySem.W.takerIn K C name=some none)(hh:PySem.W.hasDictIn K C=true)
  (hw:PySem.Within mA ns)(hsz:ns.length<=sizeLine)
  (h:∀h',ObjM h' x dx C (fun y=>if y=name then some v else mA y)->Heap.SameBut dx s.heap h'->Q () {s with heap:=h',toks:=s.toks+2}):
  wpAny (model prog w) A (setAttr (.ref x) name v) Q E s:=by
 obtain⟨od,J,hl⟩:=I.look
 refine PySem.W.set_plain X J hs (PySem.W.osa_open (s:={s with toks:=s.toks+1}) (r:=none) X J hp ht fun b=>?_)
 obtain⟨cd,hc,hd'⟩:=PySem.W.any_some hh
 have hx:s.heap.get? x=some ⟨.ref C,some dx,.plain,#[]⟩:=I.obj
 refine wpAny_bind (wpAny_pure (wpAny_bind (wpAny_bind (wpAny_loadPart hx (wpAny_bind (PySem.W.Looks.here (s:={s with toks:=s.toks+1}) (PySem.W.looks_clsIn X hc) ?_))))))
 rw[hd']
 refine wpAny_pure (a:=some dx) (wpAny_bind (wpAny_pure (wpAny_bind ?_)))
 refine wpAny_nsSet1 (s:={s with toks:=s.toks+1}) I.ns fun h' hn2 hs2=>?_
 obtain⟨oD,esD,epD,hoD,hdD,hcD⟩:=hn2.count (PySem.Within.cons name v hw)
 refine wpAny_bind (wpAny_lookBehind hoD (by rw[hdD];exact pastItsLine_dict (Nat.le_trans hcD (by rw[List.length_cons];omega))) ?_)
 exact wpAny_pure (h _ ⟨(hs2.2 _ (Ne.symm I.ne)).trans I.obj,hn2,I.ne⟩ hs2)
theorem qa3 {R:Result->Shared->Prop}{vs:List Value}{kw:List (Str×Value)}(X:K.In s.heap)(hm:PySem.W.makesIn K C=true)
  (hi:PySem.W.findIn K (.ref C) "__init__"=some (some (.ref f)))(hf:PySem.W.typeIn K (.ref f)=some (.type "function"))
  (h:codeAny (model prog w) (A.under (.builtin "type.__call__" ⟨.ref C::vs,kw⟩)) (.call (.ref f) ⟨.ref (s.heap.objs.size+1)::vs,kw⟩) (PySem.W.InitBack (s.heap.objs.size+1) R)
   {s with heap:=(s.heap.push PySem.W.emptyDict).push (PySem.W.instObj C s.heap.objs.size)}):
  codeAny (model prog w) A (.call (.ref C) ⟨vs,kw⟩) R s:=by
 obtain⟨hh,g,d,t,os⟩:=s
 exact PySem.W.make_core (PySem.W.makes_of X hm) (PySem.W.looks_findIn X hi) (fun self=>PySem.W.bind_fn X self hf) (.inl rfl) h
end
def putF (f:Str)(v:V):List (Str×V)->List (Str×V)
 |[]=>[(f,v)]
 |(g,x)::r=>if g=f then(g,v)::r else(g,x)::putF f v r
theorem qE (f g:Str)(v:V):∀fs:List (Str×V),(putF f v fs).lookup g=if g=f then some v else fs.lookup g
 |[]=>by
  show List.lookup g [(f,v)]=_
  by_cases h:g=f
  ·have hb:(g==f)=true:=beq_iff_eq.mpr h
   simp only[List.lookup,hb,if_pos h]
  ·have hb:(g==f)=false:=beq_eq_false_iff_ne.mpr h
   simp only[List.lookup,hb,if_neg h]
 |(k,x)::r=>by
  have ih:=qE f g v r
  rw[show putF f v ((k,x)::r)=(if k=f then(k,v)::r else(k,x)::putF f v r) from rfl]
  by_cases hk:k=f
  ·rw [if_pos hk]
   by_cases h:g=k
   ·have hb:(g==k)=true:=beq_iff_eq.mpr h
    simp only[List.lookup,hb,if_pos (h.trans hk)]
   ·have hb:(g==k)=false:=beq_eq_false_iff_ne.mpr h
    simp only[List.lookup,hb,if_neg (fun e:g=f=>h (e.trans hk.symm))]
  ·rw [if_neg hk]
   by_cases h:g=k
   ·have hb:(g==k)=true:=beq_iff_eq.mpr h
    simp only[List.lookup,hb,if_neg (fun e:g=f=>hk (h.symm.trans e))]
   ·have hb:(g==k)=false:=beq_eq_false_iff_ne.mpr h
    simp only[List.lookup,hb]
    exact ih
theorem q3z (f:Str)(v:V):∀fs:List (Str×V),f∈(putF f v fs).map (·.1)/\∀g,g∈fs.map (·.1)->g∈(putF f v fs).map (·.1)
 |[]=>⟨by simp[putF],fun g h=>by simp at h⟩
 |(k,x)::r=>by
  obtain⟨i1,i2⟩:=q3z f v r
  rw[show putF f v ((k,x)::r)=(if k=f then(k,v)::r else(k,x)::putF f v r) from rfl]
  by_cases hk:k=f
  ·rw [if_pos hk]
   subst hk
   exact⟨by simp,fun g h=>by simpa using h⟩
  ·rw [if_neg hk]
   refine⟨?_,fun g h=>?_⟩
   ·rw [List.map_cons]
    exact List.mem_cons_of_mem _ i1
   ·rw [List.map_cons] at h ⊢
    rcases List.mem_cons.mp h with e|e
    ·exact List.mem_cons.mpr (.inl e)
    ·exact List.mem_cons_of_mem _ (i2 g e)
theorem q3x (f:Str)(v:V):∀fs:List (Str×V),(putF f v fs).length<=fs.length+1
 |[]=>by simp[putF]
 |(k,x)::r=>by
  have ih:=q3x f v r
  rw[show putF f v ((k,x)::r)=(if k=f then(k,v)::r else(k,x)::putF f v r) from rfl]
  by_cases hk:k=f
  ·rw [if_pos hk,List.length_cons,List.length_cons];omega
  ·rw [if_neg hk,List.length_cons,List.length_cons];omega
theorem RelO.some_of {v:V}{o:Option Value}(r:RelO (some v) o):∃u,o=some u/\RelV v u:=by
 cases o with
 |none=>exact(show False from r).elim
 |some u=>exact⟨u,rfl,r⟩
theorem RelO.none_of {o:Option Value}(r:RelO none o):o=none:=by
 cases o with
 |none=>rfl
 |some u=>exact(show False from r).elim
theorem q8v {v:V}{u:Value}(r:RelV v u):PySem.W.handedIn u=true:=by
 cases v with
 |non=>cases(show u=Value.none from r);rfl
 |bl b=>cases(show u=Value.bool b from r);rfl
 |int i=>obtain⟨t,e⟩:=(show∃t,u=Value.int i t from r);cases e;rfl
 |str x=>obtain⟨t,e⟩:=(show∃t,u=Value.str x t from r);cases e;rfl
 |byt b=>obtain⟨t,e⟩:=(show∃t,u=Value.bytes b t from r);cases e;rfl
 |flt b=>obtain⟨t,e⟩:=(show∃t,u=Value.float b t from r);cases e;rfl
 |ref a=>cases(show u=Value.ref a from r);rfl
 |ty n=>cases(show u=Value.type n from r);rfl
section
variable {P:Program}{w:World}{H H':Hp}{h h':Heap}{a C dx:Addr}{fs fs':List (Str×V)}
theorem q4y (hok:HOk P w H h)(e:H a=some (.ins C dx fs)):∃mA,ObjM h a dx C mA/\(∀f,RelO (fs.lookup f) (mA f))/\PySem.Within mA (fs.map (·.1))/\fs.length<=1000/\H dx=some (.own a):=by
 obtain⟨d,z,ne,ob,mA,n,r,q⟩:=(show q0a P w H h a (.ins C dx fs) from hok a _ e)
 exact⟨mA,⟨ob,n,ne⟩,r,q,z,d⟩
end
structure Cls (K:PySem.W.Frag)(C:Addr):Prop where
 pg:PySem.W.plainGet K C Str.empty=true
 hd:PySem.W.hasDictIn K C=true
 po:PySem.W.plainOver K C=true
 sa:PySem.W.findIn K (.ref C) "__setattr__"=some (some (.builtin "object.__setattr__"))
theorem Cls.get {K:PySem.W.Frag}{C:Addr}(c:Cls K C)(f:Str):PySem.W.plainGet K C f=true:=c.pg
def qy (K:PySem.W.Frag)(C:Addr)(f:Str):Prop:=PySem.W.findIn K (.ref C) f=some none
theorem qy.taker {K:PySem.W.Frag}{C:Addr}{f:Str}(n:qy K C f):PySem.W.takerIn K C f=some none:=by
 unfold PySem.W.takerIn
 rw[show PySem.W.findIn K (.ref C) f=some none from n]
 rfl
structure Meth (K:PySem.W.Frag)(C:Addr)(m:Str)(f:Addr):Prop where
 at_:PySem.W.findIn K (.ref C) m=some (some (.ref f))
 fn:PySem.W.isFn K (.ref f)=true
 kp:PySem.W.keepIn K (.ref f)=true
section
variable {X:Cx}{pins:List (Addr×Obj)}{σ:St}{H:Hp}{s:Shared}{a C dx:Addr}{fs:List (Str×V)}{f:Str}{v:V}{A:Around}{E:Value->Shared->Prop}
theorem q7m {b:Bool}{Q:Value->Shared->Prop}(I:Inv X pins σ H s)(e:H a=some (.ins C dx fs))(c:Cls X.K C)(n:qy X.K C f)(l:fs.lookup f=some v)
  (h:∀u s',Inv X pins σ H s'->RelV v u->Q u s'):wpAny (model X.prog X.w) A (getAttr (.ref a) f b) Q E s:=by
 obtain⟨mA,O,r,_,_,_⟩:=q4y I.hok e
 obtain⟨u,hu,ru⟩:=RelO.some_of (v:=v) (o:=mA f) (by rw[<-l];exact r f)
 exact qbW I.kIn O (c.get f) c.hd n hu (q8v ru) (h u _ (I.tok _) ru)
theorem q44 {m:Str}{g:Addr}{pl:Sem Bool}{Q:Value×List Value->Shared->Prop}(I:Inv X pins σ H s)(e:H a=some (.ins C dx fs))(c:Cls X.K C)(k:Meth X.K C m g)(l:fs.lookup m=none)
  (h:Q (.ref g,[.ref a]) s):wpAny (model X.prog X.w) A (getMethod (.ref a) m pl) Q E s:=by
 obtain⟨mA,O,r,_,_,_⟩:=q4y I.hok e
 have hn:mA m=none:=RelO.none_of (by rw[<-l];exact r m)
 exact qac I.kIn O (c.get m) k.at_ k.fn hn h
theorem q70 {y:V}{u:Value}{Q:Unit->Shared->Prop}(I:Inv X pins σ H s)(e:H a=some (.ins C dx fs))(c:Cls X.K C)(n:qy X.K C f)(hl:fs.length<1000)(ry:RelV y u)
  (h:∀s',Inv X pins σ (upd H a (.ins C dx (putF f y fs))) s'->Q () s'):wpAny (model X.prog X.w) A (setAttr (.ref a) f u) Q E s:=by
 obtain⟨mA,O,r,wi,_,ho⟩:=q4y I.hok e
 have hz:(fs.map (·.1)).length<=sizeLine:=by rw[List.length_map,sizeLine_eq];omega
 refine set_map I.kIn O c.sa c.po n.taker c.hd wi hz fun h' O' sb=>h _ ?_
 have hd:∃o,h'.get? dx=some o:=let ⟨o,_,_,e',_⟩:=O'.ns;⟨o,e'⟩
 refine I.write (x:=a) (e:=dx) (by rw[e];exact True.intro) (.inr ho) (fun b q hb z=>(sb.2 b hb).trans z) hd ?_
 refine⟨by rw[qj O.ne];exact ho,?_,O.ne,O'.obj,_,O'.ns,fun g=>?_,fun g hg=>?_⟩
 ·have:=q3x f y fs;omega
 ·show RelO ((putF f y fs).lookup g) (if g=f then some u else mA g)
  rw[qE]
  by_cases q:g=f
  ·rw [if_pos q,if_pos q];exact ry
  ·rw [if_neg q,if_neg q];exact r g
 ·by_cases q:g=f
  ·rw [q];exact(q3z f y fs).1
  ·refine (q3z f y fs).2 g (wi g fun z=>hg ?_)
   show(if g=f then some u else mA g)=none
   rw[if_neg q];exact z
theorem Inv.made (I:Inv X pins σ H s):Inv X pins σ (upd (upd H s.heap.objs.size (.own (s.heap.objs.size+1))) (s.heap.objs.size+1) (.ins C s.heap.objs.size []))
  {s with heap:=(s.heap.push PySem.W.emptyDict).push (PySem.W.instObj C s.heap.objs.size)}:=by
 have e1:(s.heap.push PySem.W.emptyDict).get? s.heap.objs.size=some PySem.W.emptyDict:=Heap.get?_push_size s.heap rfl
 have e2:((s.heap.push PySem.W.emptyDict).push (PySem.W.instObj C s.heap.objs.size)).get? (s.heap.objs.size+1)=some (PySem.W.instObj C s.heap.objs.size):=by
  have:=Heap.get?_push_size (s.heap.push PySem.W.emptyDict) (o:=PySem.W.instObj C s.heap.objs.size) rfl
  rwa [Heap.size_push] at this
 have e3:(s.heap.push PySem.W.emptyDict).Ns s.heap.objs.size (fun _=>none):=⟨PySem.W.emptyDict,#[],_,e1,rfl,(fun e he=>absurd he (by simp)),fun _=>rfl⟩
 have I1:=I.laid (a:=s.heap.objs.size) (o:= .own (s.heap.objs.size+1)) (h':=s.heap.push PySem.W.emptyDict) (t':=s.toks) (fun b u q=>Heap.get?_push_of_some _ q) (Nat.le_refl _) ⟨_,e1⟩
 refine I1.laid (a:=s.heap.objs.size+1) (o:= .ins C s.heap.objs.size []) (t':=s.toks) (fun b u q=>Heap.get?_push_of_some _ q) (Nat.le_of_eq (Heap.size_push _ _)) ?_
 have ne:s.heap.objs.size≠s.heap.objs.size+1:=Nat.ne_of_lt (Nat.lt_succ_self _)
 refine⟨by rw[qj ne,qb],Nat.zero_le _,ne,e2,fun _=>none,(Heap.Ns1.of_empty e3).at fun o q=>Heap.get?_push_of_some _ q,fun _=>True.intro,fun y hy=>absurd rfl hy⟩
theorem qcd {prog:Program}{w:World}{env:Env}{e:Expr}{f:Str}{pos:Pos}{s:Shared}{Q:Value->Shared->Prop}(hb:attributeBase e f env (eval e env)=eval e env)
  (h:wpAny (model prog w) A (eval e env) (fun o s₁=>wpAny (model prog w) A (getAttr o f true) Q E s₁) E s):wpAny (model prog w) A (eval (.Attribute e f pos) env) Q E s:=
 Attribute_any_ h (by rw[arm_eval_Attribute,hb])
end
def tFld (K:PySem.W.Frag)(ta:TE)(f:Str):TE:=fun σ H Q=>ta σ H fun x H1=>∃a C dx fs v,x= .ref a/\H1 a=some (.ins C dx fs)/\Cls K C/\qy K C f/\fs.lookup f=some v/\Q v H1
def sFld (K:PySem.W.Frag)(ta tv:TE)(f:Str):TS:=fun D σ H=>tv σ H fun y H1=>ta σ H1 fun x H2=>∃a C dx fs,x= .ref a/\H2 a=some (.ins C dx fs)/\Cls K C/\qy K C f/\fs.length<1000/\
 D.nx σ (upd H2 a (.ins C dx (putF f y fs)))
section
variable {X:Cx}{o e value:Expr}{f:Str}{pos pos' tpos:Pos}{ta tv:TE}
theorem pe_fld (he:PE X e ta)(hb:attributeBase e f X.env (eval e X.env)=eval e X.env):PE X (.Attribute e f pos) (tFld X.K ta f):=by
 intro pins s σ H Q I h
 refine qcd hb (thn (he pins s σ H _ I h) fun u s1 ⟨x,H1,I1,rx,a,C,dx,fs,v,ex,ea,c,n,l,q⟩=>?_)
 subst ex
 obtain rfl:u=Value.ref a:=rx
 exact q7m I1 ea c n l fun u' s2 I2 ru=>⟨v,H1,I2,ru,q⟩
theorem ps_fld (ha:PE X o ta)(hv:PE X value tv)(hs:swapsWith value (some (.Attribute o f pos')) pos.line X.env=pure false):PS X (.Assign [.Attribute o f pos'] value pos) (sFld X.K ta tv f):=by
 intro pins s σ H D I h
 refine plainObj_wpAny_Assign_Attribute (thn (hv pins s σ H _ I h) fun u s1 ⟨y,H1,I1,ry,q⟩=>thn (ha pins s1 σ H1 _ I1 q) fun ov s2 ⟨x,H2,I2,rx,a,C,dx,fs,ex,ea,c,n,l,q2⟩=>?_) hs
 subst ex
 obtain rfl:ov=Value.ref a:=rx
 exact q70 I2 ea c n l ry fun s3 I3=>⟨σ,_,I3,q2⟩
end
section
variable {X:Cx}{pins:List (Addr×Obj)}{σ:St}{H:Hp}{s:Shared}{A:Around}{E:Value->Shared->Prop}{Q:Value->Shared->Prop}{c:Value}{b:Bool}
inductive TyOf (K:PySem.W.Frag)(H:Hp):V->Value->Prop where
 |non:TyOf K H .non (.type "NoneType")
 |bl (x:Bool):TyOf K H (.bl x) (.type "bool")
 |int (i:Int):TyOf K H (.int i) (.type "int")
 |str (x:Str):TyOf K H (.str x) (.type "str")
 |flt (x:UInt64):TyOf K H (.flt x) (.type "float")
 |lst {a:Addr} {xs:List V} (e:H a=some (.lst xs)):TyOf K H (.ref a) (.type "list")
 |frz {a:Addr} {o:Obj} {xs:List V} (e:H a=some (.frz o (.lst xs))):TyOf K H (.ref a) (.type "list")
 |tup {a:Addr} {xs:List V} (e:H a=some (.tup xs)):TyOf K H (.ref a) (.type "tuple")
 |dK {a:Addr} {kvs:List (Key×V)} (e:H a=some (.dK kvs)):TyOf K H (.ref a) (.type "dict")
 |dT {a:Addr} {kvs:List (List Key×V)} (e:H a=some (.dT kvs)):TyOf K H (.ref a) (.type "dict")
 | ins {a C dx:Addr} {fs:List (Str×V)} (e:H a=some (.ins C dx fs)) (cl:Cls K C) (ha:PySem.W.findIn K (.ref C) "__class__"=some (some (.builtin "object.__class__")))
   (hn:PySem.W.specialIn K (.builtin "object.__class__") "__get__"=some (some (.builtin "getset_descriptor.__get__"))) (htk:PySem.W.takesIn K (.builtin "object.__class__")=some true)
   (hm:PySem.W.mroIn K C (.type "object")=some true):TyOf K H (.ref a) (.ref C)
theorem q8m {x:V}{u t:Value}(I:Inv X pins σ H s)(rx:RelV x u)(ty:TyOf X.K H x t)(e:PySem.W.kitOne X.K t c=some b)(h:∀tk,Q (.bool b) {s with toks:=tk}):
  wpAny (model X.prog X.w) A (call (.builtin "isinstance") [u,c]) Q E s:=by
 cases ty with
 |non=>cases(show u=Value.none from rx);exact PySem.W.kia_one PySem.W.kitx_none I.kIn True.intro e (fun z=>nomatch z) h
 |bl y=>cases(show u=Value.bool y from rx);exact PySem.W.kia_one PySem.W.kitx_bool I.kIn True.intro e (fun z=>nomatch z) h
 |int i=>obtain⟨t,q⟩:=(show∃t,u=Value.int i t from rx);cases q;exact PySem.W.kia_one PySem.W.kitx_int I.kIn True.intro e (fun z=>nomatch z) h
 |str y=>obtain⟨t,q⟩:=(show∃t,u=Value.str y t from rx);cases q;exact PySem.W.kia_one PySem.W.kitx_str I.kIn True.intro e (fun z=>nomatch z) h
 |flt y=>obtain⟨t,q⟩:=(show∃t,u=Value.float y t from rx);cases q;exact PySem.W.kia_one PySem.W.kitx_float I.kIn True.intro e (fun z=>nomatch z) h
 | @lst a xs ea=>
  cases(show u=Value.ref a from rx)
  obtain⟨_,_,n,_,h1⟩:=(show q0a X.prog X.w H s.heap a (.lst xs) from I.hok a _ ea)
  exact PySem.W.kia_one PySem.W.kitx_list I.kIn ⟨_,h1,rfl⟩ e (fun z=>nomatch z) h
 | @frz a ob xs ea=>
  cases(show u=Value.ref a from rx)
  obtain⟨_,_,_,n,_,h1⟩:=(show q0a X.prog X.w H s.heap a (.frz ob (.lst xs)) from I.hok a _ ea)
  exact PySem.W.kia_one PySem.W.kitx_list I.kIn ⟨_,h1,rfl⟩ e (fun z=>nomatch z) h
 | @tup a xs ea=>
  cases(show u=Value.ref a from rx)
  obtain⟨_,_,_,p⟩:=(show q0a X.prog X.w H s.heap a (.tup xs) from I.hok a _ ea)
  obtain⟨o,h1,h2,_⟩:=p
  exact PySem.W.kia_one PySem.W.kitx_tuple I.kIn ⟨o,h1,h2⟩ e (fun z=>nomatch z) h
 | @dK a kvs ea=>
  cases(show u=Value.ref a from rx)
  obtain⟨_,_,vs,_,p⟩:=(show q0a X.prog X.w H s.heap a (.dK kvs) from I.hok a _ ea)
  obtain⟨o,es,ep,h1,h2,_⟩:=p
  exact PySem.W.kia_one PySem.W.kitx_dict I.kIn ⟨o,h1,h2.1⟩ e (fun z=>nomatch z) h
 | @dT a kvs ea=>
  cases(show u=Value.ref a from rx)
  obtain⟨_,_,xs,_,o,es,ep,h1,h2,_⟩:=(show q0a X.prog X.w H s.heap a (.dT kvs) from I.hok a _ ea)
  exact PySem.W.kia_one PySem.W.kitx_dict I.kIn ⟨o,h1,h2.1⟩ e (fun z=>nomatch z) h
 | @ins a C dx fs ea cl ha hn htk hm=>
  cases(show u=Value.ref a from rx)
  obtain⟨mA,O,_⟩:=q4y I.hok ea
  obtain⟨od,J,_⟩:=O.look
  exact PySem.W.kia_one (PySem.W.kitx_own (cl.get _) cl.hd ha hn htk hm) I.kIn J e (fun z=>nomatch z) h
end
end L2
namespace L2
open PySem PySem.Spec PyProof.Rows
structure Room (k:Nat)(A:Around):Prop where
 hd:A.handled=none
 dp:A.depth+3*k+5<recursionLimit
 un:A.units+16*k+200<cLine
 gd:A.guards=some []
theorem Room.mono {j k:Nat}{A:Around}(r:Room k A)(h:j<=k):Room j A:=⟨r.hd,by have:=r.dp;omega,by have:=r.un;omega,r.gd⟩
theorem Room.deeper {k:Nat}{A:Around}(r:Room (k+1) A)(env:Env):Room k (A.deeper env):=
 ⟨r.hd,by have:=r.dp;show A.depth+1+3*k+5<_;omega,by have:=r.un;show A.units+3+16*k+200<_;omega,r.gd⟩
theorem q7i {A:Around}{C:Addr}{us:List Value}{kw:List (Str×Value)}:(A.under (.builtin "type.__call__" ⟨.ref C::us,kw⟩)).depth=A.depth+1:=by
 first|rfl|simp[Around.under,Code.weight,Code.isCreation,Code.isGuard,Code.isCaller,Code.frames,Code.isFrame,guardIds]
theorem q7h {A:Around}{C:Addr}{us:List Value}{kw:List (Str×Value)}:(A.under (.builtin "type.__call__" ⟨.ref C::us,kw⟩)).units=A.units+1:=by
 first|rfl|simp[Around.under,Code.cUnits,Code.frames,Code.isFrame]
theorem Room.make {k:Nat}{A:Around}(r:Room (k+1) A)(C:Addr)(us:List Value)(kw:List (Str×Value)):Room k (A.under (.builtin "type.__call__" ⟨.ref C::us,kw⟩)):=
 ⟨r.hd,by have:=r.dp;rw[q7i];omega,by have:=r.un;rw[q7h];omega,by simp[Around.under,Code.guards,Code.isGuard,guardIds,pushGuards,r.gd]⟩
theorem Room.depth {k:Nat}{A:Around}(r:Room k A):A.depth<recursionLimit:=by have:=r.dp;omega
theorem Room.units {k:Nat}{A:Around}(r:Room k A):A.units+64<cLine:=by have:=r.un;omega
def tNil:TA:=fun _ H Q=>Q [] H
def tCons (ta:TE)(tr:TA):TA:=fun σ H Q=>ta σ H fun x H1=>tr σ H1 fun xs H2=>Q (x::xs) H2
section
variable {X:Cx}{e:Expr}{es:List Expr}{te:TE}{t:TA}{pos:Pos}
theorem qe:PA X [] tNil:=fun _ _ _ _ H Q I h=>Calls.spliced_nil ⟨[],H,I,.nil,h⟩
theorem qa (ha:PE X e te)(hr:PA X es t)(hs:starEach (e::es) X.env=(false,eval e X.env)::starEach es X.env:=by rfl):PA X (e::es) (tCons te t):=by
 intro pos pins s σ H Q I h
 rw[hs]
 show wpAny _ _ (spliced ((false,eval e X.env)::backTo pos (starEach es X.env))) _ _ s
 refine Calls.spliced_cons (thn (ha pins s σ H _ I h) fun u s1 ⟨x,H1,I1,r1,q1⟩=>?_)
 exact thn (hr pos pins s1 σ H1 _ I1 q1) fun us s2 ⟨xs,H2,I2,r2,q2⟩=>⟨x::xs,H2,I2,.cons r1 r2,q2⟩
def tTup (t:TA):TE:=fun σ H Q=>t σ H fun xs H1=>xs.length<=sizeLine/\∀p,H1 p=none->Q (.ref p) (upd H1 p (.tup xs))
def tLst (t:TA):TE:=fun σ H Q=>t σ H fun xs H1=>xs.length<=sizeLine/\∀p,H1 p=none->Q (.ref p) (upd H1 p (.lst xs))
theorem qS {x1}(h:PA X es t):PE X (.Tuple es x1 pos) (tTup t):=by
 intro pins s σ H Q I hq
 refine wpAny_Tuple_spliced (thn (h pos pins s σ H _ I hq) fun us s1 ⟨xs,H1,I1,r,z,q⟩=>⟨by rw[<-r.length];exact z,?_⟩)
 have hf:H1 s1.heap.objs.size=none:=I1.hok.fresh (Nat.le_refl _)
 refine⟨.ref s1.heap.objs.size,upd H1 s1.heap.objs.size (.tup xs),I1.laid (t':=s1.toks) (fun b u e=>Heap.get?_push_of_some _ e) (Nat.le_refl _) ?_,rfl,q _ hf⟩
 exact⟨z,us,r,⟨_,Heap.get?_push_size _ rfl,rfl,_,rfl⟩⟩
theorem q3Z (h:PA X es t):PE X (.List es pos) (tLst t):=by
 intro pins s σ H Q I hq
 refine wpAny_List_spliced (thn (h pos pins s σ H _ I hq) fun us s1 ⟨xs,H1,I1,r,z,q⟩=>⟨by rw[<-r.length];exact z,?_⟩)
 have hf:H1 s1.heap.objs.size=none:=I1.hok.fresh (Nat.le_refl _)
 refine⟨.ref s1.heap.objs.size,upd H1 s1.heap.objs.size (.lst xs),I1.laid (t':=s1.toks) (fun b u e=>Heap.get?_push_of_some _ e) (Nat.le_refl _) ?_,rfl,q _ hf⟩
 exact⟨z,us,0,r,Heap.get?_push_size _ rfl⟩
end
abbrev Sp:=List V->Hp->VK->XK->Prop
abbrev CXT:=List Env->Hp->Shared->XK->Value->Shared->Prop
structure Env0 (P:Program)(w:World)(K:PySem.W.Frag)(mg:Str->Option Value)(base:Heap)(A:Around)(outer:List Env)(s:Shared)(H:Hp):Prop where
 frames:A.frames=some outer
 mod:Mod K mg base
 bs:∀b o,base.get? b=some o->s.heap.get? b=some o/\H b=none
 bsz:base.objs.size<=s.heap.objs.size
 funs:s.heap.FunFrames base outer
 frf:∀b∈frs outer,H b=none
 hok:HOk P w H s.heap
 bare:AllBare s.gens
def CE (outer:List Env)(P:Program)(w:World)(H:Hp)(s:Shared)(Q:VK)(u:Value)(s':Shared):Prop:=
 ∃v H',s'.os=s.os/\AllBare s'.gens/\Un (frs outer) [] H H' s.heap s'.heap/\HOk P w H' s'.heap/\RelV v u/\Q v H'
def CR (CX:CXT)(outer:List Env)(P:Program)(w:World)(H:Hp)(s:Shared)(Q:VK)(E:XK)(r:Result)(s':Shared):Prop:=
 match r with
 | .ok (.ret u)=>CE outer P w H s Q u s'
 | .ok _=>False
 | .error e=>CX outer H s E e s'
structure FnOk (P:Program)(w:World)(K:PySem.W.Frag)(mg:Str->Option Value)(base:Heap)(CX:CXT)(k:Nat)(f:Addr)(fd:FuncData)(ps:List Str)(sp:Sp):Prop where
 len:∀vs H Q E,sp vs H Q E->vs.length=ps.length
 run:∀(A:Around) (outer:List Env) (s:Shared) (H:Hp) (args:Args) (us:List Value) (vs:List V) (Q:VK) (E:XK),Room k A->Env0 P w K mg base A outer s H->BindsTo s fd args (ps.zip us)->Vals vs us->sp vs H Q E->
  codeAny (model P w) A (.call (.ref f) args) (CR CX outer P w H s Q E) s
theorem Env0.make {P:Program}{w:World}{K:PySem.W.Frag}{mg:Str->Option Value}{base:Heap}{A:Around}{outer:List Env}{s:Shared}{H:Hp}(e:Env0 P w K mg base A outer s H)(C:Addr)(us:List Value)(kw:List (Str×Value)):
  Env0 P w K mg base (A.under (.builtin "type.__call__" ⟨.ref C::us,kw⟩)) outer s H:=⟨by first|exact e.frames|(simpa[Around.under,Code.envs,Code.isFrame,pushEnvs] using e.frames),e.mod,e.bs,e.bsz,e.funs,e.frf,e.hok,e.bare⟩
section
variable {X:Cx}{pins:List (Addr×Obj)}{σ:St}{H:Hp}{s s':Shared}
theorem Inv.env0 (I:Inv X pins σ H s):Env0 X.prog X.w X.K X.mg X.base X.A X.stack s H:=
 ⟨I.ok.frames,I.ok.mod,I.bs,Nat.le_trans I.ok.bsz I.sz,I.stack,I.stkFree,I.hok,I.bare⟩
theorem Inv.after {Q:VK}{u:Value}(I:Inv X pins σ H s)(h:CE X.stack X.prog X.w H s Q u s'):EP X pins σ Q u s':=by
 obtain⟨v,H',os,bare,un,hok,r,q⟩:=h
 obtain⟨hh,g,d,t,os'⟩:=s'
 obtain rfl:os'=s.os:=os
 exact⟨v,H',I.call (h':=hh) (g':=g) (d':=d) (t':=t) (ch:=[]) un hok bare (fun b z=>absurd z (by simp)),r,q⟩
end
def q6Y (sp:Sp)(dvs:List V)(E:XK)(t:TA):TE:=fun σ H Q=>t σ H fun vs H1=>sp (vs++dvs) H1 Q E
def q7B (C:Addr)(sp:Sp)(dvs:List V)(E:XK)(t:TA):TE:=fun σ H Q=>t σ H fun vs H1=>∀x dx,H1 x=none->H1 dx=none->dx≠x->
 sp (.ref x::(vs++dvs)) (upd (upd H1 dx (.own x)) x (.ins C dx [])) (fun v H2=>v= .non/\Q (.ref x) H2) E
def q1Z (K:PySem.W.Frag)(fd:FuncData)(ps:List Str)(ds:List Value):Prop:=
 ∀(s:Shared) (us:List Value),K.In s.heap->(us++ds).length=ps.length->BindsTo s fd ⟨us,[]⟩ (ps.zip (us++ds))
theorem q1Z.all {K:PySem.W.Frag}{fd:FuncData}{ps:List Str}(h:∀us:List Value,us.length=ps.length->bindArgs fd ⟨us,[]⟩=pure (ps.zip us)):q1Z K fd ps []:=fun s us _ hl=>by
 rw[List.append_nil] at hl ⊢
 exact .of_eq (h us hl)
def q46 (CX:CXT)(X:Cx)(E:XK):Prop:=∀(pins:List (Addr×Obj)) (σ:St) (H:Hp) (s:Shared) (e:Value) (s':Shared),Inv X pins σ H s->CX X.stack H s E e s'->X.xe e s'
section
variable {X:Cx}{CX:CXT}{k:Nat}{f C:Addr}{fd:FuncData}{ps:List Str}{sp:Sp}{dvs:List V}{ds:List Value}{E:XK}{x m:Str}{p pos apos:Pos}{e o:Expr}{es:List Expr}{ta:TE}{t:TA}
theorem q6u {pins:List (Addr×Obj)}{σ:St}{H:Hp}{s:Shared}{Q:VK}{us:List Value}{vs:List V}(F:FnOk X.prog X.w X.K X.mg X.base CX k f fd ps sp)(hr:Room k X.A)(hb:q1Z X.K fd ps ds)(hd:Vals dvs ds)(hx:q46 CX X E)
  (I:Inv X pins σ H s)(r:Vals vs us)(h:sp (vs++dvs) H Q E):wpAny (model X.prog X.w) X.A (call (.ref f) us) (EP X pins σ Q) X.xe s:=by
 have r2:Vals (vs++dvs) (us++ds):=r.append hd
 have hl:(us++ds).length=ps.length:=by rw[<-r2.length];exact F.len _ _ _ _ h
 refine wpAny_call (codeAny_mono (F.run X.A X.stack s H ⟨us,[]⟩ (us++ds) (vs++dvs) Q E hr I.env0 (hb s us I.kIn hl) r2 h) fun r s' hq=>?_)
 cases r with
 |error e=>exact hx pins σ H s e s' I hq
 |ok fl=>
  cases fl with
  |ret u=>exact I.after hq
  |next=>exact False.elim hq
  |brk=>exact False.elim hq
  |cont=>exact False.elim hq
theorem q83 (F:FnOk X.prog X.w X.K X.mg X.base CX k f fd ps sp)(hr:Room k X.A)(hg:Gl X x)(hm:X.mg x=some (.ref f))(hk:PySem.W.keepIn X.K (.ref f)=true)(hb:q1Z X.K fd ps ds)(hd:Vals dvs ds)(hx:q46 CX X E)
  (ha:PA X (e::es) t)(hdb:(x==("__debug__":Str))=false:=by decide)(he:starEach (e::es) X.env=(false,eval e X.env)::starEach es X.env:=by rfl)(hpl:(backTo pos (starEach es X.env)).any (·.1)=false:=by rfl):
  PE X (.Call (.Name x p) (e::es) [] pos) (q6Y sp dvs E t):=by
 intro pins s σ H Q I h
 refine wpAny_Call_Name_kw (q3y I hg hm ?_ hdb)
 refine PySem.W.callWith_K (h₀:=X.base) I.ok.mod.kin hk (thn (ha pos pins s σ H _ I h) fun us s1 ⟨vs,H1,I1,r,q⟩=>⟨I1.kIn,?_⟩) he hpl
 exact q6u F hr hb hd hx I1 r q
structure Mk (K:PySem.W.Frag)(C f:Addr):Prop where
 makes:PySem.W.makesIn K C=true
 init:PySem.W.findIn K (.ref C) "__init__"=some (some (.ref f))
 fn:PySem.W.isFn K (.ref f)=true
 kp:PySem.W.keepIn K (.ref C)=true
theorem q6t {pins:List (Addr×Obj)}{σ:St}{H:Hp}{s:Shared}{Q:VK}{us:List Value}{vs:List V}(M:Mk X.K C f)(F:FnOk X.prog X.w X.K X.mg X.base CX k f fd ps sp)(hr:Room (k+1) X.A)(hb:q1Z X.K fd ps ds)(hd:Vals dvs ds)
  (hx:q46 CX X E)(I:Inv X pins σ H s)(r:Vals vs us)
  (h:∀x dx,H x=none->H dx=none->dx≠x->sp (.ref x::(vs++dvs)) (upd (upd H dx (.own x)) x (.ins C dx [])) (fun v H2=>v= .non/\Q (.ref x) H2) E):
  wpAny (model X.prog X.w) X.A (call (.ref C) us) (EP X pins σ Q) X.xe s:=by
 have hq:=h (s.heap.objs.size+1) s.heap.objs.size (I.hok.fresh (Nat.le_succ _)) (I.hok.fresh (Nat.le_refl _)) (Nat.ne_of_lt (Nat.lt_succ_self _))
 have I2:=Inv.made (C:=C) I
 have r2:Vals (V.ref (s.heap.objs.size+1)::(vs++dvs)) (Value.ref (s.heap.objs.size+1)::(us++ds)):= .cons rfl (r.append hd)
 have hl:(Value.ref (s.heap.objs.size+1)::us++ds).length=ps.length:=by
  have e:=r2.length
  rw[F.len _ _ _ _ hq] at e
  exact e.symm
 refine wpAny_call (qa3 (f:=f) I.kIn M.makes M.init (beq_iff_eq.mp M.fn) (codeAny_mono (F.run _ X.stack _ _ ⟨Value.ref (s.heap.objs.size+1)::us,[]⟩ (Value.ref (s.heap.objs.size+1)::(us++ds)) _ _ E (hr.make C us [])
  (I2.env0.make C us []) (hb _ (Value.ref (s.heap.objs.size+1)::us) I2.kIn hl) r2 hq) fun r s' hq'=>?_))
 cases r with
 |error e=>exact hx pins σ _ _ e s' I2 hq'
 |ok fl=>
  cases fl with
  |ret u=>
   obtain⟨v,H',I3,rv,ev,q3⟩:=I2.after hq'
   subst ev
   exact⟨rv,⟨V.ref (s.heap.objs.size+1),H',I3,rfl,q3⟩⟩
  |next=>exact False.elim hq'
  |brk=>exact False.elim hq'
  |cont=>exact False.elim hq'
theorem qbt (M:Mk X.K C f)(F:FnOk X.prog X.w X.K X.mg X.base CX k f fd ps sp)(hr:Room (k+1) X.A)(hg:Gl X x)(hm:X.mg x=some (.ref C))(hb:q1Z X.K fd ps ds)(hd:Vals dvs ds)(hx:q46 CX X E)
  (ha:PA X (e::es) t)(hdb:(x==("__debug__":Str))=false:=by decide)(he:starEach (e::es) X.env=(false,eval e X.env)::starEach es X.env:=by rfl)(hpl:(backTo pos (starEach es X.env)).any (·.1)=false:=by rfl):
  PE X (.Call (.Name x p) (e::es) [] pos) (q7B C sp dvs E t):=by
 intro pins s σ H Q I h
 refine wpAny_Call_Name_kw (q3y I hg hm ?_ hdb)
 refine PySem.W.callWith_K (h₀:=X.base) I.ok.mod.kin M.kp (thn (ha pos pins s σ H _ I h) fun us s1 ⟨vs,H1,I1,r,q⟩=>⟨I1.kIn,?_⟩) he hpl
 exact q6t M F hr hb hd hx I1 r q
theorem q9E (M:Mk X.K C f)(F:FnOk X.prog X.w X.K X.mg X.base CX k f fd ps sp)(hr:Room (k+1) X.A)(hg:Gl X x)(hm:X.mg x=some (.ref C))(hb:q1Z X.K fd ps ds)(hd:Vals dvs ds)(hx:q46 CX X E)
  (hdb:(x==("__debug__":Str))=false:=by decide):PE X (.Call (.Name x p) [] [] pos) (q7B C sp dvs E tNil):=by
 intro pins s σ H Q I h
 refine wpAny_Call_Name_kw (q3y I hg hm ?_ hdb)
 exact PySem.W.callWith_K0 I.kIn M.kp (q6t (us:=[]) M F hr hb hd hx I .nil h)
end
structure FnScope (N P:List Str)(sc:Scope):Prop where
 kind:sc.kind= .function
 co:sc.isCoroutine=false
 gen:sc.isGenerator=false
 nd:N.Nodup
 pre:N.take P.length=P
 par:∀x∈P,sc.names.lookup x=some .local\/sc.names.lookup x=some .cell
 nofree:∀y∈sc.names,y.2≠ .free
theorem q5L {kindOf:Str->Option NameKind}{x:Str}:∀{binds:List (Str×Value)} {m:Str->Option Value},(∀v,(x,v)∉binds)->bindL kindOf binds m x=m x
 |[],_,_=>rfl
 |(n,v)::r,m,h=>by
  unfold bindL
  rw[q5L fun w hw=>h w (List.mem_cons_of_mem _ hw)]
  split
  ·have:x≠n:=by rintro rfl;exact h v List.mem_cons_self
   simp[this]
  ·rfl
theorem q5N {kindOf:Str->Option NameKind}{x:Str}:∀{binds:List (Str×Value)} {m:Str->Option Value},(∀v,(x,v)∉binds)->bindC kindOf binds m x=m x
 |[],_,_=>rfl
 |(n,v)::r,m,h=>by
  unfold bindC
  rw[q5N fun w hw=>h w (List.mem_cons_of_mem _ hw)]
  split
  ·rfl
  ·have:x≠n:=by rintro rfl;exact h v List.mem_cons_self
   simp[this]
theorem q5M {kindOf:Str->Option NameKind}{x:Str}{v:Value}:∀{P:List Str} {vs:List Value} {i:Nat} {m:Str->Option Value},P.Nodup->P[i]? =some x->vs[i]? =some v->kindOf x=some .local->
  bindL kindOf (P.zip vs) m x=some v
 |[],_,_,_,_,h,_,_=>by simp at h
 |_::_,[],_,_,_,_,h,_=>by simp at h
 |p::P,w::vs,0,m,nd,h1,h2,hk=>by
  simp at h1 h2;subst h1;subst h2
  show bindL kindOf ((p,w)::P.zip vs) m p=_
  unfold bindL
  rw[q5L fun v hv=>(List.nodup_cons.mp nd).1 (List.of_mem_zip hv).1,if_pos hk]
  simp
 |p::P,w::vs,i+1,m,nd,h1,h2,hk=>by
  show bindL kindOf ((p,w)::P.zip vs) m x=_
  unfold bindL
  exact q5M (i:=i) (List.nodup_cons.mp nd).2 (by simpa using h1) (by simpa using h2) hk
theorem q5O {kindOf:Str->Option NameKind}{x:Str}{v:Value}:∀{P:List Str} {vs:List Value} {i:Nat} {m:Str->Option Value},P.Nodup->P[i]? =some x->vs[i]? =some v->kindOf x≠some .local->
  bindC kindOf (P.zip vs) m x=some v
 |[],_,_,_,_,h,_,_=>by simp at h
 |_::_,[],_,_,_,_,h,_=>by simp at h
 |p::P,w::vs,0,m,nd,h1,h2,hk=>by
  simp at h1 h2;subst h1;subst h2
  show bindC kindOf ((p,w)::P.zip vs) m p=_
  unfold bindC
  rw[q5N fun v hv=>(List.nodup_cons.mp nd).1 (List.of_mem_zip hv).1,if_neg hk]
  simp
 |p::P,w::vs,i+1,m,nd,h1,h2,hk=>by
  show bindC kindOf ((p,w)::P.zip vs) m x=_
  unfold bindC
  exact q5O (i:=i) (List.nodup_cons.mp nd).2 (by simpa using h1) (by simpa using h2) hk
def start (N:List Str)(vs:List V):St:=vs.map some++List.replicate (N.length - vs.length) none
def cxOf (CX:CXT)(P:Program)(w:World)(K:PySem.W.Frag)(mg:Str->Option Value)(base:Heap)(N:List Str)(qual:Str)(scope:Scope)(f:Addr)(cd:Value)(A:Around)(outer:List Env)(s:Shared)(H:Hp)(E:XK):Cx where
 prog:=P
 w:=w
 K:=K
 mg:=mg
 base:=base
 A:=A.deeper (envOfC qual scope s.heap.objs.size f cd)
 N:=N
 s₀:=s
 H₀:=H
 env:=envOfC qual scope s.heap.objs.size f cd
 outer:=outer
 stack:=envOfC qual scope s.heap.objs.size f cd::outer
 ex:=[]
 calm:=true
 fn:=fun _=>true
 pn:=[]
 xe:=fun e s'=>wpAny (model P w) (A.deeper (envOfC qual scope s.heap.objs.size f cd)) (leaving (envOfC qual scope s.heap.objs.size f cd) e) (fun _ s''=>CX outer H s E e s'') (fun e' s''=>CX outer H s E e' s'') s'
theorem q6O {sc:Scope}{n:Nat}{x:Str}(h:sc.names.lookup x=some .cell):∃c,(cellsFrom n sc.names []).lookup x=some c:=by
 have q:=PySem.W.cellsFrom_some sc.names n [] (.inl h)
 exact Option.isSome_iff_exists.mp q
theorem q8o {CX:CXT}{P:Program}{w:World}{K:PySem.W.Frag}{mg:Str->Option Value}{base:Heap}{N ps:List Str}{qual:Str}{scope:Scope}{f:Addr}{cd:Value}{A:Around}{outer:List Env}{s s1:Shared}{H:Hp}{E:XK}{us:List Value}{vs:List V}
  (S:FnScope N ps scope)(hd:A.handled=none)(e0:Env0 P w K mg base A outer s H)(hl:vs.length=ps.length)(r:Vals vs us)
  (x:InCallC s s.heap.objs.size (bindL (envOfC qual scope s.heap.objs.size f cd).kindOf (ps.zip us) fun _=>none) (cellsFrom (s.heap.objs.size+1) scope.names []) (bindC (envOfC qual scope s.heap.objs.size f cd).kindOf (ps.zip us) fun _=>none) s1):
  Inv (cxOf CX P w K mg base N qual scope f cd A outer s H E) [] (start N vs) H s1:=by
 have hpl:ps.length<=N.length:=by have:=congrArg List.length S.pre;rw[List.length_take] at this;omega
 obtain⟨h1,tk,rfl,hk⟩:=x.done
 have noA:∀b:Addr,b∉(cxOf CX P w K mg base N qual scope f cd A outer s H E).ex:=fun b z=>absurd (show b∈([]:List Addr) from z) (by simp)
 refine⟨⟨e0.mod,S.kind,rfl,rfl,Nat.le_refl _,fun y z c h1 h2=>?_,fun y hy=>?_,fun y c _ h=>?_,fun _=>hd,Around.frames_deeper e0.frames,.inr ⟨rfl,rfl⟩,fun b z=>absurd z (noA b),e0.bs,e0.bsz,fun b _ _=>noA b,fun b z=>absurd z (noA b),e0.funs,e0.frf⟩,
  rfl,e0.bare,Un.kept hk,⟨_,x.toInCall.ns,fun i y v h1 h2 h3=>?_⟩,fun y c h=>⟨_,x.cell y c h⟩,e0.hok.fresh (Nat.le_refl _),fun y c h=>?_,fun p hp=>absurd (show p∈([]:List (Addr×Obj)) from hp) (by simp),e0.hok.kept hk,?_⟩
 ·exact name_of_addr x.apart (PySem.mem_of_lookup h1) (PySem.mem_of_lookup h2)
 ·have hy:scope.names.lookup y=some .cell\/scope.names.lookup y=some .free:=hy
  rcases hy with hy|hy
  ·exact q6O hy
  ·exact absurd rfl (S.nofree _ (PySem.mem_of_lookup hy))
 ·exact Nat.le_of_lt (x.above y c (PySem.mem_of_lookup h))
 ·have hi:i<vs.length:=by
   unfold start at h2
   by_cases hi:i<vs.length
   ·exact hi
   ·rw [List.getElem?_append_right (by simpa using hi)] at h2
    rw[List.getElem?_replicate] at h2
    split at h2<;>cases h2
  have ha:vs[i]? =some v:=by
   unfold start at h2
   rw[List.getElem?_append_left (by simpa using hi),List.getElem?_map] at h2
   cases e:vs[i]? with
   |none=>rw[e] at h2;cases h2
   |some a=>rw[e] at h2;cases h2;rfl
  obtain⟨u,hu,rv⟩:=r.get ha
  have hp:ps[i]? =some y:=by
   rw[<-S.pre,List.getElem?_take_of_lt (by omega)];exact h1
  have ndP:ps.Nodup:=by rw[<-S.pre];exact S.nd.sublist (List.take_sublist _ _)
  refine⟨u,rv,?_⟩
  rcases S.par y (List.mem_of_getElem? hp) with k|k
  ·exact .inl ⟨k,q5M ndP hp hu k⟩
  ·obtain ⟨c,e⟩:=q6O (n:=s.heap.objs.size+1) k
   refine .inr ⟨.inl k,c,e,?_⟩
   have q:=x.cell y c e
   rw[q5O ndP hp hu (by show scope.names.lookup y≠_;rw[k];decide)] at q
   exact q
 ·exact e0.hok.fresh (Nat.le_of_lt (x.above y c (PySem.mem_of_lookup h)))
 ·unfold start
  show _=N.length
  rw[List.length_append,List.length_map,List.length_replicate]
  omega
theorem fn_of {CX:CXT}{P:Program}{w:World}{K:PySem.W.Frag}{mg:Str->Option Value}{base:Heap}{k:Nat}{f:Addr}{name qual:Str}{params:Arguments}{body:List Stmt}{scope:Scope}{dV kV doc pm cdv ct oc:Value}{an od:Option Addr}
  {osl:Array (Option Value)}{N ps:List Str}{sp:Sp}(lk:K.lookup f=some ⟨oc,od,.func (PySem.W.fnOf name qual params body scope dV kV doc pm an cdv ct),osl⟩)(hcd:PySem.W.codeIn K cdv qual=true)(S:FnScope N ps scope)
  (len:∀vs H Q E,sp vs H Q E->vs.length=ps.length)
  (hbody:∀(A:Around) (outer:List Env) (s:Shared) (H:Hp) (vs:List V) (Q:VK) (E:XK),Room k (A.deeper (envOfC qual scope s.heap.objs.size f cdv))->sp vs H Q E->
   ∃t,PSs (cxOf CX P w K mg base N qual scope f cdv A outer s H E) body t/\t {nx:=fun _ H'=>Q .non H',rt:=Q} (start N vs) H):
  FnOk P w K mg base CX (k+1) f (PySem.W.fnOf name qual params body scope dV kV doc pm an cdv ct) ps sp:=by
 refine⟨len,fun A outer s H args us vs Q E hr e0 hb r hsp=>?_⟩
 have hl:=len _ _ _ _ hsp
 have KX:K.In s.heap:=e0.mod.kin.keeps fun b o e=>(e0.bs b o e).1
 have lim:s.heap.NoLimit:=e0.mod.nolimit.keeps fun b o e=>(e0.bs b o e).1
 have hkind:∀y∈ps.zip us,scope.names.lookup y.1=some .local\/(scope.names.lookup y.1=some .cell/\((cellsFrom (s.heap.objs.size+1) scope.names []).lookup y.1).isSome=true):=fun⟨n,v⟩ hy=>by
  rcases S.par n (List.of_mem_zip hy).1 with q|q
  ·exact .inl q
  ·exact .inr ⟨q,PySem.W.cellsFrom_some _ _ _ (.inl q)⟩
 refine codeAny_call_function hr.depth (KX _ _ lk) rfl S.co S.gen rfl (PySem.W.codeRec_of KX hcd) (hb _ _ _ _ ?_)
 refine wpAny_newFunctionEnv_cells S.kind hkind fun env he s1 x=>?_
 subst he
 refine⟨lim.keeps x.toInCall.keep,codeAny_func ?_⟩
 obtain⟨t,ht,hq⟩:=hbody A outer s H vs Q E (hr.deeper _) hsp
 have I:Inv (cxOf CX P w K mg base N qual scope f cdv A outer s H E) [] (start N vs) H s1:=q8o S hr.hd e0 hl r x
 refine wpAny_mono (ht [] s1 (start N vs) H _ I hq) (fun fl s' hs=>?_) fun e s' hs=>hs
 have fin:∀{σ':St} {H':Hp} {v:V} {u:Value},Inv (cxOf CX P w K mg base N qual scope f cdv A outer s H E) [] σ' H' s'->RelV v u->Q v H'->CE outer P w H s Q u s':=
  fun {σ' H' v u} J rv q=>⟨v,H',J.os,J.bare,J.base,J.hok,rv,q⟩
 cases fl with
 |ret u=>
  obtain⟨v,σ',H',J,rv,q⟩:=hs
  exact fin J rv q
 |next=>
  obtain⟨σ',H',J,q⟩:=hs
  exact fin (v:=V.non) (u:=Value.none) J rfl q
 |brk=>
  obtain⟨_,_,_,q⟩:=hs
  exact False.elim q
 |cont=>
  obtain⟨_,_,_,q⟩:=hs
  exact False.elim q
end L2
namespace L2
open PySem PySem.Spec PyProof.Rows
section
variable {X:Cx}{x:Str}{p pos:Pos}{e:Expr}{es:List Expr}{t:TA}{id T:String}{r:List V->Hp->VK->Prop}
def tCB (r:List V->Hp->VK->Prop)(t:TA):TE:=fun σ H Q=>t σ H fun vs H1=>r vs H1 Q
theorem qB (hc:q1Y X (.builtin id) r)(hg:Gl X x)(hm:X.mg x=none)(hv:bootBuiltins x=some (.builtin id))(ha:PA X (e::es) t)(hn:x≠"__name__":=by decide)(hdb:(x==("__debug__":Str))=false:=by decide)
  (he:starEach (e::es) X.env=(false,eval e X.env)::starEach es X.env:=by rfl)(hpl:(backTo pos (starEach es X.env)).any (·.1)=false:=by rfl):PE X (.Call (.Name x p) (e::es) [] pos) (tCB r t):=by
 intro pins s σ H Q I h
 refine wpAny_Call_Name_kw (q2V I hg hm hv ?_ hn hdb)
 exact PyProof.Rows.callWith_builtin1 (thn (ha pos pins s σ H _ I h) fun us s1 ⟨vs,H1,I1,r1,q1⟩=>hc pins s1 σ H1 vs us Q I1 r1 q1) he hpl
theorem q0c (hc:q1Y X (.type T) r)(hg:Gl X x)(hm:X.mg x=none)(hv:bootBuiltins x=some (.type T))(ha:PA X (e::es) t)(hn:x≠"__name__":=by decide)(hdb:(x==("__debug__":Str))=false:=by decide)
  (he:starEach (e::es) X.env=(false,eval e X.env)::starEach es X.env:=by rfl)(hpl:(backTo pos (starEach es X.env)).any (·.1)=false:=by rfl):PE X (.Call (.Name x p) (e::es) [] pos) (tCB r t):=by
 intro pins s σ H Q I h
 refine wpAny_Call_Name_kw (q2V I hg hm hv ?_ hn hdb)
 exact PyProof.Rows.callWith_type1 (thn (ha pos pins s σ H _ I h) fun us s1 ⟨vs,H1,I1,r1,q1⟩=>hc pins s1 σ H1 vs us Q I1 r1 q1) he hpl
end
end L2
namespace HT
open PySem PyProof.Rows
def q2I:List Int->List Int->Bool
 |[],[]=>false
 |[],_::_=>true
 |_::_,[]=>false
 |x::xs,y::ys=>if x=y then q2I xs ys else decide (x<y)
theorem q43 (x y:Int)(xs ys:List Int):q2I (x::xs) (y::ys)=if x=y then q2I xs ys else decide (x<y):=rfl
theorem q4w:q2I [] []=false:=rfl
theorem q3O (y:Int)(ys:List Int):q2I [] (y::ys)=true:=rfl
theorem q3P (x:Int)(xs:List Int):q2I (x::xs) []=false:=rfl
theorem qaj (A:Around)(s:Shared)(a:Int)(t:Tok)(c:Int)(u:Tok):∃e,SeqAt.EqAt A s (.int a t) (.int c u) e/\(e=true↔a=c):=
 ⟨(a==c),SeqAt.EqAt.int_int a t c u,by simp⟩
theorem q9p (A:Around)(s:Shared)(a:Int)(t:Tok)(c:Int)(u:Tok)(prog:Program)(w:World)(E:Value->Shared->Prop)(Q:Value->Shared->Prop)(h:Q (.bool (decide (a<c))) s):
  wpAny (model prog w) A (richCompare .Lt (.int a t) (.int c u)) Q E s:=
 (PyProof.Rows.lt_int h:wpAny (model prog w) A (compareOp .Lt (.int a t) (.int c u)) Q E s)
section
open PySem.SeqAt
open PySem.AutoSeq1 (wpAny_loadPart')
open PySem.MeetsSeq PySem.MeetsSeq2 PySem.MeetsSeq3
theorem q49 (l b:Addr)(items items2:Array Value)(n n2:Nat)(dd dd2:Option Addr)(sl sl2:Array (Option Value))(ns ms:List Int)(hi:IntsAre items.toList ns)(hj:IntsAre items2.toList ms):
  Meets (Builtin.«tuple.__lt__» ⟨[.ref l,.ref b],[]⟩)
   (fun _ R s=>s.heap.get? l=some {cls:= .type "tuple",dict:=dd,data:= .seq items n,slots:=sl}/\s.heap.get? b=some {cls:= .type "tuple",dict:=dd2,data:= .seq items2 n2,slots:=sl2}/\
    R (.ok (.ret (.bool (q2I ns ms)))) s):=
 .of_wp fun prog w A R s h=>by
  obtain⟨hp,g,d,tk,os⟩:=s;obtain⟨hl,hb,h⟩:=h
  have f2:=AutoSeq1.sub_tuple_tuple
  have z1:items.size=ns.length:=by rw[<-hi.length];simp
  have z2:items2.size=ms.length:=by rw[<-hj.length];simp
  wp_walk using wpAny_loadPart' hl,wpAny_loadPart' hb,wpAny_forIn_list _ (fun rest b s'=>b.1=none/\s'=⟨hp,g,d,tk,os⟩/\∃(vs ws:List Value) (ns' ms':List Int),rest=vs.zip ws/\
   IntsAre vs ns'/\IntsAre ws ms'/\ns'.length+items2.size=ms'.length+items.size/\R (.ok (.ret (.bool (q2I ns' ms')))) ⟨hp,g,d,tk,os⟩) _
  case turn=>
   rintro⟨y,x⟩ rest b s' ⟨hb',rfl,vs,ws,ns',ms',hz,hvi,hwi,hlen,hR⟩
   cases hvi with
   |nil=>rw[List.zip_nil_left] at hz;cases hz
   |cons a t hvi'=>
    cases hwi with
    |nil=>rw[List.zip_nil_right] at hz;cases hz
    |cons c u hwi'=>
     rw[List.zip_cons_cons] at hz
     injection hz with hyx hrest
     injection hyx with hy hx
     subst hy hx
     rw[q43] at hR
     simp only[List.length_cons] at hlen
     obtain⟨e,he,hiff⟩:=qaj A.in1 ⟨hp,g,d,tk,os⟩ a t c u
     refine wpAny_bind (he prog w _ _ ?_)
     cases e with
     |true=>
      rw[if_pos (hiff.mp rfl)] at hR
      wp_walk
      exact⟨rfl,rfl,_,_,_,_,hrest,hvi',hwi',by omega,hR⟩
     |false=>
      rw[if_neg (fun q=>absurd (hiff.mpr q) Bool.false_ne_true)] at hR
      have hri:=q9p A.in1 ⟨hp,g,d,tk,os⟩ a t c u prog w
      wp_walk using hri
      exact⟨_,rfl,by simpa using hR⟩
  case fin=>
   rintro⟨b1,b2⟩ s' ⟨hb',rfl,vs,ws,ns',ms',hz,hvi,hwi,hlen,hR⟩
   simp only at hb'
   subst hb'
   have hv:q2I ns' ms'=decide (items.size<items2.size):=by
    cases hvi with
    |nil=>
     cases hwi with
     |nil=>
      simp only[List.length_nil] at hlen
      rw[q4w]
      exact(decide_eq_false (by omega)).symm
     |cons c u hw=>
      simp only[List.length_nil,List.length_cons] at hlen
      rw[q3O]
      exact(decide_eq_true (by omega)).symm
    |cons a t hv=>
     cases hwi with
     |nil=>
      simp only[List.length_nil,List.length_cons] at hlen
      rw[q3P]
      exact(decide_eq_false (by omega)).symm
     |cons c u hw=>
      rw[List.zip_cons_cons] at hz
      cases hz
   rw[hv] at hR
   wp_walk
   exact⟨_,rfl,by simpa[Builtin.Tuple.tupleCompareSizes] using hR⟩
  case h=>
   exact⟨rfl,rfl,items.toList,items2.toList,ns,ms,rfl,hi,hj,by omega,h⟩
end
section
variable {prog:Program}{w:World}{A:Around}{E:Value->Shared->Prop}{s:Shared}
theorem q7j {l b:Addr}{items items2:Array Value}{ns ms:List Int}{Q:Value->Shared->Prop}(hl:IsTup s.heap l items)(hb:IsTup s.heap b items2)(hi:IntsAre items.toList ns)(hj:IntsAre items2.toList ms)
  (hu:A.units<cLine)(h:Q (.bool (q2I ns ms)) s):wpAny (model prog w) A (compareOp .Lt (.ref l) (.ref b)) Q E s:=by
 obtain⟨⟨cls,dd,data,sl⟩,ho,hc,n,hd⟩:=id hl
 obtain⟨⟨cls2,dd2,data2,sl2⟩,ho2,hc2,n2,hd2⟩:=id hb
 simp only at hc hd hc2 hd2
 subst hc hd hc2 hd2
 exact richCompare_meets_room (op:= .Lt) ⟨_,ho,rfl⟩ ⟨_,ho2,rfl⟩ PySem.F.slot_tuple_lt PySem.F.entry_tuple_lt (PySem.F.args_tuple_lt_2 _ _) (q49 l b items items2 n n2 dd dd2 sl sl2 ns ms hi hj)
  ⟨ho,ho2,show Value.bool (q2I ns ms)≠Value.notImplemented/\Q (.bool (q2I ns ms)) s from⟨(fun x=>nomatch x),h⟩⟩ hu
theorem qca {t b:Addr}{vs ws:List Value}{Q:Value->Shared->Prop}(ht:IsTup s.heap t vs.toArray)(hb:IsTup s.heap b ws.toArray)(hv:vs≠[])
  (h1:ws=[]->Q (.ref t) s)(h2:ws≠[]->Q (.ref s.heap.objs.size) {s with heap:=s.heap.push {cls:= .type "tuple",data:= .seq (vs++ws).toArray}})
  (hsz:vs.length+ws.length<=sizeLine):wpAny (model prog w) A (binaryOp .Add (.ref t) (.ref b)) Q E s:=by
 obtain⟨⟨cls,dd,data,sl⟩,ho,hc,n,hd⟩:=id ht
 obtain⟨⟨cls2,dd2,data2,sl2⟩,ho2,hc2,n2,hd2⟩:=id hb
 simp only at hc hd hc2 hd2
 subst hc hd hc2 hd2
 have e:vs.toArray++ws.toArray=(vs++ws).toArray:=by simp
 by_cases hw:ws=[]
 ·exact concat_meets ⟨_,ho,rfl⟩ ⟨_,ho2,rfl⟩ noFill_tuple_add seq_tuple_add PySem.F.slot_tuple_add PySem.F.entry_tuple_add (PySem.F.args_tuple_add_2 _ _)
   (tuple_addW1 t b vs.toArray ws.toArray n n2 dd dd2 sl sl2 (by simpa using hv) (by simp[hw])) ⟨ho,ho2,h1 hw⟩
 ·refine concat_meets ⟨_,ho,rfl⟩ ⟨_,ho2,rfl⟩ noFill_tuple_add seq_tuple_add PySem.F.slot_tuple_add PySem.F.entry_tuple_add (PySem.F.args_tuple_add_2 _ _)
   (tuple_addW2 t b vs.toArray ws.toArray n n2 dd dd2 sl sl2 (by simpa using hv) (by simpa using hw) (by rw[List.size_toArray,List.size_toArray];exact hsz)) ⟨ho,ho2,?_⟩
  rw[e]
  exact h2 hw
def sIx (n d:Nat):Option Int->Nat
 |none=>d
 |some v=>if v<0 then(v+(n:Int)).toNat else min v.toNat n
theorem q9o (n d:Nat):sIx n d none=d:=rfl
theorem qbc (n d k:Nat):sIx n d (some (k:Int))=min k n:=by
 show(if (k:Int)<0 then((k:Int)+(n:Int)).toNat else min (k:Int).toNat n)=min k n
 rw[if_neg (by omega),Int.toNat_natCast]
theorem sIx_le (n d:Nat)(hd:d<=n)(o:Option Int):sIx n d o<=n:=by
 cases o with
 |none=>exact hd
 |some v=>
  show(if v<0 then(v+(n:Int)).toNat else min v.toNat n)<=n
  by_cases hv:v<0
  ·rw [if_pos hv];omega
  ·rw [if_neg hv];exact Nat.min_le_right _ _
theorem q8V (v:Int)(n d:Nat):(if v<0 then max (v+(n:Int)) 0 else min v (n:Int))=((sIx n d (some v):Nat):Int):=by
 show(if v<0 then max (v+(n:Int)) 0 else min v (n:Int))=(((if v<0 then(v+(n:Int)).toNat else min v.toNat n):Nat):Int)
 by_cases hv:v<0
 ·simp only[if_pos hv];omega
 ·simp only[if_neg hv];omega
theorem q7q (lo hi:Option Int)(n:Nat):Builtin.Slice.sliceAdjust lo hi 1 (n:Int)=(((sIx n 0 lo:Nat):Int),((sIx n n hi:Nat):Int)):=by
 have h1:¬((1:Int)<0):=by omega
 unfold Builtin.Slice.sliceAdjust
 simp only[h1,if_false]
 refine Prod.ext ?_ ?_
 ·cases lo with
  |none=>rfl
  |some v=>exact q8V v n 0
 ·cases hi with
  |none=>rfl
  |some v=>exact q8V v n n
theorem q76 (i j:Nat):Builtin.Slice.slicePlaces (i:Int) (j:Int) 1=j - i:=by
 unfold Builtin.Slice.slicePlaces
 have h1:(1:Int)>0:=by omega
 simp only[h1,if_true,Int.ediv_one]
 split<;>omega
theorem q3U {v:Value}{o:Option Int}{Q:Option Int->Shared->Prop}(p:IsPart v o)(h:Q o s):wpAny (model prog w) A (Builtin.Slice.slicePartIndex v) Q E s:=by
 cases p with
 |none=>exact slicePart_none h
 |int i t=>exact slicePart_int h
theorem q1E {sl:Addr}{vl vu:Value}{lo hi:Option Int}{n:Nat}{Q:Int×Int×Nat->Shared->Prop}(hs:s.heap.IsSliceOf sl vl vu .none)(pl:IsPart vl lo)(pu:IsPart vu hi)
  (h:Q (((sIx n 0 lo:Nat):Int),1,sIx n n hi - sIx n 0 lo) s):wpAny (model prog w) A (Builtin.Slice.sliceApplied (.ref sl) (pure (n:Int))) Q E s:=by
 obtain⟨os,hos,hcs,hds⟩:=id hs
 unfold Builtin.Slice.sliceApplied Builtin.Slice.sliceFields
 refine wpAny_bind (wpAny_bind (wpAny_field hos hds (x:=vl) rfl (wpAny_bind (wpAny_field hos hds (x:=vu) rfl (wpAny_bind (wpAny_field hos hds (x:= .none) rfl (wpAny_pure ?_)))))))
 refine wpAny_bind (slicePart_none ?_)
 show wpAny _ _ (if ((1:Int)==0)=true then _ else _) _ _ s
 rw[if_neg (by decide)]
 refine wpAny_bind (q3U pl (wpAny_bind (q3U pu (wpAny_bind (wpAny_pure ?_)))))
 show wpAny _ _ (match Builtin.Slice.sliceAdjust lo hi 1 (n:Int) with|(lo,hi)=>pure (lo,(1:Int),Builtin.Slice.slicePlaces lo hi 1)) _ _ s
 rw[q7q lo hi n]
 show wpAny _ _ (pure (((sIx n 0 lo:Nat):Int),(1:Int),Builtin.Slice.slicePlaces ((sIx n 0 lo:Nat):Int) ((sIx n n hi:Nat):Int) 1)) _ _ s
 rw[q76]
 exact wpAny_pure h
theorem q9y (xs:Array Value)(i k:Nat):((List.range k).filterMap fun(m:Nat)=>xs[((i:Int)+(m:Int)*1).toNat]?).toArray=((xs.toList.drop i).take k).toArray:=by
 have e:(fun(m:Nat)=>xs[((i:Int)+(m:Int)*1).toNat]?)=fun m=>xs[i+m]? :=by
  funext m
  have:((i:Int)+(m:Int)*1).toNat=i+m:=by omega
  rw[this]
 rw[e]
 have:=pick_run xs i k
 rw[List.filterMap_map] at this
 have e2:((fun x=>xs[x]?) ∘ fun x=>i+x)=fun m=>xs[i+m]? :=rfl
 rw[e2] at this
 rw[this]
theorem q2K {t sl:Addr}{items:Array Value}{vl vu:Value}{lo hi:Option Int}{Q:Value->Shared->Prop}(ht:IsTup s.heap t items)(hs:s.heap.IsSliceOf sl vl vu .none)(pl:IsPart vl lo)(pu:IsPart vu hi)
  (hw:¬(sIx items.size 0 lo=0/\sIx items.size items.size hi=items.size))
  (h:Q (.ref s.heap.objs.size) {s with heap:=s.heap.push {cls:= .type "tuple",data:= .seq ((items.toList.drop (sIx items.size 0 lo)).take (sIx items.size items.size hi - sIx items.size 0 lo)).toArray}})
  (hsz:items.size<=sizeLine):wpAny (model prog w) A (getItem (.ref t) (.ref sl)) Q E s:=by
 have htake:sizeOk (.seq ((items.toList.drop (sIx items.size 0 lo)).take (sIx items.size items.size hi - sIx items.size 0 lo)).toArray):=by
  show((items.toList.drop (sIx items.size 0 lo)).take (sIx items.size items.size hi - sIx items.size 0 lo)).toArray.size<=sizeLine
  rw[List.size_toArray,List.length_take,List.length_drop,Array.length_toList]
  omega
 have hj:sIx items.size items.size hi<=items.size:=sIx_le _ _ (Nat.le_refl _) hi
 obtain⟨os,hos,hcs,hds⟩:=id hs
 have hTs:s.TypeIs (.ref sl) "slice":=⟨os,hos,hcs⟩
 unfold getItem
 try with_reducible refine wpAny_holding ?_
 first|refine wpAny_bind (wpAny_pure ?_)|skip
 refine wpAny_bind (wpAny_sequenceKey ht.typeIs (by decide) ?_)
 refine wpAny_bind (wpAny_callSpecial?_slot (name:=Str.ofString "__getitem__") ht.typeIs PyProof.Rows.slot_tuple_getitem
  (wpAny_call_entry PyProof.Rows.slot_tuple_getitem ht.typeIs entry_tuple_getitem ?_ (args_tuple_getitem _ _)))
 show wpAny _ _ (Builtin.Tuple.tupleItemsOf (.ref t) >>= _) _ _ s
 refine wpAny_bind (tupleItemsOf_ ht ?_)
 refine wpAny_bind (wpAny_typeOf hTs ?_)
 rw[if_pos (by decide)]
 refine wpAny_bind (q1E hs pl pu ?_)
 have hno:¬((((sIx items.size 0 lo:Nat):Int)==0&&(1:Int)==1&&(sIx items.size items.size hi - sIx items.size 0 lo)==items.size)=true):=by
  intro q
  rw[Bool.and_eq_true,Bool.and_eq_true] at q
  have q1:((sIx items.size 0 lo:Nat):Int)=0:=eq_of_beq q.1.1
  have q2:sIx items.size items.size hi - sIx items.size 0 lo=items.size:=eq_of_beq q.2
  exact hw ⟨by omega,by omega⟩
 show wpAny _ _ (if (((sIx items.size 0 lo:Nat):Int)==0&&(1:Int)==1&&(sIx items.size items.size hi - sIx items.size 0 lo)==items.size)=true then _ else _) _ _ s
 rw[if_neg hno,q9y]
 first
  |exact wpAny_bind (m:=Builtin.Tuple.tupleExact _) (wpAny_newObj_type (wpAny_pure ⟨_,rfl,wpAny_pure h⟩) htake)
  |exact wpAny_bind (m:=Builtin.Tuple.tupleExact _) (wpAny_newObj_type (wpAny_bind (wpAny_pure (wpAny_pure ⟨_,rfl,wpAny_pure h⟩))) htake)
  |exact wpAny_bind (wpAny_bind (m:=Builtin.Tuple.tupleExact _) (wpAny_newObj_type (wpAny_pure (wpAny_pure ⟨_,rfl,wpAny_pure h⟩)) htake))
  |exact wpAny_bind (wpAny_bind (m:=Builtin.Tuple.tupleExact _) (wpAny_newObj_type (wpAny_pure ⟨_,rfl,wpAny_pure h⟩) htake))
end
end HT
namespace L2
open PySem PySem.Spec PyProof.Rows
abbrev TO:=St->Hp->(Option Int->Hp->Prop)->Prop
def PO (X:Cx)(e:Option Expr)(t:TO):Prop:=
 ∀(pins:List (Addr×Obj)) (s:Shared) (σ:St) (H:Hp) (Q:Option Int->Hp->Prop),Inv X pins σ H s->t σ H Q->
  wpAny (model X.prog X.w) X.A (evalPart e X.env) (fun u s'=>∃o H',Inv X pins σ H' s'/\IsPart u o/\Q o H') X.xe s
def q7A:TO:=fun _ H Q=>Q none H
def tPart (t:TE):TO:=fun σ H Q=>t σ H fun x H1=>∃i,x= .int i/\Q (some i) H1
theorem q2J {ns:List Int}:∀{us:List Value},Vals (ns.map V.int) us->IntsAre us ns:=by
 induction ns with
 |nil=>intro us r;rw[List.map_nil] at r;cases r;exact .nil
 |cons n ns ih=>
  intro us r
  rw[List.map_cons] at r
  cases r with
  |cons r1 r2=>
   obtain⟨t,e⟩:=r1
   subst e
   exact .cons n t (ih r2)
section
variable {X:Cx}{e:Expr}{te:TE}{lo hi:Option Expr}{tl th:TO}{pos p2:Pos}
theorem q62:PO X none q7A:=by
 intro pins s σ H Q I h
 rw[evalPart_none]
 exact wpAny_pure ⟨none,H,I,.none,h⟩
theorem q61 (h:PE X e te):PO X (some e) (tPart te):=by
 intro pins s σ H Q I hw
 rw[evalPart_some]
 refine thn (h pins s σ H _ I hw) fun u s1 ⟨x,H1,I1,r1,q1⟩=>?_
 obtain⟨i,rfl,q⟩:=q1
 obtain⟨t,rfl⟩:=r1
 exact⟨some i,H1,I1,.int i t,q⟩
def SlR (X:Cx)(r:V->Option Int->Option Int->Hp->VK->Prop):Prop:=
 ∀(pins:List (Addr×Obj)) (s:Shared) (σ:St) (H:Hp) (x:V) (v vl vu:Value) (lo hi:Option Int) (sl:Addr) (Q:VK),Inv X pins σ H s->RelV x v->s.heap.IsSliceOf sl vl vu .none->IsPart vl lo->IsPart vu hi->r x lo hi H Q->
  ∃T id,typeLookup (.type T) "__getitem__"=pure (some (.builtin id))/\s.TypeIs v T/\wpAny (model X.prog X.w) X.A (getItem v (.ref sl)) (EP X pins σ Q) X.xe s
def tSl (r:V->Option Int->Option Int->Hp->VK->Prop)(te:TE)(tl th:TO):TE:=fun σ H Q=>te σ H fun x H1=>tl σ H1 fun l H2=>th σ H2 fun u H3=>r x l u H3 Q
theorem q4r {r:V->Option Int->Option Int->Hp->VK->Prop}(hr:SlR X r)(he:PE X e te)(hl:PO X lo tl)(hu:PO X hi th):PE X (.Subscript e (.Slice lo hi none p2) pos) (tSl r te tl th):=by
 intro pins s σ H Q I h
 refine Subscript_ (thn (he pins s σ H _ I h) fun v s1 ⟨x,H1,I1,r1,q1⟩=>?_)
 refine wpAny_Slice (thn (hl pins s1 σ H1 _ I1 q1) fun vl s2 ⟨l,H2,I2,pl,q2⟩=>thn (hu pins s2 σ H2 _ I2 q2) fun vu s3 ⟨u,H3,I3,pu,q3⟩=>?_)
 rw[evalPart_none]
 refine wpAny_pure ?_
 have I4:Inv X pins σ H3 {s3 with heap:=s3.heap.push {cls:= .type "slice",data:= .fields #[vl,vu,.none]}}:=I3.kept (t':=s3.toks) fun b ob q=>Heap.get?_push_of_some _ q
 obtain⟨T,id,hT,ht,hg⟩:=hr pins {s3 with heap:=s3.heap.push {cls:= .type "slice",data:= .fields #[vl,vu,.none]}} σ H3 x v vl vu l u s3.heap.objs.size Q I4 r1 (Heap.IsSliceOf.new ..) pl pu q3
 show wpAny (model X.prog X.w) X.A (subscriptTail e (.Slice lo hi none p2) v (.ref s3.heap.objs.size)) (EP X pins σ Q) X.xe {s3 with heap:=s3.heap.push {cls:= .type "slice",data:= .fields #[vl,vu,.none]}}
 exact tail_any (ops:=[.ref s3.heap.objs.size,v]) ht hT hg (by with_unfolding_all rfl)
def cutV (xs:List V)(lo hi:Option Int):List V:=(xs.drop (HT.sIx xs.length 0 lo)).take (HT.sIx xs.length xs.length hi - HT.sIx xs.length 0 lo)
theorem q6d (xs:List V)(lo hi:Option Int):(cutV xs lo hi).length<=xs.length:=by
 unfold cutV
 rw[List.length_take,List.length_drop]
 omega
def rSlT (K:PySem.W.Frag):V->Option Int->Option Int->Hp->VK->Prop:=fun x lo hi H Q=>∃a xs,x= .ref a/\SqT K H a xs/\
 ¬(HT.sIx xs.length 0 lo=0/\HT.sIx xs.length xs.length hi=xs.length)/\∀p,H p=none->Q (.ref p) (upd H p (.tup (cutV xs lo hi)))
theorem sl_tup:SlR X (rSlT X.K):=by
 intro pins s σ H x v vl vu lo hi sl Q I rx hs pl pu h
 obtain⟨a,xs,rfl,hx,hw,q⟩:=h
 cases rx
 obtain⟨its,r,ht,hz⟩:=I.tuple hx
 have hlen:its.toArray.size=xs.length:=by rw[List.size_toArray];exact r.length.symm
 refine⟨"tuple",_,PyProof.Rows.slot_tuple_getitem.lookup,ht.typeIs,?_⟩
 refine HT.q2K ht hs pl pu (by rw[hlen];exact hw) ?_ (by rw[hlen];exact hz)
 rw[hlen]
 refine⟨.ref s.heap.objs.size,_,I.laid (t':=s.toks) (o:= .tup (cutV xs lo hi)) (fun b ob q=>Heap.get?_push_of_some _ q) (Nat.le_refl _) ?_,rfl,q _ (I.hok.fresh (Nat.le_refl _))⟩
 exact⟨Nat.le_trans (q6d xs lo hi) hz,_,(r.drop (HT.sIx xs.length 0 lo)).take (HT.sIx xs.length xs.length hi - HT.sIx xs.length 0 lo),IsTup.new _ _⟩
def rCatT (K:PySem.W.Frag):R2:=fun x y H Q=>∃a b xs ys,x= .ref a/\y= .ref b/\SqT K H a xs/\SqT K H b ys/\xs≠[]/\xs.length+ys.length<=sizeLine/\
 (ys=[]->Q (.ref a) H)/\(ys≠[]->∀p,H p=none->Q (.ref p) (upd H p (.tup (xs++ys))))
theorem Vals.nil_iff {xs:List V}{us:List Value}(r:Vals xs us):us=[]↔xs=[]:=by
 cases r with
 |nil=>simp
 |cons _ _=>simp
theorem qby:OpR X (binaryOp .Add) (rCatT X.K):=by
 intro pins s σ H x y v u Q I rx ry h
 obtain⟨a,b,xs,ys,rfl,rfl,ha,hb,hx,hz,q1,q2⟩:=h
 cases rx
 cases ry
 obtain⟨its,r1,p1,_⟩:=I.tuple ha
 obtain⟨its2,r2,p2,_⟩:=I.tuple hb
 refine HT.qca p1 p2 (fun z=>hx (r1.nil_iff.mp z)) (fun z=>⟨.ref a,H,I,rfl,q1 (r2.nil_iff.mp z)⟩) (fun z=>?_) (by rw[<-r1.length,<-r2.length];exact hz)
 refine⟨.ref s.heap.objs.size,_,I.laid (t':=s.toks) (o:= .tup (xs++ys)) (fun b ob q=>Heap.get?_push_of_some _ q) (Nat.le_refl _) ?_,rfl,q2 (fun w=>z (r2.nil_iff.mpr w)) _ (I.hok.fresh (Nat.le_refl _))⟩
 exact⟨by rw[List.length_append];exact hz,_,r1.append r2,IsTup.new _ _⟩
end
end L2
namespace L2
open PySem PySem.Spec PyProof.Rows
def ixN (n:Nat)(i:Int):Option Nat:=if 0<=i then(if i<n then some i.toNat else none) else if -(n:Int)<=i then some (i+n).toNat else none
def atI {α:Type}(xs:List α)(i:Int):Option α:=(ixN xs.length i).bind fun j=>xs[j]?
theorem q8k {n:Nat}{i:Int}{j:Nat}(h:ixN n i=some j):seqIndex? i n=some j/\j<n/\ -(n:Int)<=i/\i<n:=by
 unfold ixN at h
 by_cases h0:0<=i
 ·rw [if_pos h0] at h
  by_cases h1:i<n
  ·rw [if_pos h1] at h
   have e:i.toNat=j:=Option.some.inj h
   exact⟨by rw[seqIndex_of h0 h1,e],by omega,by omega,h1⟩
  ·rw [if_neg h1] at h;cases h
 ·rw [if_neg h0] at h
  by_cases h1: -(n:Int)<=i
  ·rw [if_pos h1] at h
   have e:(i+n).toNat=j:=Option.some.inj h
   exact⟨by rw[seqIndex_neg (by omega) h1,e],by omega,h1,by omega⟩
  ·rw [if_neg h1] at h;cases h
theorem q6k {α:Type}{xs:List α}{i:Int}{v:α}(h:atI xs i=some v):∃j,seqIndex? i xs.length=some j/\xs[j]? =some v/\j<xs.length/\ -(xs.length:Int)<=i/\i<xs.length:=by
 unfold atI at h
 cases e:ixN xs.length i with
 |none=>rw[e] at h;cases h
 |some j=>
  rw[e] at h
  obtain⟨h1,h2,h3,h4⟩:=q8k e
  exact⟨j,h1,h,h2,h3,h4⟩
theorem q0P {α:Type}{xs:List α}{j:Nat}{v:α}(h:xs[j]? =some v):atI xs (j:Int)=some v:=by
 have hj:j<xs.length:=(List.getElem?_eq_some_iff.mp h).1
 have e:ixN xs.length (j:Int)=some j:=by
  unfold ixN
  rw[if_pos (by omega),if_pos (by omega)];simp
 unfold atI;rw[e];exact h
def qch (b:Expr):Prop:=∀o i,subscripted b false o i=operate [o,i] (getItem o i)
def IxR (X:Cx)(r:R2):Prop:=
 ∀(value slice:Expr) (pins:List (Addr×Obj)) (s:Shared) (σ:St) (H:Hp) (x y:V) (v u:Value) (Q:VK),Inv X pins σ H s->RelV x v->RelV y u->r x y H Q->
  subscripted slice false v u=operate [v,u] (getItem v u)->wpAny (model X.prog X.w) X.A (subscriptTail value slice v u) (EP X pins σ Q) X.xe s
def MtR (X:Cx)(id:String)(r:V->List V->Hp->VK->Prop):Prop:=
 ∀(pins:List (Addr×Obj)) (s:Shared) (σ:St) (H:Hp) (x:V) (xs:List V) (v:Value) (us:List Value) (Q:VK),Inv X pins σ H s->RelV x v->Vals xs us->r x xs H Q->
  wpAny (model X.prog X.w) X.A (call (.builtin id) (v::us)) (EP X pins σ Q) X.xe s
section
variable {X:Cx}{a b:Expr}{ta tb:TE}{pos:Pos}
theorem qu {r:R2}(hr:IxR X r)(ha:PE X a ta)(hb:PE X b tb)(hs:qch b):PE X (.Subscript a b pos) (tOp r ta tb):=by
 intro pins s σ H Q I h
 exact Subscript_ (binT ha hb I h fun v u s2 x y H2 I2 rx ry q=>hr a b pins s2 σ H2 x y v u Q I2 rx ry q (hs _ _))
def rIxL (K:PySem.W.Frag):R2:=fun x y H Q=>∃p xs i v,x= .ref p/\y= .int i/\SqL K H p xs/\atI xs i=some v/\Q v H
def rIxT (K:PySem.W.Frag):R2:=fun x y H Q=>∃p xs i v,x= .ref p/\y= .int i/\SqT K H p xs/\atI xs i=some v/\Q v H
theorem qbU:IxR X (rIxL X.K):=by
 intro value slice pins s σ H x y v u Q I rx ry h hs
 obtain⟨p,xs,i,z,rfl,rfl,hq,he,q⟩:=h
 cases rx
 obtain⟨t,rfl⟩:=ry
 obtain⟨its,r,pl,hz⟩:=I.list hq
 obtain⟨j,h1,h2,h3,h4,h5⟩:=q6k he
 obtain⟨w,ew,rw'⟩:=r.get h2
 have hl:=r.length
 have hn:=q5t
 have fin:EP X pins σ Q w s:=⟨z,H,I,rw',q⟩
 by_cases h0:0<=i
 ·have hj:i.toNat=j:=by
   rw[seqIndex_of h0 h5] at h1
   exact Option.some.inj h1
  exact item_listR pl.isList h0 (by omega) (by rw[hj];simpa using ew) fin hs
 ·have hj:(i+(its.toArray.size:Int)).toNat=j:=by
   rw[seqIndex_neg (by omega) h4] at h1
   rw[List.size_toArray,<-hl]
   exact Option.some.inj h1
  exact subscriptTail_builtinR (x:=w) pl.isList.typeIs slot_list_getitem.lookup
   (wpAny_getItem_list_neg (Q:=fun r s'=>r=w/\EP X pins σ Q r s') pl.isList (by omega) (by rw[List.size_toArray]<;>omega) (by omega) (by rw[hj];simpa using ew) ⟨rfl,fin⟩) hs
theorem ix_tup:IxR X (rIxT X.K):=by
 intro value slice pins s σ H x y v u Q I rx ry h hs
 obtain⟨p,xs,i,z,rfl,rfl,hq,he,q⟩:=h
 cases rx
 obtain⟨t,rfl⟩:=ry
 obtain⟨its,r,pl,hz⟩:=I.tuple hq
 obtain⟨j,h1,h2,h3,h4,h5⟩:=q6k he
 obtain⟨w,ew,rw'⟩:=r.get h2
 have hl:=r.length
 have hn:=q5t
 have fin:EP X pins σ Q w s:=⟨z,H,I,rw',q⟩
 exact subscriptTail_builtinR (x:=w) pl.typeIs slot_tuple_getitem.lookup
  (getItem_tuple (j:=j) (Q:=fun r s'=>r=w/\EP X pins σ Q r s') pl (by omega) (by omega) (by rw[List.size_toArray,<-hl];exact h1) (by simpa using ew) ⟨rfl,fin⟩) hs
theorem q7g (its:List Value)(n j:Nat)(u:Value):Obj.mapSeq (·.setIfInBounds j u) {cls:= .type "list",data:= .seq its.toArray n}={cls:= .type "list",data:= .seq (its.set j u).toArray n}:=by
 simp[Obj.mapSeq]
theorem Inv.lst {pins:List (Addr×Obj)}{σ:St}{H:Hp}{s:Shared}{p:Addr}{xs:List V}(I:Inv X pins σ H s)(h:H p=some (.lst xs)):
  ∃(its:List Value) (n:Nat),Vals xs its/\s.heap.get? p=some {cls:= .type "list",data:= .seq its.toArray n}/\xs.length<=sizeLine:=by
 obtain⟨z,its,n,r,e⟩:=I.hok p _ h
 exact⟨its,n,r,e,z⟩
theorem Inv.lstUpd {pins:List (Addr×Obj)}{σ:St}{H:Hp}{s:Shared}{p:Addr}{xs ys:List V}{its its':List Value}{n n':Nat}{f:Obj->Obj}(I:Inv X pins σ H s)(h:H p=some (.lst xs))
  (ho:s.heap.get? p=some {cls:= .type "list",data:= .seq its.toArray n})(hf:f {cls:= .type "list",data:= .seq its.toArray n}={cls:= .type "list",data:= .seq its'.toArray n'})(r:Vals ys its')(hz:ys.length<=sizeLine)(t:Nat):
  Inv X pins σ (upd H p (.lst ys)) {s with heap:=s.heap.update p f,toks:=t}:=by
 have e:(s.heap.update p f).get? p=some {cls:= .type "list",data:= .seq its'.toArray n'}:=by
  rw[Heap.get?_update_self f ho (by rw[hf]<;>rfl),hf]
 refine I.write (x:=p) (e:=p) (by rw[h];trivial) (.inl rfl) (fun b u hb q=>(Heap.get?_update_other _ _ (Ne.symm hb)).trans q) ⟨_,e⟩ ?_
 exact⟨hz,its',n',r,e⟩
def rSetL:V->V->V->Hp->(Hp->Prop)->Prop:=fun o i v H Q=>∃p xs k j,o= .ref p/\i= .int k/\H p=some (.lst xs)/\ixN xs.length k=some j/\Q (upd H p (.lst (xs.set j v)))
theorem q6q:PSet X rSetL:=by
 intro pins s σ H o i v ov iv u Q I ro ri rv h
 obtain⟨p,xs,k,j,rfl,rfl,hp,hj,q⟩:=h
 cases ro
 obtain⟨t,rfl⟩:=ri
 obtain⟨its,n,r,ho,hz⟩:=I.lst hp
 obtain⟨h1,h2,h3,h4⟩:=q8k hj
 have hl:=r.length
 have hn:=q5t
 have I':Inv X pins σ (upd H p (.lst (xs.set j v))) {s with heap:=s.heap.update p (Obj.mapSeq (·.setIfInBounds j u))}:=
  I.lstUpd hp ho (q7g its n j u) (r.set rv j) (by rw[List.length_set];exact hz) s.toks
 by_cases h0:0<=k
 ·have hk:k.toNat=j:=by
   rw[seqIndex_of h0 h4] at h1
   exact Option.some.inj h1
  exact PySem.W.ki_setAt ho h0 (by omega) (by rw[List.size_toArray,<-hl];exact h4) (by rw[hk];exact⟨_,I',q⟩)
 ·have hk:(k+(its.toArray.size:Int)).toNat=j:=by
   rw[seqIndex_neg (by omega) h3] at h1
   rw[List.size_toArray,<-hl]
   exact Option.some.inj h1
  exact PySem.W.ki_setBack ho (by omega) (by rw[List.size_toArray,<-hl];exact h3) (by omega) (by rw[hk];exact⟨_,I',q⟩)
def q2c:V->Bool
 | .non=>true
 | .bl _=>true
 | .int _=>true
 | .str _=>true
 |_=>false
def eqV:V->V->Bool
 | .non,.non=>true
 | .bl a,.bl b=>a==b
 | .bl a,.int b=>(if a then 1 else 0)==b
 | .int a,.bl b=>a==(if b then 1 else 0)
 | .int a,.int b=>a==b
 | .str a,.str b=>a==b
 |_,_=>false
theorem q8C {A:Around}{s:Shared}{y x:V}{u v:Value}(ry:RelV y u)(rx:RelV x v)(fy:q2c y=true)(fx:q2c x=true):SeqAt.EqAt A s u v (eqV y x):=by
 cases y with
 |non=>
  cases ry
  cases x with
  |non=>cases rx;exact SeqAt.EqAt.same _
  |bl b=>cases rx;exact SeqAt.EqAt.none_bool b
  |int b=>obtain⟨t,rfl⟩:=rx;exact SeqAt.EqAt.none_int b t
  |str b=>obtain⟨t,rfl⟩:=rx;exact SeqAt.EqAt.none_str b t
  |_=>exact absurd (show false=true from fx) Bool.false_ne_true
 |bl a=>
  cases ry
  cases x with
  |non=>cases rx;exact SeqAt.EqAt.bool_none a
  |bl b=>cases rx;exact SeqAt.EqAt.bool_bool a b
  |int b=>obtain⟨t,rfl⟩:=rx;exact SeqAt.EqAt.bool_int a b t
  |str b=>obtain⟨t,rfl⟩:=rx;exact SeqAt.EqAt.bool_str a b t
  |_=>exact absurd (show false=true from fx) Bool.false_ne_true
 |int a=>
  obtain⟨t',rfl⟩:=ry
  cases x with
  |non=>cases rx;exact SeqAt.EqAt.int_none a t'
  |bl b=>cases rx;exact SeqAt.EqAt.int_bool a t' b
  |int b=>obtain⟨t,rfl⟩:=rx;exact SeqAt.EqAt.int_int a t' b t
  |str b=>obtain⟨t,rfl⟩:=rx;exact SeqAt.EqAt.int_str a t' b t
  |_=>exact absurd (show false=true from fx) Bool.false_ne_true
 |str a=>
  obtain⟨t',rfl⟩:=ry
  cases x with
  |non=>cases rx;exact SeqAt.EqAt.str_none a t'
  |bl b=>cases rx;exact SeqAt.EqAt.str_bool a t' b
  |int b=>obtain⟨t,rfl⟩:=rx;exact SeqAt.EqAt.str_int a t' b t
  |str b=>obtain⟨t,rfl⟩:=rx;exact SeqAt.EqAt.str_str a t' b t
  |_=>exact absurd (show false=true from fx) Bool.false_ne_true
 |_=>exact absurd (show false=true from fy) Bool.false_ne_true
theorem q5J:q1Y X (.builtin "len") (fun xs H Q=>∃p ys,xs=[.ref p]/\(SqL X.K H p ys\/SqT X.K H p ys)/\Q (.int ys.length) H):=by
 intro pins s σ H xs us Q I r h
 obtain⟨p,ys,rfl,hq,q⟩:=h
 obtain⟨u,rfl,rx⟩:=q3J r
 cases rx
 have hn:=q5t
 rcases hq with hq|hq
 ·obtain ⟨its,r',pl,hz⟩:=I.list hq
  have hlen:=r'.length
  exact Calls.call_len_list pl.isList (by simp only[List.size_toArray]<;>omega) ⟨.int ys.length,H,I.tok _,⟨s.toks+1,by rw[List.size_toArray,hlen]⟩,q⟩
 ·obtain ⟨its,r',pl,hz⟩:=I.tuple hq
  have hlen:=r'.length
  exact len_tuple pl (by simp only[List.size_toArray]<;>omega) ⟨.int ys.length,H,I.tok _,⟨s.toks+1,by rw[List.size_toArray,hlen]⟩,q⟩
theorem q5I:q1Y X (.type "list") (fun xs H Q=>∃p ys,xs=[.ref p]/\(SqL X.K H p ys\/SqT X.K H p ys)/\∀l,H l=none->Q (.ref l) (upd H l (.lst ys))):=by
 intro pins s σ H xs us Q I r h
 obtain⟨p,ys,rfl,hq,q⟩:=h
 obtain⟨u,rfl,rx⟩:=q3J r
 cases rx
 have fin:∀(its:List Value),Vals ys its->ys.length<=sizeLine->∀(h':Heap) (c':Nat),(∀b o',s.heap.get? b=some o'->h'.get? b=some o')->
   h'.get? s.heap.objs.size=some {cls:= .type "list",dict:=none,data:= .seq its.toArray c',slots:= #[]}->EP X pins σ Q (.ref s.heap.objs.size) {s with heap:=h'}:=fun its r' hz h' c' kp e=>
  ⟨.ref s.heap.objs.size,_,I.laid (t':=s.toks) kp (Nat.le_refl _) (show q0a X.prog X.w _ h' _ (.lst ys) from⟨hz,its,c',r',e⟩),rfl,q _ (I.hok.fresh (Nat.le_refl _))⟩
 rcases hq with hq|hq
 ·obtain ⟨its,r',pl,hz⟩:=I.list hq
  have hlen:=r'.length
  obtain⟨o,ho,hc,n,hd⟩:=pl.isList
  exact call_list_seq p (.inl rfl) ho hc hd (fun h' c' kp e=>fin its r' hz h' c' kp e) (by simp only[List.size_toArray]<;>omega)
 ·obtain ⟨its,r',pl,hz⟩:=I.tuple hq
  have hlen:=r'.length
  obtain⟨o,ho,hc,n,hd⟩:=pl
  exact call_list_seq p (.inr rfl) ho hc hd (fun h' c' kp e=>fin its r' hz h' c' kp e) (by simp only[List.size_toArray]<;>omega)
theorem q4E:q1Y X (.type "tuple") (fun xs H Q=>∃p ys,xs=[.ref p]/\((SqL X.K H p ys/\∀l,H l=none->Q (.ref l) (upd H l (.tup ys)))\/(SqT X.K H p ys/\Q (.ref p) H))):=by
 intro pins s σ H xs us Q I r h
 obtain⟨p,ys,rfl,h⟩:=h
 obtain⟨u,rfl,rx⟩:=q3J r
 cases rx
 rcases h with⟨hq,q⟩|⟨hq,q⟩
 ·obtain ⟨its,r',pl,hz⟩:=I.list hq
  have hlen:=r'.length
  refine call_tuple_list pl.isList (fun h' kp=>?_) (by simp only[List.size_toArray]<;>omega)
  have I1:Inv X pins σ H {s with heap:=h'}:=I.kept (t':=s.toks) kp
  have I2:Inv X pins σ (upd H h'.objs.size (.tup ys)) {s with heap:=h'.push {cls:= .type "tuple",data:= .seq its.toArray}}:=
   I1.laid (t':=s.toks) (fun b o e=>Heap.get?_push_of_some _ e) (Nat.le_refl _) (show q0a X.prog X.w _ _ _ (.tup ys) from⟨hz,its,r',IsTup.new _ _⟩)
  exact⟨.ref h'.objs.size,_,I2,rfl,q _ (I1.hok.fresh (Nat.le_refl _))⟩
 ·obtain ⟨its,r',pl,hz⟩:=I.tuple hq
  exact call_tuple_same pl ⟨.ref p,H,I,rfl,q⟩
def tyV (K:PySem.W.Frag)(T:String)(x:V)(H:Hp):Prop:=match x with
 | .str _=>T="str"
 | .int _=>T="int"
 | .ref p=>(T="list"/\∃xs,SqL K H p xs)\/(T="tuple"/\∃o,K.lookup p=some o/\o.cls= .type "tuple"/\o.dict=none)\/
   (T="dict"/\((∃kvs,H p=some (.dK kvs))\/∃kvs,H p=some (.dT kvs)))\/(T="set"/\∃S n,H p=some (.set S n))
 |_=>False
theorem tyV_is {pins:List (Addr×Obj)}{σ:St}{H:Hp}{s:Shared}{T:String}{x:V}{v:Value}(I:Inv X pins σ H s)(r:RelV x v)(ty:tyV X.K T x H):
  s.TypeIs v T/\∀a,v= .ref a->∃ob,s.heap.get? a=some ob/\ob.dict=none:=by
 cases x with
 |str z=>
  obtain⟨t,rfl⟩:=r
  cases(show T="str" from ty)
  exact⟨typeIs_str s z t,fun _ e=>nomatch e⟩
 |int i=>
  obtain⟨t,rfl⟩:=r
  cases(show T="int" from ty)
  exact⟨typeIs_int s i t,fun _ e=>nomatch e⟩
 |ref p=>
  cases r
  rcases ty with⟨rfl,xs,hq⟩|⟨rfl,o,hk,hc,hd⟩|⟨rfl,hk⟩|⟨rfl,S,n,hk⟩
  ·obtain ⟨its,_,pl,_⟩:=I.list hq
   refine⟨pl.isList.typeIs,fun a e=>?_⟩
   cases e
   obtain⟨o,n,e,c,hd,_⟩:=pl
   exact⟨o,e,hd⟩
  ·refine ⟨⟨o,I.kIn p o hk,hc⟩,fun a e=>?_⟩
   cases e
   exact⟨o,I.kIn _ o hk,hd⟩
  ·have z:∃o,s.heap.get? p=some o/\o.ExactDict:=by
    rcases hk with⟨kvs,hk⟩|⟨kvs,hk⟩
    ·obtain ⟨_,_,_,_,o,_,_,e,ex,_⟩:=I.hok p _ hk
     exact⟨o,e,ex⟩
    ·obtain ⟨_,_,_,_,o,_,_,e,ex,_⟩:=I.hok p _ hk
     exact⟨o,e,ex⟩
   obtain⟨o,e,ex⟩:=z
   refine⟨⟨o,e,ex.1⟩,fun a e2=>?_⟩
   cases e2
   exact⟨o,e,ex.2.1⟩
  ·obtain ⟨o,_,_,_,e,ex,_⟩:=I.hok p _ hk
   refine⟨⟨o,e,ex.1⟩,fun a e2=>?_⟩
   cases e2
   exact⟨o,e,ex.2.1⟩
 |_=>exact False.elim ty
def tBM (K:PySem.W.Frag)(T:String)(r:V->List V->Hp->VK->Prop)(to:TE)(t:TA):TE:=fun σ H Q=>to σ H fun x H1=>tyV K T x H1/\t σ H1 fun xs H2=>r x xs H2 Q
variable {o e:Expr}{es:List Expr}{to:TE}{t:TA}{name:Str}{apos cpos:Pos}{T id:String}{r:V->List V->Hp->VK->Prop}
theorem q9H (pa:PlainAttrs T)(slot:Slot T name id)(hty:typeOf (.builtin id)=pure (.type "method_descriptor"))(hm:MtR X id r)(ho:PE X o to)(ha:PA X (e::es) t)
  (hbase:attributeBase o name X.env (eval o X.env)=eval o X.env:=by rfl)
  (hfew:((backTo cpos (starEach (e::es) X.env)).all (fun x=> !x.1)&&(backToKw cpos (keywordEach [] X.env)).all (fun x=>x.1.isSome)
   &&decide ((e::es).length+([]:List Keyword).length+(if ([]:List Keyword).isEmpty then 0 else 1)<30))=true:=by rfl)
  (hline:(apos.endLine==cpos.line)=true:=by rfl)(hs:starEach (e::es) X.env=(false,eval e X.env)::starEach es X.env:=by rfl)(hplain:(backTo cpos (starEach es X.env)).any (·.1)=false:=by rfl):
  PE X (.Call (.Attribute o name apos) (e::es) [] cpos) (tBM X.K T r to t):=by
 intro pins s σ H Q I h
 refine wpAny_Call_method_late hbase hfew hline rfl (thn (ho pins s σ H _ I h) fun v s1 ⟨x,H1,I1,r1,ty,q1⟩=>?_)
 obtain⟨h1,h2⟩:=tyV_is I1 r1 ty
 refine⟨T,id,pa,slot,hty,h1,h2,?_⟩
 have hA:=ha cpos pins s1 σ H1 _ I1 q1
 rw[hs] at hA ⊢
 refine Calls.callWith_builtin (by show(false||(backTo cpos (starEach es X.env)).any (·.1))=false;rw[hplain]<;>rfl) (Calls.evalArgs_plain ?_)
 exact thn hA fun us s2 ⟨vs,H2,I2,r2,q2⟩=>hm pins s2 σ H2 x vs v us Q I2 r1 r2 q2
end
end L2
namespace L2
open PySem PySem.Spec PyProof.Rows
def MtM (X:Cx)(id:String)(r:V->List V->Hp->VK->Prop):Prop:=
 ∀(pins:List (Addr×Obj)) (s:Shared) (σ:St) (H:Hp) (x:V) (xs:List V) (v:Value) (us:List Value) (Q:VK),Inv X pins σ H s->RelV x v->Vals xs us->r x xs H Q->
  wpAny (model X.prog X.w) X.A (call (.builtin id) (v::us)) (EP X pins σ Q) X.xe s
theorem Vals.one:∀{x:V} {us:List Value},Vals [x] us->∃u,us=[u]/\RelV x u
 |_,_,.cons r .nil=>⟨_,rfl,r⟩
theorem Vals.rep {xs:List V}{us:List Value}(h:Vals xs us):∀k:Nat,Vals (List.replicate k xs).flatten (List.replicate k us).flatten
 |0=> .nil
 |k+1=>by
  rw[List.replicate_succ,List.replicate_succ,List.flatten_cons,List.flatten_cons]
  exact Vals.append h (Vals.rep h k)
theorem q5x (its:List Value):∀(k:Nat) (acc:List Value),
  List.foldl (fun x1 x2=>x1++x2) acc.toArray (List.replicate k its.toArray)=(acc++(List.replicate k its).flatten).toArray
 |0,acc=>by simp
 |k+1,acc=>by
  have e:acc.toArray++its.toArray=(acc++its).toArray:=by simp
  have e2:(acc++its)++(List.replicate k its).flatten=acc++(List.replicate (k+1) its).flatten:=by
   rw[List.replicate_succ,List.flatten_cons,List.append_assoc]
  rw[<-e2,<-q5x its k (acc++its),<-e,List.replicate_succ,List.foldl_cons]
section
variable {X:Cx}{pins:List (Addr×Obj)}{σ:St}{H:Hp}{s:Shared}{l b:Addr}{xs ys zs:List V}
theorem Inv.lset {its its':List Value}{n:Nat}{f:Array Value->Array Value}{t':Nat}(I:Inv X pins σ H s)(hH:H l=some (.lst xs))
  (e:s.heap.get? l=some {cls:= .type "list",data:= .seq its.toArray n})(hf:f its.toArray=its'.toArray)(hv:Vals ys its')(hz:ys.length<=sizeLine):
  Inv X pins σ (upd H l (.lst ys)) {s with heap:=s.heap.update l (Obj.mapSeq f),toks:=t'}:=by
 have q:=PySem.IsL.update e f
 rw[hf] at q
 refine I.write (x:=l) (e:=l) (by rw[hH];exact trivial) (.inl rfl) (fun b' u hb hu=>(Heap.get?_update_other s.heap (Obj.mapSeq f) (Ne.symm hb)).trans hu) ⟨_,q⟩ ?_
 exact⟨hz,its',_,hv,q⟩
theorem Inv.lnew {its:List Value}{t':Nat}(I:Inv X pins σ H s)(hv:Vals ys its)(hz:ys.length<=sizeLine):
  Inv X pins σ (upd H s.heap.objs.size (.lst ys)) {s with heap:=s.heap.push {cls:= .type "list",data:= .seq its.toArray},toks:=t'}:=
 I.laid (fun _ _ q=>Heap.get?_push_of_some _ q) (Nat.le_refl _) ⟨hz,its,0,hv,Heap.get?_push_size _ rfl⟩
theorem Inv.fresh (I:Inv X pins σ H s):H s.heap.objs.size=none:=I.hok.fresh (Nat.le_refl _)
theorem Inv.lstM (I:Inv X pins σ H s)(hH:H l=some (.lst xs)):xs.length<=sizeLine/\∃(its:List Value) (n:Nat),Vals xs its/\xs.length=its.length/\s.heap.get? l=some {cls:= .type "list",data:= .seq its.toArray n}:=by
 obtain⟨z,its,n,r,e⟩:=I.hok l _ hH
 exact⟨z,its,n,r,r.length,e⟩
theorem q9V {n:Nat}(h:n<=sizeLine):Builtin.List.listTooLong n=false:=by
 unfold Builtin.List.listTooLong
 exact decide_eq_false (by omega)
end
section
variable {X:Cx}
def q7U:V->List V->Hp->VK->Prop:=fun x vs H Q=>∃l xs y,x= .ref l/\vs=[y]/\H l=some (.lst xs)/\xs.length<sizeLine/\Q .non (upd H l (.lst (xs++[y])))
theorem q1L:MtM X "list.append" q7U:=by
 intro pins s σ H x vs v us Q I rx rv h
 obtain⟨l,xs,y,rfl,rfl,hH,hz,q⟩:=h
 cases rx
 obtain⟨u,rfl,ru⟩:=rv.one
 obtain⟨z,its,n,r,hl,e⟩:=I.lstM hH
 refine call_meets F.slot_list_append ⟨_,e,rfl⟩ F.entry_list_append (F.args_list_append_2 _ _) (PySem.list_append l its.toArray n u (by rw[List.size_toArray];omega)) ⟨e,?_⟩
 refine⟨.non,_,I.lset (its':=its++[u]) hH e (by simp) (r.append (.cons ru .nil)) ?_,rfl,q⟩
 rw[List.length_append,List.length_singleton]
 omega
def rCat:R2:=fun x y H Q=>∃l b xs zs,x= .ref l/\y= .ref b/\H l=some (.lst xs)/\H b=some (.lst zs)/\xs.length+zs.length<=sizeLine/\∀p,H p=none->Q (.ref p) (upd H p (.lst (xs++zs)))
theorem q6A:OpR X (binaryOp .Add) rCat:=by
 intro pins s σ H x y v u Q I rx ry h
 obtain⟨l,b,xs,zs,rfl,rfl,hH,hB,hz,q⟩:=h
 cases rx
 cases ry
 obtain⟨z,its,n,r,hl,e⟩:=I.lstM hH
 obtain⟨z2,its2,n2,r2,hl2,e2⟩:=I.lstM hB
 refine PySem.P.add_list e e2 ?_ (by rw[List.size_toArray,List.size_toArray];omega)
 have ea:its.toArray++its2.toArray=(its++its2).toArray:=by simp
 rw[ea]
 exact⟨.ref _,_,I.lnew (t':=s.toks) (r.append r2) (by rw[List.length_append];omega),rfl,q _ I.fresh⟩
def rRep:R2:=fun x y H Q=>∃l k xs,x= .ref l/\y= .int k/\H l=some (.lst xs)/\ -(2 ^ 63)<=k/\k<2 ^ 63/\xs.length*k.toNat<=sizeLine/\
 ∀p,H p=none->Q (.ref p) (upd H p (.lst (List.replicate k.toNat xs).flatten))
theorem qbO {α:Type}(xs:List α)(k:Nat):(List.replicate k xs).flatten.length=k*xs.length:=by
 induction k with
 |zero=>simp
 |succ k ih=>rw[List.replicate_succ,List.flatten_cons,List.length_append,ih,Nat.succ_mul,Nat.add_comm]
theorem op_rep:OpR X (binaryOp .Mult) rRep:=by
 intro pins s σ H x y v u Q I rx ry h
 obtain⟨l,k,xs,rfl,rfl,hH,h1,h2,hz,q⟩:=h
 cases rx
 obtain⟨t,rfl⟩:=ry
 obtain⟨z,its,n,r,hl,e⟩:=I.lstM hH
 have hlen:its.toArray.size*k.toNat<=sizeLine:=by rw[List.size_toArray,<-hl];exact hz
 have hcap:¬its.toArray.size*k.toNat>(2 ^ 63 - 1) / 8:=by
  have:(sizeLine:Nat)<=(2 ^ 63 - 1) / 8:=by decide
  omega
 have hfit:¬(!Builtin.List.listFitsIndex k)=true:=by
  rw[fitsIndex_both h1 h2]
  exact Bool.false_ne_true
 have hlong:¬Builtin.List.listTooLong (its.toArray.size*k.toNat)=true:=by
  rw[q9V hlen]
  exact Bool.false_ne_true
 have hnew:List.foldl (fun x1 x2=>x1++x2) #[] (List.replicate (if its.toArray.isEmpty=true then 0 else k.toNat) its.toArray)=(List.replicate k.toNat its).flatten.toArray:=by
  have f0:∀m:Nat,List.foldl (fun x1 x2=>x1++x2) #[] (List.replicate m its.toArray)=(List.replicate m its).flatten.toArray:=fun m=>by
   have:=q5x its m []
   rw[List.nil_append] at this
   exact this
  rw[f0]
  cases its with
  |nil=>simp
  |cons a r'=>rw[if_neg (by simp)]
 refine wpAny_binaryOp_repeat_ref (T:="list") (U:="int") (by decide) ⟨_,e,rfl⟩ (fun s'=>typeIs_int s' k t) noFill_list_mul F.fills_int_mul F.slot_int_rmul repeat_list F.slot_int_index.lookup
  (call_meets F.slot_int_rmul (typeIs_int s k t) F.entry_int_rmul (F.args_int_rmul_2 _ _) (int___rmul___int_list k t l its.toArray n)
   ⟨e,rfl,⟨_,e,rfl⟩,call_meets F.slot_list_mul ⟨_,e,rfl⟩ F.entry_list_mul (F.args_list_mul_2 _ _) (AutoListH.list___mul___list_int_3 l its.toArray n k t hfit hcap hlong) ⟨e,?_⟩⟩)
 rw[hnew]
 exact⟨.ref _,_,I.lnew (t':=s.toks) (r.rep k.toNat) (by rw[qbO,Nat.mul_comm];exact hz),rfl,q _ I.fresh⟩
end
end L2
namespace Att
open PySem PySem.W PySem.Calls PyProof.Rows
theorem q3A {P:Params}{h:Heap}:∀(ns:List Int) (vs:List Value),WellAll P h vs (ns.map WData.int)->IntsAre vs ns:=by
 intro ns
 induction ns with
 |nil=>
  intro vs w
  rw[List.map_nil] at w
  cases w
  exact .nil
 |cons n ns ih=>
  intro vs w
  rw[List.map_cons] at w
  cases w with
  |cons a b=>
   cases a
   exact .cons _ _ (ih _ b)
theorem q7N {l:OpenLaw}{n:Nat}(hn:l.most=some n){P:Params}{h:Heap}{args:List WData}{vals:List Value}
  (hpre:l.row.toRowW.claim.pre args=true)(hwl:WellAll P h vals args):
  ∃a vs ns,vals=[Value.ref a]/\args=[WData.list (ns.map WData.int)]/\h.get? a=some {cls:= .type "list",data:= .seq vs.toArray}/\IntsAre vs ns/\ns.length<=n:=by
 have hsh:WShape.hasAll [] args [.list .int]=true:=(pre_splitW hpre).1
 have hc:l.pre.holds [] {args:=args}=true:=(pre_splitW hpre).2
 obtain⟨d,r,rfl,h1,h2⟩:=hasAllW_cons hsh
 obtain rfl:=hasAllW_nil h2
 obtain⟨xs,rfl,h3⟩:=hasW_list h1
 obtain⟨ns,rfl⟩:=items_int h3
 have hlen:ns.length<=n:=by
  unfold OpenLaw.pre at hc
  have h4:(WTm.not (.lt (.lit (.int (n:Int))) (.len (.arg 0)))).holds [] {args:=[.list (ns.map .int)]}=true:=by
   have h4:=(holds_andW hc).1
   rw[hn] at h4
   exact h4
  have h5:=condW_of h4 (w_not (w_lt w_lit (w_len_list (w_arg rfl))))
  rw[List.length_map] at h5
  refine Nat.le_of_not_lt fun q=>?_
  have q':(n:Int)<((ns.length:Nat):Int):=by omega
  first
   |(rw[decide_eq_true q'] at h5;exact absurd h5 (by decide))
   |(simp at h5;omega)
 cases hwl with
 |cons w1 w2=>
  cases w2
  cases w1 with
  |list ho hall=>exact⟨_,_,ns,rfl,rfl,ho,q3A ns _ hall,hlen⟩
theorem q7Z (l:OpenLaw)(args:List WData):l.row.toRowW.claim.post args (.bool true) args=true:=
 postW_of (r:=l.row.toRowW) (X:=(true==true))
  (show WShape.has [] (.bool true) .bool=true by first|rfl|decide|simp[WShape.has,WShape.arms,WShape.armsAll])
  (show(WTm.eq .res (.lit (.bool true))).value [] {args:=args,res:=some (.bool true),after:=args}=some (.bool (true==true)) from w_eq_bool (w_res rfl) w_lit) rfl
theorem q6j {l:OpenLaw}{n:Nat}{q:Program}{loose:List Str}{XP:(Str->Option Value)->Heap->Prop}{YP:World->Heap->Prop}{d:DefRec}
  (hn:l.most=some n)(hdf:d.params.defaults=[])
  (call:∀(w:World) (s₀ s₁:Shared) (mg mb:Str->Option Value) (fa:Addr) (o:Obj) (pm cd doc:Value) (a:Addr) (vs:List Value) (ns:List Int),
   Ground q loose [] XP w s₀ mg mb s₁.heap->YP w s₁.heap->
   s₁.heap.get? fa=some o->o.data= .func (docDef d.name d.params d.body d.scope pm cd doc)->s₁.heap.CodeRec cd d.name->mg d.name=some (.ref fa)->
   s₁.heap.get? a=some {cls:= .type "list",data:= .seq vs.toArray}->IntsAre vs ns->ns.length<=n->s₁.gens= #[]->
   codeAny (model l.prog w) callerA (.call (.ref fa) ⟨[.ref a],[]⟩) (fun r s'=>r= .ok (.ret (.bool true))/\OldK s₁.heap s'.heap/\s'.os=s₁.os/\AllBare s'.gens) s₁):
  WalkO q loose XP YP l.row.toRowW d [] (fun f vs=>PySem.call f vs):=by
 intro w s₀ s₁ mg mb G Y fa o pm cd doc dV kV ho hd hcd hD hmg hg args vals as hpre hlay hrd hwl hlo
 obtain rfl:dV= .none:=Dflts.none hD hdf
 obtain rfl:kV= .none:=Dflts.noKw hD
 obtain⟨a,vs,ns,rfl,rfl,hobj,hints,hlen⟩:=q7N hn hpre hwl
 refine enter_call (codeAny_mono (call w s₀ s₁ mg mb fa o pm cd doc a vs ns G Y ho (fd_plain hd) hcd hmg hobj hints hlen hg) fun r s' hq=>?_)
 obtain⟨rfl,h2,h3,h4⟩:=hq
 exact⟨.inl ⟨.bool true,.bool true,[],rfl,fun _=>rfl,.bool true,q7Z l _,fun _=>⟨List.Pairwise.nil,fun _ hm=>(nomatch hm)⟩⟩,h2,h3,h4⟩
end Att
namespace L2
open PySem PySem.Spec PyProof.Rows
theorem q4Z:∀{vs:List Value} {ns:List Int},IntsAre vs ns->Vals (ns.map V.int) vs
 |_,_,.nil=> .nil
 |_,_,.cons n t h=> .cons ⟨t,rfl⟩ (q4Z h)
def Only (H:Hp):Prop:=∀b,H b=none\/∃o xs,H b=some (.frz o (.lst xs))
theorem qa5 {P:Program}{w:World}{K:PySem.W.Frag}{mg mb:Str->Option Value}{CX:CXT}{k:Nat}{fa a:Addr}{fd:FuncData}{x:Str}{sp:Sp}{s₁:Shared}{vs:List Value}{ns:List Int}
  (KX:K.In s₁.heap)(hns:s₁.heap.Ns mainGlobals mg)(hb:s₁.heap.Ns builtinsNs mb)(hbb:∀x:Str,x≠"__name__"->mb x=bootBuiltins x)(hlim:s₁.heap.NoLimit)(hg:s₁.gens= #[])
  (ha:s₁.heap.get? a=some {cls:= .type "list",data:= .seq vs.toArray})(hi:IntsAre vs ns)(hl:ns.length<=sizeLine)(hr:Room k callerA)
  (F:∀base:Heap,K.In base->base.Ns mainGlobals mg->FnOk P w K mg base CX k fa fd [x] sp)(hbind:∀(s:Shared) (u:Value),BindsTo s fd ⟨[u],[]⟩ [(x,u)])
  (hsp:∀H:Hp,Only H->SqL K H a (ns.map V.int)->sp [.ref a] H (fun v _=>v= .bl true) fun _ _ _=>False)
  (hCX:∀H e s',CX [] H s₁ (fun _ _ _=>False) e s'->False):
  codeAny (model P w) callerA (.call (.ref fa) ⟨[.ref a],[]⟩) (fun r s'=>r= .ok (.ret (.bool true))/\OldK s₁.heap s'.heap/\s'.os=s₁.os/\AllBare s'.gens) s₁:=by
 have rv:=q4Z hi
 have lenV:=hi.length
 -- from an abstract heap in which nothing but the script may be tracked
 have core:∀H:Hp,Only H->SqL K H a (ns.map V.int)->HOk P w H s₁.heap->(∀b,H b≠none->b=a)->(H a≠none->K.lookup a=none)->
   codeAny (model P w) callerA (.call (.ref fa) ⟨[.ref a],[]⟩) (fun r s'=>r= .ok (.ret (.bool true))/\OldK s₁.heap s'.heap/\s'.os=s₁.os/\AllBare s'.gens) s₁:=by
  intro H hO hS hok hA hK
  have base_of:∀{b:Addr} {o:Obj},s₁.heap.get? b=some o->H b=none->(hidT s₁.heap H).get? b=some o:=fun e n=>qab e n
  have noA:∀{b:Addr} {o:Obj} {es:Array DictEntry} {ep:Nat},s₁.heap.get? b=some o->o.data= .dict es ep->H b=none:=fun {b o es ep} e d=>by
   cases q:H b with
   |none=>rfl
   |some u=>
    have e':b=a:=hA b (by rw[q];simp)
    subst e'
    rw[ha] at e;cases e
    have d':Data.seq vs.toArray _=Data.dict es ep:=d
    cases d'
  have nsK:∀{b:Addr} {m:Str->Option Value},s₁.heap.Ns b m->(hidT s₁.heap H).Ns b m:=fun {b m} ⟨o,es,ep,e,d,r⟩=>⟨o,es,ep,base_of e (noA e d),d,r⟩
  have hKb:K.In (hidT s₁.heap H):=fun b o e=>base_of (KX b o e) (by
   cases q:H b with
   |none=>rfl
   |some u=>
    have e':b=a:=hA b (by rw[q];simp)
    subst e'
    rw[hK (by rw[q];simp)] at e;cases e)
  have hM:Mod K mg (hidT s₁.heap H):=⟨hKb,nsK hns,⟨mb,nsK hb,hbb⟩,let ⟨mc,h1,h2⟩:=hlim;⟨mc,nsK h1,h2⟩⟩
  have e0:Env0 P w K mg (hidT s₁.heap H) callerA [] s₁ H:=⟨rfl,hM,fun b o e=>qbG e,Nat.le_of_eq (q8u _ _),trivial,fun b hb=>absurd (show b∈([]:List Addr) from hb) (by simp),hok,.of_eq hg⟩
  refine codeAny_mono ((F _ hKb (nsK hns)).run callerA [] s₁ H ⟨[.ref a],[]⟩ [.ref a] [.ref a] _ _ hr e0 (hbind s₁ (.ref a)) (.cons rfl .nil) (hsp H hO hS)) fun r s' h=>?_
  cases r with
  |error e=>exact(hCX H e s' h).elim
  |ok fl=>
   cases fl with
   |next=>exact False.elim h
   |brk=>exact False.elim h
   |cont=>exact False.elim h
   |ret u=>
    obtain⟨v,H',os,bare,un,hok',r',q⟩:=h
    have q':v= .bl true:=q
    subst q'
    obtain rfl:u=Value.bool true:=r'
    refine⟨rfl,OldK.of_keep fun b o e=>?_,os,bare⟩
    cases q:H b with
    |none=>exact un.keep b o e q (by intro z;exact absurd (show b∈([]:List Addr) from z) (by simp)) (by simp)
    |some u=>
     rcases hO b with z|⟨ob,xs,z⟩
     ·rw [q] at z;cases z
     ·have z2:=un.frzs b ob _ z
      obtain⟨e1,_⟩:=hok b _ z
      obtain⟨e2,_⟩:=hok' b _ z2
      rw[e] at e1;cases e1
      exact e2
 cases hk:K.lookup a with
 |some o=>
  -- the script is one of the module's own objects
  have e:=KX a o hk
  rw[ha] at e
  cases e
  refine core (fun _=>none) (fun _=> .inl rfl) (.inr ⟨_,vs.toArray,_,hk,rfl,rfl,rfl,by rw[List.size_toArray,lenV];exact hl,by simpa using rv⟩) (fun b u z=>by have z':(none:Option HO)=some u:=z;cases z') (fun b z=>absurd rfl z) fun z=>absurd rfl z
 |none=>
  refine core (fun b=>if b=a then some (.frz {cls:= .type "list",data:= .seq vs.toArray} (.lst (ns.map V.int))) else none) (fun b=>?_) (.inl (.inr ⟨{cls:= .type "list",data:= .seq vs.toArray},if_pos rfl⟩)) (fun b u z=>?_) (fun b z=>?_) fun _=>hk
  ·by_cases hb:b=a
   ·exact .inr ⟨_,_,if_pos hb⟩
   ·exact .inl (if_neg hb)
  ·by_cases hb:b=a
   ·have z':=(if_pos hb).symm.trans z
    cases z'
    subst hb
    exact⟨ha,by rw[List.length_map];exact hl,vs,_,rv,ha⟩
   ·have z':=(if_neg hb).symm.trans z
    cases z'
  ·by_cases hb:b=a
   ·exact hb
   ·exact absurd (if_neg hb) z
end L2
namespace L2
open PySem PySem.Spec PyProof.Rows
theorem qaU {l:PySem.W.OpenLaw}{n k:Nat}{q:Program}{loose:List Str}{XP:(Str->Option Value)->Heap->Prop}{YP:World->Heap->Prop}{d:DefRec}{K:Params->PySem.W.Frag}{CX:World->CXT}{sp:World->Sp}{x:Str}
  (hn:l.most=some n)(hn2:n<=sizeLine)(hdf:d.params.defaults=[])(hr:Room k callerA)
  (hY:∀(w:World) (h:Heap),YP w h->(K w.params).In h)
  (F:∀(w:World) (mg:Str->Option Value) (fa:Addr) (h:Heap),(K w.params).In h->h.Ns mainGlobals mg->mg d.name=some (.ref fa)->
   ∃fd:FuncData,(∀(s:Shared) (u:Value),BindsTo s fd ⟨[u],[]⟩ [(x,u)])/\
    ∀base:Heap,(K w.params).In base->base.Ns mainGlobals mg->FnOk l.prog w (K w.params) mg base (CX w) k fa fd [x] (sp w))
  (hsp:∀(w:World) (H:Hp) (a:Addr) (ns:List Int),ns.length<=n->Only H->SqL (K w.params) H a (ns.map V.int)->sp w [.ref a] H (fun v _=>v= .bl true) fun _ _ _=>False)
  (hCX:∀(w:World) (H:Hp) (s:Shared) (e:Value) (s':Shared),CX w [] H s (fun _ _ _=>False) e s'->False):
  PySem.W.WalkO q loose XP YP l.row.toRowW d [] (fun f vs=>PySem.call f vs):=by
 refine Att.q6j hn hdf fun w s₀ s₁ mg mb fa o pm cd doc a vs ns G Y ho hd hcd hmg hobj hints hlen hg=>?_
 have KX:=hY w _ Y
 obtain⟨fd,hb,hF⟩:=F w mg fa _ KX G.T.g hmg
 exact qa5 KX G.T.g G.T.b G.T.builtins G.T.nolimit hg hobj hints (Nat.le_trans hlen hn2) hr hF hb (fun H hO hS=>hsp w H a ns hlen hO hS) fun H e s'=>hCX w H s₁ e s'
end L2
namespace L2
open PySem PySem.Spec PyProof.Rows
def qC (s:Stmt)(j:Nat):Stmt:=match s with
 | .ClassDef _ _ _ body _ _ _ _ _ _ _=>body.getD j (.Pass ⟨0,0,0,0⟩)
 |_=> .Pass ⟨0,0,0,0⟩
def q02 (s:Stmt):Arguments:=match s with
 | .FunctionDef _ a _ _ _ _ _ _ _ _=>a
 |_=>{posonlyargs:=[],args:=[],vararg:=none,kwonlyargs:=[],kw_defaults:=[],kwarg:=none,defaults:=[]}
def qL (s:Stmt):List Stmt:=match s with
 | .FunctionDef _ _ b _ _ _ _ _ _ _=>b
 |_=>[]
def qd (s:Stmt):Scope:=match s with
 | .FunctionDef _ _ _ _ _ _ sc _ _ _=>sc
 |_=>{kind:= .function,names:=[],isGenerator:=false,isCoroutine:=false}
abbrev CX0:CXT:=fun _ _ _ _ _ _=>False
abbrev E0:XK:=fun _ _ _=>False
theorem q63 {X:Cx}:q46 CX0 X E0:=fun _ _ _ _ _ _ _ h=>h.elim
structure Fun (K:PySem.W.Frag)(x qual:Str)(st:Stmt)(f:Addr)(fd:FuncData):Prop where
 ex:∃(oc:Value) (od:Option Addr) (kV doc pm:Value) (an:Option Addr) (cdv ct:Value) (osl:Array (Option Value)),
  fd=PySem.W.fnOf x qual (q02 st) (qL st) (qd st) .none kV doc pm an cdv ct/\K.lookup f=some ⟨oc,od,.func fd,osl⟩/\PySem.W.codeIn K cdv qual=true
 kp:PySem.W.keepIn K (.ref f)=true
section
variable {P:Program}{w:World}{K:PySem.W.Frag}{mg:Str->Option Value}{base:Heap}
theorem Fun.ok {x qual:Str}{st:Stmt}{f:Addr}{fd:FuncData}{N ps:List Str}{k:Nat}{sp:Sp}(F:Fun K x qual st f fd)(S:FnScope N ps (qd st))(len:∀vs H Q E,sp vs H Q E->vs.length=ps.length)
  (hbody:∀(cdv:Value) (A:Around) (outer:List Env) (s:Shared) (H:Hp) (vs:List V) (Q:VK) (E:XK),Room k (A.deeper (envOfC qual (qd st) s.heap.objs.size f cdv))->sp vs H Q E->
   ∃t,PSs (cxOf CX0 P w K mg base N qual (qd st) f cdv A outer s H E).nox (qL st) t/\t {nx:=fun _ H'=>Q .non H',rt:=Q} (start N vs) H):FnOk P w K mg base CX0 (k+1) f fd ps sp:=by
 obtain⟨oc,od,kV,doc,pm,an,cdv,ct,osl,rfl,lk,hcd⟩:=F.ex
 refine fn_of lk hcd S len fun A outer s H vs Q E hr hsp=>?_
 obtain⟨t,h,q⟩:=hbody cdv A outer s H vs Q E hr hsp
 exact⟨t,h.nox,q⟩
theorem Fun.binds {x qual:Str}{st:Stmt}{f:Addr}{fd:FuncData}{ps:List Str}(F:Fun K x qual st f fd)
  (h:∀(kV doc pm:Value) (an:Option Addr) (cdv ct:Value) (us:List Value),us.length=ps.length->bindArgs (PySem.W.fnOf x qual (q02 st) (qL st) (qd st) .none kV doc pm an cdv ct) ⟨us,[]⟩=pure (ps.zip us)):q1Z K fd ps []:=by
 obtain⟨oc,od,kV,doc,pm,an,cdv,ct,osl,rfl,lk,hcd⟩:=F.ex
 exact .all (h kV doc pm an cdv ct)
theorem q2t {x qual:Str}{st:Stmt}{f:Addr}{oc:Value}{od an:Option Addr}{osl:Array (Option Value)}{kV doc pm cdv ct:Value}(l:K.lookup f=some ⟨oc,od,.func (PySem.W.fnOf x qual (q02 st) (qL st) (qd st) .none kV doc pm an cdv ct),osl⟩)
  (c:PySem.W.codeIn K cdv qual=true)(k:PySem.W.keepIn K (.ref f)=true):Fun K x qual st f (PySem.W.fnOf x qual (q02 st) (qL st) (qd st) .none kV doc pm an cdv ct):=⟨⟨oc,od,kV,doc,pm,an,cdv,ct,osl,rfl,l,c⟩,k⟩
end
theorem hu_of {A:Around}{k:Nat}(hr:Room k A):A.units+1<cLine:=Nat.lt_of_le_of_lt (Nat.add_le_add_left (by decide:1<=64) _) hr.units
section
variable {X:Cx}
theorem pv (i:Nat){x:Str}{pos:Pos}(hN:X.N[i]? =some x:=by rfl)(hv:Vis X.env.scope x:=by first|exact Or.inl rfl|exact Or.inr (Or.inl rfl)|exact Or.inr (Or.inr rfl))(hd:(x==("__debug__":Str))=false:=by decide)
  (hcd:(x==("__classdict__":Str))=false:=by decide):PE X (.Name x pos) (tVar i):=pe_var hN hv hd hcd
end
theorem iteF {A B:Prop}(h:B):if false=true then A else B:=by
 rw[if_neg Bool.false_ne_true]
 exact h
theorem iteT {A B:Prop}(h:A):if true=true then A else B:=by
 rw[if_pos rfl]
 exact h
theorem ite2 {c A B:Prop}[Decidable c](h1:c->A)(h2:¬c->B):if c then A else B:=by
 by_cases h:c
 ·rw [if_pos h]
  exact h1 h
 ·rw [if_neg h]
  exact h2 h
def Same (H H':Hp):Prop:=∀b o,H b=some o->H' b=some o
theorem Same.refl (H:Hp):Same H H:=fun _ _ h=>h
theorem Same.trans {H H1 H2:Hp}(a:Same H H1)(b:Same H1 H2):Same H H2:=fun c o h=>b c o (a c o h)
theorem Same.free {H H':Hp}(e:Same H H'){l:Addr}(h:H' l=Option.none):H l=Option.none:=by
 cases q:H l with
 |none=>rfl
 |some o=>
  rw[e l o q] at h
  cases h
theorem Same.seq {K:PySem.W.Frag}{H H':Hp}{a:Addr}{xs:List V}(e:Same H H')(h:SqL K H a xs):SqL K H' a xs:=by
 rcases h with(h|⟨o,h⟩)|h
 ·exact .inl (.inl (e _ _ h))
 ·exact .inl (.inr ⟨o,e _ _ h⟩)
 ·exact .inr h
end L2
set_option maxHeartbeats 4000000
namespace L2
open PySem PySem.Spec PyProof.Rows
theorem fls {α:Type}{M:Model}{A:Around}{t:Sem α}{Q:α->Shared->Prop}{E:Value->Shared->Prop}{s:Shared}(h:wpAny M A t Q (fun _ _=>False) s):wpAny M A t Q E s:=
 wpAny_mono h (fun _ _ q=>q) fun _ _ z=>z.elim
section
variable {prog:Program}{w:World}{A:Around}{R:Result->Shared->Prop}{s:Shared}
theorem q5G {elt target iter:Expr}{ifs:List Expr}{scope:Scope}{pos:Pos}{it acc:Value}{env:Env}(J:Nat->Shared->Prop)
  (turn:∀n s,J n s->wpAny (model prog w) A (pyNext it) (fun r s₁=>match r with
   |none=>R (.ok .next) s₁
   | some v=>wpAny (model prog w) A (letOwnedTupleGo target it v) (fun _ s₂=>wpAny (model prog w) A (assign target env v) (fun _ s₃=>
     wpAny (model prog w) A (forIn ifs true fun c r=>if r=true then do let ok<-isTrue c env (eval c env);pure (ForInStep.yield ok) else pure (ForInStep.yield r)) (fun ok s₄=>
      if ok=true then wpAny (model prog w) A (eval elt env) (fun x s₅=>
       wpAny (model prog w) A (call (.builtin "list.append") [acc,x]) (fun _ s₆=>∃m,m<n/\J m s₆) (fun _ _=>False) s₅) (fun _ _=>False) s₄
      else∃m,m<n/\J m s₄) (fun _ _=>False) s₃) (fun _ _=>False) s₂) (fun _ _=>False) s₁) (fun _ _=>False) s)
  (n:Nat)(h:J n s):
  codeAny (model prog w) A (.compLoop (.ListComp elt [⟨target,iter,ifs,0⟩] scope pos) 0 it acc env) R s:=by
 refine codeAny_loop rfl J (fun n s hI=>?_) n h
 show wpAny _ A ((compTurn (.ListComp elt [⟨target,iter,ifs,0⟩] scope pos) 0 it acc env).onRaise (fun x=>do noteFrame x env;theTreesLotGoes x)) _ _ s
 refine wpAny_noted (fls ?_)
 rw[compTurn_list]
 refine wpAny_bind (wpAny_standAt (wpAny_bind (wpAny_mono (turn n s hI) (fun r s₁ h₁=>?_) fun _ _ h'=>h')))
 cases r with
 |none=>exact wpAny_pure h₁
 |some v=>
  refine wpAny_bind (wpAny_mono h₁ (fun _ s₂ h₂=>wpAny_bind (wpAny_mono h₂ (fun _ s₃ h₃=>wpAny_bind (wpAny_mono h₃ (fun ok s₄ h₄=>?_) fun _ _ h'=>h')) fun _ _ h'=>h')) fun _ _ h'=>h')
  cases ok with
  |false=>exact wpAny_pure ⟨rfl,h₄⟩
  |true=>exact wpAny_bind (wpAny_bind (wpAny_mono h₄ (fun x s₅ h₅=>wpAny_bind (wpAny_mono h₅ (fun _ s₆ h₆=>wpAny_pure (wpAny_pure ⟨rfl,h₆⟩)) fun _ _ h'=>h')) fun _ _ h'=>h'))
end
def clOf (scope:Scope)(env:Env):List (Str×Addr):=(scope.names.filter fun y=>y.2== .free).reverse.map fun y=>(y.1,(env.cells.lookup y.1).getD 0)
theorem q3E {scope:Scope}{env:Env}(h:∀y∈scope.names,y.2= .free->∃c,env.cells.lookup y.1=some c):closureFor scope env=pure (clOf scope env):=by
 unfold closureFor clOf
 have key:∀(l:List (Str×NameKind)) (cs:List (Str×Addr)),(∀y∈l,y.2= .free->∃c,env.cells.lookup y.1=some c)->
   (forIn l cs (fun x r=>match x with
    |(name,kind)=>if (kind==NameKind.free)=true then do let a<-cellOf env name;pure (ForInStep.yield ((name,a)::r)) else pure (ForInStep.yield r)):Sem (List (Str×Addr)))=
    pure ((l.filter fun y=>y.2== .free).reverse.map (fun y=>(y.1,(env.cells.lookup y.1).getD 0))++cs):=by
  intro l
  induction l with
  |nil=>intro cs _;rfl
  |cons y l ih=>
   intro cs hl
   obtain⟨n,k⟩:=y
   have ih':=fun cs=>ih cs fun y hy=>hl y (List.mem_cons_of_mem _ hy)
   rw[List.forIn_cons]
   by_cases hk:k= .free
   ·subst hk
    obtain⟨c,hc⟩:=hl (n,.free) List.mem_cons_self rfl
    have e:cellOf env n=pure c:=by unfold cellOf;rw[hc]
    simp only[beq_self_eq_true,if_true,e,pure_bind]
    rw[ih']
    rw[List.filter_cons_of_pos (by rfl),List.reverse_cons,List.map_append,List.append_assoc]
    simp[hc]
   ·have hb:(k==NameKind.free)=false:=by simpa using hk
    simp only[hb,Bool.false_eq_true,if_false,pure_bind]
    rw[ih',List.filter_cons_of_neg (by simp[hb])]
 have:=key scope.names [] h
 rw[List.append_nil] at this
 first
  |exact this
  |(rw[this];rfl)
  |(simp only[bind_pure];exact this)
theorem q25 {f:Str->Addr}{x:Str}{c:Addr}:∀{l:List (Str×NameKind)},(l.map fun y=>(y.1,f y.1)).lookup x=some c->c=f x/\∃k,(x,k)∈l
 |[],h=>by simp at h
 |(n,k)::l,h=>by
  rw[List.map_cons,List.lookup_cons] at h
  cases e:x==n with
  |true=>
   rw[e] at h
   have e':x=n:=by simpa using e
   subst e'
   exact⟨(Option.some.inj h).symm,k,List.mem_cons_self⟩
  |false=>
   rw[e] at h
   obtain⟨h1,k',h2⟩:=q25 h
   exact⟨h1,k',List.mem_cons_of_mem _ h2⟩
theorem q26 {f:Str->Addr}{x:Str}{k:NameKind}:∀{l:List (Str×NameKind)},(x,k)∈l->(l.map fun y=>(y.1,f y.1)).lookup x=some (f x)
 |[],h=>nomatch h
 |(n,k')::l,h=>by
  rw[List.map_cons,List.lookup_cons]
  cases e:x==n with
  |true=>
   have e':x=n:=by simpa using e
   subst e'
   rfl
  |false=>
   rcases List.mem_cons.mp h with q|q
   ·cases q
    simp at e
   ·exact q26 q
theorem q6M {scope:Scope}{env:Env}(h:∀y∈scope.names,y.2= .free->∃c,env.cells.lookup y.1=some c){x:Str}{c:Addr}(e:(clOf scope env).lookup x=some c):env.cells.lookup x=some c:=by
 obtain⟨h1,k,h2⟩:=q25 (f:=fun x=>(env.cells.lookup x).getD 0) e
 have h3:=List.mem_filter.mp (List.mem_reverse.mp h2)
 obtain⟨c',hc⟩:=h (x,k) h3.1 (by simpa using h3.2)
 have hc':env.cells.lookup x=some c':=hc
 rw[hc'] at h1 ⊢
 rw[h1]
 rfl
theorem q6N {scope:Scope}{env:Env}{x:Str}(h:(x,NameKind.free)∈scope.names):(clOf scope env).lookup x=some ((env.cells.lookup x).getD 0):=
 q26 (f:=fun x=>(env.cells.lookup x).getD 0) (k:= .free) (List.mem_reverse.mpr (List.mem_filter.mpr ⟨h,rfl⟩))
theorem q22 {scope:Scope}{env:Env}{x:Str}:(relabel scope env).names.lookup x=(scope.names.lookup x).map fun k=>if (k== .free&&env.scope.kind== .function&&env.kindOf x==some .cell)=true then .cell else k:=by
 unfold relabel
 show List.lookup x (scope.names.map _)=_
 induction scope.names with
 |nil=>rfl
 |cons y l ih=>
  obtain⟨n,k⟩:=y
  rw[List.map_cons]
  show List.lookup x ((if (k==NameKind.free&&env.scope.kind==ScopeKind.function&&env.kindOf n==some NameKind.cell)=true then(n,NameKind.cell) else(n,k))::_)=_
  cases e:x==n with
  |true=>
   have e':x=n:=by simpa using e
   subst e'
   by_cases hc:(k==NameKind.free&&env.scope.kind==ScopeKind.function&&env.kindOf x==some NameKind.cell)=true
   ·rw [if_pos hc,List.lookup_cons,List.lookup_cons,e]
    show some _=some (if _ then _ else _)
    rw[if_pos hc]
   ·rw [if_neg hc,List.lookup_cons,List.lookup_cons,e]
    show some _=some (if _ then _ else _)
    rw[if_neg hc]
  |false=>
   by_cases hc:(k==NameKind.free&&env.scope.kind==ScopeKind.function&&env.kindOf n==some NameKind.cell)=true
   ·rw [if_pos hc,List.lookup_cons,List.lookup_cons,e]
    exact ih
   ·rw [if_neg hc,List.lookup_cons,List.lookup_cons,e]
    exact ih
def q0j (X:Cx)(N:List Str)(scope:Scope)(C:Addr)(s:Shared)(H:Hp)(fp:List Addr):Cx where
 prog:=X.prog
 w:=X.w
 K:=X.K
 mg:=X.mg
 base:=X.base
 A:=X.A
 N:=N
 s₀:=s
 H₀:=H
 env:=compEnvC scope (clOf scope X.env) C X.env
 outer:=X.stack
 stack:=X.stack
 ex:=fp
 fn:=fun _=>false
 calm:=X.calm
 pn:=[]
 xe:=fun _ _=>False
def q2Z (own:Nat)(caps:List Nat)(σ:St):St:=List.replicate own none++caps.map fun j=>(σ[j]?).getD none
structure CompOk (X:Cx)(N:List Str)(scope:Scope)(own:Nat)(caps:List Nat):Prop where
 kind:scope.kind= .function
 names:∀y∈scope.names,y.2= .local->scope.names.lookup y.1=some .local
 nocell:∀y∈scope.names,y.2≠ .cell
 free:∀y∈scope.names,y.2= .free->X.env.kindOf y.1=some .cell\/X.env.kindOf y.1=some .free
 len:N.length=own+caps.length
 cap:∀(i j:Nat) (x:Str),caps[i]? =some j->N[own+i]? =some x->X.N[j]? =some x/\scope.names.lookup x=some .free
theorem CompOk.cells {X:Cx}{N:List Str}{scope:Scope}{own:Nat}{caps:List Nat}(O:CompOk X N scope own caps)(ok:X.Ok):∀y∈scope.names,y.2= .free->∃c,X.env.cells.lookup y.1=some c:=
 fun y hy hf=>ok.has y.1 (O.free y hy hf)
section
variable {X:Cx}{pins:List (Addr×Obj)}{σ:St}{H:Hp}{s:Shared}{N:List Str}{scope:Scope}{own:Nat}{caps:List Nat}
theorem Inv.block {h₁:Heap}{tk:Nat}{fp:List Addr}(O:CompOk X N scope own caps)(I:Inv X pins σ H s)(hf:∀b∈fp,FpOk X pins H b)(hlt:∀b∈fp,b<s.heap.objs.size){m:Str->Option Value}(hns:h₁.Ns s.heap.objs.size m)
  (hk:∀b o,s.heap.get? b=some o->h₁.get? b=some o):Inv (q0j X N scope s.heap.objs.size s H fp) [] (q2Z own caps σ) H {s with heap:=h₁,toks:=tk}:=by
 have hcl:=O.cells I.ok
 have sub:∀x c,(clOf scope X.env).lookup x=some c->X.env.cells.lookup x=some c:=fun x c e=>q6M hcl e
 have stk:∀b∈fp,b∉frs X.stack:=fun b hb z=>by
  obtain⟨_,f1,f2,_⟩:=hf b hb
  rcases List.mem_cons.mp (I.stkSub b z) with q|q
  ·exact f1 q
  ·exact f2 q
 have nocl:∀x,(relabel scope X.env).names.lookup x=some .cell\/(relabel scope X.env).names.lookup x=some .free->(x,NameKind.free)∈scope.names:=fun x hx=>by
  rw[q22] at hx
  cases e:scope.names.lookup x with
  |none=>rw[e] at hx;rcases hx with hx|hx<;>cases hx
  |some k=>
   have hm:=PySem.mem_of_lookup e
   have hc:=O.nocell _ hm
   cases k with
   |free=>exact hm
   |cell=>exact absurd rfl hc
   |_=>rw[e] at hx;rcases hx with hx|hx<;>simp at hx
 have ok:(q0j X N scope s.heap.objs.size s H fp).Ok:=
  {mod:=I.ok.mod
   kind:=O.kind
   glob:=I.ok.glob
   blt:=I.ok.blt
   above:=Nat.le_refl _
   inj:=fun x y c h1 h2=>I.ok.inj x y c (sub x c h1) (sub y c h2)
   has:=fun x hx=>⟨_,q6N (nocl x hx)⟩
   cab:=fun x c h _=>by cases h
   hd:=I.ok.hd
   frames:=I.ok.frames
   stk:= .inl rfl
   exf:=fun b hb=>⟨Nat.ne_of_lt (hlt b hb),fun x c e=>(hf b hb).2.2.2.2.1 x c (sub x c e)⟩
   bs:=I.bs
   bsz:=Nat.le_trans I.ok.bsz I.sz
   noex:=fun b o e hb=>by
    rcases(hf b hb).2.2.2.1 with z|z
    ·exact I.ok.noex b o e z
    ·exact absurd (Nat.lt_of_lt_of_le (Heap.lt_size e) (Nat.le_trans I.ok.bsz z)) (Nat.lt_irrefl _)
   exfs:=stk
   funs:=I.stack
   frf:=I.stkFree}
 have hC:H s.heap.objs.size=none:=I.hok.fresh (Nat.le_refl _)
 refine⟨ok,rfl,I.bare,Un.kept hk,⟨m,hns,fun i x v h1 h2 h3=>?_⟩,fun x c e=>?_,hC,fun x c e=>I.freeC x c (sub x c e),fun p hp=>absurd (show p∈([]:List (Addr×Obj)) from hp) (by simp),I.hok.kept hk,?_⟩
 ·-- a name of the def
  have hi:own<=i:=by
   by_cases q:own<=i
   ·exact q
   ·unfold q2Z at h2
    rw[List.getElem?_append_left (by simp;omega),List.getElem?_replicate] at h2
    split at h2<;>cases h2
  obtain⟨k,rfl⟩:∃k,i=own+k:=⟨i - own,by omega⟩
  unfold q2Z at h2
  rw[List.getElem?_append_right (by simp),List.length_replicate,Nat.add_sub_cancel_left,List.getElem?_map] at h2
  cases e:caps[k]? with
  |none=>rw[e] at h2;cases h2
  |some j=>
   rw[e] at h2
   have h2':(σ[j]?).getD none=some v:=Option.some.inj h2
   obtain⟨e1,e2⟩:=O.cap k j x e h1
   have e3:=PySem.mem_of_lookup e2
   have hkd:=O.free _ e3 rfl
   have h4:σ[j]? =some (some v):=by
    cases q:σ[j]? with
    |none=>rw[q] at h2';cases h2'
    |some o=>rw[q] at h2';rw[show o=some v from h2']
   have hvis:Vis X.env.scope x:= .inr hkd
   obtain⟨mo,_,hl⟩:=I.loc
   obtain⟨u,r,l⟩:=hl j x v e1 h4 hvis
   refine⟨u,r,.inr ⟨?_,?_⟩⟩
   ·show (relabel scope X.env).names.lookup x=some .cell\/(relabel scope X.env).names.lookup x=some .free
    rw[q22,e2]
    show some (if _ then NameKind.cell else NameKind.free)=_\/some (if _ then NameKind.cell else NameKind.free)=_
    split
    ·exact .inl rfl
    ·exact .inr rfl
   ·rcases l with⟨q,_⟩|⟨_,c,hc,z⟩
    ·have hkd':X.env.kindOf x=some .cell\/X.env.kindOf x=some .free:=hkd
     rw[q] at hkd'
     rcases hkd' with hkd'|hkd'<;>cases hkd'
    ·refine ⟨c,?_,z.keeps hk⟩
     show(clOf scope X.env).lookup x=some c
     rw[q6N e3,hc]
     rfl
 ·obtain ⟨v,z⟩:=I.cell x c (sub x c e)
  exact⟨v,z.keeps hk⟩
 ·show (q2Z own caps σ).length=N.length
  unfold q2Z
  rw[List.length_append,List.length_replicate,List.length_map,O.len]
theorem Inv.blockEnd {fp:List Addr}{σ':St}{H':Hp}{s':Shared}(I:Inv X pins σ H s)(hf:∀b∈fp,FpOk X pins H b)(J:Inv (q0j X N scope s.heap.objs.size s H fp) [] σ' H' s'):Inv X pins σ H' s':=
 I.call' (ch:=fp) J.os J.base J.hok J.bare fun b hb=>⟨(hf b hb).2.2.2.1,(hf b hb).2.1,(hf b hb).2.2.2.2.1,(hf b hb).2.2.2.2.2⟩
theorem Inv.off {h':Heap}{C:Addr}(I:Inv X pins σ H s)(hC:H C=none)(hL:C≠X.env.locals)(h1:X.s₀.heap.objs.size<=C)(h2:∀x c,X.env.cells.lookup x=some c->c≠C)(h3:∀p∈X.pn++pins,p.1≠C)(sb:Heap.SameBut C s.heap h'):
  Inv X pins σ H {s with heap:=h'}:=
 I.turned (t':=s.toks) (it:=C) (fun b o hb e=>(sb.2 b hb).trans e) hC hL (.inr h1) h2 h3
end
def PIfs (X:Cx)(ifs:List Expr)(t:TT):Prop:=
 ∀(pins:List (Addr×Obj)) (s:Shared) (σ:St) (H:Hp) (Q:Bool->Hp->Prop),Inv X pins σ H s->t σ H Q->
  wpAny (model X.prog X.w) X.A (forIn ifs true fun c r=>if r=true then do let ok<-isTrue c X.env (eval c X.env);pure (ForInStep.yield ok) else pure (ForInStep.yield r)) (TP X pins σ Q) X.xe s
def tYes:TT:=fun _ H Q=>Q true H
theorem q0w {X:Cx}:PIfs X [] tYes:=fun _ _ _ H _ I h=>wpAny_tests_nil ⟨H,I,h⟩
theorem pf_one {X:Cx}{c:Expr}{t:TT}(h:PT X c t):PIfs X [c] t:=fun pins s σ H Q I hw=>wpAny_tests_one (h pins s σ H Q I hw)
def q9g (wi:TI)(g:TG)(tc:TT)(te:TE)(own:Nat)(caps:List Nat):TE:=fun σ H Q=>wi σ H fun J H1=>∀D,H1 D=none->∃W:Nat->Nat->St->Hp->Prop,(∃m,W 0 m (q2Z own caps σ) (upd H1 D (.lst [])))/\∀i m σ' H',W i m σ' H'->
 (J.stop i H'/\Q (.ref D) H')\/(J.go i H'/\∃N:St->Hp->Prop,(∀σ'' H'',N σ'' H''->∃m',m'<m/\W (i+1) m' σ'' H'')/\∀x H2,J.yld i H' x H2->g x σ' H2 fun σ3 H3=>tc σ3 H3 fun b H4=>
  if b=true then te σ3 H4 fun y H5=>∃ys,H5 D=some (.lst ys)/\ys.length<sizeLine/\N σ3 (upd H5 D (.lst (ys++[y]))) else N σ3 H4)
section
variable {X:Cx}{N:List Str}{scope:Scope}{own:Nat}{caps:List Nat}{tg iter elt:Expr}{ifs:List Expr}{wi:TI}{g:TG}{tc:TT}{te:TE}{pos:Pos}
theorem q6K {use:Option (Value->Sem Unit)}{QQ:Value->Shared->Prop}(O:CompOk X N scope own caps)(hc:X.calm=true)(hi:PI X tg iter wi)(hg:∀C s H fp,PG (q0j X N scope C s H fp) tg g)(ht:∀C s H fp,PIfs (q0j X N scope C s H fp) ifs tc)
  (he:∀C s H fp,PE (q0j X N scope C s H fp) elt te)(hs:∀x,foldedSetIterable iter X.env x=pure x)
  {pins:List (Addr×Obj)}{s:Shared}{σ:St}{H:Hp}{Q:VK}(I:Inv X pins σ H s)(h:q9g wi g tc te own caps σ H Q)
  (fin:∀D C H' s' m,Inv X pins σ H' s'->Q (.ref D) H'->s'.heap.Ns C m->H' C=none->C≠X.env.locals->X.s₀.heap.objs.size<=C->(∀x c,X.env.cells.lookup x=some c->c≠C)->(∀p∈X.pn++pins,p.1≠C)->
   compPost (model X.prog X.w) X.A X.xe use QQ (.ref D) C (.ok .next) s'):
  wpAny (model X.prog X.w) X.A (comprehension (.ListComp elt [⟨tg,iter,ifs,0⟩] scope pos) scope X.env (firstIterPos [⟨tg,iter,ifs,0⟩] pos) (newList []) false (eval iter X.env) use) QQ X.xe s:=by
 refine wpAny_comprehension_free (use:=use) rfl hs (q3E (O.cells I.ok)) O.kind O.names (thn (hi pins s σ H _ I h) fun v s1 h1=>thn h1 fun itv s2 h2=>?_)
 obtain⟨it,fp,tn,J,H2,e,I2,T,st2,f2,q⟩:=h2
 subst e
 refine wpAny_newObj_type (wpAny_newFunctionEnv O.nocell (by intro y hy;simp at hy) (fun h₁ hns hsb=>?_) O.kind)
 dsimp only at hns hsb ⊢
 have hD:H2 s2.heap.objs.size=none:=I2.hok.fresh (Nat.le_refl _)
 obtain⟨W,⟨m0,w0⟩,turn⟩:=q s2.heap.objs.size hD
 have I3:Inv X pins σ (upd H2 s2.heap.objs.size (.lst [])) {s2 with heap:=s2.heap.push {cls:= .type "list",dict:=none,data:= .seq ([]:List Value).toArray}}:=
  I2.lnew (its:=[]) (t':=s2.toks) .nil (Nat.zero_le _)
 generalize hs3:({s2 with heap:=s2.heap.push {cls:= .type "list",dict:=none,data:= .seq ([]:List Value).toArray}}:Shared)=s3 at I3
 have hsz3:s3.heap.objs.size=s2.heap.objs.size+1:=by rw[<-hs3];exact Heap.size_push ..
 have hns':h₁.Ns s3.heap.objs.size (fun x=>([]:List (Str×Value)).reverse.lookup x):=by rw[<-hs3];exact hns
 have hk:∀b o,s3.heap.get? b=some o->h₁.get? b=some o:=fun b o e=>by
  rw[<-hs3] at e
  exact hsb.extBut b o (Nat.ne_of_lt (Heap.lt_size e)) (Heap.get?_push_of_some _ e)
 have f3:∀b∈fp,FpOk X pins (upd H2 s2.heap.objs.size (.lst [])) b:=fun b hb=>by
  obtain⟨o,ho,_⟩:=T.obj _ _ st2 b hb
  exact⟨by rw[qj (Nat.ne_of_lt (Heap.lt_size ho))];exact(f2 b hb).1,(f2 b hb).2⟩
 have hlt:∀b∈fp,b<s3.heap.objs.size:=fun b hb=>by
  obtain⟨o,ho,_⟩:=T.obj _ _ st2 b hb
  rw[hsz3]
  exact Nat.lt_succ_of_lt (Heap.lt_size ho)
 have st3:tn 0 h₁:=T.keep _ _ _ st2 fun b hb o e=>hk b o (by rw[<-hs3];exact Heap.get?_push_of_some _ e)
 have C3:∀tk,Inv (q0j X N scope s3.heap.objs.size s3 (upd H2 s2.heap.objs.size (.lst [])) fp) [] (q2Z own caps σ) (upd H2 s2.heap.objs.size (.lst [])) {s3 with heap:=h₁,toks:=tk}:=fun tk=>I3.block O f3 hlt hns' hk
 have nf3:∀b∈fp,(upd H2 s2.heap.objs.size (.lst [])) b=none:=fun b hb=>(f3 b hb).1
 have hCL:s3.heap.objs.size≠X.env.locals:=Nat.ne_of_gt I3.lt
 have hC1:X.s₀.heap.objs.size<=s3.heap.objs.size:=I3.sz
 have hC2:∀x c,X.env.cells.lookup x=some c->c≠s3.heap.objs.size:=fun x c e=>by
  obtain⟨v,z⟩:=I3.cell x c e
  exact Nat.ne_of_lt z.lt
 have hC3:∀p∈X.pn++pins,p.1≠s3.heap.objs.size:=fun p hp=>Nat.ne_of_lt (Heap.lt_size (I3.pin p hp).1)
 have hst:∀{H':Hp},(∀b∈fp,H' b=none)->∀b∈fp,FpOk (q0j X N scope s3.heap.objs.size s3 (upd H2 s2.heap.objs.size (.lst [])) fp) [] H' b:=fun hn b hb=>by
  refine⟨hn b hb,Nat.ne_of_lt (hlt b hb),fun z=>?_,.inl hb,fun x c e=>(f3 b hb).2.2.2.2.1 x c (q6M (O.cells I.ok) e),fun p hp=>absurd (show p∈([]:List (Addr×Obj)) from hp) (by simp)⟩
  exact(C3 0).ok.exfs b hb z
 have loop:∀s4:Shared,(∃tk,s4={s3 with heap:=h₁,toks:=tk})->
   codeAny (model X.prog X.w) X.A (.compLoop (.ListComp elt [⟨tg,iter,ifs,0⟩] scope pos) 0 (.ref it) (.ref s2.heap.objs.size) (compEnvC scope (clOf scope X.env) s3.heap.objs.size X.env))
    (compPost (model X.prog X.w) X.A X.xe use QQ (.ref s2.heap.objs.size) s3.heap.objs.size) s4:=by
  rintro s4 ⟨tk,rfl⟩
  refine q5G (fun n s'=>∃i σ' H',Inv (q0j X N scope s3.heap.objs.size s3 (upd H2 s2.heap.objs.size (.lst [])) fp) [] σ' H' s'/\tn i s'.heap/\(∀b∈fp,H' b=none)/\W i n σ' H') ?_ m0 ⟨0,_,_,C3 tk,st3,nf3,w0⟩
  rintro n s5 ⟨i,σ5,H5,I5,st5,fr5,w5⟩
  rcases turn i n σ5 H5 w5 with⟨stop,qn⟩|⟨go,NN,hN,step⟩
  ·refine thn (T.done (q0j X N scope s3.heap.objs.size s3 (upd H2 s2.heap.objs.size (.lst [])) fp) rfl rfl rfl hc i [] s5 σ5 H5 _ I5 (hst fr5) st5 stop) fun r s6 ⟨hr,I6⟩=>?_
   subst hr
   obtain⟨m6,hn6,_⟩:=id I6.loc
   exact fin _ _ H5 s6 m6 (I3.blockEnd f3 I6) qn hn6 I6.free hCL hC1 hC2 hC3
  ·refine thn (T.item (q0j X N scope s3.heap.objs.size s3 (upd H2 s2.heap.objs.size (.lst [])) fp) rfl rfl rfl hc i [] s5 σ5 H5 _ I5 (hst fr5) st5 go) fun r s6 ⟨u,hr,h6⟩=>?_
   subst hr
   refine thn h6 fun _ s7 ⟨x,H7,I7,r7,y7,st7,fr7⟩=>?_
   have I7':=I7.pinned (hst fr7) (T.obj _ _ st7)
   refine thn (hg _ _ _ _ _ s7 σ5 H7 x u _ I7' r7 (step x H7 y7)) fun _ s8 ⟨σ8,H8,I8,q8⟩=>?_
   refine thn (ht _ _ _ _ _ s8 σ8 H8 _ I8 q8) fun ok s9 ⟨H9,I9,q9⟩=>?_
   have again:∀{s10:Shared} {σ10:St} {H10:Hp},Inv (q0j X N scope s3.heap.objs.size s3 (upd H2 s2.heap.objs.size (.lst [])) fp) ([]++q5r fp s7.heap) σ10 H10 s10->NN σ10 H10->
     ∃m,m<n/\∃i σ' H',Inv (q0j X N scope s3.heap.objs.size s3 (upd H2 s2.heap.objs.size (.lst [])) fp) [] σ' H' s10/\tn i s10.heap/\(∀b∈fp,H' b=none)/\W i m σ' H':=fun {s10 σ10 H10} I10 n10=>by
    obtain⟨m',hm,w10⟩:=hN σ10 H10 n10
    refine⟨m',hm,i+1,σ10,H10,I10.unpinned,T.keep _ _ _ st7 fun b hb o e=>(I10.pin (b,o) (List.mem_append_right _ (List.mem_append_right _ (q1S hb e)))).1,fun b hb=>?_,w10⟩
    obtain⟨o,e,d⟩:=T.obj _ _ st7 b hb
    exact(I10.pin (b,o) (List.mem_append_right _ (List.mem_append_right _ (q1S hb e)))).2.1
   cases ok with
   |false=>
    rw[if_neg Bool.false_ne_true] at q9 ⊢
    exact again I9 q9
   |true=>
    rw[if_pos rfl] at q9 ⊢
    refine thn (he _ _ _ _ _ s9 σ8 H9 _ I9 q9) fun y s10 ⟨vy,H10,I10,r10,ys,hys,hyl,q10⟩=>?_
    refine thn (q1L (X:=q0j X N scope s3.heap.objs.size s3 (upd H2 s2.heap.objs.size (.lst [])) fp) _ s10 σ8 H10 (.ref s2.heap.objs.size) [vy] (.ref s2.heap.objs.size) [y] (fun _ H11=>NN σ8 H11) I10 rfl (.cons r10 .nil) ⟨_,ys,vy,rfl,rfl,hys,hyl,q10⟩) fun _ s11 ⟨_,H11,I11,_,q11⟩=>?_
    exact again I11 q11
 subst hs3
 exact codeAny_compStart_list (loop _ ⟨_,rfl⟩) (T.self _ _ _ _ _ st3 (loop _ ⟨_,rfl⟩))
theorem q0N (O:CompOk X N scope own caps)(hc:X.calm=true)(hi:PI X tg iter wi)(hg:∀C s H fp,PG (q0j X N scope C s H fp) tg g)(ht:∀C s H fp,PIfs (q0j X N scope C s H fp) ifs tc)
  (he:∀C s H fp,PE (q0j X N scope C s H fp) elt te)(hs:∀x,foldedSetIterable iter X.env x=pure x:=by intro _;rfl):PE X (.ListComp elt [⟨tg,iter,ifs,0⟩] scope pos) (q9g wi g tc te own caps):=by
 intro pins s σ H Q I h
 rw[eval_ListComp]
 refine q6K (use:=none) O hc hi hg ht he hs I h fun D C H' s' m I' q hn h0 h1 h2 h3 h4=>?_
 exact⟨m,hn,fun h' sb=>⟨.ref D,H',I'.off h0 h1 h2 h3 h4 sb,rfl,q⟩⟩
theorem q2a {i:Nat}{y:Str}{py spos:Pos}(hN:X.N.Nodup)(hi':X.N[i]? =some y)(hy:X.env.scope.names.lookup y=some .local)(O:CompOk X N scope own caps)(hc:X.calm=true)(hi:PI X tg iter wi)(hg:∀C s H fp,PG (q0j X N scope C s H fp) tg g)
  (ht:∀C s H fp,PIfs (q0j X N scope C s H fp) ifs tc)(he:∀C s H fp,PE (q0j X N scope C s H fp) elt te)
  (hsw:swapsWith (.ListComp elt [⟨tg,iter,ifs,0⟩] scope pos) (some (.Name y py)) spos.line X.env=pure true:=by rfl)(hs:∀x,foldedSetIterable iter X.env x=pure x:=by intro _;rfl):
  PS X (.Assign [.Name y py] (.ListComp elt [⟨tg,iter,ifs,0⟩] scope pos) spos) (tAsg (q9g wi g tc te own caps) (qae i)):=by
 intro pins s σ H D I h
 rw[exec_Assign_Name_used _ _ _ _ hsw]
 refine wpAny_bind (wpAny_standAt (wpAny_bind ?_))
 show wpAny _ _ (do let _<-comprehension (.ListComp elt [⟨tg,iter,ifs,0⟩] scope pos) scope X.env _ (newList []) false (eval iter X.env) (some (assign (.Name y py) X.env))) _ _ s
 refine wpAny_bind (wpAny_mono (q6K (use:=some (assign (.Name y py) X.env)) (QQ:=fun _ s'=>SP X pins D .next s') O hc hi hg ht he hs I h fun L C H' s' m I' q hn h0 h1 h2 h3 h4=>?_) (fun _ s' hq=>wpAny_pure (wpAny_pure hq)) fun _ _ e=>e)
 refine wpAny_assign_Name (q52 I' hN hi' (.inl hy) (v:= .ref L) rfl (fun s2 I2 ⟨a,sb,ha⟩=>?_) (.inr hy))
 have hac:C≠a:=by
  rcases ha with ha|ha
  ·rw [ha];exact h1
  ·exact (h3 _ _ ha).symm
 exact⟨m,hn.sameBut sb hac,fun h' sb'=>⟨_,H',I2.off h0 h1 h2 h3 h4 sb',q⟩⟩
end
end L2
namespace PySem
open Sem (wp)
section
variable {prog:Program}{w:World}{A:Around}{E:Value->Shared->Prop}{s:Shared}
theorem q1R {I T:Addr}{k:Nat}{vals:Array Value}{y:Value}{Q:Value->Shared->Prop}(st:s.heap.IsTupleIter I T k)(tp:s.heap.IsTuple T vals)(hy:vals[k]? =some y)
  (hQ:∀h',h'.IsTupleIter I T (k+1)->Heap.SameBut I s.heap h'->Q y {s with heap:=h'}):wpAny (model prog w) A (Builtin.SmallTypes.nextOf (.ref I)) Q E s:=by
 obtain⟨oI,eI,cI,dI⟩:=id st
 obtain⟨oT,eT,_,nT,dT⟩:=tp
 unfold Builtin.SmallTypes.nextOf
 refine wpAny_bind (wpAny_callSpecial?_slot (name:=Str.ofString "__next__") st.typeIs F.slot_tuple_iterator_next (wpAny_call_entry F.slot_tuple_iterator_next st.typeIs F.entry_tuple_iterator_next ?_ (F.args_tuple_iterator_next_1 _)))
 show wpAny _ _ (field (.ref I) 0 >>= _) _ _ s
 refine wpAny_bind (wpAny_field eI dI (x:= .ref T) rfl ?_)
 show wpAny _ _ (if (Value.ref T==Value.none)=true then _ else _) _ _ s
 rw[if_neg (show¬((Value.ref T==Value.none)=true) from Bool.false_ne_true)]
 show wpAny _ _ (field (.ref I) 1 >>= _) _ _ s
 refine wpAny_bind (wpAny_field eI dI (x:= .int k 0) rfl ?_)
 show wpAny _ _ (seqItems? (.ref T) >>= _) _ _ s
 refine wpAny_bind (wpAny_seqItems eT dT ?_)
 simp only[Int.toNat_natCast,hy]
 refine wpAny_bind (wpAny_setField eI dI (by simp) (wpAny_pure ⟨y,rfl,wpAny_pure (hQ _ ?_ (Heap.SameBut.update ..))⟩))
 exact⟨_,Heap.get?_update_self _ eI (Obj.isFreed_of_fields (Obj.data_mapFields dI _)),(Obj.cls_mapFields ..).trans cI,by rw[Obj.data_mapFields dI];simp[rawInt]⟩
theorem q0t {I T:Addr}{k:Nat}{vals:Array Value}{Q:Value->Shared->Prop}(hh:A.handled=none)(st:s.heap.IsTupleIter I T k)(tp:s.heap.IsTuple T vals)(hy:vals[k]? =none)
  (hE:∀h' e,Heap.ExtBut I s.heap h'->(∃o,h'.get? e=some o/\o.cls= .type "StopIteration")->E (.ref e) {s with heap:=h'}):wpAny (model prog w) A (Builtin.SmallTypes.nextOf (.ref I)) Q E s:=by
 obtain⟨oI,eI,cI,dI⟩:=id st
 obtain⟨oT,eT,_,nT,dT⟩:=tp
 unfold Builtin.SmallTypes.nextOf
 refine wpAny_bind (wpAny_callSpecial?_slot (name:=Str.ofString "__next__") st.typeIs F.slot_tuple_iterator_next (wpAny_call_entry F.slot_tuple_iterator_next st.typeIs F.entry_tuple_iterator_next ?_ (F.args_tuple_iterator_next_1 _)))
 show wpAny _ _ (field (.ref I) 0 >>= _) _ _ s
 refine wpAny_bind (wpAny_field eI dI (x:= .ref T) rfl ?_)
 show wpAny _ _ (if (Value.ref T==Value.none)=true then _ else _) _ _ s
 rw[if_neg (show¬((Value.ref T==Value.none)=true) from Bool.false_ne_true)]
 show wpAny _ _ (field (.ref I) 1 >>= _) _ _ s
 refine wpAny_bind (wpAny_field eI dI (x:= .int k 0) rfl ?_)
 show wpAny _ _ (seqItems? (.ref T) >>= _) _ _ s
 refine wpAny_bind (wpAny_seqItems eT dT ?_)
 simp only[Int.toNat_natCast,hy]
 refine wpAny_bind (wpAny_rule (wpAny_bind (wpAny_setField eI dI (by simp) ?_)))
 show wpAny _ _ (newExc (.type "StopIteration") [] >>= _) _ _ _
 refine wpAny_bind ?_
 simp only[newExc,newTuple]
 refine wpAny_bind (wpAny_newObj_type ?_ (by size_fits))
 refine wpAny_bind (m:=firstArgMember _ _) (wpAny_of_eq (a:=Value.none) (by first|rfl|(simp only[firstArgMember];rfl)) ?_)
 refine wpAny_newObj_type ?_ (by size_fits)
 simp only[raiseNew]
 refine wpAny_bind (wpAny_handled ?_)
 first|rw[show A.in1.handled=none from hh]|rw[hh]
 refine wpAny_bind (wpAny_pure (wpAny_throw ?_))
 exact hE _ _ (((Heap.SameBut.update ..).extBut.push _).push _) ⟨_,Heap.get?_push_size _ rfl,rfl⟩
end
theorem Heap.IsTuple.at2 {h h':Heap}{a:Addr}{vals:Array Value}(x:h.IsTuple a vals)(e:∀o,h.get? a=some o->h'.get? a=some o):h'.IsTuple a vals:=let ⟨o,q,r⟩:=x;⟨o,e o q,r⟩
theorem Heap.IsTupleIter.at2 {h h':Heap}{a t:Addr}{i:Nat}(x:h.IsTupleIter a t i)(e:∀o,h.get? a=some o->h'.get? a=some o):h'.IsTupleIter a t i:=let ⟨o,q,r⟩:=x;⟨o,e o q,r⟩
theorem Draws.tup {prog:Program}{w:World}{A:Around}(hh:A.handled=none)(I T:Addr)(hne:T≠I)(vals:Array Value):
  Draws prog w A I [I,T] vals.size (fun i v=>vals[i]? =some v) (fun i h=>h.IsTupleIter I T i/\h.IsTuple T vals) where
 live:=fun _ _ st=>let ⟨o,ho,_⟩:=st.1;⟨o,ho⟩
 frame:=fun _ _ _ st hk=>⟨st.1.at2 fun o e=>hk I (by simp) o e,st.2.at2 fun o e=>hk T (by simp) o e⟩
 item:=fun i s Q E hi st hQ=>q1R st.1 st.2 (y:=vals[i]) (by simp[hi]) fun h' st' sb=>hQ _ h' s.toks (by simp[hi]) ⟨st',st.2.extBut sb.extBut hne⟩ sb
 done:=fun s Q E st hE=>q0t hh st.1 st.2 (by simp) hE
section
open AutoSeq1 (wpAny_loadPart')
theorem q3u (l:Addr)(items:Array Value)(n:Nat)(dct:Option Addr)(sl:Array (Option Value)):
  Meets (Builtin.«enumerate.__new__» ⟨[.type "enumerate",.ref l],[]⟩) (fun _ R s=>s.heap.get? l=some {cls:= .type "tuple",dict:=dct,data:= .seq items n,slots:=sl}/\
   R (.ok (.ret (.ref (s.heap.push {cls:= .type "tuple_iterator",data:= .fields #[.ref l,.int 0 0]}).objs.size)))
    {s with heap:=(s.heap.push {cls:= .type "tuple_iterator",data:= .fields #[.ref l,.int 0 0]}).push {cls:= .type "enumerate",data:= .fields #[.none,.bool false,.ref s.heap.objs.size,rawInt 0,.none,.none]}}):=
 .of_wp fun prog w A R s h=>by
  obtain⟨hp,g,d,tk,os⟩:=s;obtain⟨hl,h⟩:=h
  have hsub:=sub_enumerate
  have hL:Heap.IsTuple (Shared.heap ⟨hp,g,d,tk,os⟩) l items:=⟨_,hl,rfl,n,rfl⟩
  wp_walk using wpAny_loadPart' hl
  refine wpAny_stack_any fun st=>wpAny_pure ?_
  split
  ·rename_i c _ _ _ _ _
   cases(c==Value.type "enumerate")
   ·wp_walk using wpAny_loadPart' hl,wpAny_pyIter_tuple hL
    exact⟨_,rfl,h⟩
   ·wp_walk using wpAny_loadPart' hl,wpAny_pyIter_tuple hL
    exact⟨_,rfl,h⟩
  ·wp_walk using wpAny_loadPart' hl,wpAny_pyIter_tuple hL
   exact⟨_,rfl,h⟩
variable {prog:Program}{w:World}{A:Around}{E:Value->Shared->Prop}{s:Shared}
theorem q3F {l:Addr}{items:Array Value}{Q:Value->Shared->Prop}(hL:s.heap.IsTuple l items)
  (h:∀h',IsEnum h' (s.heap.objs.size+1) s.heap.objs.size 0 .none->h'.IsTupleIter s.heap.objs.size l 0->h'.objs.size=s.heap.objs.size+2->
   (∀b o,s.heap.get? b=some o->h'.get? b=some o)->Q (.ref (s.heap.objs.size+1)) {s with heap:=h'}):
  wpAny (model prog w) A (call (.type "enumerate") [.ref l]) Q E s:=by
 obtain⟨⟨c,dct,dt,sl⟩,hl,hc,n,hd⟩:=hL
 replace hc:c= .type "tuple":=hc
 replace hd:dt= .seq items n:=hd
 subst hc hd
 refine callType_new F.called_enumerate (by decide) (F.typeCall_enumerate_1 _) (F.newCall_enumerate_1 _) (fun obj=>F.args_object_init_2 obj _) F.entry_enumerate_new (q3u l items n dct sl) ⟨hl,?_⟩
 have hz:(s.heap.push {cls:= .type "tuple_iterator",data:= .fields #[.ref l,.int 0 0]}).objs.size=s.heap.objs.size+1:=Heap.size_push ..
 show _/\_
 rw[hz]
 have he:IsEnum ((s.heap.push {cls:= .type "tuple_iterator",data:= .fields #[.ref l,.int 0 0]}).push
   {cls:= .type "enumerate",data:= .fields #[.none,.bool false,.ref s.heap.objs.size,rawInt 0,.none,.none]}) (s.heap.objs.size+1) s.heap.objs.size 0 .none:=by
  have q:=Heap.get?_push_size (s.heap.push {cls:= .type "tuple_iterator",data:= .fields #[.ref l,.int 0 0]})
   (o:={cls:= .type "enumerate",data:= .fields #[.none,.bool false,.ref s.heap.objs.size,rawInt 0,.none,.none]}) rfl
  rw[hz] at q;exact q
 refine⟨⟨_,he,rfl⟩,h _ he ⟨_,Heap.get?_push_of_some _ (Heap.get?_push_size _ rfl),rfl,rfl⟩ (by rw[Heap.size_push,hz]) fun b o x=>Heap.get?_push_of_some _ (Heap.get?_push_of_some _ x)⟩
end
end PySem
namespace L2
open PySem PySem.Spec PyProof.Rows
section
variable {X:Cx}{pins:List (Addr×Obj)}{σ:St}{H:Hp}{s:Shared}
theorem Inv.turnedL {h':Heap}{t':Nat}{ch:List Addr}(I:Inv X pins σ H s)(hf:∀b∈ch,FpOk X pins H b)(k:∀b o,b∉ch->s.heap.get? b=some o->h'.get? b=some o):Inv X pins σ H {s with heap:=h',toks:=t'}:=by
 have nit:∀b u,H b=some u->b∉ch:=fun b u e z=>by rw[(hf b z).1] at e;cases e
 refine I.step (g':=s.gens) (d':=s.drawn) (ch:=ch) (fun b hb=>⟨(hf b hb).2.2.2.1,(hf b hb).2.1,(hf b hb).2.2.2.2.1,(hf b hb).2.2.2.2.2⟩) (fun b o _ _ hc e _=>k b o hc e) (fun b o _ _ hc e _=>⟨o.slots,k b o hc e⟩) (fun _ _ _ _ n=>n)
  (fun b o hc e=>⟨o,k b o hc e⟩) (fun _ _ e=>e) (fun _ _ _ e=>e) (fun b ps e=>⟨#[],by rw[e];simp⟩) (fun m hm=>?_) (fun b u e=>?_) I.bare
 ·obtain ⟨o,es,ep,ho,r⟩:=hm
  exact⟨o,es,ep,k _ o (fun z=>(hf _ z).2.1 rfl) ho,r⟩
 ·refine (I.hok b u e).stay (fun c v hc q=>k c v ?_ q) (fun _ q=>q) fun _ _ q=>q
  rcases hc with z|z
  ·rw [z];exact nit b u e
  ·exact nit c _ z
theorem Inv.track {a:Addr}{o:HO}(I:Inv X pins σ H s)(ha:X.s₀.heap.objs.size<=a)(hn:H a=none)(hL:a≠X.env.locals)(hc:∀x c,X.env.cells.lookup x=some c->c≠a)(hp:∀p∈X.pn++pins,p.1≠a)
  (new:q0a X.prog X.w (upd H a o) s.heap a o):Inv X pins σ (upd H a o) s:=by
 have ne:∀b ob,X.s₀.heap.get? b=some ob->b≠a:=fun b ob e=>Nat.ne_of_lt (Nat.lt_of_lt_of_le (Heap.lt_size e) ha)
 refine⟨I.ok,I.os,I.bare,⟨I.base.keep,I.base.slot,fun b ob e n hx=>by rw[qj (ne b ob e)];exact I.base.free b ob e n hx,I.base.there,fun b xs e=>?_,fun b ob u e=>?_,fun b ps e=>?_⟩,I.loc,I.cell,by rw[qj hL.symm];exact I.free,
  fun x c e=>by rw[qj (hc x c e)];exact I.freeC x c e,fun p hpp=>?_,fun b u e=>?_,I.len⟩
 ·have q:=I.base.tups b xs e
  rw[qj (ql q hn)];exact q
 ·have q:=I.base.frzs b ob u e
  rw[qj (ql q hn)];exact q
 ·obtain ⟨more,q⟩:=I.base.tbls b ps e
  exact⟨more,by rw[qj (ql q hn)];exact q⟩
 ·obtain ⟨e1,n1,r⟩:=I.pin p hpp
  exact⟨e1,by rw[qj (hp p hpp)];exact n1,r⟩
 ·by_cases hb:b=a
  ·subst hb;rw[qb] at e;cases e;exact new
  ·rw [qj hb] at e
   exact(I.hok b u e).stay (fun c v _ q=>q) (fun c q=>by rw[qj (ql q hn)];exact q) fun c xs q=>by rw[qj (ql q hn)];exact q
theorem Inv.yields {h':Heap}{t':Nat}{ch:List Addr}{T:Addr}{xs:List V}{vals:List Value}(I:Inv X pins σ H s)(hf:∀b∈ch,FpOk X pins H b)(k:∀b o,b∉ch->s.heap.get? b=some o->h'.get? b=some o)
  (hT:s.heap.objs.size<=T)(tp:h'.IsTuple T vals.toArray)(r:Vals xs vals)(hz:xs.length<=sizeLine):Inv X pins σ (upd H T (.tup xs)) {s with heap:=h',toks:=t'}:=by
 have f:FpOk X pins H T:=I.fpOk hT (I.hok.fresh hT)
 have I1:Inv X pins σ H {s with heap:=h',toks:=t'}:=I.turnedL hf k
 exact I1.track (Nat.le_trans I.sz hT) f.1 f.2.1 f.2.2.2.2.1 f.2.2.2.2.2 ⟨hz,vals,r,tp⟩
theorem q6F {ch:List Addr}{T:Addr}{o:HO}(hf:∀b∈ch,FpOk X pins H b)(hT:∀b∈ch,b≠T):∀b∈ch,FpOk X pins (upd H T o) b:=fun b hb=>⟨by rw[qj (hT b hb)];exact(hf b hb).1,(hf b hb).2⟩
end
def Ite (Sq:Hp->List V->Prop):It:=
 ⟨fun i H=>∃xs x,Sq H xs/\xs[i]? =some x,fun i H y H'=>∃T,H T=none/\y= .ref T/\∀xs x,Sq H xs->xs[i]? =some x->H'=upd H T (.tup [.int i,x]),fun i H=>∃xs,Sq H xs/\xs.length<=i⟩
theorem q6X {P:Program}{w:World}{K:PySem.W.Frag}{elts:List Expr}{k:Nat}{tp:Pos}(a e it:Addr)(hei:e≠it):Turn P w K (.Tuple elts k tp) (Ite fun H xs=>SqL K H a xs) [e,it] e (fun i h=>(∃old,IsEnum h e it i old)/\h.IsListIter it a i) where
 mem:=by simp
 obj:=fun i h st b hb=>by
  obtain⟨⟨old,q⟩,o,q2,c,d⟩:=st
  rcases List.mem_cons.mp hb with rfl|hb
  ·exact ⟨_,q,fun v z=>by cases z⟩
  ·rw [List.mem_singleton.mp hb]
   exact⟨o,q2,fun v z=>by rw[d] at z;cases z⟩
 keep:=fun i h h' st kk=>⟨⟨st.1.choose,kk e (by simp) _ st.1.choose_spec⟩,st.2.at fun o q=>kk it (by simp) o q⟩
 item:=by
  intro X hP hw hK hc i pins s σ H E I hf st hg
  subst hP hw hK
  obtain⟨xs,x,hq,hx⟩:=hg
  obtain⟨⟨old,he⟩,hit⟩:=st
  obtain⟨its,rv,p,hz⟩:=I.list hq
  obtain⟨u,hu,ru⟩:=rv.get hx
  have hlen:=rv.length
  have hi:i<its.toArray.size:=by rw[List.size_toArray];exact(List.getElem?_eq_some_iff.mp hu).1
  have hai:a≠it:=fun z=>by
   obtain⟨o,q,c,d⟩:=hit
   obtain⟨o',q',c',_⟩:=p.isList
   rw[z] at q';rw[q] at q';cases q';rw[c] at c';simp at c'
  have hae:e≠a:=fun z=>by
   obtain⟨o',q',c',_⟩:=p.isList
   rw[<-z,he] at q';cases q';simp at c'
  refine wpAny_pyNext_enum_itemD (Draws.list (A:=X.A.in1) (I.ok.hd hc) it a hai its.toArray) he ⟨hit,p.isList⟩ hi hei (by simp[hei,hae]) fun y h' tk hy ho st' hT hsz hk=>?_
  have hyu:y=u:=by
   have:its[i]? =some y:=by simpa using hy
   rw[hu] at this;exact(Option.some.inj this).symm
  subst hyu
  have ne:∀b∈[e,it],b≠s.heap.objs.size:=fun b hb=>by
   rcases List.mem_cons.mp hb with rfl|hb
   ·exact Nat.ne_of_lt (Heap.lt_size he)
   ·rw [List.mem_singleton.mp hb];obtain⟨o,q,_⟩:=hit;exact Nat.ne_of_lt (Heap.lt_size q)
  have kk:∀b o,b∉[e,it]->s.heap.get? b=some o->h'.get? b=some o:=fun b o hb q=>hk b o (fun z=>hb (by simp[z])) (fun z=>hb (by simp[z])) q
  have I1:Inv X pins σ (upd H s.heap.objs.size (.tup [.int i,x])) {s with heap:=h',toks:=tk+1}:=I.yields (vals:=[.int i tk,y]) hf kk (Nat.le_refl _) ⟨_,hT,rfl,_,rfl⟩ (.cons ⟨tk,rfl⟩ (.cons ru .nil)) (by show 2<=sizeLine;decide)
  have hf1:=q6F (o:= .tup [.int i,x]) hf ne
  refine⟨_,rfl,wpAny_letOwnedTupleGo_enum ho fun h'' he'' sb=>?_⟩
  have I2:Inv X pins σ (upd H s.heap.objs.size (.tup [.int i,x])) {s with heap:=h'',toks:=tk+1}:=I1.turnedL (t':=tk+1) hf1 fun b o hb q=>(sb.2 b fun z=>hb (by simp[z])).trans q
  refine⟨.ref s.heap.objs.size,_,I2,rfl,⟨_,I.hok.fresh (Nat.le_refl _),rfl,fun ys y' hy' hx'=>?_⟩,⟨⟨_,by simpa using he''⟩,st'.1.at fun o q=>(sb.2 it hei.symm).trans q⟩,fun b hb=>(hf1 b hb).1⟩
  have:=I.list_inj hy' hq
  subst this
  rw[hx] at hx'
  rw[Option.some.inj hx']
 done:=by
  intro X hP hw hK hc i pins s σ H E I hf st hg
  subst hP hw hK
  obtain⟨xs,hq,hx⟩:=hg
  obtain⟨⟨old,he⟩,hit⟩:=st
  obtain⟨its,rv,p,hz⟩:=I.list hq
  have hlen:=rv.length
  have hai:a≠it:=fun z=>by
   obtain⟨o,q,c,d⟩:=hit
   obtain⟨o',q',c',_⟩:=p.isList
   rw[z] at q';rw[q] at q';cases q';rw[c] at c';simp at c'
  have D:Draws X.prog X.w X.A.in1 it [it,a] i (fun _ _=>False) (fun k h=>k=i/\h.IsListIter it a i/\h.IsList a its.toArray):=
   {live:=fun _ _ st=>let ⟨o,ho,_⟩:=st.2.1;⟨o,ho⟩
    frame:=fun _ _ _ st hk=>⟨st.1,st.2.1.at fun o q=>hk it (by simp) o q,st.2.2.at fun o q=>hk a (by simp) o q⟩
    item:=fun k s Q E hk st _=>absurd st.1 (Nat.ne_of_lt hk)
    done:=fun s Q E st hE=>wpAny_nextOf_list_end (I.ok.hd hc) st.2.1 st.2.2 (by simp;omega) hE}
  refine wpAny_pyNext_enum_endD D he ⟨rfl,hit,p.isList⟩ fun h' eb=>⟨rfl,I.turnedL (t':=s.toks) (ch:=[e,it]) hf fun b o hb q=>eb b o (fun z=>hb (by simp[z])) q⟩
 self:=fun _ _ _ _ _ st h=>wpAny_pyIter_enum st.1.choose_spec h
theorem q6W {P:Program}{w:World}{K:PySem.W.Frag}{elts:List Expr}{k:Nat}{tp:Pos}(a e it:Addr)(hei:e≠it):Turn P w K (.Tuple elts k tp) (Ite fun H xs=>SqT K H a xs) [e,it] e (fun i h=>(∃old,IsEnum h e it i old)/\h.IsTupleIter it a i) where
 mem:=by simp
 obj:=fun i h st b hb=>by
  obtain⟨⟨old,q⟩,o,q2,c,d⟩:=st
  rcases List.mem_cons.mp hb with rfl|hb
  ·exact ⟨_,q,fun v z=>by cases z⟩
  ·rw [List.mem_singleton.mp hb]
   exact⟨o,q2,fun v z=>by rw[d] at z;cases z⟩
 keep:=fun i h h' st kk=>⟨⟨st.1.choose,kk e (by simp) _ st.1.choose_spec⟩,st.2.at2 fun o q=>kk it (by simp) o q⟩
 item:=by
  intro X hP hw hK hc i pins s σ H E I hf st hg
  subst hP hw hK
  obtain⟨xs,x,hq,hx⟩:=hg
  obtain⟨⟨old,he⟩,hit⟩:=st
  obtain⟨its,rv,p,hz⟩:=I.tuple hq
  have p:s.heap.IsTuple a its.toArray:=p
  obtain⟨u,hu,ru⟩:=rv.get hx
  have hlen:=rv.length
  have hi:i<its.toArray.size:=by rw[List.size_toArray];exact(List.getElem?_eq_some_iff.mp hu).1
  have hai:a≠it:=fun z=>by
   obtain⟨o,q,c,d⟩:=hit
   obtain⟨o',q',c',_⟩:=p
   rw[z] at q';rw[q] at q';cases q';rw[c] at c';simp at c'
  have hae:e≠a:=fun z=>by
   obtain⟨o',q',c',_⟩:=p
   rw[<-z,he] at q';cases q';simp at c'
  refine wpAny_pyNext_enum_itemD (Draws.tup (A:=X.A.in1) (I.ok.hd hc) it a hai its.toArray) he ⟨hit,p⟩ hi hei (by simp[hei,hae]) fun y h' tk hy ho st' hT hsz hk=>?_
  have hyu:y=u:=by
   have:its[i]? =some y:=by simpa using hy
   rw[hu] at this;exact(Option.some.inj this).symm
  subst hyu
  have ne:∀b∈[e,it],b≠s.heap.objs.size:=fun b hb=>by
   rcases List.mem_cons.mp hb with rfl|hb
   ·exact Nat.ne_of_lt (Heap.lt_size he)
   ·rw [List.mem_singleton.mp hb];obtain⟨o,q,_⟩:=hit;exact Nat.ne_of_lt (Heap.lt_size q)
  have kk:∀b o,b∉[e,it]->s.heap.get? b=some o->h'.get? b=some o:=fun b o hb q=>hk b o (fun z=>hb (by simp[z])) (fun z=>hb (by simp[z])) q
  have I1:Inv X pins σ (upd H s.heap.objs.size (.tup [.int i,x])) {s with heap:=h',toks:=tk+1}:=I.yields (vals:=[.int i tk,y]) hf kk (Nat.le_refl _) ⟨_,hT,rfl,_,rfl⟩ (.cons ⟨tk,rfl⟩ (.cons ru .nil)) (by show 2<=sizeLine;decide)
  have hf1:=q6F (o:= .tup [.int i,x]) hf ne
  refine⟨_,rfl,wpAny_letOwnedTupleGo_enum ho fun h'' he'' sb=>?_⟩
  have I2:Inv X pins σ (upd H s.heap.objs.size (.tup [.int i,x])) {s with heap:=h'',toks:=tk+1}:=I1.turnedL (t':=tk+1) hf1 fun b o hb q=>(sb.2 b fun z=>hb (by simp[z])).trans q
  refine⟨.ref s.heap.objs.size,_,I2,rfl,⟨_,I.hok.fresh (Nat.le_refl _),rfl,fun ys y' hy' hx'=>?_⟩,⟨⟨_,by simpa using he''⟩,st'.1.at2 fun o q=>(sb.2 it hei.symm).trans q⟩,fun b hb=>(hf1 b hb).1⟩
  have:=I.tuple_inj hy' hq
  subst this
  rw[hx] at hx'
  rw[Option.some.inj hx']
 done:=by
  intro X hP hw hK hc i pins s σ H E I hf st hg
  subst hP hw hK
  obtain⟨xs,hq,hx⟩:=hg
  obtain⟨⟨old,he⟩,hit⟩:=st
  obtain⟨its,rv,p,hz⟩:=I.tuple hq
  have p:s.heap.IsTuple a its.toArray:=p
  have hlen:=rv.length
  have D:Draws X.prog X.w X.A.in1 it [it,a] i (fun _ _=>False) (fun k h=>k=i/\h.IsTupleIter it a i/\h.IsTuple a its.toArray):=
   {live:=fun _ _ st=>let ⟨o,ho,_⟩:=st.2.1;⟨o,ho⟩
    frame:=fun _ _ _ st hk=>⟨st.1,st.2.1.at2 fun o q=>hk it (by simp) o q,st.2.2.at2 fun o q=>hk a (by simp) o q⟩
    item:=fun k s Q E hk st _=>absurd st.1 (Nat.ne_of_lt hk)
    done:=fun s Q E st hE=>q0t (I.ok.hd hc) st.2.1 st.2.2 (by simp;omega) hE}
  refine wpAny_pyNext_enum_endD D he ⟨rfl,hit,p⟩ fun h' eb=>⟨rfl,I.turnedL (t':=s.toks) (ch:=[e,it]) hf fun b o hb q=>eb b o (fun z=>hb (by simp[z])) q⟩
 self:=fun _ _ _ _ _ st h=>wpAny_pyIter_enum st.1.choose_spec h
theorem q28:bootBuiltins "enumerate"=some (.type "enumerate"):=by decide +kernel
section
variable {X:Cx}{elts:List Expr}{k:Nat}{tp:Pos}
def q8r (K:PySem.W.Frag)(ta:TA):TI:=fun σ H R=>ta σ H fun vs H1=>∃a,vs=[.ref a]/\(∃xs,SqL K H1 a xs)/\R (Ite fun H xs=>SqL K H a xs) H1
def q8q (K:PySem.W.Frag)(ta:TA):TI:=fun σ H R=>ta σ H fun vs H1=>∃a,vs=[.ref a]/\(∃xs,SqT K H1 a xs)/\R (Ite fun H xs=>SqT K H a xs) H1
theorem q9B {a:Expr}{ta:TA}{p pos:Pos}(hg:Gl X "enumerate")(hm:X.mg "enumerate"=none)(ha:PA X [a] ta)(hs:starEach [a] X.env=[(false,eval a X.env)]:=by rfl):PI X (.Tuple elts k tp) (.Call (.Name "enumerate" p) [a] [] pos) (q8r X.K ta):=by
 intro pins s σ H R I h
 refine Call_ (q2V I hg hm q28 (PyProof.Rows.callWith_type1 (thn (ha pos pins s σ H _ I h) fun us s1 ⟨vs,H1,I1,r1,q1⟩=>?_) hs rfl))
 obtain⟨l,e,⟨xs,hq⟩,q⟩:=q1
 subst e
 obtain⟨u,rfl,rx⟩:=q3J r1
 cases rx
 obtain⟨its,rv,pl,hz⟩:=I1.list hq
 refine call_enumerate_list pl.isList fun h' he hit hsz hk=>wpAny_pyIter_enum he ?_
 refine⟨_,[s1.heap.objs.size+1,s1.heap.objs.size],_,_,H1,rfl,I1.kept (t':=s1.toks) hk,q6X l _ _ (Nat.succ_ne_self _),⟨⟨_,he⟩,hit⟩,fun b hb=>?_,q⟩
 rcases List.mem_cons.mp hb with rfl|hb
 ·exact I1.fpOk (Nat.le_succ _) (I1.hok.fresh (Nat.le_succ _))
 ·rw [List.mem_singleton.mp hb];exact I1.fpOk (Nat.le_refl _) (I1.hok.fresh (Nat.le_refl _))
theorem q9A {a:Expr}{ta:TA}{p pos:Pos}(hg:Gl X "enumerate")(hm:X.mg "enumerate"=none)(ha:PA X [a] ta)(hs:starEach [a] X.env=[(false,eval a X.env)]:=by rfl):PI X (.Tuple elts k tp) (.Call (.Name "enumerate" p) [a] [] pos) (q8q X.K ta):=by
 intro pins s σ H R I h
 refine Call_ (q2V I hg hm q28 (PyProof.Rows.callWith_type1 (thn (ha pos pins s σ H _ I h) fun us s1 ⟨vs,H1,I1,r1,q1⟩=>?_) hs rfl))
 obtain⟨l,e,⟨xs,hq⟩,q⟩:=q1
 subst e
 obtain⟨u,rfl,rx⟩:=q3J r1
 cases rx
 obtain⟨its,rv,pl,hz⟩:=I1.tuple hq
 refine q3F (show s1.heap.IsTuple l its.toArray from pl) fun h' he hit hsz hk=>wpAny_pyIter_enum he ?_
 refine⟨_,[s1.heap.objs.size+1,s1.heap.objs.size],_,_,H1,rfl,I1.kept (t':=s1.toks) hk,q6W l _ _ (Nat.succ_ne_self _),⟨⟨_,he⟩,hit⟩,fun b hb=>?_,q⟩
 rcases List.mem_cons.mp hb with rfl|hb
 ·exact I1.fpOk (Nat.le_succ _) (I1.hok.fresh (Nat.le_succ _))
 ·rw [List.mem_singleton.mp hb];exact I1.fpOk (Nat.le_refl _) (I1.hok.fresh (Nat.le_refl _))
end
end L2
namespace PySem
open Sem (wp)
section
variable {prog:Program}{w:World}{A:Around}{E:Value->Shared->Prop}{s:Shared}
theorem q7r {z TI TO i1 i2 t1 t2:Addr}{k:Nat}{xs ys:Array Value}{x y a b:Value}{Q:Value->Shared->Prop}(D:ZipApart z TI TO i1 i2 t1 t2)(Z0:IsZip s.heap z TI TO .none)(PI0:IsPair s.heap TI (.ref i1) (.ref i2))(PO0:IsPair s.heap TO a b)
  (w1:s.heap.IsTupleIter i1 t1 k)(w2:s.heap.IsTupleIter i2 t2 k)(p1:s.heap.IsTuple t1 xs)(p2:s.heap.IsTuple t2 ys)(ex:xs[k]? =some x)(ey:ys[k]? =some y)
  (fin:∀h',IsZip h' z TI TO (rawInt s.heap.objs.size)->IsPair h' TO x y->h'.IsTupleIter i1 t1 (k+1)->h'.IsTupleIter i2 t2 (k+1)->IsPair h' s.heap.objs.size x y->
   (∀c o,c≠z->c≠TO->c≠i1->c≠i2->s.heap.get? c=some o->h'.get? c=some o)->Q (.ref s.heap.objs.size) {s with heap:=h'}):
  wpAny (model prog w) A (Builtin.«zip.__next__» ⟨[.ref z],[]⟩) (fun fn s'=>∃v,fn= .done (.ret v)/\Q v s') E s:=by
 show wpAny _ _ (field (.ref z) 2 >>= _) _ _ _
 refine wpAny_bind (wpAny_field Z0 rfl (x:= .bool false) rfl ?_)
 show wpAny _ _ (field (.ref z) 3 >>= _) _ _ _
 refine wpAny_bind (wpAny_field Z0 rfl (x:= .ref TI) rfl (wpAny_bind (wpAny_seqItems PI0 rfl ?_)))
 show wpAny _ _ (Builtin.SmallTypes.ownedTupleIsFree (.ref z) >>= _) _ _ _
 refine wpAny_bind ?_
 unfold Builtin.SmallTypes.ownedTupleIsFree
 refine wpAny_bind (wpAny_field Z0 rfl (x:= .none) rfl (wpAny_pure ?_))
 simp only[if_true]
 refine wpAny_bind (wpAny_rule (wpAny_bind (wpAny_field Z0 rfl (x:= .ref TO) rfl ?_)))
 refine wpAny_bind (wpAny_setField_rec Z0 (by simp) fun g1 Z1 b1=>?_)
 replace Z1:IsZip g1 z TI TO .ellipsis:=Z1
 refine wpAny_bind ?_
 simp only[List.zipIdx_cons,List.zipIdx_nil,List.forIn_cons,List.forIn_nil]
 refine wpAny_bind (wpAny_bind (wpAny_onRaise ?_))
 show wpAny _ _ (Builtin.SmallTypes.nextOf (.ref i1) >>= _) _ _ _
 refine wpAny_bind (q1R (w1.extBut b1.extBut D.i1z) (p1.extBut b1.extBut D.l1z) ex fun g2 v1 b2=>wpAny_pure ?_)
 have PO2:IsPair g2 TO a b:=b2.extBut _ _ D.TOi1 (b1.extBut _ _ D.TOz PO0)
 refine wpAny_bind (wpAny_seqItems PO2 rfl (wpAny_bind (wpAny_updateSeq_pair PO2 fun g3 PO3 b3=>?_)))
 replace PO3:IsPair g3 TO x b:=PO3
 refine wpAny_bind (wpAny_letGo (wpAny_pure (wpAny_bind (wpAny_bind (wpAny_onRaise ?_)))))
 show wpAny _ _ (Builtin.SmallTypes.nextOf (.ref i2) >>= _) _ _ _
 have w2':g3.IsTupleIter i2 t2 k:=((w2.extBut b1.extBut D.i2z).extBut b2.extBut D.i12.symm).extBut b3.extBut D.TOi2.symm
 have p2':g3.IsTuple t2 ys:=((p2.extBut b1.extBut D.l2z).extBut b2.extBut D.l2i1).extBut b3.extBut D.l2TO
 refine wpAny_bind (q1R w2' p2' ey fun g4 v2 b4=>wpAny_pure ?_)
 have PO4:IsPair g4 TO x b:=b4.extBut _ _ D.TOi2 PO3
 refine wpAny_bind (wpAny_seqItems PO4 rfl (wpAny_bind (wpAny_updateSeq_pair PO4 fun g5 PO5 b5=>?_)))
 replace PO5:IsPair g5 TO x y:=PO5
 refine wpAny_bind (wpAny_letGo (wpAny_pure (wpAny_pure ?_)))
 refine wpAny_bind (wpAny_seqItems PO5 rfl (wpAny_bind (wpAny_newTuple ?_)))
 have e5:g5.objs.size=s.heap.objs.size:=by rw[b5.1,b4.1,b3.1,b2.1,b1.1]
 have Z5:IsZip g5 z TI TO .ellipsis:=b5.extBut _ _ D.TOz.symm (b4.extBut _ _ D.i2z.symm (b3.extBut _ _ D.TOz.symm (b2.extBut _ _ D.i1z.symm Z1)))
 have k5:∀c o,c≠z->c≠TO->c≠i1->c≠i2->s.heap.get? c=some o->g5.get? c=some o:=fun c o c1 c2 c3 c4 q=>b5.extBut _ _ c2 (b4.extBut _ _ c4 (b3.extBut _ _ c2 (b2.extBut _ _ c3 (b1.extBut _ _ c1 q))))
 have u1:g5.IsTupleIter i1 t1 (k+1):=((v1.extBut b3.extBut D.TOi1.symm).extBut b4.extBut D.i12).extBut b5.extBut D.TOi1.symm
 have u2:g5.IsTupleIter i2 t2 (k+1):=v2.extBut b5.extBut D.TOi2.symm
 have lz:z<g5.objs.size:=Heap.lt_size Z5
 show wpAny _ _ (Builtin.SmallTypes.ownedTupleHandOut (.ref z) (.ref g5.objs.size) >>= _) _ _ _
 refine wpAny_bind ?_
 unfold Builtin.SmallTypes.ownedTupleHandOut
 have Z6:IsZip (g5.push {cls:= .type "tuple",data:= .seq #[x,y]}) z TI TO .ellipsis:=Heap.get?_push_of_some _ Z5
 refine wpAny_bind (wpAny_setField_rec Z6 (by simp) fun g7 Z7 b7=>?_)
 replace Z7:IsZip g7 z TI TO (rawInt g5.objs.size):=Z7
 refine wpAny_setField_rec Z7 (by simp) fun g8 Z8 b8=>?_
 replace Z8:IsZip g8 z TI TO (rawInt g5.objs.size):=Z8
 have up:∀c o,c≠z->g5.get? c=some o->g8.get? c=some o:=fun c o c1 q=>b8.extBut _ _ c1 (b7.extBut _ _ c1 (Heap.get?_push_of_some _ q))
 have T8:IsPair g8 g5.objs.size x y:=b8.extBut _ _ (Nat.ne_of_gt lz) (b7.extBut _ _ (Nat.ne_of_gt lz) (Heap.get?_push_size _ rfl))
 rw[e5] at Z8 T8
 refine wpAny_pure ⟨_,rfl,?_⟩
 show Q (.ref g5.objs.size) _
 rw[e5]
 exact fin g8 Z8 (up _ _ D.TOz PO5) (u1.at2 fun o q=>up _ o D.i1z q) (u2.at2 fun o q=>up _ o D.i2z q) T8 fun c o c1 c2 c3 c4 q=>up c o c1 (k5 c o c1 c2 c3 c4 q)
theorem q9c {z TI TO i1 i2 t1 t2:Addr}{k:Nat}{xs ys:Array Value}{a b:Value}{Q:Fin->Shared->Prop}(hh:A.handled=none)(D:ZipApart z TI TO i1 i2 t1 t2)(Z0:IsZip s.heap z TI TO .none)(PI0:IsPair s.heap TI (.ref i1) (.ref i2))(PO0:IsPair s.heap TO a b)
  (w1:s.heap.IsTupleIter i1 t1 k)(w2:s.heap.IsTupleIter i2 t2 k)(p1:s.heap.IsTuple t1 xs)(p2:s.heap.IsTuple t2 ys)(over:xs[k]? =none\/ys[k]? =none)
  (fin:∀h' e,(∀c o,c≠z->c≠TO->c≠i1->c≠i2->s.heap.get? c=some o->h'.get? c=some o)->(∃o,h'.get? e=some o/\o.cls= .type "StopIteration")->E (.ref e) {s with heap:=h'}):
  wpAny (model prog w) A (Builtin.«zip.__next__» ⟨[.ref z],[]⟩) Q E s:=by
 show wpAny _ _ (field (.ref z) 2 >>= _) _ _ _
 refine wpAny_bind (wpAny_field Z0 rfl (x:= .bool false) rfl ?_)
 show wpAny _ _ (field (.ref z) 3 >>= _) _ _ _
 refine wpAny_bind (wpAny_field Z0 rfl (x:= .ref TI) rfl (wpAny_bind (wpAny_seqItems PI0 rfl ?_)))
 show wpAny _ _ (Builtin.SmallTypes.ownedTupleIsFree (.ref z) >>= _) _ _ _
 refine wpAny_bind ?_
 unfold Builtin.SmallTypes.ownedTupleIsFree
 refine wpAny_bind (wpAny_field Z0 rfl (x:= .none) rfl (wpAny_pure ?_))
 simp only[if_true]
 refine wpAny_bind (wpAny_rule (wpAny_bind (wpAny_field Z0 rfl (x:= .ref TO) rfl ?_)))
 refine wpAny_bind (wpAny_setField_rec Z0 (by simp) fun g1 Z1 b1=>?_)
 replace Z1:IsZip g1 z TI TO .ellipsis:=Z1
 refine wpAny_bind ?_
 simp only[List.zipIdx_cons,List.zipIdx_nil,List.forIn_cons,List.forIn_nil]
 refine wpAny_bind (wpAny_bind (wpAny_onRaise ?_))
 show wpAny _ _ (Builtin.SmallTypes.nextOf (.ref i1) >>= _) _ _ _
 cases ex:xs[k]? with
 |none=>
  refine wpAny_bind (q0t hh (w1.extBut b1.extBut D.i1z) (p1.extBut b1.extBut D.l1z) ex fun g2 e b2 ee=>?_)
  obtain⟨oe,he,ce⟩:=ee
  have Z2:IsZip g2 z TI TO .ellipsis:=b2 _ _ D.i1z.symm Z1
  have nz:e≠z:=fun q=>by subst q;rw[Z2] at he;cases he;simp at ce
  exact wpAny_setField_rec Z2 (by simp) fun g3 _ b3=>fin g3 e (fun c o c1 _ c3 _ q=>b3.extBut _ _ c1 (b2 _ _ c3 (b1.extBut _ _ c1 q))) ⟨oe,b3.extBut _ _ nz he,ce⟩
 |some x=>
  have ey:ys[k]? =none:=by rcases over with q|q;rw[ex] at q;cases q;exact q
  refine wpAny_bind (q1R (w1.extBut b1.extBut D.i1z) (p1.extBut b1.extBut D.l1z) ex fun g2 v1 b2=>wpAny_pure ?_)
  have PO2:IsPair g2 TO a b:=b2.extBut _ _ D.TOi1 (b1.extBut _ _ D.TOz PO0)
  refine wpAny_bind (wpAny_seqItems PO2 rfl (wpAny_bind (wpAny_updateSeq_pair PO2 fun g3 PO3 b3=>?_)))
  refine wpAny_bind (wpAny_letGo (wpAny_pure (wpAny_bind (wpAny_bind (wpAny_onRaise ?_)))))
  show wpAny _ _ (Builtin.SmallTypes.nextOf (.ref i2) >>= _) _ _ _
  have w2':g3.IsTupleIter i2 t2 k:=((w2.extBut b1.extBut D.i2z).extBut b2.extBut D.i12.symm).extBut b3.extBut D.TOi2.symm
  have p2':g3.IsTuple t2 ys:=((p2.extBut b1.extBut D.l2z).extBut b2.extBut D.l2i1).extBut b3.extBut D.l2TO
  refine wpAny_bind (q0t hh w2' p2' ey fun g4 e b4 ee=>?_)
  obtain⟨oe,he,ce⟩:=ee
  have Z4:IsZip g4 z TI TO .ellipsis:=b4 _ _ D.i2z.symm (b3.extBut _ _ D.TOz.symm (b2.extBut _ _ D.i1z.symm Z1))
  have nz:e≠z:=fun q=>by subst q;rw[Z4] at he;cases he;simp at ce
  exact wpAny_setField_rec Z4 (by simp) fun g5 _ b5=>fin g5 e (fun c o c1 c2 c3 c4 q=>b5.extBut _ _ c1 (b4 _ _ c4 (b3.extBut _ _ c2 (b2.extBut _ _ c3 (b1.extBut _ _ c1 q))))) ⟨oe,b5.extBut _ _ nz he,ce⟩
theorem q8b {z TI TO i1 i2 t1 t2:Addr}{k:Nat}{xs ys:Array Value}{x y a b:Value}{Q:Option Value->Shared->Prop}(D:ZipApart z TI TO i1 i2 t1 t2)(Z0:IsZip s.heap z TI TO .none)(PI0:IsPair s.heap TI (.ref i1) (.ref i2))(PO0:IsPair s.heap TO a b)
  (w1:s.heap.IsTupleIter i1 t1 k)(w2:s.heap.IsTupleIter i2 t2 k)(p1:s.heap.IsTuple t1 xs)(p2:s.heap.IsTuple t2 ys)(ex:xs[k]? =some x)(ey:ys[k]? =some y)
  (fin:∀h',IsZip h' z TI TO (rawInt s.heap.objs.size)->IsPair h' TO x y->h'.IsTupleIter i1 t1 (k+1)->h'.IsTupleIter i2 t2 (k+1)->IsPair h' s.heap.objs.size x y->
   (∀c o,c≠z->c≠TO->c≠i1->c≠i2->s.heap.get? c=some o->h'.get? c=some o)->Q (some (.ref s.heap.objs.size)) {s with heap:=h'}):
  wpAny (model prog w) A (pyNext (.ref z)) Q E s:=by
 have ty:s.TypeIs (.ref z) "zip":=⟨_,Z0,rfl⟩
 unfold pyNext
 exact wpAny_bind (wpAny_attempt (wpAny_callSpecial?_slot (name:=Str.ofString "__next__") ty F.slot_zip_next (wpAny_call_entry F.slot_zip_next ty F.entry_zip_next
  (q7r D Z0 PI0 PO0 w1 w2 p1 p2 ex ey fun h' a1 a2 a3 a4 a5 a6=>wpAny_pure (fin h' a1 a2 a3 a4 a5 a6)) (F.args_zip_next_1 _))))
theorem q4u {z TI TO i1 i2 t1 t2:Addr}{k:Nat}{xs ys:Array Value}{a b:Value}{Q:Option Value->Shared->Prop}(hh:A.handled=none)(D:ZipApart z TI TO i1 i2 t1 t2)(Z0:IsZip s.heap z TI TO .none)(PI0:IsPair s.heap TI (.ref i1) (.ref i2))(PO0:IsPair s.heap TO a b)
  (w1:s.heap.IsTupleIter i1 t1 k)(w2:s.heap.IsTupleIter i2 t2 k)(p1:s.heap.IsTuple t1 xs)(p2:s.heap.IsTuple t2 ys)(over:xs[k]? =none\/ys[k]? =none)
  (fin:∀h',(∀c o,c≠z->c≠TO->c≠i1->c≠i2->s.heap.get? c=some o->h'.get? c=some o)->Q none {s with heap:=h'}):wpAny (model prog w) A (pyNext (.ref z)) Q E s:=by
 have ty:s.TypeIs (.ref z) "zip":=⟨_,Z0,rfl⟩
 unfold pyNext
 refine wpAny_bind (wpAny_attempt (wpAny_callSpecial?_slot (name:=Str.ofString "__next__") ty F.slot_zip_next (wpAny_call_entry F.slot_zip_next ty F.entry_zip_next (q9c hh D Z0 PI0 PO0 w1 w2 p1 p2 over fun h' e hk he=>?_) (F.args_zip_next_1 _))))
 obtain⟨o,ho,hc⟩:=he
 exact wpAny_bind (wpAny_isInstance (T:="StopIteration") (b:=true) ⟨o,ho,hc⟩ isSubtype_stop (wpAny_pure (fin _ hk)))
end
abbrev zT1 (h:Heap)(t1:Addr):Heap:=h.push {cls:= .type "tuple_iterator",data:= .fields #[.ref t1,.int 0 0]}
abbrev zT2 (h:Heap)(t1 t2:Addr):Heap:=(zT1 h t1).push {cls:= .type "tuple_iterator",data:= .fields #[.ref t2,.int 0 0]}
abbrev zT3 (h:Heap)(t1 t2:Addr):Heap:=(zT2 h t1 t2).push {cls:= .type "tuple",data:= .seq #[.ref h.objs.size,.ref (zT1 h t1).objs.size]}
abbrev zT4 (h:Heap)(t1 t2:Addr):Heap:=(zT3 h t1 t2).push {cls:= .type "tuple",data:= .seq #[.none,.none]}
abbrev zT5 (h:Heap)(t1 t2:Addr):Heap:=(zT4 h t1 t2).push {cls:= .type "zip",data:= .fields #[.none,.bool false,.bool false,.ref (zT2 h t1 t2).objs.size,.ref (zT3 h t1 t2).objs.size]}
theorem q3N (t1 t2:Addr)(xs ys:Array Value):
  Meets (Builtin.«zip.__new__» ⟨[.type "zip",.ref t1,.ref t2],[]⟩) (fun _ R s=>s.heap.IsTuple t1 xs/\s.heap.IsTuple t2 ys/\R (.ok (.ret (.ref (zT4 s.heap t1 t2).objs.size))) {s with heap:=zT5 s.heap t1 t2}):=
 .of_wp fun prog w A R s h=>by
  obtain⟨hp,g,d,tk,os⟩:=s;obtain⟨q1,q2,h⟩:=h
  have hsub:=sub_zip
  have T1:Heap.IsTuple (Shared.heap ⟨hp,g,d,tk,os⟩) t1 xs:=q1
  have T2:Heap.IsTuple (Shared.heap ⟨hp.push {cls:= .type "tuple_iterator",data:= .fields #[.ref t1,.int 0 0]},g,d,tk,os⟩) t2 ys:=Heap.IsTuple.push q2 _
  wp_walk using wpAny_pyIter_tuple T1,wpAny_pyIter_tuple T2
  exact⟨_,rfl,h⟩
section
variable {prog:Program}{w:World}{A:Around}{E:Value->Shared->Prop}{s:Shared}
theorem q8Z {t1 t2:Addr}{xs ys:Array Value}{Q:Value->Shared->Prop}(q1:s.heap.IsTuple t1 xs)(q2:s.heap.IsTuple t2 ys)
  (h:∀h',IsZip h' (s.heap.objs.size+4) (s.heap.objs.size+2) (s.heap.objs.size+3) .none->IsPair h' (s.heap.objs.size+2) (.ref s.heap.objs.size) (.ref (s.heap.objs.size+1))->
   IsPair h' (s.heap.objs.size+3) .none .none->h'.IsTupleIter s.heap.objs.size t1 0->h'.IsTupleIter (s.heap.objs.size+1) t2 0->
   (∀c o,s.heap.get? c=some o->h'.get? c=some o)->Q (.ref (s.heap.objs.size+4)) {s with heap:=h'}):
  wpAny (model prog w) A (call (.type "zip") [.ref t1,.ref t2]) Q E s:=by
 refine callType_new F.called_zip (by decide) (F.typeCall_zip_2 _ _) (F.newCall_zip_2 _ _) (fun obj=>F.args_object_init_3 obj _ _) F.entry_zip_new (q3N t1 t2 xs ys) ⟨q1,q2,?_⟩
 have z1:(zT1 s.heap t1).objs.size=s.heap.objs.size+1:=Heap.size_push ..
 have z2:(zT2 s.heap t1 t2).objs.size=s.heap.objs.size+2:=by rw[Heap.size_push,z1]
 have z3:(zT3 s.heap t1 t2).objs.size=s.heap.objs.size+3:=by rw[Heap.size_push,z2]
 have z4:(zT4 s.heap t1 t2).objs.size=s.heap.objs.size+4:=by rw[Heap.size_push,z3]
 have g5:(zT5 s.heap t1 t2).get? (zT4 s.heap t1 t2).objs.size=some _:=Heap.get?_push_size _ rfl
 have g4:(zT5 s.heap t1 t2).get? (zT3 s.heap t1 t2).objs.size=some _:=Heap.get?_push_of_some _ (Heap.get?_push_size _ rfl)
 have g3:(zT5 s.heap t1 t2).get? (zT2 s.heap t1 t2).objs.size=some _:=Heap.get?_push_of_some _ (Heap.get?_push_of_some _ (Heap.get?_push_size _ rfl))
 have g2:(zT5 s.heap t1 t2).get? (zT1 s.heap t1).objs.size=some _:=Heap.get?_push_of_some _ (Heap.get?_push_of_some _ (Heap.get?_push_of_some _ (Heap.get?_push_size _ rfl)))
 have g1:(zT5 s.heap t1 t2).get? s.heap.objs.size=some _:=Heap.get?_push_of_some _ (Heap.get?_push_of_some _ (Heap.get?_push_of_some _ (Heap.get?_push_of_some _ (Heap.get?_push_size _ rfl))))
 show _/\_
 rw[z2,z3,z4] at g5
 rw[z1,z2] at g3
 rw[z3] at g4
 rw[z1] at g2
 rw[z4]
 exact⟨⟨_,g5,rfl⟩,h _ g5 g3 g4 ⟨_,g1,rfl,rfl⟩ ⟨_,g2,rfl,rfl⟩ fun c o q=>Heap.get?_push_of_some _ (Heap.get?_push_of_some _ (Heap.get?_push_of_some _ (Heap.get?_push_of_some _ (Heap.get?_push_of_some _ q))))⟩
end
end PySem
namespace L2
open PySem PySem.Spec PyProof.Rows
def Itz (K:PySem.W.Frag)(a b:Addr):It:=
 ⟨fun i H=>∃xs ys x y,SqT K H a xs/\SqT K H b ys/\xs[i]? =some x/\ys[i]? =some y,fun i H v H'=>∃T,H T=none/\v= .ref T/\∀xs ys x y,SqT K H a xs->SqT K H b ys->xs[i]? =some x->ys[i]? =some y->H'=upd H T (.tup [x,y]),
  fun i H=>∃xs ys,SqT K H a xs/\SqT K H b ys/\(xs.length<=i\/ys.length<=i)⟩
theorem q7x {P:Program}{w:World}{K:PySem.W.Frag}{elts:List Expr}{k:Nat}{tp:Pos}(a b z TI TO i1 i2:Addr)(D:ZipApart z TI TO i1 i2 a b):
  Turn P w K (.Tuple elts k tp) (Itz K a b) [z,TI,TO,i1,i2] z (fun i h=>IsZip h z TI TO .none/\IsPair h TI (.ref i1) (.ref i2)/\(∃u v,IsPair h TO u v)/\h.IsTupleIter i1 a i/\h.IsTupleIter i2 b i) where
 mem:=by simp
 obj:=fun i h st c hc=>by
  obtain⟨q1,q2,⟨u,v,q3⟩,⟨o4,q4,_,d4⟩,⟨o5,q5,_,d5⟩⟩:=st
  simp only[List.mem_cons,List.not_mem_nil,or_false] at hc
  rcases hc with rfl|rfl|rfl|rfl|rfl
  ·exact ⟨_,q1,fun v z=>by cases z⟩
  ·exact ⟨_,q2,fun v z=>by cases z⟩
  ·exact ⟨_,q3,fun v z=>by cases z⟩
  ·exact ⟨_,q4,fun v z=>by rw[d4] at z;cases z⟩
  ·exact ⟨_,q5,fun v z=>by rw[d5] at z;cases z⟩
 keep:=fun i h h' st kk=>by
  obtain⟨q1,q2,⟨u,v,q3⟩,q4,q5⟩:=st
  exact⟨kk z (by simp) _ q1,kk TI (by simp) _ q2,⟨u,v,kk TO (by simp) _ q3⟩,q4.at2 fun o q=>kk i1 (by simp) o q,q5.at2 fun o q=>kk i2 (by simp) o q⟩
 item:=by
  intro X hP hw hK hc i pins s σ H E I hf st hg
  subst hP hw hK
  obtain⟨xs,ys,x,y,hqa,hqb,hx,hy⟩:=hg
  obtain⟨q1,q2,⟨u0,v0,q3⟩,q4,q5⟩:=st
  obtain⟨ia,ra,pa,hza⟩:=I.tuple hqa
  obtain⟨ib,rb,pb,hzb⟩:=I.tuple hqb
  have pa:s.heap.IsTuple a ia.toArray:=pa
  have pb:s.heap.IsTuple b ib.toArray:=pb
  obtain⟨u,hu,ru⟩:=ra.get hx
  obtain⟨v,hv,rv⟩:=rb.get hy
  refine q8b D q1 q2 q3 q4 q5 pa pb (x:=u) (y:=v) (by simpa using hu) (by simpa using hv) fun h' a1 a2 a3 a4 a5 kk=>?_
  have kf:∀c o,c∉[z,TI,TO,i1,i2]->s.heap.get? c=some o->h'.get? c=some o:=fun c o hcc q=>kk c o (fun e=>hcc (by simp[e])) (fun e=>hcc (by simp[e])) (fun e=>hcc (by simp[e])) (fun e=>hcc (by simp[e])) q
  have ne:∀c∈[z,TI,TO,i1,i2],c≠s.heap.objs.size:=fun c hcc=>by
   obtain⟨o4,e4,_⟩:=q4
   obtain⟨o5,e5,_⟩:=q5
   simp only[List.mem_cons,List.not_mem_nil,or_false] at hcc
   rcases hcc with rfl|rfl|rfl|rfl|rfl
   ·exact Nat.ne_of_lt (Heap.lt_size q1)
   ·exact Nat.ne_of_lt (Heap.lt_size q2)
   ·exact Nat.ne_of_lt (Heap.lt_size q3)
   ·exact Nat.ne_of_lt (Heap.lt_size e4)
   ·exact Nat.ne_of_lt (Heap.lt_size e5)
  have I1:Inv X pins σ (upd H s.heap.objs.size (.tup [x,y])) {s with heap:=h',toks:=s.toks}:=I.yields (vals:=[u,v]) hf kf (Nat.le_refl _) ⟨_,a5,rfl,_,rfl⟩ (.cons ru (.cons rv .nil)) (by show 2<=sizeLine;decide)
  have hf1:=q6F (o:= .tup [x,y]) hf ne
  refine⟨_,rfl,wpAny_letOwnedTupleGo_zip a1 fun h'' Z2 sb=>?_⟩
  have I2:Inv X pins σ (upd H s.heap.objs.size (.tup [x,y])) {s with heap:=h'',toks:=s.toks}:=I1.turnedL (t':=s.toks) hf1 fun c o hcc q=>(sb.2 c fun e=>hcc (by simp[e])).trans q
  refine⟨.ref s.heap.objs.size,_,I2,rfl,⟨_,I.hok.fresh (Nat.le_refl _),rfl,fun xs' ys' x' y' hxs hys hx' hy'=>?_⟩,⟨Z2,sb.extBut _ _ D.TIz (kk _ _ D.TIz D.TITO D.TIi1 D.TIi2 q2),⟨u,v,sb.extBut _ _ D.TOz a2⟩,a3.extBut sb.extBut D.i1z,a4.extBut sb.extBut D.i2z⟩,fun c hcc=>(hf1 c hcc).1⟩
  have e1:=I.tuple_inj hxs hqa
  have e2:=I.tuple_inj hys hqb
  subst e1 e2
  rw[hx] at hx';rw[hy] at hy'
  rw[Option.some.inj hx',Option.some.inj hy']
 done:=by
  intro X hP hw hK hc i pins s σ H E I hf st hg
  subst hP hw hK
  obtain⟨xs,ys,hqa,hqb,over⟩:=hg
  obtain⟨q1,q2,⟨u0,v0,q3⟩,q4,q5⟩:=st
  obtain⟨ia,ra,pa,hza⟩:=I.tuple hqa
  obtain⟨ib,rb,pb,hzb⟩:=I.tuple hqb
  have la:=ra.length
  have lb:=rb.length
  refine q4u (I.ok.hd hc) D q1 q2 q3 q4 q5 (show s.heap.IsTuple a ia.toArray from pa) (show s.heap.IsTuple b ib.toArray from pb) ?_ fun h' kk=>⟨rfl,I.turnedL (t':=s.toks) hf fun c o hcc q=>kk c o (fun e=>hcc (by simp[e])) (fun e=>hcc (by simp[e])) (fun e=>hcc (by simp[e])) (fun e=>hcc (by simp[e])) q⟩
  rcases over with q|q
  ·exact .inl (by simp;omega)
  ·exact .inr (by simp;omega)
 self:=fun _ _ _ _ _ st h=>wpAny_pyIter_zip st.1 h
section
variable {X:Cx}{elts:List Expr}{k:Nat}{tp:Pos}
def iZipT (K:PySem.W.Frag)(ta:TA):TI:=fun σ H R=>ta σ H fun vs H1=>∃a b,vs=[.ref a,.ref b]/\(∃xs,SqT K H1 a xs)/\(∃ys,SqT K H1 b ys)/\R (Itz K a b) H1
theorem qbr {a b:Expr}{ta:TA}{p pos:Pos}(hg:Gl X "zip")(hm:X.mg "zip"=none)(ha:PA X [a,b] ta)(hs:starEach [a,b] X.env=[(false,eval a X.env),(false,eval b X.env)]:=by rfl)(hs2:starEach [b] X.env=[(false,eval b X.env)]:=by rfl):
  PI X (.Tuple elts k tp) (.Call (.Name "zip" p) [a,b] [] pos) (iZipT X.K ta):=by
 intro pins s σ H R I h
 refine Call_ (q2V I hg hm boot_zip (PyProof.Rows.callWith_type1 (thn (ha pos pins s σ H _ I h) fun us s1 ⟨vs,H1,I1,r1,q1⟩=>?_) (by rw[hs,hs2]) (by rw[hs2];rfl)))
 obtain⟨t1,t2,e,⟨xs,hqa⟩,⟨ys,hqb⟩,q⟩:=q1
 subst e
 obtain⟨u,v,rfl,rx,ry⟩:=qaW r1
 cases rx
 cases ry
 obtain⟨ia,ra,pa,hza⟩:=I1.tuple hqa
 obtain⟨ib,rb,pb,hzb⟩:=I1.tuple hqb
 have pa:s1.heap.IsTuple t1 ia.toArray:=pa
 have pb:s1.heap.IsTuple t2 ib.toArray:=pb
 have l1:t1<s1.heap.objs.size:=by obtain⟨o,q,_⟩:=pa;exact Heap.lt_size q
 have l2:t2<s1.heap.objs.size:=by obtain⟨o,q,_⟩:=pb;exact Heap.lt_size q
 refine q8Z pa pb fun h' a1 a2 a3 a4 a5 kk=>wpAny_pyIter_zip a1 ?_
 refine⟨_,[s1.heap.objs.size+4,s1.heap.objs.size+2,s1.heap.objs.size+3,s1.heap.objs.size,s1.heap.objs.size+1],_,_,H1,rfl,I1.kept (t':=s1.toks) kk,q7x t1 t2 _ _ _ _ _ (zipApart_new l1 l2),⟨a1,a2,⟨_,_,a3⟩,a4,a5⟩,fun c hc=>?_,q⟩
 have up:∀n,FpOk X pins H1 (s1.heap.objs.size+n):=fun n=>I1.fpOk (Nat.le_add_right _ _) (I1.hok.fresh (Nat.le_add_right _ _))
 simp only[List.mem_cons,List.not_mem_nil,or_false] at hc
 rcases hc with rfl|rfl|rfl|rfl|rfl
 ·exact up 4
 ·exact up 2
 ·exact up 3
 ·exact up 0
 ·exact up 1
end
end L2
namespace L2
open PySem PySem.Spec PyProof.Rows
section
variable {X:Cx}
def rIsiT (K:PySem.W.Frag):List V->Hp->VK->Prop:=fun xs H Q=>∃x n t b,xs=[x,.ty n]/\TyOf K H x t/\PySem.W.kitOne K t (.type n)=some b/\Q (.bl b) H
theorem q90:q1Y X (.builtin "isinstance") (rIsiT X.K):=by
 intro pins s σ H xs us Q I r h
 obtain⟨x,n,t,b,rfl,ty,e,q⟩:=h
 obtain⟨u,v,rfl,rx,ry⟩:=qaW r
 cases ry
 exact q8m I rx ty e fun tk=>⟨.bl b,H,I.tok _,rfl,q⟩
theorem q9f {bs:List Bool}:∀{us:List Value},Vals (bs.map V.bl) us->us=bs.map Value.bool:=by
 induction bs with
 |nil=>intro us r;cases r;rfl
 |cons b bs ih=>
  intro us r
  rw[List.map_cons] at r
  cases r with
  |cons r1 r2=>
   cases(show _=Value.bool b from r1)
   rw[ih r2]
   rfl
theorem q4G (bs:List Bool):((List.range bs.length).all fun i=>bs.getD i true)=bs.all id:=by
 rw[Bool.eq_iff_iff]
 simp only[List.all_eq_true,List.mem_range,id]
 constructor
 ·intro h x hx
  obtain⟨i,hi,rfl⟩:=List.mem_iff_getElem.mp hx
  have:=h i hi
  simpa[List.getD,hi] using this
 ·intro h i hi
  have:=h bs[i] (List.getElem_mem hi)
  simpa[List.getD,hi] using this
def rAll (K:PySem.W.Frag):List V->Hp->VK->Prop:=fun xs H Q=>∃(p:Addr) (bs:List Bool),xs=[.ref p]/\SqL K H p (bs.map V.bl)/\Q (.bl (bs.all id)) H
theorem qap (hc:X.calm=true):q1Y X (.builtin "all") (rAll X.K):=by
 intro pins s σ H xs us Q I r h
 obtain⟨p,bs,rfl,hq,q⟩:=h
 obtain⟨u,rfl,rx⟩:=q3J r
 cases rx
 obtain⟨its,rv,pl,hz⟩:=I.list hq
 have hits:=q9f rv
 have hl:=pl.isList
 have hlt:p<s.heap.objs.size:=by obtain⟨o,e,_⟩:=hl;exact Heap.lt_size e
 have hh:X.A.in1.handled=none:=I.ok.hd hc
 refine call_all_walk (wpAny_pyIter_list hl ?_)
 refine⟨s.heap.objs.size,_,_,_,_,_,fun i=>bs.getD i true,rfl,Walks.list hh s.heap.objs.size p (Nat.ne_of_lt hlt) its.toArray,⟨⟨_,Heap.get?_push_size _ rfl,rfl,rfl⟩,hl.push _⟩,?_,fun h' tk hk=>?_⟩
 ·intro i v s' Q' E' hv hQ
  have e:v= .bool (bs.getD i true):=by
   have hv':its[i]? =some v:=by simpa using hv
   rw[hits,List.getElem?_map] at hv'
   cases e:bs[i]? with
   |none=>rw[e] at hv';cases hv'
   |some b=>rw[e] at hv';simp[List.getD,e];exact(Option.some.inj hv').symm
  subst e
  first
   |exact wpAny_pure hQ
   |exact hQ
 ·have e:its.toArray.size=bs.length:=by rw[hits];simp
  have I1:Inv X pins σ H {s with heap:=s.heap.push {cls:= .type "list_iterator",data:= .fields #[.ref p,.int 0 0]}}:=I.kept (t':=s.toks) fun b o e=>Heap.get?_push_of_some _ e
  have f:∀b∈[s.heap.objs.size],FpOk X pins H b:=fun b hb=>by rw[List.mem_singleton.mp hb];exact I.fpOk (Nat.le_refl _) (I.hok.fresh (Nat.le_refl _))
  refine⟨.bl (bs.all id),H,I1.turnedL (t':=tk) (ch:=[s.heap.objs.size]) f fun b o hb e=>hk b o hb e,?_,q⟩
  show Value.bool _=Value.bool _
  rw[e,q4G]
end
end L2
namespace HT
open PySem PyProof.Rows
section
variable {prog:Program}{w:World}{A:Around}{E:Value->Shared->Prop}{s:Shared}
theorem q2L {t sl:Addr}{items:Array Value}{vl vu:Value}{lo hi:Option Int}{Q:Value->Shared->Prop}(ht:IsTup s.heap t items)(hs:s.heap.IsSliceOf sl vl vu .none)(pl:IsPart vl lo)(pu:IsPart vu hi)
  (hw:sIx items.size 0 lo=0/\sIx items.size items.size hi=items.size)(h:Q (.ref t) s):wpAny (model prog w) A (getItem (.ref t) (.ref sl)) Q E s:=by
 obtain⟨os,hos,hcs,hds⟩:=id hs
 have hTs:s.TypeIs (.ref sl) "slice":=⟨os,hos,hcs⟩
 unfold getItem
 try with_reducible refine wpAny_holding ?_
 first|refine wpAny_bind (wpAny_pure ?_)|skip
 refine wpAny_bind (wpAny_sequenceKey ht.typeIs (by decide) ?_)
 refine wpAny_bind (wpAny_callSpecial?_slot (name:=Str.ofString "__getitem__") ht.typeIs PyProof.Rows.slot_tuple_getitem (wpAny_call_entry PyProof.Rows.slot_tuple_getitem ht.typeIs entry_tuple_getitem ?_ (args_tuple_getitem _ _)))
 show wpAny _ _ (Builtin.Tuple.tupleItemsOf (.ref t) >>= _) _ _ s
 refine wpAny_bind (tupleItemsOf_ ht (wpAny_bind (wpAny_typeOf hTs ?_)))
 rw[if_pos (by decide)]
 refine wpAny_bind (q1E hs pl pu ?_)
 have yes:(((sIx items.size 0 lo:Nat):Int)==0&&(1:Int)==1&&(sIx items.size items.size hi - sIx items.size 0 lo)==items.size)=true:=by
  rw[hw.1,hw.2];simp
 show wpAny _ _ (if (((sIx items.size 0 lo:Nat):Int)==0&&(1:Int)==1&&(sIx items.size items.size hi - sIx items.size 0 lo)==items.size)=true then _ else _) _ _ s
 rw[if_pos yes]
 refine wpAny_bind (m:=Builtin.Tuple.tupleIsExact _) ?_
 unfold Builtin.Tuple.tupleIsExact
 refine wpAny_bind (wpAny_typeOf ht.typeIs (wpAny_pure ?_))
 simp only[beq_self_eq_true,if_true]
 first
  |exact wpAny_bind (wpAny_rule (wpAny_pure ⟨_,rfl,wpAny_pure h⟩))
  |exact wpAny_bind (wpAny_rule (wpAny_bind (wpAny_pure (wpAny_pure ⟨_,rfl,wpAny_pure h⟩))))
  |exact wpAny_bind (wpAny_rule (wpAny_bind (wpAny_pure ⟨_,rfl,wpAny_pure h⟩)))
  |(trace_state;fail)
end
end HT
namespace L2
open PySem PySem.Spec PyProof.Rows
section
variable {X:Cx}
def rSlTA (K:PySem.W.Frag):V->Option Int->Option Int->Hp->VK->Prop:=fun x lo hi H Q=>∃a xs,x= .ref a/\SqT K H a xs/\(cutV xs lo hi=xs->Q (.ref a) H)/\∀p,H p=none->Q (.ref p) (upd H p (.tup (cutV xs lo hi)))
theorem qb9:SlR X (rSlTA X.K):=by
 intro pins s σ H x v vl vu lo hi sl Q I rx hs pl pu h
 obtain⟨a,xs,rfl,hx,h1,h2⟩:=h
 by_cases hw:HT.sIx xs.length 0 lo=0/\HT.sIx xs.length xs.length hi=xs.length
 ·have e:cutV xs lo hi=xs:=by unfold cutV;rw[hw.1,hw.2];simp
  cases rx
  obtain⟨its,r,ht,hz⟩:=I.tuple hx
  have hlen:its.toArray.size=xs.length:=by rw[List.size_toArray];exact r.length.symm
  exact⟨"tuple",_,PyProof.Rows.slot_tuple_getitem.lookup,ht.typeIs,HT.q2L ht hs pl pu (by rw[hlen];exact hw) ⟨.ref a,H,I,rfl,h1 e⟩⟩
 ·exact sl_tup pins s σ H (.ref a) v vl vu lo hi sl Q I rx hs pl pu ⟨a,xs,rfl,hx,hw,h2⟩
end
theorem q4C {J:It}{g:TG}{tc:TT}{te:TE}{R:Hp->Prop}{σ:St}{H:Hp}{D:Addr}(n:Nat)(Pv:Nat->St->Hp->Prop)(h0:Pv 0 σ H)
  (go:∀i σ H,i<n->Pv i σ H->J.go i H/\∀x H',J.yld i H x H'->g x σ H' fun σ3 H3=>tc σ3 H3 fun b H4=>
   if b=true then te σ3 H4 fun y H5=>∃ys,H5 D=some (.lst ys)/\ys.length<sizeLine/\Pv (i+1) σ3 (upd H5 D (.lst (ys++[y]))) else Pv (i+1) σ3 H4)(stop:∀σ H,Pv n σ H->J.stop n H/\R H):
  ∃W:Nat->Nat->St->Hp->Prop,(∃m,W 0 m σ H)/\∀i m σ H,W i m σ H->
   (J.stop i H/\R H)\/(J.go i H/\∃N:St->Hp->Prop,(∀σ' H',N σ' H'->∃m',m'<m/\W (i+1) m' σ' H')/\∀x H',J.yld i H x H'->g x σ H' fun σ3 H3=>tc σ3 H3 fun b H4=>
    if b=true then te σ3 H4 fun y H5=>∃ys,H5 D=some (.lst ys)/\ys.length<sizeLine/\N σ3 (upd H5 D (.lst (ys++[y]))) else N σ3 H4):=by
 refine⟨fun i m σ H=>m=n - i/\i<=n/\Pv i σ H,⟨n,by simp,Nat.zero_le _,h0⟩,?_⟩
 rintro i m σ H ⟨rfl,hi,p⟩
 by_cases hlt:i<n
 ·obtain ⟨q1,q2⟩:=go i σ H hlt p
  exact .inr ⟨q1,Pv (i+1),fun σ' H' p'=>⟨n - (i+1),by omega,rfl,hlt,p'⟩,q2⟩
 ·have e:i=n:=by omega
  subst e
  exact .inl (stop σ H p)
theorem Same.upd {H:Hp}{a:Addr}{o:HO}(h:H a=none):Same H (upd H a o):=fun b u e=>by rw[qj (ql e h)];exact e
theorem Same.put {H H':Hp}{a:Addr}{o:HO}(e:Same H H')(h:H a=none):Same H (L2.upd H' a o):=fun b u q=>by rw[qj (ql q h)];exact e b u q
def isFun:ScopeKind->Bool
 | .function=>true
 |_=>false
theorem qaa {k:ScopeKind}(h:isFun k=true):k= .function:=by
 cases k<;>first|rfl|cases h
def q8R (Nx:List Str)(scx:Scope)(N:List Str)(scope:Scope)(own:Nat)(caps:List Nat):Bool:=
 isFun scope.kind&&scope.names.all (fun y=>(y.2 != .local||scope.names.lookup y.1==some .local)&&y.2 != .cell&&(y.2 != .free||scx.names.lookup y.1==some .cell||scx.names.lookup y.1==some .free))&&
  N.length==own+caps.length&&(caps.zip (N.drop own)).all fun p=>decide (Nx[p.1]? =some p.2)&&scope.names.lookup p.2==some .free
theorem q0m {X:Cx}{N:List Str}{scope:Scope}{own:Nat}{caps:List Nat}(Nx:List Str)(scx:Scope)(h:q8R Nx scx N scope own caps=true)(hN:X.N=Nx:=by rfl)(hs:X.env.scope=scx:=by rfl):CompOk X N scope own caps:=by
 unfold q8R at h
 simp only[Bool.and_eq_true,List.all_eq_true] at h
 obtain⟨⟨⟨h1,h2⟩,h3⟩,h4⟩:=h
 refine⟨qaa h1,fun y hy hl=>?_,fun y hy hc=>?_,fun y hy hf=>?_,by simpa using h3,fun i j x e1 e2=>?_⟩
 ·have:=(h2 y hy).1.1
  simpa[hl] using this
 ·have:=(h2 y hy).1.2
  simp[hc] at this
 ·have:=(h2 y hy).2
  show X.env.scope.names.lookup y.1=some .cell\/X.env.scope.names.lookup y.1=some .free
  rw[hs]
  simpa[hf] using this
 ·have hm:(j,x)∈caps.zip (N.drop own):=by
   have e3:(N.drop own)[i]? =some x:=by rw[List.getElem?_drop];exact e2
   exact List.mem_iff_getElem?.mpr ⟨i,by rw[List.getElem?_zip_eq_some];exact⟨e1,e3⟩⟩
  have:=h4 _ hm
  rw[hN]
  exact⟨of_decide_eq_true this.1,by simpa using this.2⟩
structure Cal (P:Program)(w:World)(K:PySem.W.Frag)(mg:Str->Option Value)(base:Heap)(k:Nat)(x:Str)(ps:List Str)(sp:Sp):Prop where
 ex:∃f fd,FnOk P w K mg base CX0 k f fd ps sp/\mg x=some (.ref f)/\PySem.W.keepIn K (.ref f)=true/\q1Z K fd ps []
structure Laid (K:PySem.W.Frag)(mg:Str->Option Value)(x:Str)(st:Stmt)(ps:List Str):Prop where
 ex:∃f fd,Fun K x x st f fd/\mg x=some (.ref f)/\q1Z K fd ps []
section
variable {P:Program}{w:World}{K:PySem.W.Frag}{mg:Str->Option Value}{base:Heap}
theorem Laid.cal {x:Str}{st:Stmt}{N ps:List Str}{k:Nat}{sp:Sp}(L:Laid K mg x st ps)(S:FnScope N ps (qd st))(len:∀vs H Q E,sp vs H Q E->vs.length=ps.length)
  (hbody:∀(f:Addr) (cdv:Value) (A:Around) (outer:List Env) (s:Shared) (H:Hp) (vs:List V) (Q:VK) (E:XK),Room k (A.deeper (envOfC x (qd st) s.heap.objs.size f cdv))->sp vs H Q E->
   ∃t,PSs (cxOf CX0 P w K mg base N x (qd st) f cdv A outer s H E).nox (qL st) t/\t {nx:=fun _ H'=>Q .non H',rt:=Q} (start N vs) H):Cal P w K mg base (k+1) x ps sp:=by
 obtain⟨f,fd,F,m,b⟩:=L.ex
 exact⟨f,fd,F.ok S len (fun cdv A outer s H vs Q E hr h=>hbody f cdv A outer s H vs Q E hr h),m,F.kp,b⟩
theorem qbP {h:Heap}{x:Str}{st:Stmt}{ps:List Str}{f:Addr}{oc:Value}{od an:Option Addr}{osl:Array (Option Value)}{kV doc pm cdv ct:Value}(X:K.In h)(G:h.Ns mainGlobals mg)(a:PySem.W.nsIn K mainGlobals x=some (some (.ref f)))
  (l:K.lookup f=some ⟨oc,od,.func (PySem.W.fnOf x x (q02 st) (qL st) (qd st) .none kV doc pm an cdv ct),osl⟩)(c:PySem.W.codeIn K cdv x=true)(k:PySem.W.keepIn K (.ref f)=true)
  (hb:∀(kV doc pm:Value) (an:Option Addr) (cdv ct:Value) (us:List Value),us.length=ps.length->bindArgs (PySem.W.fnOf x x (q02 st) (qL st) (qd st) .none kV doc pm an cdv ct) ⟨us,[]⟩=pure (ps.zip us)):Laid K mg x st ps:=
 ⟨f,_,q2t l c k,PySem.W.mg_of X G a,(q2t l c k).binds hb⟩
end
section
variable {X:Cx}{k k':Nat}{x:Str}{ps:List Str}{sp:Sp}{p pos:Pos}{e:Expr}{es:List Expr}{t:TA}
theorem qp (c:Cal X.prog X.w X.K X.mg X.base k x ps sp)(hr:Room k' X.A)(hk:k<=k')(hg:Gl X x)(ha:PA X (e::es) t)(hdb:(x==("__debug__":Str))=false:=by decide)(he:starEach (e::es) X.env=(false,eval e X.env)::starEach es X.env:=by rfl)
  (hpl:(backTo pos (starEach es X.env)).any (·.1)=false:=by rfl):PE X (.Call (.Name x p) (e::es) [] pos) (q6Y sp [] E0 t):=by
 obtain⟨f,fd,F,m,kp,b⟩:=c.ex
 exact q83 F (hr.mono hk) hg m kp b .nil q63 ha hdb he hpl
end
def tyS (H:Hp):V->Option String
 | .non=>some "NoneType"
 | .bl _=>some "bool"
 | .int _=>some "int"
 | .str _=>some "str"
 | .ref p=>match H p with
  |some (.lst _)=>some "list"
  |some (.tup _)=>some "tuple"
  |some (.frz _ (.lst _))=>some "list"
  |_=>none
 |_=>none
def subS (a n:String):Bool:=a==n||(a=="bool"&&n=="int")
def q8g (n:String):Bool:=n=="bool"||n=="int"||n=="str"||n=="list"||n=="tuple"
theorem qbQ (K:PySem.W.Frag):∀a∈["NoneType","bool","int","str","list","tuple"],∀n∈["bool","int","str","list","tuple"],PySem.W.kitOne K (.type a) (.type n)=some (subS a n):=by
 intro a ha n hn
 simp only[List.mem_cons,List.not_mem_nil,or_false] at ha hn
 rcases ha with rfl|rfl|rfl|rfl|rfl|rfl<;>rcases hn with rfl|rfl|rfl|rfl|rfl<;>kernel_rfl
theorem tyS_ty {K:PySem.W.Frag}{H:Hp}{x:V}{a:String}(h:tyS H x=some a):TyOf K H x (.type a)/\a∈["NoneType","bool","int","str","list","tuple"]:=by
 unfold tyS at h
 split at h
 ·cases h;exact⟨.non,by simp⟩
 ·cases h;exact⟨.bl _,by simp⟩
 ·cases h;exact⟨.int _,by simp⟩
 ·cases h;exact⟨.str _,by simp⟩
 ·split at h
  ·rename_i e;cases h;exact⟨.lst e,by simp⟩
  ·rename_i e;cases h;exact⟨.tup e,by simp⟩
  ·rename_i e;cases h;exact⟨.frz e,by simp⟩
  ·cases h
 ·cases h
section
variable {X:Cx}
def q5q:List V->Hp->VK->Prop:=fun xs H Q=>∃x n a,xs=[x,.ty n]/\tyS H x=some a/\q8g n=true/\Q (.bl (subS a n)) H
theorem q0O:q1Y X (.builtin "isinstance") q5q:=by
 intro pins s σ H xs us Q I r h
 obtain⟨x,n,a,rfl,ty,kn,q⟩:=h
 obtain⟨t1,t2⟩:=tyS_ty (K:=X.K) ty
 refine q90 pins s σ H _ us Q I r ⟨x,n,_,_,rfl,t1,qbQ X.K a t2 n ?_,q⟩
 unfold q8g at kn
 simp only[Bool.or_eq_true,beq_iff_eq] at kn
 simp only[List.mem_cons,List.not_mem_nil,or_false]
 rcases kn with(((kn|kn)|kn)|kn)|kn<;>simp[kn]
theorem q7w {H:Hp}{p:Addr}{xs:List V}(h:H p=some (.tup xs)):tyS H (.ref p)=some "tuple":=by simp only[tyS,h]
theorem qaZ {H:Hp}{p:Addr}{xs:List V}(h:H p=some (.lst xs)):tyS H (.ref p)=some "list":=by simp only[tyS,h]
end
theorem qZ:bootBuiltins "isinstance"=some (.builtin "isinstance"):=by decide +kernel
theorem q0k:bootBuiltins "len"=some (.builtin "len"):=by decide +kernel
theorem bt_all:bootBuiltins "all"=some (.builtin "all"):=by decide +kernel
theorem q5K:bootBuiltins "sorted"=some (.builtin "sorted"):=by decide +kernel
theorem q94:bootBuiltins "int"=some (.type "int"):=by decide +kernel
theorem q95:bootBuiltins "bool"=some (.type "bool"):=by decide +kernel
theorem q6h:bootBuiltins "list"=some (.type "list"):=by decide +kernel
theorem q12:bootBuiltins "tuple"=some (.type "tuple"):=by decide +kernel
end L2
namespace L2
open PySem PySem.Spec PyProof.Rows
structure VMeth (P:Program)(w:World)(K:PySem.W.Frag)(mg:Str->Option Value)(base:Heap)(k:Nat)(C:Addr)(m:Str)(ps:List Str)(sp:Sp):Prop where
 cl:Cls K C
 ex:∃f fd,Meth K C m f/\FnOk P w K mg base CX0 k f fd ps sp/\q1Z K fd ps []
def tVM (P:Program)(w:World)(K:PySem.W.Frag)(mg:Str->Option Value)(base:Heap)(k:Nat)(m:Str)(ta:TE)(t:TA):TE:=fun σ H Q=>ta σ H fun x H1=>∃a C dx fs ps sp,x= .ref a/\H1 a=some (.ins C dx fs)/\VMeth P w K mg base k C m ps sp/\fs.lookup m=none/\
 t σ H1 fun vs H2=>sp (x::vs) H2 Q E0
structure CMeth (K:PySem.W.Frag)(C:Addr)(m:Str)(f:Addr):Prop where
 rd:PySem.W.readsIn K C (.type "type")=true
 fc:PySem.W.findCls K (.ref C) (.type "type") m=some (.val (.ref f))
 sg:PySem.W.specialIn K (.ref C) "__getattribute__"=some (some (.builtin "type.__getattribute__"))
 kp:PySem.W.keepIn K (.ref f)=true
structure CCal (P:Program)(w:World)(K:PySem.W.Frag)(mg:Str->Option Value)(base:Heap)(k:Nat)(x m:Str)(ps:List Str)(sp:Sp):Prop where
 ex:∃C f fd,mg x=some (.ref C)/\CMeth K C m f/\FnOk P w K mg base CX0 k f fd ps sp/\q1Z K fd ps []
structure Makes (P:Program)(w:World)(K:PySem.W.Frag)(mg:Str->Option Value)(base:Heap)(k:Nat)(x:Str)(C:Addr)(ps:List Str)(sp:Sp):Prop where
 ex:∃f fd,Mk K C f/\FnOk P w K mg base CX0 k f fd ps sp/\q1Z K fd ps []
 at_:mg x=some (.ref C)
section
variable {X:Cx}{k k':Nat}{C:Addr}{ps:List Str}{sp:Sp}{x m:Str}{p pos apos:Pos}{e o:Expr}{es:List Expr}{ta:TE}{t:TA}
theorem q2G {pl:Sem Bool}(hr:Room k X.A)(he:PE X o ta)(ha:PA X (e::es) t)(hst:starEach (e::es) X.env=(false,eval e X.env)::starEach es X.env:=by rfl)(hpl:(backTo pos (starEach es X.env)).any (·.1)=false:=by rfl)
  (ht:eval (.Call (.Attribute o m apos) (e::es) [] pos) X.env=(do
   let ov<-eval o X.env
   standAt apos.atName
   let (f,first)<-holding [ov] (getMethod ov m pl)
   callWith pos f first (backTo pos (starEach (e::es) X.env)) (backToKw pos (keywordEach [] X.env))):=by rfl):
  PE X (.Call (.Attribute o m apos) (e::es) [] pos) (tVM X.prog X.w X.K X.mg X.base k m ta t):=by
 intro pins s σ H Q I h
 refine PySem.W.methodCall_KW (pl:=pl) (thn (he pins s σ H _ I h) fun u s1 ⟨x,H1,I1,rx,a,C,dx,fs,ps,sp,ex,ea,vm,l,q⟩=>?_) ht
 subst ex
 obtain rfl:u=Value.ref a:=rx
 obtain⟨f,fd,hm,F,hb⟩:=vm.ex
 refine q44 I1 ea vm.cl hm l ?_
 refine PySem.W.callWith_K (first:=[.ref a]) (h₀:=X.base) I.ok.mod.kin hm.kp (thn (ha pos pins s1 σ H1 _ I1 q) fun us s2 ⟨vs,H2,I2,r,q2⟩=>⟨I2.kIn,?_⟩) hst hpl
 exact q6u (us:= .ref a::us) (vs:= .ref a::vs) (ds:=[]) (dvs:=[]) F hr hb .nil q63 I2 (.cons rfl r) (by rw[List.append_nil];exact q2)
theorem pe_vm0 {pl:Sem Bool}(hr:Room k X.A)(he:PE X o ta)
  (ht:eval (.Call (.Attribute o m apos) [] [] pos) X.env=(do
   let ov<-eval o X.env
   standAt apos.atName
   let (f,first)<-holding [ov] (getMethod ov m pl)
   callWith pos f first (backTo pos (starEach [] X.env)) (backToKw pos (keywordEach [] X.env))):=by rfl):
  PE X (.Call (.Attribute o m apos) [] [] pos) (tVM X.prog X.w X.K X.mg X.base k m ta tNil):=by
 intro pins s σ H Q I h
 refine PySem.W.methodCall_KW (pl:=pl) (thn (he pins s σ H _ I h) fun u s1 ⟨x,H1,I1,rx,a,C,dx,fs,ps,sp,ex,ea,vm,l,q⟩=>?_) ht
 subst ex
 obtain rfl:u=Value.ref a:=rx
 obtain⟨f,fd,hm,F,hb⟩:=vm.ex
 refine q44 I1 ea vm.cl hm l ?_
 exact PySem.W.callWith_K0 (first:=[.ref a]) I1.kIn hm.kp (q6u (us:=[.ref a]) (vs:=[.ref a]) (ds:=[]) (dvs:=[]) F hr hb .nil q63 I1 (.cons rfl .nil) q)
theorem q3p {pl:Sem Bool}{op:Pos}(c:CCal X.prog X.w X.K X.mg X.base k x m ps sp)(hr:Room k' X.A)(hk:k<=k')(hg:Gl X x)(ha:PA X (e::es) t)(hdb:(x==("__debug__":Str))=false:=by decide)
  (hst:starEach (e::es) X.env=(false,eval e X.env)::starEach es X.env:=by rfl)(hpl:(backTo pos (starEach es X.env)).any (·.1)=false:=by rfl)
  (ht:eval (.Call (.Attribute (.Name x op) m apos) (e::es) [] pos) X.env=(do
   let ov<-eval (.Name x op) X.env
   standAt apos.atName
   let (f,first)<-holding [ov] (getMethod ov m pl)
   callWith pos f first (backTo pos (starEach (e::es) X.env)) (backToKw pos (keywordEach [] X.env))):=by rfl):
  PE X (.Call (.Attribute (.Name x op) m apos) (e::es) [] pos) (q6Y sp [] E0 t):=by
 intro pins s σ H Q I h
 obtain⟨C,f,fd,hm,cm,F,hb⟩:=c.ex
 refine PySem.W.methodCall_KW (pl:=pl) (q3y I hg hm ?_ hdb) ht
 refine PySem.W.method_cls I.kIn cm.sg (PySem.W.cls_value I.kIn cm.rd cm.fc rfl ?_)
 have I1:=I.tok (s.toks+1)
 refine PySem.W.callWith_K (first:=[]) (h₀:=X.base) I.ok.mod.kin cm.kp (thn (ha pos pins _ σ H _ I1 h) fun us s2 ⟨vs,H2,I2,r,q2⟩=>⟨I2.kIn,?_⟩) hst hpl
 exact q6u F (hr.mono hk) hb .nil q63 I2 r q2
theorem q0M (c:Makes X.prog X.w X.K X.mg X.base k x C ps sp)(hr:Room k' X.A)(hk:k+1<=k')(hg:Gl X x)(ha:PA X (e::es) t)(hdb:(x==("__debug__":Str))=false:=by decide)(he:starEach (e::es) X.env=(false,eval e X.env)::starEach es X.env:=by rfl)
  (hpl:(backTo pos (starEach es X.env)).any (·.1)=false:=by rfl):PE X (.Call (.Name x p) (e::es) [] pos) (q7B C sp [] E0 t):=by
 obtain⟨f,fd,M,F,b⟩:=c.ex
 exact qbt M F (hr.mono hk) hg c.at_ b .nil q63 ha hdb he hpl
theorem qbu (c:Makes X.prog X.w X.K X.mg X.base k x C ps sp)(hr:Room k' X.A)(hk:k+1<=k')(hg:Gl X x)(hdb:(x==("__debug__":Str))=false:=by decide):PE X (.Call (.Name x p) [] [] pos) (q7B C sp [] E0 tNil):=by
 obtain⟨f,fd,M,F,b⟩:=c.ex
 exact q9E M F (hr.mono hk) hg c.at_ b .nil q63 hdb
def eqVs (xs ys:List V):Bool:=xs.length==ys.length&&(List.zipWith eqV xs ys).all id
theorem q2x (xs ys:List V):((List.range (min xs.length ys.length)).all fun j=>eqV (xs.getD j .non) (ys.getD j .non))=(List.zipWith eqV xs ys).all id:=by
 rw[Bool.eq_iff_iff]
 simp only[List.all_eq_true,List.mem_range,id]
 constructor
 ·intro h b hb
  obtain⟨i,hi,rfl⟩:=List.mem_iff_getElem.mp hb
  rw[List.length_zipWith] at hi
  have:=h i hi
  simpa[List.getD,show i<xs.length by omega,show i<ys.length by omega] using this
 ·intro h i hi
  have:=h _ (List.mem_iff_getElem.mpr ⟨i,by rw[List.length_zipWith];exact hi,rfl⟩)
  simpa[List.getD,show i<xs.length by omega,show i<ys.length by omega] using this
theorem q0y {xs:List V}{us:List Value}(r:Vals xs us){j:Nat}(h:j<us.toArray.size):RelV (xs.getD j .non) us.toArray[j]:=by
 have hj:j<us.length:=by simpa using h
 have hx:j<xs.length:=by rw[r.length];exact hj
 obtain⟨u,hu,ru⟩:=r.get (i:=j) (x:=xs[j]) (by simp[hx])
 have e1:us.toArray[j]=u:=by
  have:us[j]? =some us[j]:=by simp[hj]
  rw[this] at hu
  simpa using Option.some.inj hu
 rw[e1]
 simpa[List.getD,hx] using ru
theorem q4z {xs:List V}(h:xs.all q2c=true)(j:Nat):q2c (xs.getD j .non)=true:=by
 by_cases hj:j<xs.length
 ·rw [List.all_eq_true] at h
  have:=h xs[j] (List.getElem_mem hj)
  simpa[List.getD,hj] using this
 ·simp [List.getD,show xs.length<=j by omega,q2c]
def qbl (K:PySem.W.Frag):R2:=fun x y H Q=>∃p q xs ys,x= .ref p/\y= .ref q/\SqT K H p xs/\SqT K H q ys/\xs.all q2c=true/\ys.all q2c=true/\Q (.bl (eqVs xs ys)) H
theorem op_eqT (hu:X.A.units<cLine):OpR X (compareOp .Eq) (qbl X.K):=by
 intro pins s σ H x y v u Q I rx ry h
 obtain⟨p,q,xs,ys,rfl,rfl,hp,hq,fx,fy,k⟩:=h
 cases rx
 cases ry
 obtain⟨ia,ra,pa,_⟩:=I.tuple hp
 obtain⟨ib,rb,pb,_⟩:=I.tuple hq
 have la:=ra.length
 have lb:=rb.length
 refine SeqAt.eq_tupleAt (e:=fun j=>eqV (xs.getD j .non) (ys.getD j .non)) (show s.heap.IsTuple p ia.toArray from pa) (show s.heap.IsTuple q ib.toArray from pb) hu (fun j h1 h2=>q8C (q0y ra h1) (q0y rb h2) (q4z fx j) (q4z fy j)) ⟨.bl (eqVs xs ys),H,I,?_,k⟩
 show Value.bool _=Value.bool _
 unfold eqVs
 rw[<-q2x,Bool.and_comm]
 simp[la,lb]
end
section
variable {X:Cx}{e o:Expr}{es:List Expr}{ta:TE}{t:TA}{pos apos:Pos}{m f:Str}
theorem qK (K:PySem.W.Frag)(h:X.K=K:=by rfl):IxR X (rIxL K):=by subst h;exact qbU
theorem qi (K:PySem.W.Frag)(h:X.K=K:=by rfl):IxR X (rIxT K):=by subst h;exact ix_tup
theorem q4i (K:PySem.W.Frag)(h:X.K=K:=by rfl):SlR X (rSlTA K):=by subst h;exact qb9
theorem qbx (K:PySem.W.Frag)(hu:X.A.units<cLine)(h:X.K=K:=by rfl):OpR X (compareOp .Eq) (qbl K):=by subst h;exact op_eqT hu
theorem q0L {k:Nat}{g:TGs}{n:Nat}(K:PySem.W.Frag)(hc:X.calm=true)(h:PGs X es g)(hK:X.K=K:=by rfl)(hn:(assignEach es X.env).length=n:=by rfl)(hst:(assignEach es X.env).findIdx? (·.1)=none:=by rfl):PG X (.Tuple es k pos) (gTup K n g):=by
 subst hK
 exact pg_tup hc h hn hst
theorem q0b (K:PySem.W.Frag)(he:PE X e ta)(hb:attributeBase e f X.env (eval e X.env)=eval e X.env)(hK:X.K=K:=by rfl):PE X (.Attribute e f pos) (tFld K ta f):=by
 subst hK
 exact pe_fld he hb
end
end L2
namespace L2
open PySem PySem.Spec PyProof.Rows
section
variable {X:Cx}{pos:Pos}
theorem qad:PGet X (rIxL X.K):=by
 intro pins s σ H o i ov iv Q I ro ri h
 obtain⟨p,xs,i,z,rfl,rfl,hq,he,q⟩:=h
 cases ro
 obtain⟨t,rfl⟩:=ri
 obtain⟨its,r,pl,hz⟩:=I.list hq
 obtain⟨j,h1,h2,h3,h4,h5⟩:=q6k he
 obtain⟨w,ew,rw'⟩:=r.get h2
 have hl:=r.length
 have hn:=q5t
 have fin:EP X pins σ Q w s:=⟨z,H,I,rw',q⟩
 by_cases h0:0<=i
 ·have hj:i.toNat=j:=by
   rw[seqIndex_of h0 h5] at h1
   exact Option.some.inj h1
  exact wpAny_getItem_list pl.isList h0 (by omega) (by rw[hj];simpa using ew) fin
 ·have hj:(i+(its.toArray.size:Int)).toNat=j:=by
   rw[seqIndex_neg (by omega) h4] at h1
   rw[List.size_toArray,<-hl]
   exact Option.some.inj h1
  exact wpAny_getItem_list_neg pl.isList (by omega) (by rw[List.size_toArray]<;>omega) (by omega) (by rw[hj];simpa using ew) fin
end
def rLen (K:PySem.W.Frag):List V->Hp->VK->Prop:=fun xs H Q=>∃p ys,xs=[.ref p]/\(SqL K H p ys\/SqT K H p ys)/\Q (.int ys.length) H
def q7T (K:PySem.W.Frag):List V->Hp->VK->Prop:=fun xs H Q=>∃p ys,xs=[.ref p]/\((SqL K H p ys/\∀l,H l=none->Q (.ref l) (upd H l (.tup ys)))\/(SqT K H p ys/\Q (.ref p) H))
def qaD (K:PySem.W.Frag):List V->Hp->VK->Prop:=fun xs H Q=>∃p ys,xs=[.ref p]/\(SqL K H p ys\/SqT K H p ys)/\∀l,H l=none->Q (.ref l) (upd H l (.lst ys))
def rInt1:List V->Hp->VK->Prop:=fun xs H Q=>(∃i,xs=[.int i]/\Q (.int i) H)\/∃k,xs=[.bl k]/\Q (.int (if k then 1 else 0)) H
section
variable {X:Cx}
theorem lenK (K:PySem.W.Frag)(h:X.K=K:=by rfl):q1Y X (.builtin "len") (rLen K):=by subst h;exact q5J
theorem q3S (K:PySem.W.Frag)(h:X.K=K:=by rfl):q1Y X (.type "tuple") (q7T K):=by subst h;exact q4E
theorem qaI (K:PySem.W.Frag)(h:X.K=K:=by rfl):q1Y X (.type "list") (qaD K):=by subst h;exact q5I
theorem int1:q1Y X (.type "int") rInt1:=q91
end
section
variable {σ:St}{H:Hp}{Q:VK}{B:Bool->Hp->Prop}{L:List V->Hp->Prop}{ta tb:TE}{t:TA}{c d:TT}{nx bk ct:St->Hp->Prop}{rt:VK}{g:TG}{K:PySem.W.Frag}
theorem r_var {i:Nat}{v:V}(h:σ[i]? =some (some v))(q:Q v H):tVar i σ H Q:=⟨v,h,q⟩
theorem r_c {v:V}(q:Q v H):tC v σ H Q:=q
theorem r_op {r:R2}(q:ta σ H fun x H1=>tb σ H1 fun y H2=>r x y H2 Q):tOp r ta tb σ H Q:=q
theorem r_I0 {f:Int->Int->V}{i j:Int}(q:Q (f i j) H):rI0 f (.int i) (.int j) H Q:=⟨i,j,rfl,rfl,q⟩
theorem r_I {C:Int->Int->Prop}{f:Int->Int->V}{i j:Int}(h:C i j)(q:Q (f i j) H):rI C f (.int i) (.int j) H Q:=⟨i,j,rfl,rfl,h,q⟩
theorem r_isN (q:ta σ H fun x H1=>Q (.bl (decide (x= .non))) H1):tIsN ta σ H Q:=q
theorem r_B (q:ta σ H fun x H1=>∃k,x= .bl k/\B k H1):tB ta σ H B:=q
theorem r_test (q:ta σ H fun x H1=>∃k,x= .bl k/\B k H1):tTest ta σ H B:=q
theorem r_bl {b:Bool}{P:Bool->Prop}(q:P b):∃k,V.bl b=V.bl k/\P k:=⟨b,rfl,q⟩
theorem r_and (q:c σ H fun k H1=>if k=true then d σ H1 B else B false H1):tAnd c d σ H B:=q
theorem r_or (q:c σ H fun k H1=>if k=true then B true H1 else d σ H1 B):tOr c d σ H B:=q
theorem r_not (q:c σ H fun k H1=>B (!k) H1):tNot c σ H B:=q
theorem r_andV (q:ta σ H fun x H1=>∃k,x= .bl k/\if k=true then tb σ H1 Q else Q (.bl false) H1):tAndV ta tb σ H Q:=q
theorem r_orV (q:ta σ H fun x H1=>∃k,x= .bl k/\if k=true then Q (.bl true) H1 else tb σ H1 Q):tOrV ta tb σ H Q:=q
theorem r_notV (q:ta σ H fun x H1=>∃k,x= .bl k/\Q (.bl (!k)) H1):tNotV ta σ H Q:=q
theorem r_if (q:c σ H fun k H1=>if k=true then ta σ H1 Q else tb σ H1 Q):tIf c ta tb σ H Q:=q
theorem r_cons (q:ta σ H fun x H1=>t σ H1 fun xs H2=>L (x::xs) H2):tCons ta t σ H L:=q
theorem r_nil (q:L [] H):tNil σ H L:=q
theorem r_tup (q:t σ H fun xs H1=>xs.length<=sizeLine/\∀p,H1 p=none->Q (.ref p) (upd H1 p (.tup xs))):tTup t σ H Q:=q
theorem r_lst (q:t σ H fun xs H1=>xs.length<=sizeLine/\∀p,H1 p=none->Q (.ref p) (upd H1 p (.lst xs))):tLst t σ H Q:=q
theorem r_al {n:Nat}{P:Prop}(h:Nat.ble n sizeLine=true)(q:P):n<=sizeLine/\P:=⟨Nat.le_of_ble_eq_true h,q⟩
theorem r_call {sp:Sp}{E:XK}(q:t σ H fun vs H1=>sp (vs++[]) H1 Q E):q6Y sp [] E t σ H Q:=q
theorem r_cb {r:List V->Hp->VK->Prop}(q:t σ H fun vs H1=>r vs H1 Q):tCB r t σ H Q:=q
theorem r_bm {T:String}{r:V->List V->Hp->VK->Prop}(q:ta σ H fun x H1=>tyV K T x H1/\t σ H1 fun xs H2=>r x xs H2 Q):tBM K T r ta t σ H Q:=q
theorem r_sl {r:V->Option Int->Option Int->Hp->VK->Prop}{tl th:TO}(q:ta σ H fun x H1=>tl σ H1 fun l H2=>th σ H2 fun u H3=>r x l u H3 Q):tSl r ta tl th σ H Q:=q
theorem r_np {P:Option Int->Hp->Prop}(q:P none H):q7A σ H P:=q
theorem r_pt {P:Option Int->Hp->Prop}(q:ta σ H fun x H1=>∃i,x= .int i/\P (some i) H1):tPart ta σ H P:=q
theorem r_int {i:Int}{P:Int->Prop}(q:P i):∃k,V.int i=V.int k/\P k:=⟨i,rfl,q⟩
theorem r_eqI {i j:Int}(q:Q (.bl (decide (i=j))) H):rEq (.int i) (.int j) H Q:=⟨rfl,by rw[show decide (V.int i=V.int j)=decide (i=j) by simp];exact q⟩
theorem r_eqS {i j:Str}(q:Q (.bl (decide (i=j))) H):rEq (.str i) (.str j) H Q:=⟨rfl,by rw[show decide (V.str i=V.str j)=decide (i=j) by simp];exact q⟩
theorem r_neI {i j:Int}(q:Q (.bl (!decide (i=j))) H):rNe (.int i) (.int j) H Q:=⟨rfl,by rw[show decide (V.int i=V.int j)=decide (i=j) by simp];exact q⟩
theorem r_neS {i j:Str}(q:Q (.bl (!decide (i=j))) H):rNe (.str i) (.str j) H Q:=⟨rfl,by rw[show decide (V.str i=V.str j)=decide (i=j) by simp];exact q⟩
theorem r_neB {i j:Bool}(q:Q (.bl (!decide (i=j))) H):rNe (.bl i) (.bl j) H Q:=⟨rfl,by rw[show decide (V.bl i=V.bl j)=decide (i=j) by simp];exact q⟩
theorem q31 {p:Addr}{xs:List V}{i:Int}{v:V}(h:SqT K H p xs)(e:atI xs i=some v)(q:Q v H):rIxT K (.ref p) (.int i) H Q:=⟨p,xs,i,v,rfl,rfl,h,e,q⟩
theorem q60 {p:Addr}{xs:List V}{i:Int}{v:V}(h:SqL K H p xs)(e:atI xs i=some v)(q:Q v H):rIxL K (.ref p) (.int i) H Q:=⟨p,xs,i,v,rfl,rfl,h,e,q⟩
theorem r_lenT {p:Addr}{xs:List V}(h:SqT K H p xs)(q:Q (.int xs.length) H):rLen K [.ref p] H Q:=⟨p,xs,rfl,.inr h,q⟩
theorem r_lenL {p:Addr}{xs:List V}(h:SqL K H p xs)(q:Q (.int xs.length) H):rLen K [.ref p] H Q:=⟨p,xs,rfl,.inl h,q⟩
theorem atI0 {v:V}{l:List V}:atI (v::l) 0=some v:=q0P (j:=0) rfl
theorem qce {xs:List V}{j:Nat}{v:V}(h:xs[j]? =some v):atI xs (0+(j:Int))=some v:=by rw[Int.zero_add];exact q0P h
theorem q7z {α β:Type}(f:α->β)(xs:List α){i:Nat}(hi:i<xs.length):(xs.take i).map f++[f xs[i]]=(xs.take (i+1)).map f:=by rw[List.take_succ_eq_append_getElem hi,List.map_append];rfl
theorem q75 {x:V}{n a:String}{b:Bool}(h:tyS H x=some a)(k:q8g n=true)(e:subS a n=b)(q:Q (.bl b) H):q5q [x,.ty n] H Q:=⟨x,n,a,rfl,h,k,by rw[e];exact q⟩
theorem q9w {i:Int}(q:Q (.bl false) H):q5q [.int i,.ty "bool"] H Q:=q75 rfl (by decide +kernel) (by decide +kernel) q
theorem q9v {i:Int}(q:Q (.bl true) H):q5q [.int i,.ty "int"] H Q:=q75 rfl (by decide +kernel) (by decide +kernel) q
theorem q9s {i:Str}(q:Q (.bl false) H):q5q [.str i,.ty "tuple"] H Q:=q75 rfl (by decide +kernel) (by decide +kernel) q
theorem q9t (q:Q (.bl false) H):q5q [.non,.ty "list"] H Q:=q75 rfl (by decide +kernel) (by decide +kernel) q
theorem q9r {p:Addr}{xs:List V}(h:H p=some (.tup xs))(q:Q (.bl true) H):q5q [.ref p,.ty "tuple"] H Q:=q75 (q7w h) (by decide +kernel) (by decide +kernel) q
theorem q9u {p:Addr}{xs:List V}(h:H p=some (.lst xs))(q:Q (.bl true) H):q5q [.ref p,.ty "list"] H Q:=q75 (qaZ h) (by decide +kernel) (by decide +kernel) q
theorem r_seq {t u:TS}(q:t ⟨u ⟨nx,rt,bk,ct⟩,rt,bk,ct⟩ σ H):tSeq t u ⟨nx,rt,bk,ct⟩ σ H:=q
theorem r_asg (q:ta σ H fun x H1=>g x σ H1 nx):tAsg ta g ⟨nx,rt,bk,ct⟩ σ H:=q
theorem r_name {i:Nat}{v:V}{N:St->Hp->Prop}(q:N (σ.set i (some v)) H):qae i v σ H N:=q
theorem r_ifS {t u:TS}{D:Ends}(q:c σ H fun k H1=>if k=true then t D σ H1 else u D σ H1):tIfS c t u D σ H:=q
theorem r_ret (q:ta σ H rt):tRet ta ⟨nx,rt,bk,ct⟩ σ H:=q
theorem r_next (q:nx σ H):tNext ⟨nx,rt,bk,ct⟩ σ H:=q
theorem r_drop (q:ta σ H fun _ H1=>nx σ H1):tDrop ta ⟨nx,rt,bk,ct⟩ σ H:=q
theorem r_augS {to ti te:TE}{tget:V->V->Hp->VK->Prop}{tip:TIp}{tset:TSet}(q:to σ H fun o H1=>ti σ H1 fun i H2=>tget o i H2 fun x H3=>te σ H3 fun y H4=>tip x y H4 fun z H5=>tset o i z H5 fun H6=>nx σ H6):tAugS to ti te tget tip tset ⟨nx,rt,bk,ct⟩ σ H:=q
theorem r_ipI {f:Int->Int->Int}{i j:Int}(q:Q (.int (f i j)) H):ipI f (.int i) (.int j) H Q:=⟨i,j,rfl,rfl,q⟩
theorem qaB {p:Addr}{xs:List V}{k:Int}{j:Nat}{v:V}{R:Hp->Prop}(h:H p=some (.lst xs))(e:ixN xs.length k=some j)(q:R (upd H p (.lst (xs.set j v)))):rSetL (.ref p) (.int k) v H R:=⟨p,xs,k,j,rfl,rfl,h,e,q⟩
theorem r_gT {n:Nat}{gs:TGs}{p:Addr}{xs:List V}{N:St->Hp->Prop}(h:SqT K H p xs)(e:xs.length=n)(q:gs xs σ H N):gTup K n gs (.ref p) σ H N:=⟨p,xs,rfl,h,e,q⟩
theorem r_gc {gs:TGs}{v:V}{vs:List V}{N:St->Hp->Prop}(q:g v σ H fun σ' H'=>gs vs σ' H' N):gCons g gs (v::vs) σ H N:=⟨v,vs,rfl,q⟩
theorem r_gn {N:St->Hp->Prop}(q:N σ H):gNil [] σ H N:=⟨rfl,q⟩
theorem r_app {p:Addr}{xs:List V}{y:V}(h:H p=some (.lst xs))(hz:xs.length<sizeLine)(q:Q .non (upd H p (.lst (xs++[y])))):q7U (.ref p) [y] H Q:=⟨p,xs,y,rfl,rfl,h,hz,q⟩
theorem r_tyL {p:Addr}{xs:List V}{P:Prop}(h:H p=some (.lst xs))(q:P):tyV K "list" (.ref p) H/\P:=⟨.inl ⟨rfl,_,SqL.of h⟩,q⟩
theorem ifd {p:Prop}[Decidable p]{A B:Prop}(h1:p->A)(h2:¬p->B):if decide p=true then A else B:=by
 by_cases h:p
 ·rw [if_pos (decide_eq_true h)];exact h1 h
 ·rw [if_neg (by simp[h])];exact h2 h
theorem ifn {p:Prop}[Decidable p]{A B:Prop}(h1:¬p->A)(h2:p->B):if (!decide p)=true then A else B:=by
 by_cases h:p
 ·rw [if_neg (by simp[h])];exact h2 h
 ·rw [if_pos (by simp[h])];exact h1 h
theorem r_intb {x:Bool}(q:Q (.int (if x then 1 else 0)) H):rInt1 [.bl x] H Q:= .inr ⟨x,rfl,q⟩
theorem r_tol {p:Addr}{ys:List V}(h:SqL K H p ys)(q:∀l,H l=none->Q (.ref l) (upd H l (.tup ys))):q7T K [.ref p] H Q:=⟨p,ys,rfl,.inl ⟨h,q⟩⟩
theorem r_tot {p:Addr}{ys:List V}(h:SqT K H p ys)(q:Q (.ref p) H):q7T K [.ref p] H Q:=⟨p,ys,rfl,.inr ⟨h,q⟩⟩
theorem r_lof {p:Addr}{ys:List V}(h:SqL K H p ys\/SqT K H p ys)(q:∀l,H l=none->Q (.ref l) (upd H l (.lst ys))):qaD K [.ref p] H Q:=⟨p,ys,rfl,h,q⟩
theorem ifnT {A B:Prop}(h:B):if (!true)=true then A else B:=iteF h
theorem ifnF {A B:Prop}(h:A):if (!false)=true then A else B:=iteT h
theorem q0g {a b:Addr}{o u:HO}(h:H b=some u)(n:H a=none):upd H a o b=some u:=by rw[qj (ql h n)];exact h
theorem up_oth {a b:Addr}{o u:HO}(h:H b=some u)(n:b≠a):upd H a o b=some u:=by rw[qj n];exact h
end
section
variable {σ:St}{H:Hp}{g:TG}{tb:TS}{nx bk ct:St->Hp->Prop}{rt:VK}{t:TA}{wi:TI}
theorem r_for (q:wi σ H fun J H1=>∃W:Nat->Nat->St->Hp->Prop,(∃m,W 0 m σ H1)/\∀i m σ H,W i m σ H->
  (J.stop i H/\nx σ H)\/(J.go i H/\∃N:St->Hp->Prop,(∀σ' H',N σ' H'->∃m',m'<m/\W (i+1) m' σ' H')/\∀x H',J.yld i H x H'->g x σ H' fun σ2 H2=>tb ⟨N,rt,nx,N⟩ σ2 H2)):tFor wi g tb ⟨nx,rt,bk,ct⟩ σ H:=q
def rRg (R:It->Hp->Prop):List V->Hp->Prop:=fun vs H1=>∃j:Int,vs=[.int j]/\ -(2 ^ 62)<=j/\j<2 ^ 62/\R (Itr 0 j.toNat) H1
theorem r_rng1 {R:It->Hp->Prop}(q:t σ H (rRg R)):iRng1 t σ H R:=q
theorem r_comp {tc:TT}{te:TE}{own:Nat}{caps:List Nat}{Q:VK}(q:wi σ H fun J H1=>∀D,H1 D=none->∃W:Nat->Nat->St->Hp->Prop,(∃m,W 0 m (q2Z own caps σ) (upd H1 D (.lst [])))/\∀i m σ' H',W i m σ' H'->
  (J.stop i H'/\Q (.ref D) H')\/(J.go i H'/\∃N:St->Hp->Prop,(∀σ'' H'',N σ'' H''->∃m',m'<m/\W (i+1) m' σ'' H'')/\∀x H2,J.yld i H' x H2->g x σ' H2 fun σ3 H3=>tc σ3 H3 fun b H4=>
   if b=true then te σ3 H4 fun y H5=>∃ys,H5 D=some (.lst ys)/\ys.length<sizeLine/\N σ3 (upd H5 D (.lst (ys++[y]))) else N σ3 H4)):q9g wi g tc te own caps σ H Q:=q
theorem r_yes {B:Bool->Hp->Prop}(q:B true H):tYes σ H B:=q
theorem r_iL {K:PySem.W.Frag}{tl:TE}{R:It->Hp->Prop}(q:tl σ H fun x H1=>∃a,x= .ref a/\(∃xs,SqL K H1 a xs)/\R (Itl K a) H1):qbV K tl σ H R:=q
theorem r_iT {K:PySem.W.Frag}{tl:TE}{R:It->Hp->Prop}(q:tl σ H fun x H1=>∃a,x= .ref a/\(∃xs,SqT K H1 a xs)/\R (Itt K a) H1):iTup K tl σ H R:=q
theorem r_eL {K:PySem.W.Frag}{R:It->Hp->Prop}(q:t σ H fun vs H1=>∃a,vs=[.ref a]/\(∃xs,SqL K H1 a xs)/\R (Ite fun H xs=>SqL K H a xs) H1):q8r K t σ H R:=q
theorem r_eT {K:PySem.W.Frag}{R:It->Hp->Prop}(q:t σ H fun vs H1=>∃a,vs=[.ref a]/\(∃xs,SqT K H1 a xs)/\R (Ite fun H xs=>SqT K H a xs) H1):q8q K t σ H R:=q
theorem r_refL {K:PySem.W.Frag}{p:Addr}{xs:List V}{R:Addr->Prop}(h:SqL K H p xs)(q:R p):∃a,V.ref p= .ref a/\(∃xs,SqL K H a xs)/\R a:=⟨p,rfl,⟨xs,h⟩,q⟩
theorem r_refT {K:PySem.W.Frag}{p:Addr}{xs:List V}{R:Addr->Prop}(h:SqT K H p xs)(q:R p):∃a,V.ref p= .ref a/\(∃xs,SqT K H a xs)/\R a:=⟨p,rfl,⟨xs,h⟩,q⟩
theorem qbg {K:PySem.W.Frag}{p:Addr}{xs:List V}{R:Addr->Prop}(h:SqL K H p xs)(q:R p):∃a,[V.ref p]=[.ref a]/\(∃xs,SqL K H a xs)/\R a:=⟨p,rfl,⟨xs,h⟩,q⟩
theorem qbf {K:PySem.W.Frag}{p:Addr}{xs:List V}{R:Addr->Prop}(h:SqT K H p xs)(q:R p):∃a,[V.ref p]=[.ref a]/\(∃xs,SqT K H a xs)/\R a:=⟨p,rfl,⟨xs,h⟩,q⟩
theorem r_rg {j:Int}{R:It->Hp->Prop}(h: -1000000<=j/\j<=1000000)(q:R (Itr 0 j.toNat) H):rRg R [.int j] H:=⟨j,rfl,by omega,by omega,q⟩
end
section
variable {J:It}{g:TG}{tb:TS}{nx:St->Hp->Prop}{rt:VK}{σ:St}{H:Hp}{K:PySem.W.Frag}{a:Addr}{xs:List V}{tc:TT}{te:TE}{R:Hp->Prop}{D:Addr}
abbrev ForG (J:It)(g:TG)(tb:TS)(nx:St->Hp->Prop)(rt:VK)(σ:St)(H:Hp):Prop:=∃W:Nat->Nat->St->Hp->Prop,(∃m,W 0 m σ H)/\∀i m σ H,W i m σ H->
  (J.stop i H/\nx σ H)\/(J.go i H/\∃N:St->Hp->Prop,(∀σ' H',N σ' H'->∃m',m'<m/\W (i+1) m' σ' H')/\∀x H',J.yld i H x H'->g x σ H' fun σ2 H2=>tb ⟨N,rt,nx,N⟩ σ2 H2)
theorem q3B (n:Nat)(Pv:Nat->St->Hp->Prop)(h0:Pv 0 σ H)
  (go:∀i σ H,i<n->Pv i σ H->J.go i H/\∀x H',J.yld i H x H'->g x σ H' fun σ2 H2=>tb ⟨Pv (i+1),rt,nx,Pv (i+1)⟩ σ2 H2)(stop:∀σ H,Pv n σ H->J.stop n H/\nx σ H):ForG J g tb nx rt σ H:=by
 refine⟨fun i m σ H=>m=n - i/\i<=n/\Pv i σ H,⟨n,by simp,Nat.zero_le _,h0⟩,?_⟩
 rintro i m σ H ⟨rfl,hi,p⟩
 by_cases hlt:i<n
 ·obtain ⟨q1,q2⟩:=go i σ H hlt p
  exact .inr ⟨q1,Pv (i+1),fun σ' H' p'=>⟨n - (i+1),by omega,rfl,hlt,p'⟩,q2⟩
 ·have e:i=n:=by omega
  subst e
  exact .inl (stop σ H p)
theorem q8y {lo:Int}{n:Nat}(Pv:Nat->St->Hp->Prop)(h0:Pv 0 σ H)(go:∀i σ H,i<n->Pv i σ H->g (.int (lo+(i:Nat))) σ H fun σ2 H2=>tb ⟨Pv (i+1),rt,nx,Pv (i+1)⟩ σ2 H2)(stop:∀σ H,Pv n σ H->nx σ H):ForG (Itr lo n) g tb nx rt σ H:=
 q3B n Pv h0 (fun i σ H hi p=>⟨hi,fun x H' ⟨e1,e2⟩=>by subst e1 e2;exact go i σ _ hi p⟩) fun σ H p=>⟨Nat.le_refl _,stop σ H p⟩
theorem q2N (xs:List V)(Pv:Nat->St->Hp->Prop)(h0:Pv 0 σ H)(hl:∀i σ H,Pv i σ H->SqL K H a xs)(go:∀i x σ H,xs[i]? =some x->Pv i σ H->g x σ H fun σ2 H2=>tb ⟨Pv (i+1),rt,nx,Pv (i+1)⟩ σ2 H2)(stop:∀σ H,Pv xs.length σ H->nx σ H):ForG (Itl K a) g tb nx rt σ H:=
 q3B xs.length Pv h0 (fun i σ H hi p=>⟨⟨xs,xs[i],hl i σ H p,by simp[hi]⟩,fun x H' ⟨e1,e2⟩=>by subst e1;exact go i x σ _ (e2 xs (hl i σ _ p)) p⟩) fun σ H p=>⟨⟨xs,hl _ σ H p,Nat.le_refl _⟩,stop σ H p⟩
theorem q8x (xs:List V)(Pv:Nat->St->Hp->Prop)(h0:Pv 0 σ H)(hl:∀i σ H,Pv i σ H->SqT K H a xs)(go:∀i x σ H,xs[i]? =some x->Pv i σ H->g x σ H fun σ2 H2=>tb ⟨Pv (i+1),rt,nx,Pv (i+1)⟩ σ2 H2)(stop:∀σ H,Pv xs.length σ H->nx σ H):ForG (Itt K a) g tb nx rt σ H:=
 q3B xs.length Pv h0 (fun i σ H hi p=>⟨⟨xs,xs[i],hl i σ H p,by simp[hi]⟩,fun x H' ⟨e1,e2⟩=>by subst e1;exact go i x σ _ (e2 xs (hl i σ _ p)) p⟩) fun σ H p=>⟨⟨xs,hl _ σ H p,Nat.le_refl _⟩,stop σ H p⟩
theorem q8z {Sq:Hp->List V->Prop}(xs:List V)(Pv:Nat->St->Hp->Prop)(h0:Pv 0 σ H)(hl:∀i σ H,Pv i σ H->Sq H xs)(go:∀i x σ H T,xs[i]? =some x->Pv i σ H->H T=none->g (.ref T) σ (upd H T (.tup [.int (i:Nat),x])) fun σ2 H2=>tb ⟨Pv (i+1),rt,nx,Pv (i+1)⟩ σ2 H2)
  (stop:∀σ H,Pv xs.length σ H->nx σ H):ForG (Ite Sq) g tb nx rt σ H:=
 q3B xs.length Pv h0 (fun i σ H hi p=>⟨⟨xs,xs[i],hl i σ H p,by simp[hi]⟩,fun x H' ⟨T,hT,e1,e2⟩=>by
  have hx:xs[i]? =some xs[i]:=by simp[hi]
  have e3:=e2 xs xs[i] (hl i σ _ p) hx
  subst e1 e3
  exact go i _ σ _ T hx p hT⟩) fun σ H p=>⟨⟨xs,hl _ σ H p,Nat.le_refl _⟩,stop σ H p⟩
abbrev qcj (J:It)(g:TG)(tc:TT)(te:TE)(R:Hp->Prop)(D:Addr)(σ:St)(H:Hp):Prop:=∃W:Nat->Nat->St->Hp->Prop,(∃m,W 0 m σ H)/\∀i m σ H,W i m σ H->
   (J.stop i H/\R H)\/(J.go i H/\∃N:St->Hp->Prop,(∀σ' H',N σ' H'->∃m',m'<m/\W (i+1) m' σ' H')/\∀x H',J.yld i H x H'->g x σ H' fun σ3 H3=>tc σ3 H3 fun b H4=>
    if b=true then te σ3 H4 fun y H5=>∃ys,H5 D=some (.lst ys)/\ys.length<sizeLine/\N σ3 (upd H5 D (.lst (ys++[y]))) else N σ3 H4)
theorem q0G {lo:Int}{n:Nat}(Pv:Nat->St->Hp->Prop)(h0:Pv 0 σ H)(go:∀i σ H,i<n->Pv i σ H->g (.int (lo+(i:Nat))) σ H fun σ3 H3=>tc σ3 H3 fun b H4=>
   if b=true then te σ3 H4 fun y H5=>∃ys,H5 D=some (.lst ys)/\ys.length<sizeLine/\Pv (i+1) σ3 (upd H5 D (.lst (ys++[y]))) else Pv (i+1) σ3 H4)(stop:∀σ H,Pv n σ H->R H):qcj (Itr lo n) g tc te R D σ H:=
 q4C n Pv h0 (fun i σ H hi p=>⟨hi,fun x H' ⟨e1,e2⟩=>by subst e1 e2;exact go i σ _ hi p⟩) fun σ H p=>⟨Nat.le_refl _,stop σ H p⟩
theorem q2v (xs:List V)(Pv:Nat->St->Hp->Prop)(h0:Pv 0 σ H)(hl:∀i σ H,Pv i σ H->SqL K H a xs)(go:∀i x σ H,xs[i]? =some x->Pv i σ H->g x σ H fun σ3 H3=>tc σ3 H3 fun b H4=>
   if b=true then te σ3 H4 fun y H5=>∃ys,H5 D=some (.lst ys)/\ys.length<sizeLine/\Pv (i+1) σ3 (upd H5 D (.lst (ys++[y]))) else Pv (i+1) σ3 H4)(stop:∀σ H,Pv xs.length σ H->R H):qcj (Itl K a) g tc te R D σ H:=
 q4C xs.length Pv h0 (fun i σ H hi p=>⟨⟨xs,xs[i],hl i σ H p,by simp[hi]⟩,fun x H' ⟨e1,e2⟩=>by subst e1;exact go i x σ _ (e2 xs (hl i σ _ p)) p⟩) fun σ H p=>⟨⟨xs,hl _ σ H p,Nat.le_refl _⟩,stop σ H p⟩
theorem q6J (xs:List V)(Pv:Nat->St->Hp->Prop)(h0:Pv 0 σ H)(hl:∀i σ H,Pv i σ H->SqT K H a xs)(go:∀i x σ H,xs[i]? =some x->Pv i σ H->g x σ H fun σ3 H3=>tc σ3 H3 fun b H4=>
   if b=true then te σ3 H4 fun y H5=>∃ys,H5 D=some (.lst ys)/\ys.length<sizeLine/\Pv (i+1) σ3 (upd H5 D (.lst (ys++[y]))) else Pv (i+1) σ3 H4)(stop:∀σ H,Pv xs.length σ H->R H):qcj (Itt K a) g tc te R D σ H:=
 q4C xs.length Pv h0 (fun i σ H hi p=>⟨⟨xs,xs[i],hl i σ H p,by simp[hi]⟩,fun x H' ⟨e1,e2⟩=>by subst e1;exact go i x σ _ (e2 xs (hl i σ _ p)) p⟩) fun σ H p=>⟨⟨xs,hl _ σ H p,Nat.le_refl _⟩,stop σ H p⟩
end
section
variable {X:Cx}{pos:Pos}{tg:Expr}{es:List Expr}{e o l:Expr}{ta te tl:TE}{t:TA}{K:PySem.W.Frag}
theorem q5w (K:PySem.W.Frag)(h:X.K=K:=by rfl):PGet X (rIxL K):=by subst h;exact qad
theorem q0f (K:PySem.W.Frag)(hl:PE X l tl)(h:X.K=K:=by rfl):PI X tg l (qbV K tl):=by subst h;exact qbs hl
theorem q4q (K:PySem.W.Frag)(hl:PE X l tl)(h:X.K=K:=by rfl):PI X tg l (iTup K tl):=by subst h;exact pi_tup hl
theorem q81 {elts:List Expr}{k:Nat}{tp:Pos}{a:Expr}{p pos:Pos}(K:PySem.W.Frag)(hg:Gl X "enumerate")(hm:X.mg "enumerate"=none)(ha:PA X [a] t)(h:X.K=K:=by rfl)(hs:starEach [a] X.env=[(false,eval a X.env)]:=by rfl):PI X (.Tuple elts k tp) (.Call (.Name "enumerate" p) [a] [] pos) (q8r K t):=by subst h;exact q9B hg hm ha hs
theorem q80 {elts:List Expr}{k:Nat}{tp:Pos}{a:Expr}{p pos:Pos}(K:PySem.W.Frag)(hg:Gl X "enumerate")(hm:X.mg "enumerate"=none)(ha:PA X [a] t)(h:X.K=K:=by rfl)(hs:starEach [a] X.env=[(false,eval a X.env)]:=by rfl):PI X (.Tuple elts k tp) (.Call (.Name "enumerate" p) [a] [] pos) (q8q K t):=by subst h;exact q9A hg hm ha hs
theorem q9z {elts:List Expr}{k:Nat}{tp:Pos}{a b:Expr}{p pos:Pos}(K:PySem.W.Frag)(hg:Gl X "zip")(hm:X.mg "zip"=none)(ha:PA X [a,b] t)(h:X.K=K:=by rfl)(hs:starEach [a,b] X.env=[(false,eval a X.env),(false,eval b X.env)]:=by rfl)(hs2:starEach [b] X.env=[(false,eval b X.env)]:=by rfl):
  PI X (.Tuple elts k tp) (.Call (.Name "zip" p) [a,b] [] pos) (iZipT K t):=by subst h;exact qbr hg hm ha hs hs2
theorem q92 (K:PySem.W.Frag)(hc:X.calm=true)(h:X.K=K:=by rfl):q1Y X (.builtin "all") (rAll K):=by subst h;exact qap hc
theorem qT:1000000<sizeLine:=by decide
end
def q00 (H H':Hp):Prop:=∀p xs,H p=some (.tup xs)->H' p=some (.tup xs)
theorem q00.trans {H H1 H2:Hp}(a:q00 H H1)(b:q00 H1 H2):q00 H H2:=fun p xs h=>b p xs (a p xs h)
theorem Same.ts {H H':Hp}(s:Same H H'):q00 H H':=fun p _ h=>s p _ h
theorem q00.new {H:Hp}{a:Addr}{o:HO}(h:H a=none):q00 H (upd H a o):=(Same.upd h).ts
theorem q00.lst {H:Hp}{a:Addr}{ys:List V}{o:HO}(h:H a=some (.lst ys)):q00 H (upd H a o):=fun p xs e=>by rw[qj (q2H e h (by intro z;cases z))];exact e
end L2
namespace Ce
open PySem L2
def bit (x:Int)(t:Nat):Bool:=decide (x / 2 ^ t % 2=1)
def cnt (P:Nat->Bool):Nat->Nat
 |0=>0
 |n+1=>cnt P n+(if P n=true then 1 else 0)
theorem q3D {P R:Nat->Bool}:∀{n:Nat},(∀i,i<n->P i=R i)->cnt P n=cnt R n
 |0,_=>rfl
 |n+1,h=>by
  show cnt P n+_=cnt R n+_
  rw[q3D fun i hi=>h i (Nat.lt_succ_of_lt hi),h n (Nat.lt_succ_self n)]
theorem q8T {P:Nat->Bool}:∀{n:Nat},(∀i,i<n->P i=false)->cnt P n=0
 |0,_=>rfl
 |n+1,h=>by
  show cnt P n+_=0
  rw[q8T fun i hi=>h i (Nat.lt_succ_of_lt hi),h n (Nat.lt_succ_self n)]
  rfl
theorem q1P (w:Nat):(0:Int)<2 ^ w:=Int.pow_pos (by decide)
theorem q4F (t:Nat):bit 0 t=false:=by simp[bit]
theorem q97 {x:Int}{w t:Nat}(h0:0<=x)(h:x<2 ^ w)(ht:w<=t):bit x t=false:=by
 have h2:(2:Int) ^ w<=2 ^ t:=by
  have:(2:Int) ^ t=2 ^ w*2 ^ (t - w):=by rw[<-Int.pow_add];congr 1;omega
  rw[this]
  have:=q1P (t - w)
  have h3:=q1P w
  calc (2:Int) ^ w=2 ^ w*1:=by omega
   _<=2 ^ w*2 ^ (t - w):=Int.mul_le_mul_of_nonneg_left (by omega) (by omega)
 have:x / 2 ^ t=0:=Int.ediv_eq_zero_of_lt h0 (by omega)
 simp[bit,this]
theorem set_map {α:Type}(f:Nat->α)(n j:Nat)(v:α):((List.range n).map f).set j v=(List.range n).map fun k=>if k=j then v else f k:=by
 apply List.ext_getElem?
 intro i
 rw[List.getElem?_set]
 simp only[List.getElem?_map,List.length_map,List.length_range]
 by_cases h:j=i
 ·subst h
  by_cases hj:j<n
  ·simp [hj]
  ·simp [hj]
 ·have h':¬i=j:=fun e=>h e.symm
  by_cases hi:i<n
  ·simp [h,h',hi]
  ·simp [h,hi]
def dP (ds:Nat->Option Int)(op k:Int)(w:Nat):Bool:=decide (ds w=some k)&&bit op w
theorem qc7 (ds:Nat->Option Int)(k:Int)(w:Nat):dP ds 0 k w=false:=by simp[dP,q4F]
theorem q0d (x:Int){n:Int}(h:0<n):0<=x % n:=Int.emod_nonneg _ (by omega)
theorem q0e (x:Int){n:Int}(h:0<n):x % n<n:=Int.emod_lt_of_pos _ h
theorem q7p (x:Int)(t:Nat):decide (Builtin.bitAnd (x / 2 ^ t) 1=1)=bit x t:=by
 unfold bit
 rw[PyProof.Rows.bitAnd_m1]
inductive Gt where
 |plain|door (k:Int)|need (k:Int)|bar (b:Int)|wade (h k:Int)|float (h:Int)
def Gt.vs:Gt->List V
 | .plain=>[.str "plain"]
 | .door k=>[.str "door",.int k]
 | .need k=>[.str "need",.int k]
 | .bar b=>[.str "bar",.int b]
 | .wade h k=>[.str "wade",.int h,.int k]
 | .float h=>[.str "float",.int h]
def Gt.ok:Gt->Prop
 | .plain=>True
 | .door k=>0<=k/\k<12
 | .need k=>0<=k/\k<12
 | .bar b=>0<=b/\b<8
 | .wade h k=>(0<=h/\h<10)/\0<=k/\k<12
 | .float h=>0<=h/\h<10
def Gt.dk:Gt->Option Int
 | .door k=>some k
 |_=>none
def Gt.word:Gt->Str
 | .plain=>"plain"
 | .door _=>"door"
 | .need _=>"need"
 | .bar _=>"bar"
 | .wade _ _=>"wade"
 | .float _=>"float"
def Gt.ns:Gt->List Int
 | .plain=>[]
 | .door k=>[k]
 | .need k=>[k]
 | .bar b=>[b]
 | .wade h k=>[h,k]
 | .float h=>[h]
theorem Gt.vs_eq (g:Gt):g.vs= .str g.word::g.ns.map V.int:=by cases g<;>rfl
theorem Gt.ns_len (g:Gt):g.ns.length<=2:=by cases g<;>simp[Gt.ns]
theorem q9i:("need":Str)≠"door":=by decide +kernel
theorem qb5:("bar":Str)≠"door":=by decide +kernel
theorem q7F:("float":Str)≠"door":=by decide +kernel
theorem q7E:("plain":Str)≠"door":=by decide +kernel
theorem q9h:("wade":Str)≠"door":=by decide +kernel
theorem q4L (g:Gt):decide (g.word="door")=g.dk.isSome:=by
 cases g with
 |plain=>exact decide_eq_false q7E
 |door k=>exact decide_eq_true rfl
 |need k=>exact decide_eq_false q9i
 |bar k=>exact decide_eq_false qb5
 |wade h k=>exact decide_eq_false q9h
 |float k=>exact decide_eq_false q7F
theorem q8F {g:Gt}(h:g.word="door"):∃k,g= .door k:=by
 have:=q4L g
 rw[h] at this
 cases g with
 |door k=>exact⟨k,rfl⟩
 |_=>simp[Gt.dk] at this
structure Way where
 a:Int
 b:Int
 g:Gt
 back:Bool
structure Cl where
 rooms:Int
 fst:Int
 lst:Int
 ways:List Way
 things:List (Int×Int)
 levers:List (Int×Int)
 wheels:List (Int×Int)
 bars:Int
 water:Int
structure ClOk (C:Cl):Prop where
 r1:1<=C.rooms
 r2:C.rooms<=14
 f:0<=C.fst/\C.fst<C.rooms
 l:0<=C.lst/\C.lst<C.rooms
 wl:C.ways.length<=20
 tl:C.things.length<=8
 ll:C.levers.length<=4
 vl:C.wheels.length<=4
 w:∀x∈C.ways,(0<=x.a/\x.a<C.rooms)/\(0<=x.b/\x.b<C.rooms)/\x.a≠x.b/\x.g.ok
 t:∀x∈C.things,(0<=x.1/\x.1<C.rooms)/\0<=x.2/\x.2<12
 lv:∀x∈C.levers,(0<=x.1/\x.1<C.rooms)/\1<=x.2/\x.2<=255
 wh:∀x∈C.wheels,(0<=x.1/\x.1<C.rooms)/\0<=x.2/\x.2<=9
 b:0<=C.bars/\C.bars<=255
 wa:0<=C.water/\C.water<=9
def q1e (H:Hp)(p:Addr)(x:Int×Int):Prop:=H p=some (.tup [.int x.1,.int x.2])
def q4H (H:Hp)(p:Addr)(x:Way):Prop:=∃g,H p=some (.tup [.int x.a,.int x.b,.ref g,.bl x.back])/\H g=some (.tup x.g.vs)
def Rows {α:Type}(At:Hp->Addr->α->Prop)(H:Hp)(ps:List Addr)(xs:List α):Prop:=ps.length=xs.length/\∀(i:Nat) (p:Addr) (x:α),ps[i]? =some p->xs[i]? =some x->At H p x
def q4I {α:Type}(At:Hp->Addr->α->Prop)(H:Hp)(q:Addr)(xs:List α):Prop:=∃ps,H q=some (.tup (ps.map V.ref))/\Rows At H ps xs
def qV {α:Type}(At:Hp->Addr->α->Prop)(H:Hp)(q:Addr)(xs:List α):Prop:=∃ps,H q=some (.lst (ps.map V.ref))/\Rows At H ps xs
section
variable {α:Type}{At:Hp->Addr->α->Prop}{H H':Hp}{ps:List Addr}{xs:List α}{p q:Addr}{x:α}
theorem q1e.mono (s:q00 H H'){p:Addr}{x:Int×Int}(h:q1e H p x):q1e H' p x:=s _ _ h
theorem q4H.mono (s:q00 H H'){p:Addr}{x:Way}(h:q4H H p x):q4H H' p x:=let ⟨g,h1,h2⟩:=h;⟨g,s _ _ h1,s _ _ h2⟩
theorem Rows.mono (m:∀p x,At H p x->At H' p x)(h:Rows At H ps xs):Rows At H' ps xs:=⟨h.1,fun i p x h1 h2=>m p x (h.2 i p x h1 h2)⟩
theorem Rows.nil:Rows At H [] []:=⟨rfl,fun i p x h _=>by simp at h⟩
theorem Rows.snoc (h:Rows At H ps xs)(hx:At H p x):Rows At H (ps++[p]) (xs++[x]):=by
 refine⟨by simp[h.1],fun i q y h1 h2=>?_⟩
 by_cases hi:i<ps.length
 ·rw [List.getElem?_append_left hi] at h1
  rw[List.getElem?_append_left (by rw[<-h.1];exact hi)] at h2
  exact h.2 i q y h1 h2
 ·have e:i=ps.length:=by
   have:=(List.getElem?_eq_some_iff.mp h1).1
   simp at this
   omega
  subst e
  rw[List.getElem?_append_right (Nat.le_refl _)] at h1
  rw[List.getElem?_append_right (by rw[h.1];exact Nat.le_refl _),<-h.1] at h2
  simp at h1 h2
  rw[<-h1,<-h2]
  exact hx
theorem Rows.get (h:Rows At H ps xs){i:Nat}(hi:i<xs.length):∃p,(ps.map V.ref)[i]? =some (.ref p)/\At H p xs[i]:=by
 have hp:i<ps.length:=by rw[h.1];exact hi
 exact⟨ps[i],by simp[hp],h.2 i _ _ (by simp[hp]) (by simp[hi])⟩
theorem q4I.mono (s:q00 H H')(m:∀p x,At H p x->At H' p x)(h:q4I At H q xs):q4I At H' q xs:=let ⟨ps,h1,h2⟩:=h;⟨ps,s _ _ h1,h2.mono m⟩
theorem q4I.get (h:q4I At H q xs):∃vs,H q=some (.tup vs)/\vs.length=xs.length/\∀i (hi:i<xs.length),∃p,vs[i]? =some (.ref p)/\At H p xs[i]:=by
 obtain⟨ps,h1,h2⟩:=h
 exact⟨_,h1,by simp[h2.1],fun i hi=>h2.get hi⟩
end
structure ClAt (H:Hp)(c:Addr)(C:Cl):Prop where
 ex:∃w t l v,H c=some (.tup [.int C.rooms,.int C.fst,.int C.lst,.ref w,.ref t,.ref l,.ref v,.int C.bars,.int C.water])/\q4I q4H H w C.ways/\q4I q1e H t C.things/\q4I q1e H l C.levers/\q4I q1e H v C.wheels
theorem ClAt.mono {H H':Hp}(s:q00 H H'){c:Addr}{C:Cl}(h:ClAt H c C):ClAt H' c C:=by
 obtain⟨w,t,l,v,h0,h1,h2,h3,h4⟩:=h.ex
 exact⟨w,t,l,v,s _ _ h0,h1.mono s (fun _ _=>q4H.mono s),h2.mono s (fun _ _=>q1e.mono s),h3.mono s (fun _ _=>q1e.mono s),h4.mono s (fun _ _=>q1e.mono s)⟩
def tP (C:Cl)(tk k:Int)(t:Nat):Bool:=decide ((C.things.getD t (0,0)).2=k)&&bit tk t
def dsOf (C:Cl)(w:Nat):Option Int:=(C.ways[w]?).bind fun x=>x.g.dk
def hold (C:Cl)(tk op k:Int):Int:=(cnt (tP C tk k) C.things.length:Int) - (cnt (dP (dsOf C) op k) C.ways.length:Int)
def cl (f:Int->Int):List V:=(List.range 12).map fun k:Nat=>V.int (f k)
theorem q8s (C:Cl)(k:Int):hold C 0 0 k=0:=by
 unfold hold
 rw[q8T fun i _=>by simp[tP,q4F],q8T fun i _=>qc7 _ _ _]
 rfl
theorem cl_len (f:Int->Int):(cl f).length=12:=by simp[cl]
theorem q8W {f:Int->Int}{k:Int}(h0:0<=k)(h1:k<12):atI (cl f) k=some (.int (f k)):=by
 obtain⟨j,rfl⟩:∃j:Nat,k=(j:Int):=⟨k.toNat,by omega⟩
 exact q0P (by simp[cl,show j<12 by omega])
theorem cl_ix {f:Int->Int}{k:Int}(h0:0<=k)(h1:k<12):ixN (cl f).length k=some k.toNat:=by
 rw[cl_len]
 unfold ixN
 rw[if_pos h0,if_pos (by omega)]
theorem qaR {f:Int->Int}{k v:Int}(h0:0<=k)(h1:k<12):(cl f).set k.toNat (.int v)=cl fun j=>if j=k then v else f j:=by
 unfold cl
 rw[set_map]
 refine List.map_congr_left fun j _=>?_
 by_cases e:(j:Int)=k
 ·rw [if_pos (by omega)]
  show _=V.int (if (j:Int)=k then v else f j)
  rw[if_pos e]
 ·rw [if_neg (by omega)]
  show _=V.int (if (j:Int)=k then v else f j)
  rw[if_neg e]
theorem q2w {f g:Int->Int}(h:∀k,0<=k->k<12->f k=g k):cl f=cl g:=by
 unfold cl
 refine List.map_congr_left fun j hj=>?_
 rw[List.mem_range] at hj
 rw[h j (by omega) (by omega)]
structure StOk (C:Cl)(rm tk op b wt:Int):Prop where
 hrm:0<=rm/\rm<C.rooms
 htk:0<=tk/\tk<2 ^ C.things.length
 hop:0<=op/\op<2 ^ C.ways.length
 dr:∀i,i<C.ways.length->bit op i=true->(dsOf C i).isSome=true
 hb:0<=b/\b<=255
 hwt:0<=wt/\wt<=9
 held:∀k,0<=k->k<12->0<=hold C tk op k
end Ce
namespace L2
open PySem PySem.Spec PyProof.Rows
section
variable {H:Hp}{Q:VK}{K:PySem.W.Frag}{σ:St}
theorem qbh {r r':R2}{ta tb tc:TE}(q:ta σ H fun x H1=>tb σ H1 fun y H2=>r x y H2 fun z H3=>∃k,z= .bl k/\(if k=true then tc σ H3 fun w' H4=>r' y w' H4 Q else Q (.bl false) H3)):qav r r' ta tb tc σ H Q:=q
end
end L2
namespace Ce
open PySem L2
theorem q1D {x:Int}(h:0<=x)(t:Nat):bit x t=x.toNat.testBit t:=by
 unfold bit
 rw[Nat.testBit_eq_decide_div_mod_eq]
 obtain⟨n,rfl⟩:∃n:Nat,x=(n:Int):=⟨x.toNat,by omega⟩
 rw[Int.toNat_natCast]
 congr 1
 have e:((n:Int) / 2 ^ t % 2=1)=((((n / 2 ^ t % 2:Nat):Int))=((1:Nat):Int)):=by
  rw[Int.natCast_emod,Int.natCast_ediv,Int.natCast_pow]
  rfl
 rw[e,Int.natCast_inj]
theorem q4d {C:Cl}(ok:ClOk C):StOk C C.fst 0 0 C.bars C.water:=
 ⟨ok.f,⟨by decide,q1P _⟩,⟨by decide,q1P _⟩,fun i _ hb=>(by rw[q4F] at hb;cases hb),ok.b,ok.wa,fun k _ _=>(by rw[q8s];exact Int.le_refl 0)⟩
end Ce
namespace L2
open PySem PySem.Spec PyProof.Rows
structure LaidM (K:PySem.W.Frag)(C:Addr)(m qual:Str)(st:Stmt)(ps:List Str):Prop where
 ex:∃f fd,Fun K m qual st f fd/\Meth K C m f/\q1Z K fd ps []
structure LaidI (K:PySem.W.Frag)(mg:Str->Option Value)(x:Str)(C:Addr)(qual:Str)(st:Stmt)(ps:List Str):Prop where
 ex:∃f fd,Fun K "__init__" qual st f fd/\Mk K C f/\q1Z K fd ps []
 at_:mg x=some (.ref C)
structure LaidC (K:PySem.W.Frag)(mg:Str->Option Value)(x m qual:Str)(st:Stmt)(ps:List Str):Prop where
 ex:∃C f fd,mg x=some (.ref C)/\Fun K m qual st f fd/\CMeth K C m f/\q1Z K fd ps []
section
variable {P:Program}{w:World}{K:PySem.W.Frag}{mg:Str->Option Value}{base:Heap}
theorem LaidM.vm {C:Addr}{m qual:Str}{st:Stmt}{N ps:List Str}{k:Nat}{sp:Sp}(L:LaidM K C m qual st ps)(cl:Cls K C)(S:FnScope N ps (qd st))(len:∀vs H Q E,sp vs H Q E->vs.length=ps.length)
  (hbody:∀(f:Addr) (cdv:Value) (A:Around) (outer:List Env) (s:Shared) (H:Hp) (vs:List V) (Q:VK) (E:XK),Room k (A.deeper (envOfC qual (qd st) s.heap.objs.size f cdv))->sp vs H Q E->
   ∃t,PSs (cxOf CX0 P w K mg base N qual (qd st) f cdv A outer s H E).nox (qL st) t/\t {nx:=fun _ H'=>Q .non H',rt:=Q} (start N vs) H):VMeth P w K mg base (k+1) C m ps sp:=by
 obtain⟨f,fd,F,hm,b⟩:=L.ex
 exact⟨cl,f,fd,hm,F.ok S len (fun cdv A outer s H vs Q E hr h=>hbody f cdv A outer s H vs Q E hr h),b⟩
theorem LaidI.makes {x:Str}{C:Addr}{qual:Str}{st:Stmt}{N ps:List Str}{k:Nat}{sp:Sp}(L:LaidI K mg x C qual st ps)(S:FnScope N ps (qd st))(len:∀vs H Q E,sp vs H Q E->vs.length=ps.length)
  (hbody:∀(f:Addr) (cdv:Value) (A:Around) (outer:List Env) (s:Shared) (H:Hp) (vs:List V) (Q:VK) (E:XK),Room k (A.deeper (envOfC qual (qd st) s.heap.objs.size f cdv))->sp vs H Q E->
   ∃t,PSs (cxOf CX0 P w K mg base N qual (qd st) f cdv A outer s H E).nox (qL st) t/\t {nx:=fun _ H'=>Q .non H',rt:=Q} (start N vs) H):Makes P w K mg base (k+1) x C ps sp:=by
 obtain⟨f,fd,F,M,b⟩:=L.ex
 exact⟨⟨f,fd,M,F.ok S len (fun cdv A outer s H vs Q E hr h=>hbody f cdv A outer s H vs Q E hr h),b⟩,L.at_⟩
theorem LaidC.cc {x m qual:Str}{st:Stmt}{N ps:List Str}{k:Nat}{sp:Sp}(L:LaidC K mg x m qual st ps)(S:FnScope N ps (qd st))(len:∀vs H Q E,sp vs H Q E->vs.length=ps.length)
  (hbody:∀(f:Addr) (cdv:Value) (A:Around) (outer:List Env) (s:Shared) (H:Hp) (vs:List V) (Q:VK) (E:XK),Room k (A.deeper (envOfC qual (qd st) s.heap.objs.size f cdv))->sp vs H Q E->
   ∃t,PSs (cxOf CX0 P w K mg base N qual (qd st) f cdv A outer s H E).nox (qL st) t/\t {nx:=fun _ H'=>Q .non H',rt:=Q} (start N vs) H):CCal P w K mg base (k+1) x m ps sp:=by
 obtain⟨C,f,fd,hm,F,cm,b⟩:=L.ex
 exact⟨C,f,fd,hm,cm,F.ok S len (fun cdv A outer s H vs Q E hr h=>hbody f cdv A outer s H vs Q E hr h),b⟩
end
def rFld (K:PySem.W.Frag)(f:Str)(x:V)(H:Hp)(Q:VK):Prop:=∃a C dx fs v,x= .ref a/\H a=some (.ins C dx fs)/\Cls K C/\qy K C f/\fs.lookup f=some v/\Q v H
def rSetF (K:PySem.W.Frag)(f:Str)(x y:V)(H:Hp)(R:Hp->Prop):Prop:=∃a C dx fs,x= .ref a/\H a=some (.ins C dx fs)/\Cls K C/\qy K C f/\fs.length<1000/\R (upd H a (.ins C dx (putF f y fs)))
def rVM (P:Program)(w:World)(K:PySem.W.Frag)(mg:Str->Option Value)(base:Heap)(k:Nat)(m:Str)(σ:St)(t:TA)(x:V)(H:Hp)(Q:VK):Prop:=∃a C dx fs ps sp,x= .ref a/\H a=some (.ins C dx fs)/\VMeth P w K mg base k C m ps sp/\fs.lookup m=none/\t σ H fun vs H2=>sp (x::vs) H2 Q E0
section
variable {σ:St}{H:Hp}{Q:VK}{K:PySem.W.Frag}{ta tv:TE}{t:TA}{f m:Str}{nx bk ct:St->Hp->Prop}{rt:VK}{P:Program}{w:World}{mg:Str->Option Value}{base:Heap}{k:Nat}
theorem r_fld0 (q:ta σ H fun x H1=>rFld K f x H1 Q):tFld K ta f σ H Q:=q
theorem qbe (q:tv σ H fun y H1=>ta σ H1 fun x H2=>rSetF K f x y H2 fun H3=>nx σ H3):sFld K ta tv f ⟨nx,rt,bk,ct⟩ σ H:=q
theorem r_vm0 (q:ta σ H fun x H1=>rVM P w K mg base k m σ t x H1 Q):tVM P w K mg base k m ta t σ H Q:=q
theorem q18 {a C dx:Addr}{fs:List (Str×V)}{v:V}(h:H a=some (.ins C dx fs))(c:Cls K C)(n:qy K C f)(l:fs.lookup f=some v)(q:Q v H):rFld K f (.ref a) H Q:=⟨a,C,dx,fs,v,rfl,h,c,n,l,q⟩
theorem q23 {a C dx:Addr}{fs:List (Str×V)}{y:V}{R:Hp->Prop}(h:H a=some (.ins C dx fs))(c:Cls K C)(n:qy K C f)(l:fs.length<1000)(q:R (upd H a (.ins C dx (putF f y fs)))):rSetF K f (.ref a) y H R:=⟨a,C,dx,fs,rfl,h,c,n,l,q⟩
theorem r_vm {a C dx:Addr}{fs:List (Str×V)}{ps:List Str}{sp:Sp}(h:H a=some (.ins C dx fs))(v:VMeth P w K mg base k C m ps sp)(l:fs.lookup m=none)(q:t σ H fun vs H2=>sp (.ref a::vs) H2 Q E0):rVM P w K mg base k m σ t (.ref a) H Q:=⟨a,C,dx,fs,ps,sp,rfl,h,v,l,q⟩
theorem r_make {C:Addr}{sp:Sp}{E:XK}(q:t σ H fun vs H1=>∀x dx,H1 x=none->H1 dx=none->dx≠x->sp (.ref x::(vs++[])) (upd (upd H1 dx (.own x)) x (.ins C dx [])) (fun v H2=>v= .non/\Q (.ref x) H2) E):q7B C sp [] E t σ H Q:=q
end
section
variable {X:Cx}
theorem q14 {o value:Expr}{ta tv:TE}{f:Str}{pos pos':Pos}(K:PySem.W.Frag)(ha:PE X o ta)(hv:PE X value tv)(hs:swapsWith value (some (.Attribute o f pos')) pos.line X.env=pure false)(hK:X.K=K:=by rfl):PS X (.Assign [.Attribute o f pos'] value pos) (sFld K ta tv f):=by subst hK;exact ps_fld ha hv hs
end
end L2
namespace L2
open PySem PySem.Spec PyProof.Rows
inductive Deq (K:PySem.W.Frag)(H:Hp):Nat->V->V->Bool->Prop where
 |flat {n:Nat} {x y:V} (fx:q2c x=true) (fy:q2c y=true):Deq K H n x y (eqV x y)
 |same {n:Nat} (a:Addr):Deq K H n (.ref a) (.ref a) true
 | tup {n:Nat} {a b:Addr} {xs ys:List V} {e:Nat->Bool} (hne:a≠b) (ha:SqT K H a xs) (hb:SqT K H b ys) (h:∀j,j<xs.length->j<ys.length->Deq K H n (xs.getD j .non) (ys.getD j .non) (e j)):
   Deq K H (n+1) (.ref a) (.ref b) ((List.range (min xs.length ys.length)).all e&&xs.length==ys.length)
 | lst {n:Nat} {a b:Addr} {xs ys:List V} {e:Nat->Bool} (hne:a≠b) (ha:SqL K H a xs) (hb:SqL K H b ys) (hl:xs.length=ys.length) (h:∀j,j<xs.length->j<ys.length->Deq K H n (xs.getD j .non) (ys.getD j .non) (e j)):
   Deq K H (n+1) (.ref a) (.ref b) ((List.range xs.length).all e)
 |lstn {n:Nat} {a b:Addr} {xs ys:List V} (hne:a≠b) (ha:SqL K H a xs) (hb:SqL K H b ys) (hl:xs.length≠ys.length):Deq K H (n+1) (.ref a) (.ref b) false
section
variable {X:Cx}{pins:List (Addr×Obj)}{σ:St}{H:Hp}{s:Shared}
theorem qaK (I:Inv X pins σ H s){n:Nat}{x y:V}{b:Bool}(d:Deq X.K H n x y b):∀{A:Around} {u v:Value},A.units+n<cLine->RelV x u->RelV y v->SeqAt.EqAt A s u v b:=by
 induction d with
 |flat fx fy=>intro A u v _ rx ry;exact q8C rx ry fx fy
 |same a=>intro A u v _ rx ry;cases rx;cases ry;exact SeqAt.EqAt.same _
 | @tup n a b xs ys e hne ha hb h ih=>
  intro A u v hu rx ry
  cases rx
  cases ry
  obtain⟨ia,ra,pa,_⟩:=I.tuple ha
  obtain⟨ib,rb,pb,_⟩:=I.tuple hb
  have la:=ra.length
  have lb:=rb.length
  refine SeqAt.EqAt.of_refs hne ?_
  have q:=SeqAt.RcAt.tuples (A:=A) (e:=e) (show s.heap.IsTuple a ia.toArray from pa) (show s.heap.IsTuple b ib.toArray from pb) (by omega) (fun j h1 h2=>ih j (by simpa[la] using h1) (by simpa[lb] using h2) (by show A.units+1+n<cLine;omega) (q0y ra h1) (q0y rb h2))
  simpa[la,lb] using q
 | @lst n a b xs ys e hne ha hb hl h ih=>
  intro A u v hu rx ry
  cases rx
  cases ry
  obtain⟨ia,ra,pa,_⟩:=I.list ha
  obtain⟨ib,rb,pb,_⟩:=I.list hb
  have la:=ra.length
  have lb:=rb.length
  refine SeqAt.EqAt.of_refs hne ?_
  have q:=SeqAt.RcAt.lists (A:=A) (e:=e) pa.isList pb.isList (by simp;omega) (by omega) (fun j h1 h2=>ih j (by simpa[la] using h1) (by simpa[lb] using h2) (by show A.units+1+n<cLine;omega) (q0y ra h1) (q0y rb h2))
  simpa[la] using q
 | @lstn n a b xs ys hne ha hb hl=>
  intro A u v hu rx ry
  cases rx
  cases ry
  obtain⟨ia,ra,pa,_⟩:=I.list ha
  obtain⟨ib,rb,pb,_⟩:=I.list hb
  have la:=ra.length
  have lb:=rb.length
  exact SeqAt.EqAt.of_refs hne (SeqAt.RcAt.lists_lengths pa.isList pb.isList (by simp;omega) (by omega))
end
def rEqD (K:PySem.W.Frag)(n:Nat):R2:=fun x y H Q=>
 (∃p q xs ys e,x= .ref p/\y= .ref q/\SqT K H p xs/\SqT K H q ys/\(∀j,j<xs.length->j<ys.length->Deq K H n (xs.getD j .non) (ys.getD j .non) (e j))/\Q (.bl ((List.range (min xs.length ys.length)).all e&&xs.length==ys.length)) H)\/
 (∃p q xs ys e,x= .ref p/\y= .ref q/\SqL K H p xs/\SqL K H q ys/\xs.length=ys.length/\(∀j,j<xs.length->j<ys.length->Deq K H n (xs.getD j .non) (ys.getD j .non) (e j))/\Q (.bl ((List.range xs.length).all e)) H)\/
 (∃p q xs ys,x= .ref p/\y= .ref q/\SqL K H p xs/\SqL K H q ys/\xs.length≠ys.length/\Q (.bl false) H)
section
variable {X:Cx}
theorem op_eqD (K:PySem.W.Frag)(n:Nat)(hu:X.A.units+n+1<cLine)(hK:X.K=K:=by rfl):OpR X (compareOp .Eq) (rEqD K n):=by
 subst hK
 intro pins s σ H x y v u Q I rx ry h
 rcases h with⟨p,q,xs,ys,e,rfl,rfl,hp,hq,hd,k⟩|⟨p,q,xs,ys,e,rfl,rfl,hp,hq,hl,hd,k⟩|⟨p,q,xs,ys,rfl,rfl,hp,hq,hl,k⟩
 ·cases rx
  cases ry
  obtain⟨ia,ra,pa,_⟩:=I.tuple hp
  obtain⟨ib,rb,pb,_⟩:=I.tuple hq
  have la:=ra.length
  have lb:=rb.length
  refine SeqAt.eq_tupleAt (e:=e) (show s.heap.IsTuple p ia.toArray from pa) (show s.heap.IsTuple q ib.toArray from pb) (by omega) (fun j h1 h2=>qaK I (hd j (by simpa[la] using h1) (by simpa[lb] using h2)) (by show X.A.units+1+n<cLine;omega) (q0y ra h1) (q0y rb h2)) ⟨.bl _,H,I,?_,k⟩
  show Value.bool _=Value.bool _
  simp[la,lb]
 ·cases rx
  cases ry
  obtain⟨ia,ra,pa,_⟩:=I.list hp
  obtain⟨ib,rb,pb,_⟩:=I.list hq
  have la:=ra.length
  have lb:=rb.length
  refine SeqAt.eq_listAt (e:=e) pa.isList pb.isList (by simp;omega) (by omega) (fun j h1 h2=>qaK I (hd j (by simpa[la] using h1) (by simpa[lb] using h2)) (by show X.A.units+1+n<cLine;omega) (q0y ra h1) (q0y rb h2)) ⟨.bl _,H,I,?_,k⟩
  show Value.bool _=Value.bool _
  simp[la]
 ·cases rx
  cases ry
  obtain⟨ia,ra,pa,_⟩:=I.list hp
  obtain⟨ib,rb,pb,_⟩:=I.list hq
  have la:=ra.length
  have lb:=rb.length
  exact SeqAt.eq_list_lengthsAt pa.isList pb.isList (by simp;omega) (by omega) ⟨.bl false,H,I,rfl,k⟩
end
def tFs (ta tb:TE):TE:=fun σ H Q=>ta σ H fun x H1=>∃z1:Str,x= .str z1/\z1.length<=sizeLine/\tb σ H1 fun y H2=>∃z2:Str,y= .str z2/\z1.length+z2.length<=sizeLine/\∀z:Str,z.length=z1.length+z2.length->Q (.str z) H2
def tFv (te:TE):TE:=fun σ H Q=>te σ H fun x H1=>∃z:Str,x= .str z/\z.length<=sizeLine/\Q (.str z) H1
section
variable {X:Cx}{a b e:Expr}{ta tb te:TE}{pos:Pos}
theorem pe_fv (he:PE X e te):PE X (.FormattedValue e (-1) none pos) (tFv te):=by
 intro pins s σ H Q I h
 refine FormattedValue_plain (thn (he pins s σ H _ I h) fun v s1 ⟨x,H1,I1,rx,z,ez,hz,q⟩=>?_)
 subst ez
 obtain⟨t,rfl⟩:=rx
 exact formatField_str (fun t' tk=>⟨.str z,H1,I1.tok _,⟨_,rfl⟩,q⟩) hz
theorem q8e (x y:Str):(x++y).length=x.length+y.length:=strLen_append x y
theorem pe_fs (ha:PE X a ta)(hb:PE X b tb)(he:evalEach [a,b] X.env=[eval a X.env,eval b X.env]:=by rfl):PE X (.JoinedStr [a,b] pos) (tFs ta tb):=by
 intro pins s σ H Q I h
 refine JoinedStr_many (joinParts_cons (thn (ha pins s σ H _ I h) fun v s1 ⟨x,H1,I1,rx,z1,e1,hz1,q⟩=>?_))
 subst e1
 obtain⟨t,rfl⟩:=rx
 have el:(Str.empty++z1).length=z1.length:=by rw[q8e];simp[Str.empty,Str.length]
 refine⟨by rw[el];exact hz1,?_⟩
 refine joinParts_cons (thn (hb pins s1 σ H1 _ I1 q) fun v s2 ⟨y,H2,I2,ry,z2,e2,hz2,q2⟩=>?_)
 subst e2
 obtain⟨t',rfl⟩:=ry
 have el2:(Str.empty++z1++z2).length=z1.length+z2.length:=by rw[q8e,el]
 refine⟨by rw[el2];exact hz2,?_⟩
 exact joinParts_nil ⟨.str _,H2,I2.tok _,⟨_,rfl⟩,q2 _ el2⟩ (by rw[el2];exact hz2)
end
section
variable {σ:St}{H:Hp}{Q:VK}{ta tb te:TE}
theorem r_fv (q:te σ H fun x H1=>∃z:Str,x= .str z/\z.length<=sizeLine/\Q (.str z) H1):tFv te σ H Q:=q
theorem r_fs (q:ta σ H fun x H1=>∃z1:Str,x= .str z1/\z1.length<=sizeLine/\tb σ H1 fun y H2=>∃z2:Str,y= .str z2/\z1.length+z2.length<=sizeLine/\∀z:Str,z.length=z1.length+z2.length->Q (.str z) H2):tFs ta tb σ H Q:=q
end
end L2
namespace L2
open PySem PySem.Spec PyProof.Rows
structure FunD (K:PySem.W.Frag)(x:Str)(st:Stmt)(ds:List Value)(f:Addr)(fd:FuncData):Prop where
 ex:∃(T:Addr) (o:Obj) (n:Nat) (oc:Value) (od:Option Addr) (kV doc pm:Value) (an:Option Addr) (cdv ct:Value) (osl:Array (Option Value)),
  fd=PySem.W.fnOf x x (q02 st) (qL st) (qd st) (.ref T) kV doc pm an cdv ct/\K.lookup f=some ⟨oc,od,.func fd,osl⟩/\PySem.W.codeIn K cdv x=true/\K.lookup T=some o/\o.data= .seq ds.toArray n
 kp:PySem.W.keepIn K (.ref f)=true
structure LaidD (K:PySem.W.Frag)(mg:Str->Option Value)(x:Str)(st:Stmt)(ds:List Value):Prop where
 ex:∃f fd,FunD K x st ds f fd/\mg x=some (.ref f)
structure CalD (P:Program)(w:World)(K:PySem.W.Frag)(mg:Str->Option Value)(base:Heap)(k:Nat)(x:Str)(ps:List Str)(sp:Sp)(st:Stmt)(ds:List Value):Prop where
 ex:∃f fd,FnOk P w K mg base CX0 k f fd ps sp/\mg x=some (.ref f)/\FunD K x st ds f fd
def BnD (x:Str)(st:Stmt)(ds:List Value)(args:Args)(binds:List (Str×Value)):Prop:=
 ∀(T:Addr) (kV doc pm:Value) (an:Option Addr) (cdv ct:Value),∃k,bindArgs (PySem.W.fnOf x x (q02 st) (qL st) (qd st) (.ref T) kV doc pm an cdv ct) args=seqItems? (.ref T) >>= k/\k (some ds.toArray)=pure binds
section
variable {P:Program}{w:World}{K:PySem.W.Frag}{mg:Str->Option Value}{base:Heap}{x:Str}{st:Stmt}{ds:List Value}
theorem FunD.bind {f:Addr}{fd:FuncData}{args:Args}{binds:List (Str×Value)}{s:Shared}(F:FunD K x st ds f fd)(X:K.In s.heap)(h:BnD x st ds args binds):BindsTo s fd args binds:=by
 obtain⟨T,o,n,oc,od,kV,doc,pm,an,cdv,ct,osl,rfl,lk,hcd,ho,hs⟩:=F.ex
 obtain⟨k,h1,h2⟩:=h T kV doc pm an cdv ct
 exact PySem.W.binds_K X rfl ho hs h1 h2
theorem LaidD.cal {N ps:List Str}{k:Nat}{sp:Sp}(L:LaidD K mg x st ds)(S:FnScope N ps (qd st))(len:∀vs H Q E,sp vs H Q E->vs.length=ps.length)
  (hbody:∀(f:Addr) (cdv:Value) (A:Around) (outer:List Env) (s:Shared) (H:Hp) (vs:List V) (Q:VK) (E:XK),Room k (A.deeper (envOfC x (qd st) s.heap.objs.size f cdv))->sp vs H Q E->
   ∃t,PSs (cxOf CX0 P w K mg base N x (qd st) f cdv A outer s H E).nox (qL st) t/\t {nx:=fun _ H'=>Q .non H',rt:=Q} (start N vs) H):CalD P w K mg base (k+1) x ps sp st ds:=by
 obtain⟨f,fd,F,m⟩:=L.ex
 refine⟨f,fd,?_,m,F⟩
 obtain⟨T,o,n,oc,od,kV,doc,pm,an,cdv,ct,osl,rfl,lk,hcd,ho,hs⟩:=F.ex
 refine fn_of lk hcd S len fun A outer s H vs Q E hr hsp=>?_
 obtain⟨t,h,q⟩:=hbody f cdv A outer s H vs Q E hr hsp
 exact⟨t,h.nox,q⟩
theorem qa6 {h:Heap}{f T:Addr}{oc:Value}{od an:Option Addr}{osl:Array (Option Value)}{kV doc pm cdv ct:Value}{o:Obj}{n:Nat}(X:K.In h)(G:h.Ns mainGlobals mg)(a:PySem.W.nsIn K mainGlobals x=some (some (.ref f)))
  (l:K.lookup f=some ⟨oc,od,.func (PySem.W.fnOf x x (q02 st) (qL st) (qd st) (.ref T) kV doc pm an cdv ct),osl⟩)(c:PySem.W.codeIn K cdv x=true)(k:PySem.W.keepIn K (.ref f)=true)
  (ho:K.lookup T=some o)(hs:o.data= .seq ds.toArray n):LaidD K mg x st ds:=
 ⟨f,_,⟨⟨T,o,n,oc,od,kV,doc,pm,an,cdv,ct,osl,rfl,l,c,ho,hs⟩,k⟩,PySem.W.mg_of X G a⟩
end
section
variable {X:Cx}{k k':Nat}{x:Str}{ps ks:List Str}{sp:Sp}{p pos:Pos}{e:Expr}{es:List Expr}{kws:List Keyword}{t tk:TA}{st:Stmt}{ds ds':List Value}{dvs:List V}
theorem q84 (c:CalD X.prog X.w X.K X.mg X.base k x ps sp st ds)(hb:∀us:List Value,(us++ds').length=ps.length->BnD x st ds ⟨us,[]⟩ (ps.zip (us++ds')))(hd:Vals dvs ds')(hr:Room k' X.A)(hk:k<=k')(hg:Gl X x)(ha:PA X (e::es) t)
  (hdb:(x==("__debug__":Str))=false:=by decide)(he:starEach (e::es) X.env=(false,eval e X.env)::starEach es X.env:=by rfl)
  (hpl:(backTo pos (starEach es X.env)).any (·.1)=false:=by rfl):PE X (.Call (.Name x p) (e::es) [] pos) (q6Y sp dvs E0 t):=by
 obtain⟨f,fd,F,m,D⟩:=c.ex
 exact q83 F (hr.mono hk) hg m D.kp (fun s us hX hl=>D.bind hX (hb us hl)) hd q63 ha hdb he hpl
theorem qbk {sp:Sp}{E:XK}{σ:St}{H:Hp}{Q:VK}(q:t σ H fun vs H1=>sp (vs++dvs) H1 Q E):q6Y sp dvs E t σ H Q:=q
end
end L2
namespace HT
open PySem PyProof.Rows
section
variable {prog:Program}{w:World}{A:Around}{E:Value->Shared->Prop}{s:Shared}
theorem qao {t b:Addr}{vs ws:List Value}{Q:Value->Shared->Prop}(ht:IsTup s.heap t vs.toArray)(hb:IsTup s.heap b ws.toArray)(hv:vs=[])(h:Q (.ref b) s):wpAny (model prog w) A (binaryOp .Add (.ref t) (.ref b)) Q E s:=by
 obtain⟨⟨cls,dd,data,sl⟩,ho,hc,n,hd⟩:=id ht
 obtain⟨⟨cls2,dd2,data2,sl2⟩,ho2,hc2,n2,hd2⟩:=id hb
 simp only at hc hd hc2 hd2
 subst hc hd hc2 hd2
 exact concat_meets ⟨_,ho,rfl⟩ ⟨_,ho2,rfl⟩ noFill_tuple_add seq_tuple_add PySem.F.slot_tuple_add PySem.F.entry_tuple_add (PySem.F.args_tuple_add_2 _ _)
   (tuple_addW0 t b vs.toArray ws.toArray n n2 dd dd2 sl sl2 (by simp[hv])) ⟨ho,ho2,h⟩
end
end HT
namespace L2
open PySem PySem.Spec PyProof.Rows
def q6v (K:PySem.W.Frag):R2:=fun x y H Q=>∃a b xs ys,x= .ref a/\y= .ref b/\SqT K H a xs/\SqT K H b ys/\xs.length+ys.length<=sizeLine/\
 (xs=[]->Q (.ref b) H)/\(xs≠[]->ys=[]->Q (.ref a) H)/\(xs≠[]->ys≠[]->∀p,H p=none->Q (.ref p) (upd H p (.tup (xs++ys))))
def rNeTs (K:PySem.W.Frag):R2:=fun x y H Q=>∃p q xs ys,x= .ref p/\y= .ref q/\SqT K H p xs/\SqT K H q ys/\xs.all q2c=true/\ys.all q2c=true/\Q (.bl (!eqVs xs ys)) H
section
variable {X:Cx}
theorem q6z (K:PySem.W.Frag)(hK:X.K=K:=by rfl):OpR X (binaryOp .Add) (q6v K):=by
 subst hK
 intro pins s σ H x y v u Q I rx ry h
 obtain⟨a,b,xs,ys,e1,e2,ha,hb,hz,q0,q1,q2⟩:=h
 by_cases hx:xs=[]
 ·subst e1 e2
  cases rx
  cases ry
  obtain⟨its,r1,p1,_⟩:=I.tuple ha
  obtain⟨its2,r2,p2,_⟩:=I.tuple hb
  exact HT.qao p1 p2 (r1.nil_iff.mpr hx) ⟨.ref b,H,I,rfl,q0 hx⟩
 ·exact qby pins s σ H x y v u Q I rx ry ⟨a,b,xs,ys,e1,e2,ha,hb,hx,hz,q1 hx,q2 hx⟩
theorem qbv (K:PySem.W.Frag)(hu:X.A.units<cLine)(hK:X.K=K:=by rfl):OpR X (compareOp .NotEq) (rNeTs K):=by
 subst hK
 intro pins s σ H x y v u Q I rx ry h
 obtain⟨p,q,xs,ys,rfl,rfl,hp,hq,fx,fy,k⟩:=h
 cases rx
 cases ry
 obtain⟨ia,ra,pa,_⟩:=I.tuple hp
 obtain⟨ib,rb,pb,_⟩:=I.tuple hq
 have la:=ra.length
 have lb:=rb.length
 refine SeqAt.RcNeAt.tuples (e:=fun j=>eqV (xs.getD j .non) (ys.getD j .non)) (show s.heap.IsTuple p ia.toArray from pa) (show s.heap.IsTuple q ib.toArray from pb) hu (fun j h1 h2=>q8C (q0y ra h1) (q0y rb h2) (q4z fx j) (q4z fy j)) _ _ _ _ ⟨.bl (!eqVs xs ys),H,I,?_,k⟩
 show Value.bool _=Value.bool _
 unfold eqVs
 rw[<-q2x,Bool.and_comm]
 simp[la,lb]
end
section
variable {H:Hp}{Q:VK}{K:PySem.W.Frag}
theorem r_eqT {p q:Addr}{xs ys:List V}(h1:SqT K H p xs)(h2:SqT K H q ys)(f1:xs.all q2c=true)(f2:ys.all q2c=true)(k:Q (.bl (eqVs xs ys)) H):qbl K (.ref p) (.ref q) H Q:=⟨p,q,xs,ys,rfl,rfl,h1,h2,f1,f2,k⟩
theorem r_neT {p q:Addr}{xs ys:List V}(h1:SqT K H p xs)(h2:SqT K H q ys)(f1:xs.all q2c=true)(f2:ys.all q2c=true)(k:Q (.bl (!eqVs xs ys)) H):rNeTs K (.ref p) (.ref q) H Q:=⟨p,q,xs,ys,rfl,rfl,h1,h2,f1,f2,k⟩
theorem qbj {p q:Addr}{ys:List V}(h1:SqT K H p [])(h2:SqT K H q ys)(hz:ys.length<=sizeLine)(k:Q (.ref q) H):q6v K (.ref p) (.ref q) H Q:=
 ⟨p,q,[],ys,rfl,rfl,h1,h2,by simpa using hz,fun _=>k,fun e=>(e rfl).elim,fun e=>(e rfl).elim⟩
theorem qbi {p q:Addr}{x:V}{xs:List V}(h1:SqT K H p (x::xs))(h2:SqT K H q [])(hz:(x::xs).length<=sizeLine)(k:Q (.ref p) H):q6v K (.ref p) (.ref q) H Q:=
 ⟨p,q,x::xs,[],rfl,rfl,h1,h2,by simpa using hz,fun e=>by simp at e,fun _ _=>k,fun _ e=>(e rfl).elim⟩
theorem q1K {p q:Addr}{x y:V}{xs ys:List V}(h1:SqT K H p (x::xs))(h2:SqT K H q (y::ys))(hz:Nat.ble ((x::xs).length+(y::ys).length) sizeLine=true)(k:∀r,H r=none->Q (.ref r) (upd H r (.tup (x::xs++y::ys)))):q6v K (.ref p) (.ref q) H Q:=
 ⟨p,q,x::xs,y::ys,rfl,rfl,h1,h2,Nat.le_of_ble_eq_true hz,fun e=>by simp at e,fun _ e=>by simp at e,fun _ _=>k⟩
end
end L2
namespace Ce
open PySem L2
def qa4 (g:Gt)(f:Int->Int)(op:Bool)(bars wt:Int):Bool:=match g with
 | .plain=>true
 | .door _=>op
 | .need k=>decide (0<f k)
 | .bar b=>bit bars b.toNat
 | .wade h k=>decide (wt<=h)||decide (0<f k)
 | .float h=>decide (h<=wt)
inductive Wd where
 |go|pull|take|turn|unlock
 deriving DecidableEq
def Wd.str:Wd->Str
 | .go=>"go"
 | .pull=>"pull"
 | .take=>"take"
 | .turn=>"turn"
 | .unlock=>"unlock"
def Wd.part:Wd->Int
 | .go=>3
 | .pull=>5
 | .take=>4
 | .turn=>6
 | .unlock=>3
structure Sd where
 rm:Int
 tk:Int
 op:Int
 b:Int
 wt:Int
def Sd.vs (s:Sd):List V:=[.int s.rm,.int s.tk,.int s.op,.int s.b,.int s.wt]
def Sd.ok (C:Cl)(s:Sd):Prop:=StOk C s.rm s.tk s.op s.b s.wt
def q2u (x:Way)(rm:Int):Bool:=decide (rm=x.a)||(decide (rm=x.b)&&x.back)
def canB (C:Cl)(s:Sd)(i:Nat):Wd->Bool
 | .go=>match C.ways[i]? with
  |some x=>q2u x s.rm&&qa4 x.g (hold C s.tk s.op) (bit s.op i) s.b s.wt
  |none=>false
 | .pull=>match C.levers[i]? with
  |some x=>decide (s.rm=x.1)
  |none=>false
 | .take=>match C.things[i]? with
  |some x=>decide (s.rm=x.1)&& !bit s.tk i
  |none=>false
 | .turn=>match C.wheels[i]? with
  |some x=>decide (s.rm=x.1)&& !decide (s.wt=x.2)
  |none=>false
 | .unlock=>match C.ways[i]? with
  |some x=>match x.g.dk with
   |some k=>(q2u x s.rm&& !bit s.op i)&&decide (0<hold C s.tk s.op k)
   |none=>false
  |none=>false
def q2d (C:Cl)(s:Sd)(i:Nat):Wd->Sd
 | .go=>match C.ways[i]? with
  |some x=>{s with rm:=if s.rm=x.a then x.b else x.a}
  |none=>s
 | .pull=>match C.levers[i]? with
  |some x=>{s with b:=Builtin.bitXor s.b x.2}
  |none=>s
 | .take=>{s with tk:=s.tk+2 ^ i}
 | .turn=>match C.wheels[i]? with
  |some x=>{s with wt:=x.2}
  |none=>s
 | .unlock=>{s with op:=s.op+2 ^ i}
def Cl.num (C:Cl):Wd->Nat
 | .go=>C.ways.length
 | .pull=>C.levers.length
 | .take=>C.things.length
 | .turn=>C.wheels.length
 | .unlock=>C.ways.length
def canD (C:Cl)(s:Sd)(d:Wd)(n:Int):Bool:= !decide (s.rm=C.lst)&&(decide (0<=n)&&canB C s n.toNat d)
def q0o (C:Cl)(s:Sd)(d:Wd)(n:Int):Sd:=q2d C s n.toNat d
theorem q8Y {C:Cl}{s:Sd}{i:Nat}{d:Wd}(h:canB C s i d=true):i<C.num d:=by
 cases d<;>simp only[canB] at h
 ·cases e:C.ways[i]? with
  |none=>rw[e] at h;simp at h
  |some x=>exact(List.getElem?_eq_some_iff.mp e).1
 ·cases e:C.levers[i]? with
  |none=>rw[e] at h;simp at h
  |some x=>exact(List.getElem?_eq_some_iff.mp e).1
 ·cases e:C.things[i]? with
  |none=>rw[e] at h;simp at h
  |some x=>exact(List.getElem?_eq_some_iff.mp e).1
 ·cases e:C.wheels[i]? with
  |none=>rw[e] at h;simp at h
  |some x=>exact(List.getElem?_eq_some_iff.mp e).1
 ·cases e:C.ways[i]? with
  |none=>rw[e] at h;simp at h
  |some x=>exact(List.getElem?_eq_some_iff.mp e).1
theorem q8X {C:Cl}{s:Sd}{d:Wd}{n:Int}(h:s.rm=C.lst):canD C s d n=false:=by simp[canD,h]
theorem q6P {C:Cl}{s:Sd}{d:Wd}{n:Int}(h:n<0):canD C s d n=false:=by
 have:¬0<=n:=by omega
 simp[canD,this]
theorem q6g {C:Cl}{s:Sd}{d:Wd}{n:Int}(h:¬n<C.num d):canD C s d n=false:=by
 by_cases h0:0<=n
 ·have:canB C s n.toNat d=false:=by
   cases e:canB C s n.toNat d with
   |false=>rfl
   |true=>have:=q8Y e;omega
  simp[canD,this]
 ·exact q6P (by omega)
theorem qcb {C:Cl}{s:Sd}{d:Wd}{i:Nat}(h:¬s.rm=C.lst):canD C s d (i:Int)=canB C s i d:=by
 have:(0:Int)<=(i:Int):=by omega
 simp[canD,h,this]
theorem q0p {C:Cl}{s:Sd}{d:Wd}{n:Int}(h:canD C s d n=true):¬s.rm=C.lst/\∃i:Nat,n=(i:Int)/\i<C.num d/\canB C s i d=true:=by
 unfold canD at h
 simp only[Bool.and_eq_true,Bool.not_eq_true',decide_eq_false_iff_not,decide_eq_true_eq] at h
 exact⟨h.1,n.toNat,by omega,q8Y h.2.2,h.2.2⟩
theorem q96 {x:Int}{w:Nat}(h:bit x w=false):Builtin.bitOr x (2 ^ w)=x+2 ^ w:=by
 rw[PyProof.Rows.bitOr_and,PySem.W.kbt_bit]
 have:x / 2 ^ w % 2=0:=by
  unfold bit at h
  have h':=of_decide_eq_false h
  omega
 rw[this]
 simp
theorem q3G (x y:Nat):x+y=(x ^^^ y)+2*(x &&& y):=by
 have key:∀n x y,x<2 ^ n->y<2 ^ n->x+y=(x ^^^ y)+2*(x &&& y):=by
  intro n
  induction n with
  | zero => intro x y hx hy;have:x=0:=by simpa using hx
            have:y=0:=by simpa using hy
            subst_vars;rfl
  |succ n ih=>
   intro x y hx hy
   have h:=ih (x / 2) (y / 2) (by rw[Nat.pow_succ] at hx;omega) (by rw[Nat.pow_succ] at hy;omega)
   have e1:(x ^^^ y) / 2=(x / 2) ^^^ (y / 2):=Nat.xor_div_two
   have e2:(x &&& y) / 2=(x / 2) &&& (y / 2):=Nat.and_div_two
   have m1:(x ^^^ y) % 2=(x % 2+y % 2) % 2:=by
    have h1:(x ^^^ y) % 2=(x % 2) ^^^ (y % 2):=Nat.xor_mod_two_pow (n:=1)
    rw[h1]
    have a:x % 2=0\/x % 2=1:=by omega
    have b:y % 2=0\/y % 2=1:=by omega
    rcases a with a|a<;>rcases b with b|b<;>simp[a,b]
   have m2:(x &&& y) % 2=(x % 2)*(y % 2):=by
    have h1:(x &&& y) % 2=(x % 2) &&& (y % 2):=Nat.and_mod_two_pow (n:=1)
    rw[h1]
    have a:x % 2=0\/x % 2=1:=by omega
    have b:y % 2=0\/y % 2=1:=by omega
    rcases a with a|a<;>rcases b with b|b<;>simp[a,b]
   have a:x % 2=0\/x % 2=1:=by omega
   have b:y % 2=0\/y % 2=1:=by omega
   rw[<-e1,<-e2] at h
   rcases a with a|a<;>rcases b with b|b<;>rw[a,b] at m1 m2<;>omega
 exact key (x+y) x y (Nat.lt_of_le_of_lt (Nat.le_add_right x y) Nat.lt_two_pow_self) (Nat.lt_of_le_of_lt (Nat.le_add_left y x) Nat.lt_two_pow_self)
theorem q5P {x y:Int}(hx:0<=x)(hy:0<=y):Builtin.bitXor x y=((x.toNat ^^^ y.toNat:Nat):Int):=by
 rw[PyProof.Rows.bitXor_and,PyProof.Rows.bitAnd_pp hx hy]
 have:=q3G x.toNat y.toNat
 omega
theorem q4K {x y:Int}(hx:0<=x)(hx':x<=255)(hy:0<=y)(hy':y<=255):0<=Builtin.bitXor x y/\Builtin.bitXor x y<=255:=by
 rw[q5P hx hy]
 have:x.toNat ^^^ y.toNat<2 ^ 8:=Nat.xor_lt_two_pow (by omega) (by omega)
 omega
theorem q99 {x i:Nat}(h:x.testBit i=false):x+2 ^ i=x ^^^ 2 ^ i:=by
 have h1:=q3G x (2 ^ i)
 have h2:x &&& 2 ^ i=0:=by
  apply Nat.eq_of_testBit_eq
  intro j
  rw[Nat.testBit_and,Nat.testBit_two_pow,Nat.zero_testBit]
  by_cases e:i=j
  ·rw [<-e,h];simp
  ·simp [e]
 omega
theorem q2P {x:Int}{i:Nat}(h0:0<=x)(h:bit x i=false)(j:Nat):bit (x+2 ^ i) j=(decide (i=j) ^^ bit x j):=by
 obtain⟨n,rfl⟩:∃n:Nat,x=(n:Int):=⟨x.toNat,by omega⟩
 have hp:=q1P i
 have e:((n:Int)+2 ^ i)=((n+2 ^ i:Nat):Int):=by rw[Int.natCast_add,Int.natCast_pow];rfl
 rw[q1D h0,Int.toNat_natCast] at h
 rw[e,q1D (by omega),q1D h0,Int.toNat_natCast,Int.toNat_natCast,q99 h,Nat.testBit_xor,Nat.testBit_two_pow,Bool.xor_comm]
theorem qaS {x:Int}{i m:Nat}(h0:0<=x)(h1:x<2 ^ m)(hi:i<m)(h:bit x i=false):0<=x+2 ^ i/\x+2 ^ i<2 ^ m:=by
 obtain⟨n,rfl⟩:∃n:Nat,x=(n:Int):=⟨x.toNat,by omega⟩
 have hp:=q1P i
 have e:((n:Int)+2 ^ i)=((n+2 ^ i:Nat):Int):=by rw[Int.natCast_add,Int.natCast_pow];rfl
 have em:(2:Int) ^ m=((2 ^ m:Nat):Int):=by rw[Int.natCast_pow];rfl
 rw[q1D h0,Int.toNat_natCast] at h
 rw[em] at h1
 have hn:n<2 ^ m:=by omega
 have:n ^^^ 2 ^ i<2 ^ m:=Nat.xor_lt_two_pow hn (Nat.pow_lt_pow_right (by decide) hi)
 rw[e,em,q99 h]
 omega
theorem q6f {P R:Nat->Bool}{i:Nat}(h:∀j,j≠i->R j=P j)(hi:P i=false):∀m,cnt R m=cnt P m+(if i<m then(if R i=true then 1 else 0) else 0)
 |0=>by simp[cnt]
 |m+1=>by
  show cnt R m+_=cnt P m+_+_
  rw[q6f h hi m]
  by_cases e:m=i
  ·subst e
   rw[if_neg (Nat.lt_irrefl _),if_pos (Nat.lt_succ_self _),hi]
   simp
  ·rw [h m e]
   by_cases h2:i<m
   ·rw [if_pos h2,if_pos (show i<m+1 by omega),Nat.add_right_comm]
   ·rw [if_neg h2,if_neg (show¬i<m+1 by omega),Nat.add_right_comm]
theorem q8t {C:Cl}{tk op:Int}{i:Nat}(h0:0<=tk)(hi:i<C.things.length)(hb:bit tk i=false)(k:Int):hold C (tk+2 ^ i) op k=hold C tk op k+(if C.things[i].2=k then 1 else 0):=by
 unfold hold
 have e:cnt (tP C (tk+2 ^ i) k) C.things.length=cnt (tP C tk k) C.things.length+(if C.things[i].2=k then 1 else 0):=by
  rw[q6f (P:=tP C tk k) (i:=i) (fun j hj=>by simp[tP,q2P h0 hb,show¬i=j from fun z=>hj z.symm]) (by simp[tP,hb]),if_pos hi]
  congr 1
  simp only[tP,q2P h0 hb,hb]
  by_cases ek:C.things[i].2=k
  ·simp [ek,hi]
  ·simp [ek,hi]
 rw[e]
 split<;>omega
theorem q68 {C:Cl}{tk op:Int}{i:Nat}(h0:0<=op)(hi:i<C.ways.length)(hb:bit op i=false)(k:Int):hold C tk (op+2 ^ i) k=hold C tk op k - (if C.ways[i].g.dk=some k then 1 else 0):=by
 unfold hold
 have eds:dsOf C i=C.ways[i].g.dk:=by simp[dsOf,hi]
 have e:cnt (dP (dsOf C) (op+2 ^ i) k) C.ways.length=cnt (dP (dsOf C) op k) C.ways.length+(if C.ways[i].g.dk=some k then 1 else 0):=by
  rw[q6f (P:=dP (dsOf C) op k) (i:=i) (fun j hj=>by simp[dP,q2P h0 hb,show¬i=j from fun z=>hj z.symm]) (by simp[dP,hb]),if_pos hi]
  congr 1
  simp only[dP,q2P h0 hb,hb,eds]
  by_cases ek:C.ways[i].g.dk=some k
  ·simp [ek]
  ·simp [ek]
 rw[e]
 split<;>omega
theorem qc0 {C:Cl}{s:Sd}{d:Wd}{n:Int}(ok:ClOk C)(h:s.ok C)(hc:canD C s d n=true):(q0o C s d n).ok C:=by
 obtain⟨hl,i,rfl,hi,hb⟩:=q0p hc
 unfold q0o
 rw[Int.toNat_natCast]
 obtain⟨h1,h2,h3,h4,h5,h6,h7⟩:=id h
 cases d with
 |go=>
  have hi':i<C.ways.length:=hi
  have w:=ok.w _ (List.getElem_mem hi')
  simp only[q2d,List.getElem?_eq_getElem hi']
  refine⟨?_,h2,h3,h4,h5,h6,h7⟩
  by_cases e:s.rm=C.ways[i].a
  ·simp only[e,if_true]
   exact w.2.1
  ·simp only[e,if_false]
   exact w.1
 |pull=>
  have hi':i<C.levers.length:=hi
  have w:=ok.lv _ (List.getElem_mem hi')
  simp only[q2d,List.getElem?_eq_getElem hi']
  exact⟨h1,h2,h3,h4,q4K h5.1 h5.2 (by omega) w.2.2,h6,h7⟩
 |take=>
  have hi':i<C.things.length:=hi
  have ho:bit s.tk i=false:=by
   simp only[canB,List.getElem?_eq_getElem hi',Bool.and_eq_true,Bool.not_eq_true'] at hb
   exact hb.2
  refine⟨h1,qaS h2.1 h2.2 hi' ho,h3,h4,h5,h6,fun k k0 k1=>?_⟩
  show 0<=hold C (s.tk+2 ^ i) s.op k
  rw[q8t h2.1 hi' ho]
  have:=h7 k k0 k1
  split<;>omega
 |turn=>
  have hi':i<C.wheels.length:=hi
  have w:=ok.wh _ (List.getElem_mem hi')
  simp only[q2d,List.getElem?_eq_getElem hi']
  exact⟨h1,h2,h3,h4,h5,w.2,h7⟩
 |unlock=>
  have hi':i<C.ways.length:=hi
  have eds:dsOf C i=C.ways[i].g.dk:=by simp[dsOf,hi']
  cases hk:C.ways[i].g.dk with
  |none=>simp[canB,hi',hk] at hb
  |some kd=>
   simp only[canB,List.getElem?_eq_getElem hi',hk,Bool.and_eq_true,Bool.not_eq_true',decide_eq_true_eq] at hb
   refine⟨h1,h2,qaS h3.1 h3.2 hi' hb.1.2,fun j hj hbj=>?_,h5,h6,fun k k0 k1=>?_⟩
   ·replace hbj:bit (s.op+2 ^ i) j=true:=hbj
    rw[q2P h3.1 hb.1.2] at hbj
    by_cases e:i=j
    ·rw [<-e,eds,hk];rfl
    ·have:bit s.op j=true:=by simpa[e] using hbj
     exact h4 j hj this
   ·show 0<=hold C s.tk (s.op+2 ^ i) k
    rw[q68 h3.1 hi' hb.1.2,hk]
    have:=h7 k k0 k1
    by_cases e:kd=k
    ·rw [if_pos (by rw[e]),<-e];omega
    ·rw [if_neg (by intro z;exact e (Option.some.inj z))];omega
def rowD (d:Wd)(n:Nat):List (Wd×Nat):=(List.range n).map fun i=>(d,i)
theorem q4p (d:Wd)(n:Nat):(rowD d n).length=n:=by simp[rowD]
theorem q7R (d:Wd)(n:Nat):rowD d (n+1)=rowD d n++[(d,n)]:=by simp[rowD,List.range_succ]
def allD (C:Cl):List (Wd×Nat):=rowD .go C.ways.length++rowD .pull C.levers.length++rowD .take C.things.length++rowD .turn C.wheels.length++rowD .unlock C.ways.length
def fitD (C:Cl)(s:Sd):List (Wd×Nat):=(allD C).filter fun x=>canD C s x.1 (x.2:Int)
theorem q6Q {C:Cl}(ok:ClOk C):(allD C).length<=56:=by
 have:=ok.wl
 have:=ok.tl
 have:=ok.ll
 have:=ok.vl
 simp only[allD,List.length_append,q4p]
 omega
theorem q3d {C:Cl}(ok:ClOk C)(s:Sd):(fitD C s).length<=56:=Nat.le_trans (List.length_filter_le _ _) (q6Q ok)
theorem qa1 {d d':Wd}{n i:Nat}:(d',i)∈rowD d n↔d'=d/\i<n:=by
 simp only[rowD,List.mem_map,List.mem_range,Prod.mk.injEq]
 constructor
 ·rintro ⟨j,h,rfl,rfl⟩;exact⟨rfl,h⟩
 ·rintro ⟨rfl,h⟩;exact⟨i,h,rfl,rfl⟩
theorem qa2 {C:Cl}{d:Wd}{i:Nat}:(d,i)∈allD C↔i<C.num d:=by
 simp only[allD,List.mem_append,qa1]
 cases d<;>simp[Cl.num]
theorem q4v {C:Cl}{s:Sd}{d:Wd}{i:Nat}:(d,i)∈fitD C s↔canD C s d (i:Int)=true:=by
 simp only[fitD,List.mem_filter,qa2]
 constructor
 ·exact fun h=>h.2
 ·intro h
  obtain⟨_,j,e,hj,_⟩:=q0p h
  have:i=j:=by omega
  exact⟨by rw[this];exact hj,h⟩
theorem go_of {C:Cl}{s:Sd}{i:Nat}(hc:canD C s .go (i:Int)=true):∃x,C.ways[i]? =some x/\q2u x s.rm=true/\qa4 x.g (hold C s.tk s.op) (bit s.op i) s.b s.wt=true/\¬s.rm=C.lst/\q0o C s .go (i:Int)={s with rm:=if s.rm=x.a then x.b else x.a}:=by
 obtain⟨hl,j,e,hi,hb⟩:=q0p hc
 have e':i=j:=by omega
 subst e'
 have hi':i<C.ways.length:=hi
 have hx:C.ways[i]? =some C.ways[i]:=List.getElem?_eq_getElem hi'
 simp only[canB,hx,Bool.and_eq_true] at hb
 exact⟨C.ways[i],hx,hb.1,hb.2,hl,by unfold q0o;rw[Int.toNat_natCast];simp[q2d,hi']⟩
theorem q9d {x y:Int}(hx:0<=x)(hx':x<=255)(hy:0<=y)(hy':y<=255):Builtin.bitXor (Builtin.bitXor x y) y=x:=by
 have h:=q4K hx hx' hy hy'
 rw[q5P h.1 hy,q5P hx hy,Int.toNat_natCast,Nat.xor_assoc,Nat.xor_self,Nat.xor_zero]
 omega
theorem qbn {C:Cl}{s:Sd}{i:Nat}(hc:canD C s .pull (i:Int)=true):∃x,C.levers[i]? =some x/\s.rm=x.1/\¬s.rm=C.lst/\q0o C s .pull (i:Int)={s with b:=Builtin.bitXor s.b x.2}:=by
 obtain⟨hl,j,e,hi,hb⟩:=q0p hc
 have e':i=j:=by omega
 subst e'
 have hi':i<C.levers.length:=hi
 have hx:C.levers[i]? =some C.levers[i]:=List.getElem?_eq_getElem hi'
 simp only[canB,hx,decide_eq_true_eq] at hb
 exact⟨C.levers[i],hx,hb,hl,by unfold q0o;rw[Int.toNat_natCast];simp[q2d,hi']⟩
theorem qb2 {C:Cl}{s:Sd}{i:Nat}(hc:canD C s .take (i:Int)=true):∃x,C.things[i]? =some x/\q0o C s .take (i:Int)={s with tk:=s.tk+2 ^ i}:=by
 obtain⟨hl,j,e,hi,hb⟩:=q0p hc
 have e':i=j:=by omega
 subst e'
 have hi':i<C.things.length:=hi
 exact⟨C.things[i],List.getElem?_eq_getElem hi',by unfold q0o;rw[Int.toNat_natCast];rfl⟩
theorem qb0 {C:Cl}{s:Sd}{i:Nat}(hc:canD C s .turn (i:Int)=true):∃x,C.wheels[i]? =some x/\¬s.wt=x.2/\q0o C s .turn (i:Int)={s with wt:=x.2}:=by
 obtain⟨hl,j,e,hi,hb⟩:=q0p hc
 have e':i=j:=by omega
 subst e'
 have hi':i<C.wheels.length:=hi
 have hx:C.wheels[i]? =some C.wheels[i]:=List.getElem?_eq_getElem hi'
 simp only[canB,hx,Bool.and_eq_true,Bool.not_eq_true',decide_eq_false_iff_not] at hb
 exact⟨C.wheels[i],hx,hb.2,by unfold q0o;rw[Int.toNat_natCast];simp[q2d,hi']⟩
theorem q7v {C:Cl}{s:Sd}{i:Nat}(hc:canD C s .unlock (i:Int)=true):∃x kd,C.ways[i]? =some x/\x.g= .door kd/\q0o C s .unlock (i:Int)={s with op:=s.op+2 ^ i}:=by
 obtain⟨hl,j,e,hi,hb⟩:=q0p hc
 have e':i=j:=by omega
 subst e'
 have hi':i<C.ways.length:=hi
 cases hg:C.ways[i].g with
 |door kd=>exact⟨C.ways[i],kd,List.getElem?_eq_getElem hi',hg,by unfold q0o;rw[Int.toNat_natCast];rfl⟩
 |_=>simp[canB,hi',hg,Gt.dk] at hb
end Ce
namespace L2
open PySem PySem.Spec PyProof.Rows
section
variable {X:Cx}{o e:Expr}{es:List Expr}{m:Str}{apos pos:Pos}{k k':Nat}{ta:TE}{t:TA}
theorem qaF {pl:Sem Bool}(P:Program)(w:World)(K:PySem.W.Frag)(mg:Str->Option Value)(base:Heap)(hr:Room k' X.A)(hk:k<=k')(he:PE X o ta)(ha:PA X (e::es) t)
  (e1:X.prog=P:=by rfl)(e2:X.w=w:=by rfl)(e3:X.K=K:=by rfl)(e4:X.mg=mg:=by rfl)(e5:X.base=base:=by rfl)
  (hst:starEach (e::es) X.env=(false,eval e X.env)::starEach es X.env:=by rfl)(hpl:(backTo pos (starEach es X.env)).any (·.1)=false:=by rfl)
  (ht:eval (.Call (.Attribute o m apos) (e::es) [] pos) X.env=(do
   let ov<-eval o X.env
   standAt apos.atName
   let (f,first)<-holding [ov] (getMethod ov m pl)
   callWith pos f first (backTo pos (starEach (e::es) X.env)) (backToKw pos (keywordEach [] X.env))):=by rfl):
  PE X (.Call (.Attribute o m apos) (e::es) [] pos) (tVM P w K mg base k m ta t):=by
 subst e1 e2 e3 e4 e5
 exact q2G (hr.mono hk) he ha hst hpl ht
theorem q82 {pl:Sem Bool}(P:Program)(w:World)(K:PySem.W.Frag)(mg:Str->Option Value)(base:Heap)(hr:Room k' X.A)(hk:k<=k')(he:PE X o ta)
  (e1:X.prog=P:=by rfl)(e2:X.w=w:=by rfl)(e3:X.K=K:=by rfl)(e4:X.mg=mg:=by rfl)(e5:X.base=base:=by rfl)
  (ht:eval (.Call (.Attribute o m apos) [] [] pos) X.env=(do
   let ov<-eval o X.env
   standAt apos.atName
   let (f,first)<-holding [ov] (getMethod ov m pl)
   callWith pos f first (backTo pos (starEach [] X.env)) (backToKw pos (keywordEach [] X.env))):=by rfl):
  PE X (.Call (.Attribute o m apos) [] [] pos) (tVM P w K mg base k m ta tNil):=by
 subst e1 e2 e3 e4 e5
 exact pe_vm0 (hr.mono hk) he ht
end
end L2
namespace L2
open PySem PySem.Spec PyProof.Rows
end L2
namespace L2
open PySem PySem.Spec PyProof.Rows
end L2
namespace L2
open PySem PySem.Spec PyProof.Rows
end L2
namespace L2
open PySem PySem.Spec PyProof.Rows
end L2
namespace L2
open PySem PySem.Spec PyProof.Rows
end L2
namespace L2
open PySem PySem.Spec PyProof.Rows
end L2
namespace L2
open PySem PySem.Spec PyProof.Rows
end L2
namespace L2
open PySem PySem.Spec PyProof.Rows
end L2
namespace L2
open PySem PySem.Spec PyProof.Rows
end L2
namespace L2
open PySem PySem.Spec PyProof.Rows
end L2
namespace L2
open PySem PySem.Spec PyProof.Rows
section
variable {κ:Type}[DecidableEq κ]
def valV (kvs:List (κ×V))(k:κ):Option V:=(kvs.find? fun kv=>decide (kv.1=k)).map (·.2)
def putK (kvs:List (κ×V))(k:κ)(v:V):List (κ×V):=
 if (kvs.any fun kv=>decide (kv.1=k))=true then kvs.map (fun kv=>if kv.1=k then(kv.1,v) else kv) else kvs++[(k,v)]
theorem q32 {p:κ×V}{r:List (κ×V)}{k:κ}(e:p.1=k):valV (p::r) k=some p.2:=by simp[valV,List.find?_cons,e]
theorem q33 {p:κ×V}{r:List (κ×V)}{k:κ}(e:¬p.1=k):valV (p::r) k=valV r k:=by simp[valV,List.find?_cons,e]
theorem q34 (k:κ):∀kvs:List (κ×V),(kvs.any fun kv=>decide (kv.1=k))=(valV kvs k).isSome
 |[]=>rfl
 |p::r=>by
  rw[List.any_cons]
  by_cases e:p.1=k
  ·simp only[q32 e,decide_eq_true e,Bool.true_or,Option.isSome_some]
  ·rw [q33 e,decide_eq_false e,Bool.false_or];exact q34 k r
theorem q3w (kvs:List (κ×V))(k:κ)(v:V):(putK kvs k v).length<=kvs.length+1:=by
 unfold putK
 split
 ·rw [List.length_map];omega
 ·rw [List.length_append,List.length_cons,List.length_nil];omega
theorem RelO.isSome_eq {o:Option V}{u:Option Value}(r:RelO o u):o.isSome=u.isSome:=by
 cases o with
 |none=>cases u with
  |none=>rfl
  |some _=>exact(show False from r).elim
 |some _=>cases u with
  |none=>exact(show False from r).elim
  |some _=>rfl
theorem KV.val {kvs:List (κ×V)}{vs:List (κ×Value)}(r:KV kvs vs)(k:κ):RelO (valV kvs k) (valueAt vs k):=by
 unfold KV at r
 induction r with
 |nil=>exact True.intro
 | @cons p q ps qs h t ih=>
  obtain⟨h1,h2⟩:=h
  by_cases e:p.1=k
  ·have e':q.1=k:=h1.symm.trans e
   have b:valueAt (q::qs) k=some q.2:=by simp[valueAt,List.find?_cons,e']
   rw[q32 e,b];exact h2
  ·have e':¬q.1=k:=fun z=>e (h1.trans z)
   have b:valueAt (q::qs) k=valueAt qs k:=by simp[valueAt,List.find?_cons,e']
   rw[q33 e,b];exact ih
theorem KV.any {kvs:List (κ×V)}{vs:List (κ×Value)}(r:KV kvs vs)(k:κ):(kvs.any fun kv=>decide (kv.1=k))=vs.any fun kv=>decide (kv.1=k):=by
 unfold KV at r
 induction r with
 |nil=>rfl
 |cons h t ih=>rw[List.any_cons,List.any_cons,ih,h.1]
theorem KV.repl {kvs:List (κ×V)}{vs:List (κ×Value)}(r:KV kvs vs)(k:κ){y:V}{u:Value}(ry:RelV y u):
  KV (kvs.map fun kv=>if kv.1=k then(kv.1,y) else kv) (vs.map fun kv=>if kv.1=k then(kv.1,u) else kv):=by
 unfold KV at r ⊢
 induction r with
 |nil=>exact .nil
 | @cons p q ps qs h t ih=>
  rw[List.map_cons,List.map_cons]
  refine .cons ?_ ih
  obtain⟨h1,h2⟩:=h
  by_cases e:p.1=k
  ·rw [if_pos e,if_pos (h1.symm.trans e)];exact⟨h1,ry⟩
  ·rw [if_neg e,if_neg (fun z=>e (h1.trans z))];exact⟨h1,h2⟩
theorem KV.put {kvs:List (κ×V)}{vs:List (κ×Value)}(r:KV kvs vs)(k:κ){y:V}{u:Value}(ry:RelV y u):KV (putK kvs k y) (stored vs k u):=by
 unfold putK stored
 rw[r.any k]
 by_cases e:(vs.any fun kv=>decide (kv.1=k))=true
 ·rw [if_pos e,if_pos e];exact r.repl k ry
 ·rw [if_neg e,if_neg e];exact Paired.snoc r ⟨rfl,ry⟩
theorem KV.length {kvs:List (κ×V)}{vs:List (κ×Value)}(r:KV kvs vs):kvs.length=vs.length:=Paired.length r
end
theorem qa7 {P:Program}{w:World}{k:Key}{u:Value}(r:RelV (kV k) u):(qJ P w).is k u=true:=by
 cases k with
 |inl i=>obtain⟨t,e⟩:=(show∃t,u=Value.int i t from r);subst e;exact q65 P w i t
 |inr x=>obtain⟨t,e⟩:=(show∃t,u=Value.str x t from r);subst e;exact q64 P w x t
theorem q5u {P:Program}{w:World}:∀{ks:List Key} {us:List Value},Vals (ks.map kV) us->ItemsAre (qJ P w) ks us
 |[],_,r=>by rw[List.map_nil] at r;cases r;exact .nil
 |k::ks,_,r=>by
  rw[List.map_cons] at r
  cases r with
  |cons h t=>exact .cons (qa7 h) (q5u t)
abbrev KT (H:Hp):List (List Key×V)->List (List Key×Addr×Value)->Prop:=Paired fun p q=>p.1=q.1/\H q.2.1=some (.tup (p.1.map kV))/\RelV p.2 q.2.2
theorem KT.val {H:Hp}{kvs:List (List Key×V)}{xs:List (List Key×Addr×Value)}(r:KT H kvs xs)(k:List Key):RelO (valV kvs k) ((atKey xs k).map (·.2)):=by
 induction r with
 |nil=>exact True.intro
 | @cons p q ps qs h t ih=>
  obtain⟨h1,_,h2⟩:=h
  by_cases e:p.1=k
  ·have e':q.1=k:=h1.symm.trans e
   have b:atKey (q::qs) k=some q.2:=by simp[atKey,List.find?_cons,e']
   rw[q32 e,b];exact h2
  ·have e':¬q.1=k:=fun z=>e (h1.trans z)
   have b:atKey (q::qs) k=atKey qs k:=by simp[atKey,List.find?_cons,e']
   rw[q33 e,b];exact ih
theorem KT.repl {H:Hp}{kvs:List (List Key×V)}{xs:List (List Key×Addr×Value)}(r:KT H kvs xs)(k:List Key){y:V}{u:Value}(ry:RelV y u):
  KT H (kvs.map fun kv=>if kv.1=k then(kv.1,y) else kv) (xs.map (putAt k u)):=by
 induction r with
 |nil=>exact .nil
 | @cons p q ps qs h t ih=>
  rw[List.map_cons,List.map_cons]
  refine .cons ?_ ih
  obtain⟨h1,h2,h3⟩:=h
  unfold putAt
  by_cases e:p.1=k
  ·rw [if_pos e,if_pos (h1.symm.trans e)];exact⟨h1,h2,ry⟩
  ·rw [if_neg e,if_neg (fun z=>e (h1.trans z))];exact⟨h1,h2,h3⟩
theorem KT.put {H:Hp}{kvs:List (List Key×V)}{xs:List (List Key×Addr×Value)}(r:KT H kvs xs)(k:List Key){b:Addr}{y:V}{u:Value}(hb:H b=some (.tup (k.map kV)))(ry:RelV y u):
  KT H (putK kvs k y) (storedH xs k b u):=by
 have e:(kvs.any fun kv=>decide (kv.1=k))=(atKey xs k).isSome:=by
  rw[q34,(r.val k).isSome_eq,Option.isSome_map]
 unfold putK storedH
 rw[e]
 by_cases q:(atKey xs k).isSome=true
 ·rw [if_pos q,if_pos q];exact r.repl k ry
 ·rw [if_neg q,if_neg q];exact Paired.snoc r ⟨rfl,hb,ry⟩
theorem KT.keeps {H H':Hp}{kvs:List (List Key×V)}{xs:List (List Key×Addr×Value)}(r:KT H kvs xs)(ht:∀b ys,H b=some (.tup ys)->H' b=some (.tup ys)):KT H' kvs xs:=
 Paired.mapP r fun _ _ z=>⟨z.1,ht _ _ z.2.1,z.2.2⟩
section
variable {P:Program}{w:World}{H:Hp}{h:Heap}{a:Addr}
theorem rd_of {u:HO}(ok:HOk P w H h)(e:Rd H a u):q0a P w H h a u:=e.ok ok
theorem qam {kvs:List (Key×V)}(ok:HOk P w H h)(e:Rd H a (.dK kvs)):kvs.length<=sizeLine/\(a==sysModules)=false/\∃vs,KV kvs vs/\h.DictOf (qJ P w) a vs:=
 show q0a P w H h a (.dK kvs) from rd_of ok e
theorem dk_of {kvs:List (Key×V)}(ok:HOk P w H h)(e:H a=some (.dK kvs)):kvs.length<=sizeLine/\(a==sysModules)=false/\∃vs,KV kvs vs/\h.DictOf (qJ P w) a vs:=qam ok (.inl e)
theorem q2W {ks:List Key}(ok:HOk P w H h)(e:H a=some (.tup (ks.map kV))):(tupleKind (qJ P w)).is h ks a:=by
 obtain⟨_,its,r,o,h1,h2,n,h3⟩:=(show q0a P w H h a (.tup (ks.map kV)) from ok a _ e)
 exact⟨o,its.toArray,n,h1,h2,h3,by simpa using q5u r⟩
theorem qal {kvs:List (List Key×V)}(ok:HOk P w H h)(e:Rd H a (.dT kvs)):kvs.length<=sizeLine/\(a==sysModules)=false/\
  ∃xs,KT H kvs xs/\h.DictOfH (tupleKind (qJ P w)) a xs:=by
 obtain⟨z,y,xs,r,o,es,ep,h1,h2,h3,h4,h5⟩:=(show q0a P w H h a (.dT kvs) from rd_of ok e)
 refine⟨z,y,xs,r,o,es,ep,h1,h2,h3,h4,fun x hx=>?_,h5⟩
 have all:∀{l:List (List Key×V)} {m:List (List Key×Addr×Value)},KT H l m->∀x∈m,(tupleKind (qJ P w)).is h x.1 x.2.1:=by
  intro l m q
  induction q with
  |nil=>intro x hx;exact nomatch hx
  | @cons p q ps qs hq t ih=>
   intro x hx
   rcases List.mem_cons.mp hx with e|hx
   ·subst e
    exact q2W ok (by rw[<-hq.1];exact hq.2.1)
   ·exact ih x hx
 exact all r x hx
theorem dt_of {kvs:List (List Key×V)}(ok:HOk P w H h)(e:H a=some (.dT kvs)):kvs.length<=sizeLine/\(a==sysModules)=false/\
  ∃xs,KT H kvs xs/\h.DictOfH (tupleKind (qJ P w)) a xs:=qal ok (.inl e)
end
def DGet (H:Hp)(a:Addr)(y:V)(r:Option V):Prop:=
 (∃kvs k,Rd H a (.dK kvs)/\y=kV k/\r=valV kvs k)\/∃kvs k b,Rd H a (.dT kvs)/\y= .ref b/\H b=some (.tup (k.map kV))/\r=valV kvs k
def DPut (H:Hp)(a:Addr)(y v:V)(H':Hp):Prop:=
 (∃kvs k,H a=some (.dK kvs)/\y=kV k/\kvs.length<sizeLine/\H'=upd H a (.dK (putK kvs k v)))\/
 ∃kvs k b,H a=some (.dT kvs)/\y= .ref b/\H b=some (.tup (k.map kV))/\kvs.length<sizeLine/\H'=upd H a (.dT (putK kvs k v))
theorem DPut.t {H:Hp}{a b:Addr}{kvs:List (List Key×V)}{k:List Key}{v:V}(e:H a=some (.dT kvs))(eb:H b=some (.tup (k.map kV)))(hl:kvs.length<sizeLine):
  DPut H a (.ref b) v (upd H a (.dT (putK kvs k v))):= .inr ⟨kvs,k,b,e,rfl,eb,hl,rfl⟩
section
variable {X:Cx}{pins:List (Addr×Obj)}{σ:St}{H:Hp}{s:Shared}{a:Addr}{y v:V}{u r:Value}{o:Option V}{A:Around}{E:Value->Shared->Prop}
theorem Inv.big (I:Inv X pins σ H s):sysModules<s.heap.objs.size:=by
 have h:mainGlobals<s.heap.objs.size:=(I.mod.glob.keeps I.bk).lt
 exact Nat.lt_trans (by decide) h
theorem q8P {Q:Value->Shared->Prop}(hu:A.units+1<cLine)(I:Inv X pins σ H s)(g:DGet H a y (some v))(ry:RelV y u)(h:∀w' s',Inv X pins σ H s'->RelV v w'->Q w' s'):
  wpAny (model X.prog X.w) A (getItem (.ref a) u) Q E s:=by
 rcases g with⟨kvs,k,e,ey,l⟩|⟨kvs,k,b,e,ey,eb,l⟩
 ·subst ey
  obtain⟨z,hd,vs,rel,dd⟩:=qam I.hok e
  obtain⟨w',hw,rw'⟩:=RelO.some_of (v:=v) (o:=valueAt vs k) (by rw[l];exact rel.val k)
  exact wpAny_getItem_of (qa7 ry) dd.mapOf hw (h w' _ (I.tok _) rw')
 ·subst ey
  cases(show u=Value.ref b from ry)
  obtain⟨z,hd,xs,rel,dd⟩:=qal I.hok e
  obtain⟨w',hw,rw'⟩:=RelO.some_of (v:=v) (o:=(atKey xs k).map (·.2)) (by rw[l];exact rel.val k)
  obtain⟨p,hp,hp2⟩:=Option.map_eq_some_iff.mp hw
  refine wpAny_getItem_heap (tupleKind_room_in1 hu) (q2W I.hok eb) dd hp ?_
  rw[hp2]
  exact h w' _ (I.tok _) rw'
theorem qc6 {Q:Value->Shared->Prop}(hu:A.units+1<cLine)(I:Inv X pins σ H s)(g:DGet H a y o)(ry:RelV y u)(h:∀s',Inv X pins σ H s'->Q (.bool (!o.isSome)) s'):
  wpAny (model X.prog X.w) A (compareOp .NotIn u (.ref a)) Q E s:=by
 rcases g with⟨kvs,k,e,ey,l⟩|⟨kvs,k,b,e,ey,eb,l⟩
 ·subst ey
  obtain⟨z,hd,vs,rel,dd⟩:=qam I.hok e
  refine wpAny_notIn_of (qa7 ry) hd dd.mapOf ?_
  rw[<-(rel.val k).isSome_eq,<-l]
  exact h _ (I.tok _)
 ·subst ey
  cases(show u=Value.ref b from ry)
  obtain⟨z,hd,xs,rel,dd⟩:=qal I.hok e
  refine wpAny_notIn_heap (tupleKind_room_in1 hu) (q2W I.hok eb) hd dd ?_
  have q:=(rel.val k).isSome_eq
  rw[Option.isSome_map] at q
  rw[<-q,<-l]
  exact h _ (I.tok _)
theorem q6c {h':Heap}{t':Nat}{ob:HO}(I:Inv X pins σ H s)(mu:Mut (H a))(hs:Heap.SameBut a s.heap h')(he:∃q,h'.get? a=some q)(new:q0a X.prog X.w (upd H a ob) h' a ob):
  Inv X pins σ (upd H a ob) {s with heap:=h',toks:=t'}:=
 I.write (x:=a) (e:=a) mu (.inl rfl) (fun b q hb z=>(hs.2 b hb).trans z) he new
theorem dk_new {P:Program}{w:World}{H':Hp}{h':Heap}{kvs:List (Key×V)}{vs:List (Key×Value)}(z:kvs.length<=sizeLine)(hd:(a==sysModules)=false)(rel:KV kvs vs)(dd:h'.DictOf (qJ P w) a vs):
  q0a P w H' h' a (.dK kvs):=⟨z,hd,vs,rel,dd⟩
theorem q8O {H':Hp}{Q:Unit->Shared->Prop}(hu:A.units+1<cLine)(I:Inv X pins σ H s)(g:DPut H a y v H')(ry:RelV y u)(rv:RelV v r)(h:∀s',Inv X pins σ H' s'->Q () s'):
  wpAny (model X.prog X.w) A (setItem (.ref a) u r) Q E s:=by
 rcases g with⟨kvs,k,e,ey,l,eH⟩|⟨kvs,k,b,e,ey,eb,l,eH⟩
 ·subst ey eH
  obtain⟨z,hd,vs,rel,dd⟩:=dk_of I.hok e
  have hz:vs.length<=sizeLine:=by rw[<-rel.length];exact z
  have hl:(putK kvs k v).length<=sizeLine:=by have:=q3w kvs k v;omega
  refine wpAny_setItem_pairs (hsz:=hz) (qa7 ry) dd fun h' dd' hs=>h _ ?_
  have he:∃q,h'.get? a=some q:=let ⟨q,_,_,hq,_⟩:=dd';⟨q,hq⟩
  exact q6c I (by rw[e];exact True.intro) hs he (dk_new hl hd (rel.put k rv) dd')
 ·subst ey eH
  cases(show u=Value.ref b from ry)
  obtain⟨z,hd,xs,rel,dd⟩:=dt_of I.hok e
  have hz:xs.length<=sizeLine:=by rw[<-Paired.length rel];exact z
  have hl:(putK kvs k v).length<=sizeLine:=by have:=q3w kvs k v;omega
  refine wpAny_setItem_heap (hsz:=hz) (tupleKind_room_in1 hu) (q2W I.hok eb) dd fun h' dd' hs=>h _ ?_
  obtain⟨q,es,ep,hq,h2,h3,h4,_,h5⟩:=dd'
  refine q6c I (by rw[e];exact True.intro) hs ⟨q,hq⟩ ⟨hl,hd,_,(rel.put k eb rv).keeps fun c ys ec=>?_,q,es,ep,hq,h2,h3,h4,h5⟩
  rw[qj (q2H ec e (fun z=>nomatch z))]
  exact ec
end
def NoSl (i:Expr):Prop:=∀ov iv,subscripted i false ov iv=operate [ov,iv] (getItem ov iv)
theorem qb4 {prog:Program}{w:World}{A:Around}{E:Value->Shared->Prop}{s:Shared}{env:Env}{value slice:Expr}{pos:Pos}{T id:String}{Q:Value->Shared->Prop}
  (hl:typeLookup (.type T) "__getitem__"=pure (some (.builtin id)))(hs:NoSl slice)
  (h:wpAny (model prog w) A (eval value env) (fun o s₁=>wpAny (model prog w) A (eval slice env) (fun i s₂=>s₂.TypeIs o T/\wpAny (model prog w) A (getItem o i) Q E s₂) E s₁) E s):
  wpAny (model prog w) A (eval (.Subscript value slice pos) env) Q E s:=by
 refine Subscript_ (wpAny_mono h (fun o s₁ h₁=>wpAny_mono h₁ (fun i s₂ h₂=>?_) fun _ _ x=>x) fun _ _ x=>x)
 obtain⟨hT,h₂⟩:=h₂
 unfold subscriptTail
 refine wpAny_bind ?_
 rw[getitemInPython_of_ne hT.not_modules]
 refine wpAny_bind (wpAny_specialOf hT hl ?_)
 have fin:wpAny (model prog w) A (subscripted slice false o i) (fun r s₃=>wpAny (model prog w) A (letTemporaryGo value o r >>= fun _=>pure r) Q E s₃) E s₂:=by
  rw[hs o i]
  exact wpAny_operating (wpAny_mono h₂ (fun r s₃ h₃=>wpAny_bind (wpAny_letTemporaryGo (wpAny_pure h₃))) fun _ _ x=>x)
 first
  |exact wpAny_pure (wpAny_bind fin)
  |exact wpAny_bind (wpAny_pure (wpAny_bind fin))
  |exact wpAny_bind fin
theorem q6b {X:Cx}{pins:List (Addr×Obj)}{σ:St}{H:Hp}{s:Shared}{a:Addr}{y:V}{o:Option V}(I:Inv X pins σ H s)(g:DGet H a y o):s.TypeIs (.ref a) "dict":=by
 rcases g with⟨kvs,k,e,_,_⟩|⟨kvs,k,b,e,_,_,_⟩
 ·obtain ⟨_,_,vs,_,dd⟩:=qam I.hok e
  exact dd.typeIs
 ·obtain ⟨_,_,xs,_,dd⟩:=qal I.hok e
  exact dd.typeIs
def tDGet (td ty:TE):TE:=fun σ H Q=>td σ H fun x H1=>ty σ H1 fun y H2=>∃a v,x= .ref a/\DGet H2 a y (some v)/\Q v H2
def q7C (ty td:TE):TE:=fun σ H Q=>ty σ H fun y H1=>td σ H1 fun x H2=>∃a o,x= .ref a/\DGet H2 a y o/\Q (.bl (!o.isSome)) H2
def sDPut (td ty tv:TE):TS:=fun D σ H=>tv σ H fun v H1=>td σ H1 fun x H2=>ty σ H2 fun y H3=>∃a H4,x= .ref a/\DPut H3 a y v H4/\D.nx σ H4
section
variable {X:Cx}{o i e value:Expr}{pos pos' tpos:Pos}{td ty tv:TE}
theorem q4t (hu:X.A.units+1<cLine)(ho:PE X o td)(hi:PE X i ty)(hs:NoSl i):PE X (.Subscript o i pos) (tDGet td ty):=by
 intro pins s σ H Q I h
 refine qb4 PySem.F.slot_dict_getitem.lookup hs (thn (ho pins s σ H _ I h) fun u s1 ⟨x,H1,I1,rx,q1⟩=>thn (hi pins s1 σ H1 _ I1 q1) fun iv s2 ⟨y,H2,I2,ry,a,v,ex,g,q2⟩=>?_)
 subst ex
 obtain rfl:u=Value.ref a:=rx
 exact⟨q6b I2 g,q8P hu I2 g ry fun w' s3 I3 rw'=>⟨v,H2,I3,rw',q2⟩⟩
theorem q3q (hu:X.A.units+1<cLine)(hi:PE X i ty)(ho:PE X o td):PC X .NotIn i o (q7C ty td):=by
 intro pins s σ H Q I h
 refine thn (hi pins s σ H _ I h) fun iv s1 ⟨y,H1,I1,ry,q1⟩=>thn (ho pins s1 σ H1 _ I1 q1) fun u s2 ⟨x,H2,I2,rx,a,ov,ex,g,q2⟩=>?_
 subst ex
 obtain rfl:u=Value.ref a:=rx
 exact qc6 hu I2 g ry fun s3 I3=>⟨.bl (!ov.isSome),H2,I3,rfl,q2⟩
theorem q2F (hu:X.A.units+1<cLine)(ho:PE X o td)(hi:PE X i ty)(hv:PE X value tv)(hs:swapsWith value (some (.Subscript o i pos')) pos.line X.env=pure false):
  PS X (.Assign [.Subscript o i pos'] value pos) (sDPut td ty tv):=by
 intro pins s σ H D I h
 refine wpAny_Assign_Subscript (thn (hv pins s σ H _ I h) fun r s1 ⟨v,H1,I1,rv,q1⟩=>thn (ho pins s1 σ H1 _ I1 q1) fun u s2 ⟨x,H2,I2,rx,q2⟩=>thn (hi pins s2 σ H2 _ I2 q2) fun iv s3 ⟨y,H3,I3,ry,a,H4,ex,g,q3⟩=>?_) hs
 subst ex
 obtain rfl:u=Value.ref a:=rx
 exact q8O hu I3 g ry rv fun s4 I4=>⟨σ,H4,I4,q3⟩
end
theorem q6H {P:Program}{w:World}{H:Hp}(h:Heap)(hb:sysModules<h.objs.size):q0a P w H (h.push {cls:= .type "dict",data:= .dict #[]}) h.objs.size (.dT []):=
 ⟨Nat.zero_le _,beq_eq_false_iff_ne.mpr (Ne.symm (Nat.ne_of_lt hb)),[],.nil,_,#[],0,Heap.get?_push_size _ rfl,⟨rfl,rfl,rfl⟩,rfl,rfl,List.nodup_nil⟩
def qau:TE:=fun _ H Q=>∀p,H p=none->Q (.ref p) (upd H p (.dT []))
section
variable {X:Cx}{pos:Pos}
theorem q4s:PE X (.Dict [] [] pos) qau:=fun pins s σ H Q I h=>
 wpAny_Dict_empty ⟨.ref s.heap.objs.size,_,I.laid (a:=s.heap.objs.size) (o:= .dT []) (t':=s.toks) (fun _ _ q=>Heap.get?_push_of_some _ q) (Nat.le_refl _) (q6H s.heap I.big),rfl,h _ (I.hok.fresh (Nat.le_refl _))⟩
end
def qat:List (TE×TE)->St->Hp->(List (V×V)->Hp->Prop)->Prop
 |[],_,H,Q=>Q [] H
 |(tk,tv)::r,σ,H,Q=>tk σ H fun x H1=>tv σ H1 fun y H2=>qat r σ H2 fun ps H3=>Q ((x,y)::ps) H3
abbrev VV:List (V×V)->List (Value×Value)->Prop:=Paired fun p q=>RelV p.1 q.1/\RelV p.2 q.2
def PPs (X:Cx)(pos:Pos)(keys:List (Option Expr))(values:List Expr)(trs:List (TE×TE)):Prop:=
 ∀(pins:List (Addr×Obj)) (s:Shared) (σ:St) (H:Hp) (Q:List (V×V)->Hp->Prop),Inv X pins σ H s->qat trs σ H Q->
  wpAny (model X.prog X.w) X.A (evalPairs (pairTrees keys values X.env pos)) (fun vs s'=>∃ps H',Inv X pins σ H' s'/\VV ps vs/\Q ps H') X.xe s
theorem qbq {X:Cx}{pos:Pos}:PPs X pos [] [] []:=fun pins s σ H Q I h=>pairTrees_nil_walk ⟨[],H,I,.nil,h⟩
theorem q9x {X:Cx}{pos:Pos}{k v:Expr}{ks:List (Option Expr)}{vs:List Expr}{tk tv:TE}{trs:List (TE×TE)}(hk:PE X k tk)(hv:PE X v tv)(hr:PPs X pos ks vs trs):
  PPs X pos (some k::ks) (v::vs) ((tk,tv)::trs):=fun pins s σ H Q I h=>
 pairTrees_cons_walk (thn (hk pins s σ H _ I h) fun u s1 ⟨x,H1,I1,rx,q1⟩=>thn (hv pins s1 σ H1 _ I1 q1) fun w2 s2 ⟨y,H2,I2,ry,q2⟩=>
  thn (hr pins s2 σ H2 _ I2 q2) fun ws s3 ⟨ps,H3,I3,rel,q3⟩=>⟨(x,y)::ps,H3,I3,.cons ⟨rx,ry⟩ rel,q3⟩)
end L2
namespace Att
open PySem PySem.W PySem.Calls PyProof.Rows
end Att
namespace L2
open PySem PySem.Spec PyProof.Rows
end L2
namespace L2
open PySem PySem.Spec PyProof.Rows
end L2
namespace L2
open PySem PySem.Spec PyProof.Rows
end L2
namespace L2
open PySem PySem.Spec PyProof.Rows
end L2
namespace DI
open PySem PyProof.Rows
section
variable {prog:Program}{w:World}{A:Around}{E:Value->Shared->Prop}{s:Shared}{d it v:Addr}{o:Obj}{es:Array DictEntry}{ep i:Nat}
theorem ty (ho:s.heap.get? d=some o)(hx:o.ExactDict):s.TypeIs (.ref d) "dict":=⟨o,ho,hx.1⟩
theorem keys {Q:Value->Shared->Prop}(hd:(d==sysModules)=false)(ho:s.heap.get? d=some o)(hx:o.ExactDict)(hdat:o.data= .dict es ep)
  (hQ:Q (.ref s.heap.objs.size) {s with heap:=s.heap.push {cls:= .type "dict_keyiterator",data:= .fields #[.ref d,.int 0 0,.int es.size 0,.int ep 0]}}):wpAny (model prog w) A (pyIter (.ref d)) Q E s:=by
 have hT:=ty ho hx
 refine wpAny_pyIter_slot hT F.slot_dict_iter (wpAny_call_entry F.slot_dict_iter hT F.entry_dict_iter ?_ (F.args_dict_iter_1 _))
 unfold Builtin.«dict.__iter__» Builtin.Dict.dictSlotNone Builtin.Dict.showsAll
 refine wpAny_bind (wpAny_bind (wpAny_notOrdered_dict hT (wpAny_pure (wpAny_bind ?_))))
 refine wpAny_pure (wpAny_bind ?_)
 dsimp only
 rw[if_neg (by intro z;rw[hd] at z;cases z)]
 refine wpAny_pure (wpAny_bind (wpAny_dictEntries ho hdat (wpAny_bind (wpAny_dictEpoch ho hdat ?_))))
 refine wpAny_bind (wpAny_newObj_type (wpAny_pure ⟨_,rfl,"dict_keyiterator",_,⟨_,Heap.get?_push_size _ rfl,rfl⟩,F.slot_dict_keyiterator_next.lookup,?_⟩))
 simpa[rawInt] using hQ
theorem qbT {Q:Option Value->Shared->Prop}(hit:s.heap.IsKeyIter it d i es.size ep)(ho:s.heap.get? d=some o)(hdat:o.data= .dict es ep)(hi:i<es.size)
  (hQ:∀h',h'.IsKeyIter it d (i+1) es.size ep->Heap.SameBut it s.heap h'->Q (some es[i].key) {s with heap:=h'}):wpAny (model prog w) A (pyNext (.ref it)) Q E s:=by
 obtain⟨oi,hoi,hc,hf⟩:=id hit
 have hT:=hit.typeIs
 unfold pyNext
 refine wpAny_bind (wpAny_attempt (wpAny_callSpecial?_slot (name:=Str.ofString "__next__") hT F.slot_dict_keyiterator_next (wpAny_call_entry F.slot_dict_keyiterator_next hT F.entry_dict_keyiterator_next ?_ (F.args_dict_keyiterator_next_1 _))))
 refine wpAny_bind (wpAny_pure (wpAny_bind (wpAny_bind ?_)))
 first|refine wpAny_bind (wpAny_typeNameOfWhole_keyiter hT (wpAny_pure (wpAny_bind (wpAny_fieldsOf hoi hf ?_))))|refine wpAny_bind (wpAny_typeNameOf_keyiter hT (wpAny_pure (wpAny_bind (wpAny_fieldsOf hoi hf ?_))))
 simp only[show Builtin.Dict_items.ownsTuple "dict_keyiterator"=false by decide,Bool.false_eq_true,if_false]
 show wpAny _ _ (if (Value.ref d==Value.none)=true then _ else _) _ _ s
 rw[if_neg (by exact Bool.false_ne_true)]
 refine wpAny_bind (wpAny_pure (wpAny_bind (wpAny_dictEntries ho hdat ?_)))
 rw[if_neg (by simp)]
 refine wpAny_bind (wpAny_pure (wpAny_bind (wpAny_dictEpoch ho hdat ?_)))
 rw[if_neg (by simp)]
 refine wpAny_pure ?_
 simp only[show¬((i:Int)<0) by omega,if_false,Int.toNat_natCast,Array.getElem?_eq_getElem hi]
 refine wpAny_bind ?_
 first|refine wpAny_bind (wpAny_typeNameOfWhole_keyiter hT (wpAny_pure (wpAny_bind (wpAny_isOneOf_keyiter hT ?_))))|refine wpAny_bind (wpAny_typeNameOf_keyiter hT (wpAny_pure (wpAny_bind (wpAny_isOneOf_keyiter hT ?_))))
 show wpAny _ _ (setField (.ref it) 1 (rawInt ((i:Int)+1)) >>= _) _ _ s
 refine wpAny_bind (wpAny_setField hoi hf (by simp) ?_)
 have hit':(s.heap.update it (Obj.mapFields (·.setIfInBounds 1 (rawInt ((i:Int)+1))))).IsKeyIter it d (i+1) es.size ep:=
  ⟨_,Heap.get?_update_self _ hoi (Obj.isFreed_of_fields (Obj.data_mapFields hf _)),(Obj.cls_mapFields ..).trans hc,by rw[Obj.data_mapFields hf];simp[rawInt]⟩
 refine wpAny_bind (wpAny_holding (wpAny_bind (wpAny_isOneOf_keyiter (s:={s with heap:=s.heap.update it (Obj.mapFields (·.setIfInBounds 1 (rawInt ((i:Int)+1))))}) hit'.typeIs ?_)))
 show wpAny _ _ (pure es[i].key) _ _ _
 exact wpAny_pure (wpAny_pure ⟨_,rfl,wpAny_pure (hQ _ hit' (Heap.SameBut.update ..))⟩)
theorem keyEnd {Q:Option Value->Shared->Prop}(hh:A.handled=none)(hit:s.heap.IsKeyIter it d i es.size ep)(ho:s.heap.get? d=some o)(hdat:o.data= .dict es ep)(hi:es.size<=i)
  (hQ:∀h',Heap.ExtBut it s.heap h'->Q none {s with heap:=h'}):wpAny (model prog w) A (pyNext (.ref it)) Q E s:=by
 obtain⟨oi,hoi,hc,hf⟩:=id hit
 have hT:=hit.typeIs
 unfold pyNext
 refine wpAny_bind (wpAny_attempt (wpAny_callSpecial?_slot (name:=Str.ofString "__next__") hT F.slot_dict_keyiterator_next (wpAny_call_entry F.slot_dict_keyiterator_next hT F.entry_dict_keyiterator_next ?_ (F.args_dict_keyiterator_next_1 _))))
 refine wpAny_bind (wpAny_pure (wpAny_bind (wpAny_bind ?_)))
 first|refine wpAny_bind (wpAny_typeNameOfWhole_keyiter hT (wpAny_pure (wpAny_bind (wpAny_fieldsOf hoi hf ?_))))|refine wpAny_bind (wpAny_typeNameOf_keyiter hT (wpAny_pure (wpAny_bind (wpAny_fieldsOf hoi hf ?_))))
 simp only[show Builtin.Dict_items.ownsTuple "dict_keyiterator"=false by decide,Bool.false_eq_true,if_false]
 show wpAny _ _ (if (Value.ref d==Value.none)=true then _ else _) _ _ s
 rw[if_neg (by exact Bool.false_ne_true)]
 refine wpAny_bind (wpAny_pure (wpAny_bind (wpAny_dictEntries ho hdat ?_)))
 rw[if_neg (by simp)]
 refine wpAny_bind (wpAny_pure (wpAny_bind (wpAny_dictEpoch ho hdat ?_)))
 rw[if_neg (by simp)]
 refine wpAny_pure ?_
 simp only[show¬((i:Int)<0) by omega,if_false,Int.toNat_natCast,Array.getElem?_eq_none hi]
 refine wpAny_bind ?_
 first|refine wpAny_bind (wpAny_typeNameOfWhole_keyiter hT (wpAny_pure ?_))|refine wpAny_bind (wpAny_typeNameOf_keyiter hT (wpAny_pure ?_))
 show wpAny _ _ (setField (.ref it) 0 .none >>= _) _ _ s
 refine wpAny_bind (wpAny_setField hoi hf (by simp) ?_)
 show wpAny _ _ (newExc (.type "StopIteration") [] >>= _) _ _ _
 refine wpAny_bind ?_
 simp only[newExc,newTuple]
 refine wpAny_bind (wpAny_newObj_type (wpAny_bind (m:=firstArgMember _ _) (wpAny_of_eq (a:=Value.none) (by first|rfl|(simp only[firstArgMember];rfl)) (wpAny_newObj_type ?_ (by size_fits)))) (by size_fits))
 simp only[raiseNew]
 refine wpAny_bind (wpAny_handled ?_)
 rw[show A.in1.handled=none from hh]
 refine wpAny_bind (wpAny_pure (wpAny_throw ?_))
 refine wpAny_bind (wpAny_isInstance (b:=true) (T:="StopIteration") ⟨_,Heap.get?_push_size _ rfl,rfl⟩ isSubtype_stop ?_)
 exact wpAny_pure (hQ _ (((Heap.SameBut.update ..).extBut.push _).push _))
theorem view (d:Addr)(hd:(d==sysModules)=false):MeetsIn prog w (Builtin.«dict.items» ⟨[.ref d],[]⟩) (fun _ R s=>(∃o,s.heap.get? d=some o/\o.ExactDict)/\
   R (.ok (.ret (.ref s.heap.objs.size))) {s with heap:=s.heap.push {cls:= .type "dict_items",data:= .fields #[.ref d]}}):=
 .of_wp fun A R s ⟨⟨o,ho,hx⟩,h⟩=>by
  unfold Builtin.«dict.items» Builtin.Dict.noArgs Builtin.Dict.showsAll
  refine wpAny_bind (wpAny_bind (wpAny_notOrdered_dict (ty ho hx) (wpAny_pure (wpAny_bind ?_))))
  rw[if_neg (by intro z;rw[hd] at z;cases z)]
  exact wpAny_pure (wpAny_bind (wpAny_newObj_type (wpAny_pure ⟨_,rfl,h⟩)))
theorem items {Q:Value->Shared->Prop}(hv:s.heap.IsItemsView v d)(ho:s.heap.get? d=some o)(hdat:o.data= .dict es ep)
  (hQ:Q (.ref s.heap.objs.size) {s with heap:=s.heap.push {cls:= .type "dict_itemiterator",data:= .fields #[.none,.bool false,.ref d,.int 0 0,.int es.size 0,.int ep 0,.none,.none]}}):wpAny (model prog w) A (pyIter (.ref v)) Q E s:=by
 obtain⟨ov,hov,hcv,hdv⟩:=id hv
 refine wpAny_pyIter_slot hv.typeIs F.slot_dict_items_iter (wpAny_call_entry F.slot_dict_items_iter hv.typeIs F.entry_dict_items_iter ?_ (F.args_dict_items_iter_1 _))
 unfold Builtin.«dict_items.__iter__» Builtin.Dict_items.dictOf Builtin.Dict_items.newIterator
 refine wpAny_bind (wpAny_pure (wpAny_bind (wpAny_bind (wpAny_field hov hdv (x:= .ref d) rfl (wpAny_pure ?_)))))
 refine wpAny_bind (wpAny_bind (wpAny_dictEntries ho hdat (wpAny_bind (wpAny_dictEpoch ho hdat ?_))))
 simp only[show Builtin.Dict_items.ownsTuple "dict_itemiterator"=true by decide,if_true]
 refine wpAny_newObj_type (wpAny_pure ⟨_,rfl,"dict_itemiterator",_,⟨_,Heap.get?_push_size _ rfl,rfl⟩,F.slot_dict_itemiterator_next.lookup,?_⟩)
  (by simp only[sizeOk,Builtin.Dict_items.ownedTupleFields,List.size_toArray,List.length_append,List.length_cons,List.length_nil,sizeLine_eq];omega)
 simpa[rawInt,Builtin.Dict_items.ownedTupleFields] using hQ
theorem q6E {ok ov:Value}{Q:Option Value->Shared->Prop}(hit:IsItemIter s.heap it d i es.size ep ok ov)(ho:s.heap.get? d=some o)(hdat:o.data= .dict es ep)(hi:i<es.size)
  (hQ:∀h',IsItemIterOut h' it d (i+1) es.size ep es[i].key es[i].val s.heap.objs.size->h'.get? s.heap.objs.size=some {cls:= .type "tuple",data:= .seq #[es[i].key,es[i].val]}->
   (∀b o,b≠it->s.heap.get? b=some o->h'.get? b=some o)->Q (some (.ref s.heap.objs.size)) {s with heap:=h'}):wpAny (model prog w) A (pyNext (.ref it)) Q E s:=by
 obtain⟨hp,g,dr,tk,os⟩:=s
 have hT:Shared.TypeIs ⟨hp,g,dr,tk,os⟩ (.ref it) "dict_itemiterator":=⟨_,hit,rfl⟩
 unfold pyNext
 refine wpAny_bind (wpAny_attempt (wpAny_callSpecial?_slot (name:=Str.ofString "__next__") hT F.slot_dict_itemiterator_next (wpAny_call_entry F.slot_dict_itemiterator_next hT F.entry_dict_itemiterator_next ?_ (F.args_dict_itemiterator_next_1 _))))
 refine wpAny_bind (wpAny_pure (wpAny_bind (wpAny_bind ?_)))
 first|refine wpAny_bind (wpAny_typeNameOfWhole_itemiter hT (wpAny_pure (wpAny_bind (wpAny_fieldsOf hit rfl ?_))))|refine wpAny_bind (wpAny_typeNameOf_itemiter hT (wpAny_pure (wpAny_bind (wpAny_fieldsOf hit rfl ?_))))
 simp only[show Builtin.Dict_items.ownsTuple "dict_itemiterator"=true by decide,if_true]
 show wpAny _ _ (if (Value.ref d==Value.none)=true then _ else _) _ _ _
 rw[if_neg (by exact Bool.false_ne_true)]
 refine wpAny_bind (wpAny_pure (wpAny_bind (wpAny_dictEntries ho hdat ?_)))
 rw[if_neg (by simp)]
 refine wpAny_bind (wpAny_pure (wpAny_bind (wpAny_dictEpoch ho hdat ?_)))
 rw[if_neg (by simp)]
 refine wpAny_pure ?_
 simp only[show¬((i:Int)<0) by omega,if_false,Int.toNat_natCast,Array.getElem?_eq_getElem hi]
 refine wpAny_bind ?_
 first|refine wpAny_bind (wpAny_typeNameOfWhole_itemiter hT (wpAny_pure (wpAny_bind (wpAny_isOneOf_itemiter hT ?_))))|refine wpAny_bind (wpAny_typeNameOf_itemiter hT (wpAny_pure (wpAny_bind (wpAny_isOneOf_itemiter hT ?_))))
 show wpAny _ _ (setField (.ref it) 3 (rawInt ((i:Int)+1)) >>= _) _ _ _
 refine wpAny_bind (wpAny_setField_rec hit (by simp) fun h1 e1 b1=>?_)
 replace b1:Heap.SameBut it hp h1:=b1
 replace e1:IsItemIter h1 it d (i+1) es.size ep ok ov:=by
  unfold IsItemIter
  rw[show((i+1:Nat):Int)=(i:Int)+1 by omega]
  simpa[rawInt] using e1
 have T1:Shared.TypeIs ⟨h1,g,dr,tk,os⟩ (.ref it) "dict_itemiterator":=⟨_,e1,rfl⟩
 refine wpAny_bind (wpAny_holding (wpAny_bind (wpAny_isOneOf_itemiter T1 (wpAny_bind (wpAny_isOneOf_itemiter T1 ?_)))))
 show wpAny _ _ (Builtin.Dict_items.pairFromOwner (.ref it) 6 es[i].key es[i].val) _ _ _
 unfold Builtin.Dict_items.pairFromOwner
 refine wpAny_bind (wpAny_newTuple ?_)
 have z1:h1.objs.size=hp.objs.size:=b1.1
 have lt:it<hp.objs.size:=Heap.lt_size hit
 have ne:hp.objs.size≠it:=Nat.ne_of_gt lt
 obtain⟨h2,eh2⟩:∃h2,h2=h1.push {cls:= .type "tuple",data:= .seq #[es[i].key,es[i].val]}:=⟨_,rfl⟩
 have e2:IsItemIter h2 it d (i+1) es.size ep ok ov:=by rw[eh2];exact Heap.get?_push_of_some _ e1
 have t2:h2.get? hp.objs.size=some {cls:= .type "tuple",data:= .seq #[es[i].key,es[i].val]}:=by rw[eh2,<-z1];exact Heap.get?_push_size _ rfl
 have k2:∀b o,b≠it->hp.get? b=some o->h2.get? b=some o:=fun b o hb e=>by rw[eh2];exact Heap.get?_push_of_some _ (b1.extBut b o hb e)
 show wpAny _ _ (Builtin.Dict_items.ownedTupleIsFree (.ref it) >>= _) _ _ ⟨h1.push _,g,dr,tk,os⟩
 rw[z1,<-eh2]
 refine wpAny_bind ?_
 unfold Builtin.Dict_items.ownedTupleIsFree
 refine wpAny_bind (wpAny_field e2 rfl (x:= .none) rfl (wpAny_pure ?_))
 simp only[if_true]
 refine wpAny_bind (wpAny_field e2 rfl (x:=ok) rfl (wpAny_bind (wpAny_field e2 rfl (x:=ov) rfl (wpAny_bind (wpAny_setField_rec e2 (by simp) fun h3 e3 b3=>?_)))))
 replace b3:Heap.SameBut it h2 h3:=b3
 replace e3:IsItemIter h3 it d (i+1) es.size ep es[i].key ov:=e3
 refine wpAny_bind (wpAny_setField_rec e3 (by simp) fun h4 e4 b4=>?_)
 replace b4:Heap.SameBut it h3 h4:=b4
 replace e4:IsItemIter h4 it d (i+1) es.size ep es[i].key es[i].val:=e4
 refine wpAny_bind (wpAny_setField_rec e4 (by simp) fun h5 e5 b5=>?_)
 replace b5:Heap.SameBut it h4 h5:=b5
 replace e5:IsItemIterOut h5 it d (i+1) es.size ep es[i].key es[i].val hp.objs.size:=e5
 refine wpAny_bind (wpAny_setField_rec e5 (by simp) fun h6 e6 b6=>?_)
 replace b6:Heap.SameBut it h5 h6:=b6
 replace e6:IsItemIterOut h6 it d (i+1) es.size ep es[i].key es[i].val hp.objs.size:=e6
 have kk:∀b o,b≠it->h2.get? b=some o->h6.get? b=some o:=fun b o hb e=>b6.extBut b o hb (b5.extBut b o hb (b4.extBut b o hb (b3.extBut b o hb e)))
 exact wpAny_bind (wpAny_letGo (wpAny_pure (wpAny_pure ⟨_,rfl,wpAny_pure (hQ h6 e6 (kk _ _ ne t2) fun b o hb e=>kk b o hb (k2 b o hb e))⟩)))
theorem q8l {ok ov:Value}{Q:Option Value->Shared->Prop}(hh:A.handled=none)(hit:IsItemIter s.heap it d i es.size ep ok ov)(ho:s.heap.get? d=some o)(hdat:o.data= .dict es ep)(hi:es.size<=i)
  (hQ:∀h',Heap.ExtBut it s.heap h'->Q none {s with heap:=h'}):wpAny (model prog w) A (pyNext (.ref it)) Q E s:=by
 have hT:s.TypeIs (.ref it) "dict_itemiterator":=⟨_,hit,rfl⟩
 unfold pyNext
 refine wpAny_bind (wpAny_attempt (wpAny_callSpecial?_slot (name:=Str.ofString "__next__") hT F.slot_dict_itemiterator_next (wpAny_call_entry F.slot_dict_itemiterator_next hT F.entry_dict_itemiterator_next ?_ (F.args_dict_itemiterator_next_1 _))))
 refine wpAny_bind (wpAny_pure (wpAny_bind (wpAny_bind ?_)))
 first|refine wpAny_bind (wpAny_typeNameOfWhole_itemiter hT (wpAny_pure (wpAny_bind (wpAny_fieldsOf hit rfl ?_))))|refine wpAny_bind (wpAny_typeNameOf_itemiter hT (wpAny_pure (wpAny_bind (wpAny_fieldsOf hit rfl ?_))))
 simp only[show Builtin.Dict_items.ownsTuple "dict_itemiterator"=true by decide,if_true]
 show wpAny _ _ (if (Value.ref d==Value.none)=true then _ else _) _ _ s
 rw[if_neg (by exact Bool.false_ne_true)]
 refine wpAny_bind (wpAny_pure (wpAny_bind (wpAny_dictEntries ho hdat ?_)))
 rw[if_neg (by simp)]
 refine wpAny_bind (wpAny_pure (wpAny_bind (wpAny_dictEpoch ho hdat ?_)))
 rw[if_neg (by simp)]
 refine wpAny_pure ?_
 simp only[show¬((i:Int)<0) by omega,if_false,Int.toNat_natCast,Array.getElem?_eq_none hi]
 refine wpAny_bind ?_
 first|refine wpAny_bind (wpAny_typeNameOfWhole_itemiter hT (wpAny_pure ?_))|refine wpAny_bind (wpAny_typeNameOf_itemiter hT (wpAny_pure ?_))
 show wpAny _ _ (setField (.ref it) 2 .none >>= _) _ _ s
 refine wpAny_bind (wpAny_setField hit rfl (by simp) ?_)
 show wpAny _ _ (newExc (.type "StopIteration") [] >>= _) _ _ _
 refine wpAny_bind ?_
 simp only[newExc,newTuple]
 refine wpAny_bind (wpAny_newObj_type (wpAny_bind (m:=firstArgMember _ _) (wpAny_of_eq (a:=Value.none) (by first|rfl|(simp only[firstArgMember];rfl)) (wpAny_newObj_type ?_ (by size_fits)))) (by size_fits))
 simp only[raiseNew]
 refine wpAny_bind (wpAny_handled ?_)
 rw[show A.in1.handled=none from hh]
 refine wpAny_bind (wpAny_pure (wpAny_throw ?_))
 refine wpAny_bind (wpAny_isInstance (b:=true) (T:="StopIteration") ⟨_,Heap.get?_push_size _ rfl,rfl⟩ isSubtype_stop ?_)
 exact wpAny_pure (hQ _ (((Heap.SameBut.update ..).extBut.push _).push _))
end
end DI
namespace L2
open PySem PySem.Spec PyProof.Rows
theorem Paired.at' {α β:Type}{F:α->β->Prop}:∀{l:List α} {m:List β} {i:Nat} {x:α} {y:β},Paired F l m->l[i]? =some x->m[i]? =some y->F x y
 |_,_,0,_,_,.cons r _,hx,hy=>by cases hx;cases hy;exact r
 |_,_,i+1,_,_,.cons _ t,hx,hy=>Paired.at' (i:=i) t hx hy
section
variable {X:Cx}{pins:List (Addr×Obj)}{σ:St}{H:Hp}{s:Shared}{a:Addr}
theorem Inv.hold {kvs:List (List Key×V)}(I:Inv X pins σ H s)(e:H a=some (.dT kvs)):∃o,Inv X pins σ (upd H a (.frz o (.dT kvs))) s:=by
 obtain⟨z,y,xs,r,o,es,ep,h1,h2⟩:=(show q0a X.prog X.w H s.heap a (.dT kvs) from I.hok a _ e)
 have ne:∀{b:Addr} {u:HO},H b=some u->(∀k,u≠ .dT k)->b≠a:=fun {b u} q n z=>by rw[z,e] at q;cases q;exact n _ rfl
 refine⟨o,I.un (h':=s.heap) (t':=s.toks) ⟨fun b ob q n _ _=>q,fun b ob q n _ _=>⟨ob.slots,q⟩,fun b ob q n _=>?_,fun b ob q _=>⟨ob,q⟩,fun b ts q=>?_,fun b ob u q=>?_,fun b ps q=>⟨#[],?_⟩⟩ fun b u q=>?_⟩
 ·rw [qj (fun z=>by rw[z,e] at n;cases n)];exact n
 ·rw [qj (ne q fun k z=>by cases z)];exact q
 ·rw [qj (ne q fun k z=>by cases z)];exact q
 ·rw [qj (ne q fun k z=>by cases z)];simpa using q
 ·have ht:∀c ts,H c=some (.tup ts)->upd H a (.frz o (.dT kvs)) c=some (.tup ts):=fun c ts q=>by rw[qj (ne q fun k z=>by cases z)];exact q
  have ho:∀c x,H c=some (.own x)->upd H a (.frz o (.dT kvs)) c=some (.own x):=fun c x q=>by rw[qj (ne q fun k z=>by cases z)];exact q
  by_cases hb:b=a
  ·subst hb
   rw[qb] at q
   cases q
   exact⟨h1,(I.hok b _ e).stay (fun c v _ q=>q) (fun c q=>ho c b q) ht⟩
  ·rw [qj hb] at q
   exact(I.hok b u q).stay (fun c v _ q=>q) (fun c q=>ho c b q) ht
theorem Inv.heldAt {o:Obj}{kvs:List (List Key×V)}{es:Array DictEntry}{ep:Nat}(I:Inv X pins σ H s)(e:H a=some (.frz o (.dT kvs)))(hd:o.data= .dict es ep):s.heap.get? a=some o/\o.ExactDict/\(a==sysModules)=false/\es.size=kvs.length/\
  ∀(i:Nat) (hi:i<kvs.length) (hj:i<es.size),∃b,es[i].key= .ref b/\H b=some (.tup (kvs[i].1.map kV))/\RelV kvs[i].2 es[i].val:=by
 obtain⟨h0,z,y,xs,r,o',es',ep',h1,h2,h3,h4,h5⟩:=(show q0a X.prog X.w H s.heap a (.frz o (.dT kvs)) from I.hok a _ e)
 rw[h0] at h1
 cases h1
 rw[hd] at h3
 cases h3
 have hl:kvs.length=xs.length:=r.length
 have hs:es.size=xs.length:=size_of_entries h4
 refine⟨h0,h2,y,by omega,fun i hi hj=>?_⟩
 have e1:=entry_at h4 i
 have hx:xs[i]? =some (xs[i]'(by omega)):=List.getElem?_eq_getElem _
 rw[Array.getElem?_eq_getElem hj,hx] at e1
 have e2:=Option.some.inj e1
 have rq:=Paired.at' r (List.getElem?_eq_getElem hi) hx
 refine⟨(xs[i]'(by omega)).2.1,by rw[e2];rfl,?_,?_⟩
 ·exact rq.2.1
 ·rw [e2];exact rq.2.2
end
def Itp (a:Addr)(o:Obj)(kvs:List (List Key×V)):It:=
 ⟨fun i H=>H a=some (.frz o (.dT kvs))/\i<kvs.length,fun i H x H'=>∃T b p,H T=none/\kvs[i]? =some p/\x= .ref T/\H b=some (.tup (p.1.map kV))/\H'=upd H T (.tup [.ref b,p.2]),fun i H=>H a=some (.frz o (.dT kvs))/\kvs.length<=i⟩
theorem q5A:entryFor table "dict_itemiterator.__iter__"=some Builtin.«dict_keyiterator.__iter__» :=entryFor_alias (id':="dict_keyiterator.__iter__") (by kernel_rfl) rfl (by decide +kernel) (by kernel_rfl)
theorem q66 {prog:Program}{w:World}{A:Around}{E:Value->Shared->Prop}{s:Shared}{it d:Addr}{i n ep:Nat}{ok ov:Value}{Q:Value->Shared->Prop}(hit:IsItemIter s.heap it d i n ep ok ov)(h:Q (.ref it) s):wpAny (model prog w) A (pyIter (.ref it)) Q E s:=by
 have hT:s.TypeIs (.ref it) "dict_itemiterator":=⟨_,hit,rfl⟩
 refine wpAny_pyIter_slot hT F.slot_dict_itemiterator_iter (wpAny_call_entry F.slot_dict_itemiterator_iter hT q5A ?_ (F.args_dict_itemiterator_iter_1 _))
 show wpAny _ _ (ret (.ref it)) _ _ s
 exact wpAny_pure ⟨_,rfl,"dict_itemiterator",_,hT,F.slot_dict_itemiterator_next.lookup,h⟩
theorem qb1 {P:Program}{w:World}{K:PySem.W.Frag}{elts:List Expr}{k:Nat}{tp:Pos}{a it:Addr}{o:Obj}{kvs:List (List Key×V)}{es:Array DictEntry}{ep:Nat}(hd:o.data= .dict es ep):Turn P w K (.Tuple elts k tp) (Itp a o kvs) [it] it (fun i h=>∃ok ov,IsItemIter h it a i es.size ep ok ov) where
 mem:=by simp
 obj:=fun i h st b hb=>by
  have e:b=it:=by simpa using hb
  subst e
  obtain⟨_,_,e⟩:=st
  exact⟨_,e,fun v z=>by cases z⟩
 keep:=fun i h h' st kk=>let ⟨ok,ov,e⟩:=st;⟨ok,ov,kk it (by simp) _ e⟩
 item:=by
  intro X hP hw hK hc i pins s σ H E I hf st hg
  subst hP hw hK
  obtain⟨ha,hi⟩:=hg
  obtain⟨ok,ov,st⟩:=st
  obtain⟨g0,gx,gm,gs,gi⟩:=I.heldAt ha hd
  have hj:i<es.size:=by omega
  obtain⟨b,kb,tb,rb⟩:=gi i hi hj
  refine DI.q6E st g0 hd hj fun h' ho hT hk=>?_
  have ne:∀b∈[it],b≠s.heap.objs.size:=fun b hb=>by rw[List.mem_singleton.mp hb];exact Nat.ne_of_lt (Heap.lt_size st)
  have kk:∀b o,b∉[it]->s.heap.get? b=some o->h'.get? b=some o:=fun b o hb q=>hk b o (fun z=>hb (by simp[z])) q
  have I1:Inv X pins σ (upd H s.heap.objs.size (.tup [.ref b,kvs[i].2])) {s with heap:=h',toks:=s.toks}:=I.yields (vals:=[es[i].key,es[i].val]) hf kk (Nat.le_refl _) ⟨_,hT,rfl,_,rfl⟩ (.cons kb (.cons rb .nil)) (by show 2<=sizeLine;decide)
  have hf1:=q6F (o:= .tup [.ref b,kvs[i].2]) hf ne
  refine⟨_,rfl,wpAny_letOwnedTupleGo_items ho fun h'' he'' sb=>?_⟩
  have I2:Inv X pins σ (upd H s.heap.objs.size (.tup [.ref b,kvs[i].2])) {s with heap:=h'',toks:=s.toks}:=I1.turnedL (t':=s.toks) hf1 fun b o hb q=>(sb.2 b fun z=>hb (by simp[z])).trans q
  exact⟨.ref s.heap.objs.size,_,I2,rfl,⟨_,b,_,I.hok.fresh (Nat.le_refl _),List.getElem?_eq_getElem hi,rfl,tb,rfl⟩,⟨_,_,he''⟩,fun b hb=>(hf1 b hb).1⟩
 done:=by
  intro X hP hw hK hc i pins s σ H E I hf st hg
  subst hP hw hK
  obtain⟨ha,hi⟩:=hg
  obtain⟨ok,ov,st⟩:=st
  obtain⟨g0,gx,gm,gs,gi⟩:=I.heldAt ha hd
  exact DI.q8l (I.ok.hd hc) st g0 hd (by omega) fun h' eb=>⟨rfl,I.turnedL (t':=s.toks) (ch:=[it]) hf fun b o hb q=>eb b o (fun z=>hb (by simp[z])) q⟩
 self:=fun _ _ _ _ _ st h=>by obtain⟨_,_,st⟩:=st;exact q66 st h
section
variable {X:Cx}{tg:Expr}
def iDp (tl:TE):TI:=fun σ H R=>tl σ H fun x H1=>∃a o kvs,x= .ref a/\H1 a=some (.frz o (.dT kvs))/\R (Itp a o kvs) H1
theorem pi_dp {elts:List Expr}{k:Nat}{tp:Pos}{l:Expr}{tl:TE}{apos cpos:Pos}(hl:PE X l tl)(hbase:attributeBase l "items" X.env (eval l X.env)=eval l X.env:=by rfl)(hline:(apos.endLine==cpos.line)=true:=by rfl):PI X (.Tuple elts k tp) (.Call (.Attribute l "items" apos) [] [] cpos) (iDp tl):=by
 intro pins s σ H R I h
 refine wpAny_Call_method0_late hbase hline (thn (hl pins s σ H _ I h) fun v s1 ⟨x,H1,I1,r1,q1⟩=>?_)
 obtain⟨a,o,kvs,e,ha,q⟩:=q1
 subst e
 cases r1
 obtain⟨es,ep,hd⟩:∃es ep,o.data= .dict es ep:=by
  obtain⟨h0,z,y,xs,r,o',es',ep',h1,h2,h3,h4,h5⟩:=(show q0a X.prog X.w H1 s1.heap a (.frz o (.dT kvs)) from I1.hok a _ ha)
  rw[h0] at h1
  cases h1
  exact⟨_,_,h3⟩
 obtain⟨g0,gx,gm,gs,gi⟩:=I1.heldAt ha hd
 refine⟨"dict","dict.items",F.plainAttrs_dict,F.slot_dict_items,F.type_dict_items,DI.ty g0 gx,fun b z=>by cases z;exact⟨o,g0,gx.2.1⟩,Calls.callWith_builtin rfl (PySem.evalArgs_none ?_)⟩
 refine call_meetsIn F.slot_dict_items (DI.ty g0 gx) F.entry_dict_items (F.args_dict_items_1 _) (DI.view a gm) ⟨⟨o,g0,gx⟩,?_⟩
 have I2:Inv X pins σ H1 {s1 with heap:=s1.heap.push {cls:= .type "dict_items",data:= .fields #[.ref a]}}:=I1.kept (t':=s1.toks) fun b o e=>Heap.get?_push_of_some _ e
 refine DI.items (s:={s1 with heap:=s1.heap.push {cls:= .type "dict_items",data:= .fields #[.ref a]}}) ⟨_,Heap.get?_push_size _ rfl,rfl,rfl⟩ (Heap.get?_push_of_some _ g0) hd ?_
 refine⟨_,[_],_,_,H1,rfl,I2.kept (t':=s1.toks) fun b o e=>Heap.get?_push_of_some _ e,qb1 hd,⟨_,_,Heap.get?_push_size _ rfl⟩,fun b hb=>?_,q⟩
 rw[List.mem_singleton.mp hb]
 exact I2.fpOk (Nat.le_refl _) (I2.hok.fresh (Nat.le_refl _))
end
def sHold (t:TS):TS:=fun D σ H=>∃a kvs,H a=some (.dT kvs)/\∀o,t D σ (upd H a (.frz o (.dT kvs)))
theorem qbo {X:Cx}{s:Stmt}{t:TS}(h:PS X s t):PS X s (sHold t):=by
 intro pins sh σ H D I q
 obtain⟨a,kvs,e,k⟩:=q
 obtain⟨o,I1⟩:=I.hold e
 exact h pins sh σ _ D I1 (k o)
section
variable {K:PySem.W.Frag}{g:TG}{tb:TS}{nx:St->Hp->Prop}{rt:V->Hp->Prop}{σ:St}{H:Hp}{a:Addr}{o:Obj}{kvs:List (List Key×V)}
theorem for_dp (Pv:Nat->St->Hp->Prop)(h0:Pv 0 σ H)(hl:∀i σ H,Pv i σ H->H a=some (.frz o (.dT kvs)))
  (go:∀i b T p σ H,kvs[i]? =some p->H b=some (.tup (p.1.map kV))->H T=none->Pv i σ H->g (.ref T) σ (upd H T (.tup [.ref b,p.2])) fun σ2 H2=>tb ⟨Pv (i+1),rt,nx,Pv (i+1)⟩ σ2 H2)(stop:∀σ H,Pv kvs.length σ H->nx σ H):ForG (Itp a o kvs) g tb nx rt σ H:=
 q3B kvs.length Pv h0 (fun i σ H hi p=>⟨⟨hl i σ H p,hi⟩,fun x H' ⟨T,b,q,hT,hq,ex,hb,e1⟩=>by subst e1 ex;exact go i b T q σ _ hq hb hT p⟩) fun σ H p=>⟨⟨hl _ σ H p,Nat.le_refl _⟩,stop σ H p⟩
variable {tc:TT}{te:TE}{R:Hp->Prop}{D:Addr}
end
end L2
namespace Srt
open PySem PySem.W PyProof.Rows
variable {O:KeyOrd}{key:Nat->O.α}{n:Nat}
end Srt
namespace Srt
open PySem PySem.W PyProof.Rows
def LO:KeyOrd where
 α:=List Int
 blt a b:=decide (a<b)
 irrefl a:=decide_eq_false (List.lt_irrefl a)
 trans a b c h1 h2:=decide_eq_true (List.lt_trans (of_decide_eq_true h1) (of_decide_eq_true h2))
 negTrans a b c h:=by
  have h:=of_decide_eq_true h
  by_cases h1:a<b
  ·exact .inl (decide_eq_true h1)
  ·by_cases h2:b<c
   ·exact .inr (decide_eq_true h2)
   ·exact absurd h (List.not_lt.mpr (List.le_trans (List.not_lt.mp h2) (List.not_lt.mp h1)))
 total a b h1 h2:=List.le_antisymm (List.not_lt.mp (of_decide_eq_false h2)) (List.not_lt.mp (of_decide_eq_false h1))
section
variable {prog:Program}{w:World}{A:Around}{E:Value->Shared->Prop}{s:Shared}{Q:Bool->Shared->Prop}
theorem lex:∀{us vs:List Value} {ks js:List Int} {i:Nat},IntsAre us ks->IntsAre vs js->ks.length=js.length->Q (decide (ks<js)) s->KatLex prog w A true false Q (us.zip vs) i s
 |_,_,[],[],i,.nil,.nil,_,h=>by
  have e:decide (([]:List Int)<[])=false:=rfl
  rw[e] at h
  exact h
 |_,_,k::ks,j::js,i,.cons _ t hu,.cons _ t' hv,hl,h=>by
  refine kat_cons (wpAny_eqBool_int ?_)
  by_cases e:k=j
  ·subst e
   rw[show(k==k)=true by simp]
   refine kat_yes (lex hu hv (by simpa using hl) ?_)
   have e2:decide (k::ks<k::js)=decide (ks<js):=by simp[List.cons_lt_cons_iff]
   rw[e2] at h
   exact h
  ·rw [show(k==j)=false by simpa using e]
   have e2:decide (k::ks<j::js)=decide (k<j):=by simp[List.cons_lt_cons_iff,e]
   rw[e2] at h
   refine kat_no ?_
   by_cases hi:i=0
   ·subst hi
    exact oneLt_int h
   ·rw [show(true&&i==0)=false by simpa using hi]
    exact kat_one _ _ (lt_int h)
end
end Srt
namespace L2
open PySem PySem.Spec PyProof.Rows PySem.W
theorem pw_two {α:Type}{R:α->α->Prop}:∀{l:List α},l.length<2->l.Pairwise R
 |[],_=> .nil
 |[_],_=>List.pairwise_singleton _ _
 |_::_::_,h=>absurd h (by simp)
theorem q4a {X:Cx}{pins:List (Addr×Obj)}{σ:St}{H:Hp}{s:Shared}{b:Addr}{ks:List Int}(I:Inv X pins σ H s)(e:H b=some (.tup (ks.map V.int))):∃(o:Obj) (us:List Value) (n:Nat),s.heap.get? b=some o/\o.cls= .type "tuple"/\o.data= .seq us.toArray n/\IntsAre us ks:=by
 obtain⟨_,its,r,o,h1,h2,n,h3⟩:=(show q0a X.prog X.w H s.heap b (.tup (ks.map V.int)) from I.hok b _ e)
 exact⟨o,its,n,h1,h2,h3,q2J r⟩
theorem q4x {us:List Value}{ks:List Int}(h:IntsAre us ks):us.length=ks.length:=by
 induction h with
 |nil=>rfl
 |cons _ _ _ ih=>simp[ih]
end L2
namespace L2
open PySem PySem.Spec PyProof.Rows
theorem q0Z {k:Nat}{A:Around}(hr:Room k A):A.units+1<cLine:=by have:=hr.un;omega
section
variable {σ:St}{H:Hp}{Q:VK}{td ty tv:TE}{nx:St->Hp->Prop}{rt:V->Hp->Prop}{bk ct:St->Hp->Prop}
theorem r_dnew (q:∀p,H p=none->Q (.ref p) (upd H p (.dT []))):qau σ H Q:=q
theorem r_dget (q:td σ H fun x H1=>ty σ H1 fun y H2=>∃a v,x= .ref a/\DGet H2 a y (some v)/\Q v H2):tDGet td ty σ H Q:=q
theorem r_dnin (q:ty σ H fun y H1=>td σ H1 fun x H2=>∃a o,x= .ref a/\DGet H2 a y o/\Q (.bl (!o.isSome)) H2):q7C ty td σ H Q:=q
theorem r_dput (q:tv σ H fun v H1=>td σ H1 fun x H2=>ty σ H2 fun y H3=>∃a H4,x= .ref a/\DPut H3 a y v H4/\nx σ H4):sDPut td ty tv ⟨nx,rt,bk,ct⟩ σ H:=q
theorem r_hold {t:TS}{D:Ends}(q:∃a kvs,H a=some (.dT kvs)/\∀o,t D σ (upd H a (.frz o (.dT kvs)))):sHold t D σ H:=q
theorem r_dp {R:It->Hp->Prop}(q:td σ H fun x H1=>∃a o kvs,x= .ref a/\H1 a=some (.frz o (.dT kvs))/\R (Itp a o kvs) H1):iDp td σ H R:=q
end
theorem r_augN {i:Nat}{v:V}{te:TE}{ip:V->V->Hp->VK->Prop}{σ:St}{H:Hp}{nx:St->Hp->Prop}{rt:V->Hp->Prop}{bk ct:St->Hp->Prop}(h:σ[i]? =some (some v))(q:te σ H fun y H1=>ip v y H1 fun z H2=>nx (σ.set i (some z)) H2):tAug i te ip ⟨nx,rt,bk,ct⟩ σ H:=⟨v,h,q⟩
theorem q7S {c:TT}{tb:TS}{σ:St}{H:Hp}{nx:St->Hp->Prop}{rt:V->Hp->Prop}{bk ct:St->Hp->Prop}(W:Nat->St->Hp->Prop)(m:Nat)(h0:W m σ H)
  (go:∀m σ H,W m σ H->c σ H fun b H1=>if b=true then∃N:St->Hp->Prop,(∀σ' H',N σ' H'->∃m',m'<m/\W m' σ' H')/\tb ⟨N,rt,nx,N⟩ σ H1 else nx σ H1):qar c tb ⟨nx,rt,bk,ct⟩ σ H:=⟨W,⟨m,h0⟩,go⟩
theorem pi_dpK {X:Cx}{elts:List Expr}{k:Nat}{tp:Pos}{l:Expr}{tl:TE}{apos cpos:Pos}(K:PySem.W.Frag)(hl:PE X l tl)(hbase:attributeBase l "items" X.env (eval l X.env)=eval l X.env:=by rfl)(hline:(apos.endLine==cpos.line)=true:=by rfl):PI X (.Tuple elts k tp) (.Call (.Attribute l "items" apos) [] [] cpos) (iDp tl):=pi_dp hl hbase hline
end L2
namespace Ce
open L2 PySem PySem.Spec PyProof.Rows
def Sd.ns (s:Sd):List Int:=[s.rm,s.tk,s.op,s.b,s.wt]
def Sd.key (s:Sd):List Key:=[.inl s.rm,.inl s.tk,.inl s.op,.inl s.b,.inl s.wt]
theorem Sd.ns_inj {a b:Sd}(h:a.ns=b.ns):a=b:=by
 cases a;cases b;simp only[Sd.ns,List.cons.injEq,and_true] at h;obtain⟨h1,h2,h3,h4,h5⟩:=h;subst h1 h2 h3 h4 h5;rfl
theorem Sd.key_inj {a b:Sd}(h:a.key=b.key):a=b:=by
 cases a;cases b;simp only[Sd.key,List.cons.injEq,Sum.inl.injEq,and_true] at h;obtain⟨h1,h2,h3,h4,h5⟩:=h;subst h1 h2 h3 h4 h5;rfl
theorem Sd.vs_inj {a b:Sd}(h:a.vs=b.vs):a=b:=by
 cases a;cases b;simp only[Sd.vs,List.cons.injEq,V.int.injEq,and_true] at h;obtain⟨h1,h2,h3,h4,h5⟩:=h;subst h1 h2 h3 h4 h5;rfl
instance:DecidableEq Sd:=fun a b=>decidable_of_iff (a.ns=b.ns) ⟨Sd.ns_inj,fun h=>by rw[h]⟩
def SAt (H:Hp)(p:Addr)(s:Sd):Prop:=H p=some (.tup s.vs)
theorem SAt.mono {H H':Hp}(s:q00 H H'){p:Addr}{x:Sd}(h:SAt H p x):SAt H' p x:=s _ _ h
theorem SAt.put {H:Hp}{D:Addr}{xs:List V}{o:HO}(hD:H D=some (.lst xs)){p:Addr}{x:Sd}(h:SAt H p x):SAt (upd H D o) p x:=q00.lst hD _ _ h
theorem deq_sd {K:PySem.W.Frag}{H:Hp}{a b:Addr}{s t:Sd}(ha:SAt H a s)(hb:SAt H b t):Deq K H 1 (.ref a) (.ref b) (decide (s=t)):=by
 by_cases e:a=b
 ·subst e
  have:s=t:=Sd.vs_inj (by have h:=ha.symm.trans hb;simpa using h)
  rw[decide_eq_true this]
  exact .same a
 ·have h:=Deq.tup (K:=K) (n:=0) (e:=fun j=>eqV (s.vs.getD j .non) (t.vs.getD j .non)) e (SqT.of ha) (SqT.of hb) fun j h1 h2=> .flat (by
    have:j<5:=h1
    obtain rfl|rfl|rfl|rfl|rfl:j=0\/j=1\/j=2\/j=3\/j=4:=by omega
    all_goals rfl) (by
    have:j<5:=h1
    obtain rfl|rfl|rfl|rfl|rfl:j=0\/j=1\/j=2\/j=3\/j=4:=by omega
    all_goals rfl)
  have e2:((List.range (min s.vs.length t.vs.length)).all (fun j=>eqV (s.vs.getD j .non) (t.vs.getD j .non))&&s.vs.length==t.vs.length)=decide (s=t):=by
   have e3:decide (s=t)=(decide (s.rm=t.rm)&&(decide (s.tk=t.tk)&&(decide (s.op=t.op)&&(decide (s.b=t.b)&&decide (s.wt=t.wt))))):=by
    cases s;cases t;simp[Bool.decide_and]
   rw[e3]
   show((eqV (.int s.rm) (.int t.rm)&&(eqV (.int s.tk) (.int t.tk)&&(eqV (.int s.op) (.int t.op)&&(eqV (.int s.b) (.int t.b)&&(eqV (.int s.wt) (.int t.wt)&&true)))))&&true)=_
   simp[eqV]
   rfl
  rw[e2] at h
  exact h
abbrev Dk:=List (Sd×V)
def dkv (l:Dk):List (List Key×V):=l.map fun x=>(x.1.key,x.2)
def dat (l:Dk)(s:Sd):Option V:=(l.find? fun x=>decide (x.1=s)).map (·.2)
theorem q4A (s:Sd):∀l:Dk,valV (dkv l) s.key=dat l s
 |[]=>rfl
 |x::l=>by
  by_cases e:x.1=s
  ·rw [show dkv (x::l)=(x.1.key,x.2)::dkv l from rfl,q32 (by rw[e])]
   simp[dat,e]
  ·rw [show dkv (x::l)=(x.1.key,x.2)::dkv l from rfl,q33 (fun z=>e (Sd.key_inj z)),q4A s l]
   simp[dat,e]
theorem q4B {l:Dk}{s:Sd}:dat l s=none↔s∉l.map (·.1):=by
 unfold dat
 rw[Option.map_eq_none_iff,List.find?_eq_none]
 simp only[decide_eq_true_eq,List.mem_map,not_exists,not_and]
theorem q6I {l:Dk}{s:Sd}{v:V}(hn:(l.map (·.1)).Nodup)(h:(s,v)∈l):dat l s=some v:=by
 induction l with
 |nil=>cases h
 |cons x l ih=>
  rw[List.map_cons,List.nodup_cons] at hn
  rcases List.mem_cons.mp h with e|h
  ·subst e;simp[dat]
  ·have ne:¬x.1=s:=fun e=>hn.1 (List.mem_map.mpr ⟨_,h,e.symm⟩)
   have:=ih hn.2 h
   simpa[dat,ne] using this
theorem q1V {l:Dk}{s:Sd}:(dat l s).isSome=decide (s∈l.map (·.1)):=by
 cases e:dat l s with
 |none=>rw[decide_eq_false (q4B.mp e)];rfl
 |some v=>
  have:¬dat l s=none:=by rw[e];simp
  rw[decide_eq_true (Classical.byContradiction fun z=>this (q4B.mpr z))];rfl
theorem qc2 {l:Dk}{s:Sd}{v:V}(h:s∉l.map (·.1)):putK (dkv l) s.key v=dkv (l++[(s,v)]):=by
 unfold putK
 rw[q34,q4A,q4B.mpr h,if_neg (by decide)]
 simp[dkv]
def DAtS (H:Hp)(a:Addr)(l:Dk):Prop:=H a=some (.dT (dkv l))
theorem q45 {H:Hp}{a b:Addr}{l:Dk}{s:Sd}(h:Rd H a (.dT (dkv l)))(hb:SAt H b s):DGet H a (.ref b) (dat l s):= .inr ⟨_,s.key,b,h,rfl,hb,(q4A s l).symm⟩
theorem q5C {H:Hp}{a b:Addr}{l:Dk}{s:Sd}{v:V}(h:DAtS H a l)(hb:SAt H b s)(hl:l.length<sizeLine)(hn:s∉l.map (·.1)):DPut H a (.ref b) v (upd H a (.dT (dkv (l++[(s,v)])))):=by
 have:=DPut.t (k:=s.key) (v:=v) h hb (by simpa[dkv] using hl)
 rwa [qc2 hn] at this
inductive Rch {α:Type}(R:α->α->Prop)(a:α):α->Prop where
 |refl:Rch R a a
 |step {b c:α}:Rch R a b->R b c->Rch R a c
structure Srch (R:Sd->Sd->Prop)(s0:Sd)(row:List Sd)(pl:Nat):Prop where
 nd:row.Nodup
 st:s0∈row
 rch:∀x∈row,Rch R s0 x
 cl:∀i (h:i<row.length),i<pl->∀y,R row[i] y->y∈row
theorem Srch.start {R:Sd->Sd->Prop}{s0:Sd}:Srch R s0 [s0] 0:=⟨by simp,by simp,fun x hx=>by rw[List.mem_singleton.mp hx];exact .refl,fun i _ h=>absurd h (Nat.not_lt_zero _)⟩
theorem Srch.end {R:Sd->Sd->Prop}{s0:Sd}{row:List Sd}{pl:Nat}(h:Srch R s0 row pl)(hp:row.length<=pl)(x:Sd):x∈row↔Rch R s0 x:=by
 refine⟨h.rch x,fun hx=>?_⟩
 induction hx with
 |refl=>exact h.st
 |step _ r ih=>
  obtain⟨i,hi,e⟩:=List.getElem_of_mem ih
  exact h.cl i hi (by omega) _ (by rw[e];exact r)
structure Mid (R:Sd->Sd->Prop)(s0 here:Sd)(row:List Sd)(pl:Nat)(done:List Sd):Prop where
 nd:row.Nodup
 st:s0∈row
 rch:∀x∈row,Rch R s0 x
 cl:∀i (h:i<row.length),i<pl->∀y,R row[i] y->y∈row
 at':row[pl]? =some here
 dn:∀y∈done,y∈row
theorem Srch.mid {R:Sd->Sd->Prop}{s0 here:Sd}{row:List Sd}{pl:Nat}(h:Srch R s0 row pl)(e:row[pl]? =some here):Mid R s0 here row pl []:=⟨h.nd,h.st,h.rch,h.cl,e,fun y z=>nomatch z⟩
theorem Mid.old {R:Sd->Sd->Prop}{s0 here y:Sd}{row done:List Sd}{pl:Nat}(h:Mid R s0 here row pl done)(hy:y∈row):Mid R s0 here row pl (done++[y]):=
 ⟨h.nd, h.st, h.rch, h.cl, h.at', fun x hx => by rcases List.mem_append.mp hx with z|z;· exact h.dn x z
                                                 ·rw [List.mem_singleton.mp z];exact hy⟩
theorem Mid.new {R:Sd->Sd->Prop}{s0 here y:Sd}{row done:List Sd}{pl:Nat}(h:Mid R s0 here row pl done)(hy:y∉row)(r:R here y):Mid R s0 here (row++[y]) pl (done++[y]):=by
 have hpl:pl<row.length:=(List.getElem?_eq_some_iff.mp h.at').1
 refine⟨List.nodup_append.mpr ⟨h.nd,by simp,fun a ha b hb e=>?_⟩,List.mem_append_left _ h.st,fun x hx=>?_,fun i hi hl z rz=>?_,?_,fun x hx=>?_⟩
 ·rw [List.mem_singleton.mp hb] at e;subst e;exact hy ha
 ·rcases List.mem_append.mp hx with z|z
  ·exact h.rch x z
  ·rw [List.mem_singleton.mp z]
   exact(h.rch here (List.mem_of_getElem? h.at')).step r
 ·rw [List.getElem_append_left (by omega)] at rz
  exact List.mem_append_left _ (h.cl i (by omega) hl z rz)
 ·rw [List.getElem?_append_left hpl];exact h.at'
 ·rcases List.mem_append.mp hx with z|z
  ·exact List.mem_append_left _ (h.dn x z)
  ·exact List.mem_append_right _ z
theorem Mid.next {R:Sd->Sd->Prop}{s0 here:Sd}{row done:List Sd}{pl:Nat}(h:Mid R s0 here row pl done)(hd:∀y,R here y->y∈done):Srch R s0 row (pl+1):=by
 refine⟨h.nd,h.st,h.rch,fun i hi hl z rz=>?_⟩
 by_cases e:i=pl
 ·subst e
  have:row[i]=here:=(List.getElem?_eq_some_iff.mp h.at').2
  rw[this] at rz
  exact h.dn z (hd z rz)
 ·exact h.cl i hi (by omega) z rz
def Ord (l:List Sd):Prop:=l.Pairwise fun a b=>¬b.ns<a.ns
theorem q9C:∀{l m:List Sd},l.Perm m->Ord l->Ord m->l=m:=fun {l m} hp hl hm=>
 hp.eq_of_pairwise (fun a b _ _ h1 h2=>Sd.ns_inj (List.le_antisymm (List.not_lt.mp h1) (List.not_lt.mp h2))) hl hm
end Ce
namespace Tim
open PySem PySem.W PyProof.Rows
def q2M:Bool->Keyed->Array Keyed->Nat->Nat->Nat->StateT SortSt Sem (Option Nat):=sortPriv% PySem.Builtin.gallop
def q9Z:Array Keyed->Array Keyed->StateT SortSt Sem (Array Keyed):=sortPriv% PySem.Builtin.mergeLo
def qa0:Array Keyed->Array Keyed->StateT SortSt Sem (Array Keyed):=sortPriv% PySem.Builtin.mergeHi
structure Cmp (prog:Program)(w:World)(A:Around)(s:Shared)(κ:SortKind)(O:KeyOrd)(kf:Keyed->O.α)(Ok:Keyed->Prop):Prop where
 lt:∀(x y:Keyed) (Q:Bool->Shared->Prop) (E:Value->Shared->Prop),Ok x->Ok y->Q (O.blt (kf x) (kf y)) s->wpAny (model prog w) A (keyLt' κ x.1 y.1) Q E s
section
variable {prog:Program}{w:World}{A:Around}{E:Value->Shared->Prop}{s:Shared}{κ:SortKind}{O:KeyOrd}{kf:Keyed->O.α}{Ok:Keyed->Prop}
theorem w_lt (c:Cmp prog w A s κ O kf Ok){x y:Keyed}{st:SortSt}{Q:Option Bool->SortSt->Prop}(hk:kindOf st=κ)(hx:Ok x)(hy:Ok y)(h:Q (some (O.blt (kf x) (kf y))) st):wpS (model prog w) A E s (lt' x y) Q st:=by
 rw[lt'_eq]
 refine wpS_bind (wpS_get (wpS_bind (wpS_lift (wpAny_attempt ?_))))
 rw[hk]
 exact c.lt x y _ _ hx hy ⟨rfl,wpS_pure h⟩
theorem qU {arr:Array Keyed}{i:Nat}{p:Keyed}{st:SortSt}{Q:Keyed->SortSt->Prop}(hp:arr[i]? =some p)(h:Q p st):wpS (model prog w) A E s (elem' arr i) Q st:=by
 rw[elem'_eq,hp]
 exact wpS_pure h
def bey (left:Bool)(key:Keyed)(arr:Array Keyed)(base i:Nat):StateT SortSt Sem (Option Bool):=
 elem' arr (base+i) >>= fun x=>if left=true then lt' x key else lt' key x >>= fun r=>pure (r.map (!·))
abbrev bdB (kf:Keyed->O.α)(left:Bool)(key p:Keyed):Bool:=if left=true then O.blt (kf p) (kf key) else !O.blt (kf key) (kf p)
theorem w_bey (c:Cmp prog w A s κ O kf Ok){left:Bool}{key p:Keyed}{arr:Array Keyed}{base i:Nat}{st:SortSt}{Q:Option Bool->SortSt->Prop}(hk:kindOf st=κ)(hp:arr[base+i]? =some p)(op:Ok p)(ok:Ok key)(h:Q (some (bdB kf left key p)) st):wpS (model prog w) A E s (bey left key arr base i) Q st:=by
 refine wpS_bind (qU hp ?_)
 cases left with
 |true=>exact w_lt c hk op ok h
 |false=>exact wpS_bind (w_lt c hk ok op (wpS_pure h))
theorem q2e (c:Cmp prog w A s κ O kf Ok){left:Bool}{key:Keyed}{arr:Array Keyed}{base n hint:Nat}{B:Nat->Bool}{st:SortSt}{Q:Option Nat->SortSt->Prop}(hk:kindOf st=κ)(hn:hint<n)(ok:Ok key)
  (hB:∀i,i<n->∃p,arr[base+i]? =some p/\Ok p/\bdB kf left key p=B i)(mo:∀i j,i<=j->j<n->B j=true->B i=true)
  (h:∀k,k<=n->(∀i,i<k->B i=true)->(∀i,k<=i->i<n->B i=false)->Q (some k) st):wpS (model prog w) A E s (q2M left key arr base n hint) Q st:=by
 have bq:∀{i:Nat} {R:Option Bool->SortSt->Prop},i<n->R (some (B i)) st->wpS (model prog w) A E s (bey left key arr base i) R st:=fun {i R} hi hR=>by
  obtain⟨p,h1,h2,h3⟩:=hB i hi
  rw[<-h3] at hR
  exact w_bey c hk h1 h2 ok hR
 have mf:∀i j,i<=j->j<n->B i=false->B j=false:=fun i j h1 h2 h3=>by
  cases e:B j with
  |false=>rfl
  |true=>rw[mo i j h1 h2 e] at h3;cases h3
 refine wpS_bind (bq hn ?_)
 dsimp only
 cases hb:B hint with
 |true=>
  rw[if_pos rfl]
  refine wpS_bind (wpS_mono (wpS_forRange (I:=fun(x:Nat) (c:Option (Option Nat)×Nat×Nat) (st':SortSt)=>st=st'/\c.1=none/\c.2.1<c.2.2/\x+1<=c.2.2/\hint+c.2.1<n/\B (hint+c.2.1)=true)
   (Q:=fun(c:Option (Option Nat)×Nat×Nat) (st':SortSt)=>st=st'/\c.1=none/\c.2.1<c.2.2/\hint+c.2.1<n/\B (hint+c.2.1)=true/\(n - hint<=c.2.2\/hint+c.2.2<n/\B (hint+c.2.2)=false)) ?_ ?_ (show _/\_ from⟨rfl,rfl,Nat.zero_lt_one,Nat.le_refl _,hn,hb⟩)) ?_)
  ·rintro x ⟨r,lo,ofs⟩ st' _ hx ⟨rfl,rfl,h1,h2,h3,h4⟩
   dsimp only at h1 h2 h3 h4 ⊢
   by_cases hge:ofs≥n - hint
   ·rw [if_pos hge]
    exact wpS_pure ⟨rfl,rfl,h1,h3,h4,.inl hge⟩
   ·rw [if_neg hge]
    refine wpS_bind (bq (i:=hint+ofs) (by omega) ?_)
    dsimp only
    cases e:B (hint+ofs) with
    |true=>
     rw[if_neg (by decide)]
     exact wpS_pure ⟨rfl,rfl,by show ofs<2*ofs+1;omega,by show x+1+1<=2*ofs+1;omega,by show hint+ofs<n;omega,e⟩
    |false=>
     rw[if_pos (by decide)]
     exact wpS_pure ⟨rfl,rfl,h1,h3,h4,.inr ⟨by show hint+ofs<n;omega,e⟩⟩
  ·rintro ⟨r,lo,ofs⟩ st' ⟨rfl,rfl,h1,h2,h3,h4⟩
   exact⟨rfl,rfl,h1,h3,h4,.inl (by show n - hint<=ofs;have h2':max 0 n+1<=ofs:=h2;omega)⟩
  ·rintro ⟨r,lo,ofs⟩ st' ⟨rfl,rfl,h1,h3,h4,h5⟩
   dsimp only at h1 h3 h4 h5 ⊢
   have k1:hint+lo+1<=hint+min ofs (n - hint):=by omega
   have k2:hint+min ofs (n - hint)<=n:=by omega
   have k3:∀i,i<hint+lo+1->B i=true:=fun i hi=>mo i (hint+lo) (by omega) h3 h4
   have k4:∀i,hint+min ofs (n - hint)<=i->i<n->B i=false:=fun i h1 h2=>by
    rcases h5 with h5|⟨h5,h6⟩
    ·omega
    ·exact mf (hint+ofs) i (by omega) h2 h6
   generalize hint+lo+1=lo' at k1 k3 ⊢
   generalize hint+min ofs (n - hint)=hi' at k1 k2 k4 ⊢
   refine wpS_bind (wpS_mono (wpS_forRange (I:=fun(x:Nat) (c:Option (Option Nat)×Nat×Nat) (st':SortSt)=>st=st'/\c.1=none/\c.2.1<=c.2.2/\c.2.2<=n/\c.2.2 - c.2.1<=n - x/\(∀i,i<c.2.1->B i=true)/\∀i,c.2.2<=i->i<n->B i=false)
    (Q:=fun(c:Option (Option Nat)×Nat×Nat) (st':SortSt)=>st=st'/\c.1=none/\c.2.1=c.2.2/\c.2.2<=n/\(∀i,i<c.2.1->B i=true)/\∀i,c.2.2<=i->i<n->B i=false) ?_ ?_ (show _/\_ from⟨rfl,rfl,by show lo'<=hi';omega,k2,by show hi' - lo'<=n - 0;omega,k3,k4⟩)) ?_)
   ·rintro x ⟨r,lo,hi⟩ st' _ hx ⟨rfl,rfl,g1,g2,g3,g4,g5⟩
    dsimp only at g1 g2 g3 g4 g5 ⊢
    by_cases hge:lo≥hi
    ·rw [if_pos hge]
     exact wpS_pure ⟨rfl,rfl,by show lo=hi;omega,g2,g4,g5⟩
    ·rw [if_neg hge]
     refine wpS_bind (bq (i:=lo+(hi - lo) / 2) (by omega) ?_)
     dsimp only
     cases e:B (lo+(hi - lo) / 2) with
     |true=>
      rw[if_pos rfl]
      exact wpS_pure ⟨rfl,rfl,by show lo+(hi - lo) / 2+1<=hi;omega,g2,by show hi - (lo+(hi - lo) / 2+1)<=n - (x+1);omega,fun i hi'=>mo i _ (Nat.le_of_lt_succ hi') (by omega) e,g5⟩
     |false=>
      rw[if_neg (by decide)]
      exact wpS_pure ⟨rfl,rfl,by show lo<=lo+(hi - lo) / 2;omega,by show lo+(hi - lo) / 2<=n;omega,by show lo+(hi - lo) / 2 - lo<=n - (x+1);omega,g4,fun i h1 h2=>mf _ i h1 h2 e⟩
   ·rintro ⟨r,lo,hi⟩ st' ⟨rfl,rfl,g1,g2,g3,g4,g5⟩
    exact⟨rfl,rfl,by show lo=hi;have g1':lo<=hi:=g1;have g3':hi - lo<=n - max 0 n:=g3;omega,g2,g4,g5⟩
   ·rintro ⟨r,lo,hi⟩ st' ⟨rfl,rfl,g1,g2,g4,g5⟩
    dsimp only at g1 g2 g4 g5 ⊢
    subst g1
    exact wpS_pure (h lo g2 g4 g5)
 |false=>
  rw[if_neg (by decide)]
  refine wpS_bind (wpS_mono (wpS_forRange (I:=fun(x:Nat) (c:Option (Option Nat)×Nat×Nat) (st':SortSt)=>st=st'/\c.1=none/\c.2.1<c.2.2/\x+1<=c.2.2/\c.2.1<=hint/\B (hint - c.2.1)=false)
   (Q:=fun(c:Option (Option Nat)×Nat×Nat) (st':SortSt)=>st=st'/\c.1=none/\c.2.1<c.2.2/\c.2.1<=hint/\B (hint - c.2.1)=false/\(hint+1<=c.2.2\/c.2.2<=hint/\B (hint - c.2.2)=true)) ?_ ?_ (show _/\_ from⟨rfl,rfl,Nat.zero_lt_one,Nat.le_refl _,Nat.zero_le _,hb⟩)) ?_)
  ·rintro x ⟨r,lo,ofs⟩ st' _ hx ⟨rfl,rfl,h1,h2,h3,h4⟩
   dsimp only at h1 h2 h3 h4 ⊢
   by_cases hge:ofs≥hint+1
   ·rw [if_pos hge]
    exact wpS_pure ⟨rfl,rfl,h1,h3,h4,.inl hge⟩
   ·rw [if_neg hge]
    refine wpS_bind (bq (i:=hint - ofs) (by omega) ?_)
    dsimp only
    cases e:B (hint - ofs) with
    |false=>
     rw[if_neg (by decide)]
     exact wpS_pure ⟨rfl,rfl,by show ofs<2*ofs+1;omega,by show x+1+1<=2*ofs+1;omega,by show ofs<=hint;omega,e⟩
    |true=>
     rw[if_pos rfl]
     exact wpS_pure ⟨rfl,rfl,h1,h3,h4,.inr ⟨by show ofs<=hint;omega,e⟩⟩
  ·rintro ⟨r,lo,ofs⟩ st' ⟨rfl,rfl,h1,h2,h3,h4⟩
   exact⟨rfl,rfl,h1,h3,h4,.inl (by show hint+1<=ofs;have h2':max 0 n+1<=ofs:=h2;omega)⟩
  ·rintro ⟨r,lo,ofs⟩ st' ⟨rfl,rfl,h1,h3,h4,h5⟩
   dsimp only at h1 h3 h4 h5 ⊢
   have k1:hint+1 - min ofs (hint+1)<=hint - lo:=by omega
   have k2:hint - lo<=n:=by omega
   have k3:∀i,i<hint+1 - min ofs (hint+1)->B i=true:=fun i hi=>by
    rcases h5 with h5|⟨h5,h6⟩
    ·omega
    ·exact mo i (hint - ofs) (by omega) (by omega) h6
   have k4:∀i,hint - lo<=i->i<n->B i=false:=fun i g1 g2=>mf (hint - lo) i g1 g2 h4
   generalize hint+1 - min ofs (hint+1)=lo' at k1 k3 ⊢
   generalize hint - lo=hi' at k1 k2 k4 ⊢
   refine wpS_bind (wpS_mono (wpS_forRange (I:=fun(x:Nat) (c:Option (Option Nat)×Nat×Nat) (st':SortSt)=>st=st'/\c.1=none/\c.2.1<=c.2.2/\c.2.2<=n/\c.2.2 - c.2.1<=n - x/\(∀i,i<c.2.1->B i=true)/\∀i,c.2.2<=i->i<n->B i=false)
    (Q:=fun(c:Option (Option Nat)×Nat×Nat) (st':SortSt)=>st=st'/\c.1=none/\c.2.1=c.2.2/\c.2.2<=n/\(∀i,i<c.2.1->B i=true)/\∀i,c.2.2<=i->i<n->B i=false) ?_ ?_ (show _/\_ from⟨rfl,rfl,by show lo'<=hi';omega,k2,by show hi' - lo'<=n - 0;omega,k3,k4⟩)) ?_)
   ·rintro x ⟨r,lo,hi⟩ st' _ hx ⟨rfl,rfl,g1,g2,g3,g4,g5⟩
    dsimp only at g1 g2 g3 g4 g5 ⊢
    by_cases hge:lo≥hi
    ·rw [if_pos hge]
     exact wpS_pure ⟨rfl,rfl,by show lo=hi;omega,g2,g4,g5⟩
    ·rw [if_neg hge]
     refine wpS_bind (bq (i:=lo+(hi - lo) / 2) (by omega) ?_)
     dsimp only
     cases e:B (lo+(hi - lo) / 2) with
     |true=>
      rw[if_pos rfl]
      exact wpS_pure ⟨rfl,rfl,by show lo+(hi - lo) / 2+1<=hi;omega,g2,by show hi - (lo+(hi - lo) / 2+1)<=n - (x+1);omega,fun i hi'=>mo i _ (Nat.le_of_lt_succ hi') (by omega) e,g5⟩
     |false=>
      rw[if_neg (by decide)]
      exact wpS_pure ⟨rfl,rfl,by show lo<=lo+(hi - lo) / 2;omega,by show lo+(hi - lo) / 2<=n;omega,by show lo+(hi - lo) / 2 - lo<=n - (x+1);omega,g4,fun i h1 h2=>mf _ i h1 h2 e⟩
   ·rintro ⟨r,lo,hi⟩ st' ⟨rfl,rfl,g1,g2,g3,g4,g5⟩
    exact⟨rfl,rfl,by show lo=hi;have g1':lo<=hi:=g1;have g3':hi - lo<=n - max 0 n:=g3;omega,g2,g4,g5⟩
   ·rintro ⟨r,lo,hi⟩ st' ⟨rfl,rfl,g1,g2,g4,g5⟩
    dsimp only at g1 g2 g4 g5 ⊢
    subst g1
    exact wpS_pure (h lo g2 g4 g5)
end
end Tim
namespace Tim
open PySem PySem.W PyProof.Rows
section
variable {O:KeyOrd}{kf:Keyed->O.α}
def Srd (kf:Keyed->O.α)(l:List Keyed):Prop:=l.Pairwise fun x y=>O.kle (kf x) (kf y)
structure MI (kf:Keyed->O.α)(al bl ol:List Keyed)(ia ib:Nat):Prop where
 pm:ol.Perm (al.take ia++bl.take ib)
 so:Srd kf ol
 la:∀x∈ol,∀y∈al.drop ia,O.kle (kf x) (kf y)
 lb:∀x∈ol,∀y∈bl.drop ib,O.kle (kf x) (kf y)
def Res (kf:Keyed->O.α)(al bl:List Keyed)(r:Array Keyed):Prop:=r.toList.Perm (al++bl)/\Srd kf r.toList
theorem q8E {l:List Keyed}(h:Srd kf l){i j:Nat}(hij:i<=j){x y:Keyed}(hx:x∈(l.drop i).take (j - i))(hy:y∈l.drop j):O.kle (kf x) (kf y):=by
 have e:l.drop i=(l.drop i).take (j - i)++l.drop j:=by
  have:=(List.take_append_drop (j - i) (l.drop i)).symm
  rwa [List.drop_drop,show i+(j - i)=j by omega] at this
 have h2:Srd kf (l.drop i):=h.sublist (List.drop_sublist _ _)
 rw[e] at h2
 exact(List.pairwise_append.mp h2).2.2 x hx y hy
theorem q3t {l:List Keyed}{i j:Nat}(hij:i<=j){y:Keyed}(hy:y∈l.drop j):y∈l.drop i:=by
 have e:l.drop j=(l.drop i).drop (j - i):=by rw[List.drop_drop,show i+(j - i)=j by omega]
 rw[e] at hy
 exact List.mem_of_mem_drop hy
theorem q51 {l:List Keyed}{i k:Nat}:l.take (i+k)=l.take i++(l.drop i).take k:=List.take_add
theorem MI.as {al bl ol:List Keyed}{ia ib:Nat}(k:Nat)(h:MI kf al bl ol ia ib)(sa:Srd kf al)(hl:∀x∈(al.drop ia).take k,∀z∈bl.drop ib,O.kle (kf x) (kf z)):MI kf al bl (ol++(al.drop ia).take k) (ia+k) ib:=by
 refine⟨?_,?_,fun x hx y hy=>?_,fun x hx y hy=>?_⟩
 ·rw [q51,List.append_assoc]
  refine(h.pm.append_right _).trans ?_
  rw[List.append_assoc]
  exact List.Perm.append_left _ List.perm_append_comm
 ·refine List.pairwise_append.mpr ⟨h.so,sa.sublist ((List.take_sublist _ _).trans (List.drop_sublist _ _)),fun x hx y hy=>h.la x hx y (List.mem_of_mem_take hy)⟩
 ·rcases List.mem_append.mp hx with hx|hx
  ·exact h.la x hx y (q3t (by omega) hy)
  ·exact q8E sa (i:=ia) (j:=ia+k) (by omega) (by rw[show ia+k - ia=k by omega];exact hx) hy
 ·rcases List.mem_append.mp hx with hx|hx
  ·exact h.lb x hx y hy
  ·exact hl x hx y hy
theorem MI.bs {al bl ol:List Keyed}{ia ib:Nat}(k:Nat)(h:MI kf al bl ol ia ib)(sb:Srd kf bl)(hl:∀x∈(bl.drop ib).take k,∀z∈al.drop ia,O.kle (kf x) (kf z)):MI kf al bl (ol++(bl.drop ib).take k) ia (ib+k):=by
 refine⟨?_,?_,fun x hx y hy=>?_,fun x hx y hy=>?_⟩
 ·rw [q51,<-List.append_assoc]
  exact h.pm.append_right _
 ·refine List.pairwise_append.mpr ⟨h.so,sb.sublist ((List.take_sublist _ _).trans (List.drop_sublist _ _)),fun x hx y hy=>h.lb x hx y (List.mem_of_mem_take hy)⟩
 ·rcases List.mem_append.mp hx with hx|hx
  ·exact h.la x hx y hy
  ·exact hl x hx y hy
 ·rcases List.mem_append.mp hx with hx|hx
  ·exact h.lb x hx y (q3t (by omega) hy)
  ·exact q8E sb (i:=ib) (j:=ib+k) (by omega) (by rw[show ib+k - ib=k by omega];exact hx) hy
theorem q3e {l:List Keyed}{i:Nat}{x:Keyed}(h:l[i]? =some x):(l.drop i).take 1=[x]:=by
 obtain⟨hi,e⟩:=List.getElem?_eq_some_iff.mp h
 rw[List.drop_eq_getElem_cons hi,e]
 rfl
theorem MI.a {al bl ol:List Keyed}{ia ib:Nat}{x:Keyed}(h:MI kf al bl ol ia ib)(sa:Srd kf al)(hx:al[ia]? =some x)(hl:∀z∈bl.drop ib,O.kle (kf x) (kf z)):MI kf al bl (ol++[x]) (ia+1) ib:=by
 have:=h.as 1 sa (by rw[q3e hx];intro y hy z hz;rw[List.mem_singleton.mp hy];exact hl z hz)
 rwa [q3e hx] at this
theorem MI.b {al bl ol:List Keyed}{ia ib:Nat}{x:Keyed}(h:MI kf al bl ol ia ib)(sb:Srd kf bl)(hx:bl[ib]? =some x)(hl:∀z∈al.drop ia,O.kle (kf x) (kf z)):MI kf al bl (ol++[x]) ia (ib+1):=by
 have:=h.bs 1 sb (by rw[q3e hx];intro y hy z hz;rw[List.mem_singleton.mp hy];exact hl z hz)
 rwa [q3e hx] at this
theorem MI.ab {al bl ol:List Keyed}{ia ib:Nat}{r:Array Keyed}(h:MI kf al bl ol ia ib)(sa:Srd kf al)(sb:Srd kf bl)(hl:∀x∈al.drop ia,∀y∈bl.drop ib,O.kle (kf x) (kf y))(er:r.toList=ol++al.drop ia++bl.drop ib):Res kf al bl r:=by
 unfold Res
 rw[er]
 constructor
 ·refine ((h.pm.append_right _).append_right _).trans ?_
  rw[List.append_assoc (al.take ia),List.append_assoc,List.append_assoc]
  refine(List.Perm.append_left _ ?_).trans (List.Perm.of_eq (by rw[<-List.append_assoc,List.take_append_drop]))
  refine List.Perm.trans ?_ (List.Perm.append_left _ (List.Perm.of_eq (List.take_append_drop ib bl)))
  rw[<-List.append_assoc,<-List.append_assoc]
  exact List.perm_append_comm.append_right _
 ·exact List.pairwise_append.mpr ⟨List.pairwise_append.mpr ⟨h.so,sa.sublist (List.drop_sublist _ _),h.la⟩,sb.sublist (List.drop_sublist _ _),fun x hx y hy=>by
   rcases List.mem_append.mp hx with hx|hx
   ·exact h.lb x hx y hy
   ·exact hl x hx y hy⟩
theorem MI.ba {al bl ol:List Keyed}{ia ib:Nat}{r:Array Keyed}(h:MI kf al bl ol ia ib)(sa:Srd kf al)(sb:Srd kf bl)(hl:∀y∈bl.drop ib,∀x∈al.drop ia,O.kle (kf y) (kf x))(er:r.toList=ol++bl.drop ib++al.drop ia):Res kf al bl r:=by
 unfold Res
 rw[er]
 constructor
 ·refine ((h.pm.append_right _).append_right _).trans ?_
  rw[List.append_assoc (al.take ia),List.take_append_drop,List.append_assoc]
  refine(List.Perm.append_left _ List.perm_append_comm).trans ?_
  rw[<-List.append_assoc,List.take_append_drop]
 ·exact List.pairwise_append.mpr ⟨List.pairwise_append.mpr ⟨h.so,sb.sublist (List.drop_sublist _ _),h.lb⟩,sa.sublist (List.drop_sublist _ _),fun x hx y hy=>by
   rcases List.mem_append.mp hx with hx|hx
   ·exact h.la x hx y hy
   ·exact hl x hx y hy⟩
end
end Tim
namespace Tim
open PySem PySem.W PyProof.Rows
abbrev Stq (st st':SortSt):Prop:=kindOf st'=kindOf st/\arrOf st'=arrOf st/\pendingOf st'=pendingOf st/\failedOf st'=failedOf st
theorem q2O (a:Array Keyed)(i:Nat):(a.extract i a.size).toList=a.toList.drop i:=by
 rw[Array.toList_extract,List.extract_eq_take_drop]
 exact List.take_of_length_le (by simp)
theorem q8B (a:Array Keyed)(i k:Nat):(a.extract i (i+k)).toList=(a.toList.drop i).take k:=by
 rw[Array.toList_extract,List.extract_eq_take_drop,show i+k - i=k by omega]
theorem q03 {a:Array Keyed}{i:Nat}(h:i<a.size):∃x,a[i]? =some x/\a.toList[i]? =some x/\x∈a.toList:=⟨a[i],by simp[h],by simp[h],by simp⟩
theorem q3b {l:List Keyed}{i k:Nat}{x:Keyed}(h:x∈(l.drop i).take k):∃j,j<k/\l[i+j]? =some x:=by
 obtain⟨j,hj,e⟩:=List.getElem_of_mem h
 rw[List.length_take] at hj
 refine⟨j,by omega,?_⟩
 rw[List.getElem_take,List.getElem_drop] at e
 rw[<-e]
 exact List.getElem?_eq_getElem _
theorem q0x {l:List Keyed}{i:Nat}{x:Keyed}(h:x∈l.drop i):∃j,i+j<l.length/\l[i+j]? =some x:=by
 obtain⟨j,hj,e⟩:=List.getElem_of_mem h
 rw[List.length_drop] at hj
 refine⟨j,by omega,?_⟩
 rw[List.getElem_drop] at e
 rw[<-e]
 exact List.getElem?_eq_getElem _
section
variable {prog:Program}{w:World}{A:Around}{E:Value->Shared->Prop}{s:Shared}{κ:SortKind}{O:KeyOrd}{kf:Keyed->O.α}{Ok:Keyed->Prop}
theorem q0I {l:List Keyed}(h:Srd kf l){i j:Nat}{x y:Keyed}(hij:i<=j)(hx:l[i]? =some x)(hy:l[j]? =some y):O.kle (kf x) (kf y):=by
 by_cases e:i=j
 ·subst e
  rw[hx] at hy
  cases hy
  exact KeyOrd.kle_refl _
 ·obtain ⟨h1,e1⟩:=List.getElem?_eq_some_iff.mp hx
  obtain⟨h2,e2⟩:=List.getElem?_eq_some_iff.mp hy
  have:=List.pairwise_iff_getElem.mp h i j h1 h2 (by omega)
  rwa [e1,e2] at this
theorem w_gl (c:Cmp prog w A s κ O kf Ok){key:Keyed}{arr:Array Keyed}{base:Nat}{st:SortSt}{Q:Option Nat->SortSt->Prop}(hk:kindOf st=κ)(hn:base<arr.size)(ok:Ok key)(oa:∀x∈arr.toList,Ok x)(sa:Srd kf arr.toList)
  (h:∀k,base+k<=arr.size->(∀x∈(arr.toList.drop base).take k,O.klt (kf x) (kf key))->(∀x∈arr.toList.drop (base+k),O.kle (kf key) (kf x))->Q (some k) st):wpS (model prog w) A E s (q2M true key arr base (arr.size - base) 0) Q st:=by
 refine q2e c (B:=fun i=>match arr[base+i]? with|some p=>O.blt (kf p) (kf key)|none=>false) hk (by omega) ok (fun i hi=>?_) (fun i j h1 h2 h3=>?_) fun k k1 k2 k3=>?_
 ·obtain ⟨x,h1,h2,h3⟩:=q03 (a:=arr) (i:=base+i) (by omega)
  exact⟨x,h1,oa x h3,by rw[h1];rfl⟩
 ·obtain ⟨x,x1,x2,x3⟩:=q03 (a:=arr) (i:=base+i) (by omega)
  obtain⟨y,y1,y2,y3⟩:=q03 (a:=arr) (i:=base+j) (by omega)
  rw[y1] at h3
  rw[x1]
  exact KeyOrd.klt_of_kle_of_klt (q0I sa (by omega) x2 y2) h3
 ·refine h k (by omega) (fun x hx=>?_) fun x hx=>?_
  ·obtain ⟨j,hj,e⟩:=q3b hx
   have:=k2 j hj
   rw[show arr[base+j]? =some x by simpa using e] at this
   exact this
  ·obtain ⟨j,hj,e⟩:=q0x hx
   have:=k3 (k+j) (by omega) (by simp at hj;omega)
   rw[show arr[base+(k+j)]? =some x by rw[<-Nat.add_assoc];simpa using e] at this
   exact this
theorem w_gr (c:Cmp prog w A s κ O kf Ok){key:Keyed}{arr:Array Keyed}{base:Nat}{st:SortSt}{Q:Option Nat->SortSt->Prop}(hk:kindOf st=κ)(hn:base<arr.size)(ok:Ok key)(oa:∀x∈arr.toList,Ok x)(sa:Srd kf arr.toList)
  (h:∀k,base+k<=arr.size->(∀x∈(arr.toList.drop base).take k,O.kle (kf x) (kf key))->(∀x∈arr.toList.drop (base+k),O.klt (kf key) (kf x))->Q (some k) st):wpS (model prog w) A E s (q2M false key arr base (arr.size - base) 0) Q st:=by
 refine q2e c (B:=fun i=>match arr[base+i]? with|some p=> !O.blt (kf key) (kf p)|none=>false) hk (by omega) ok (fun i hi=>?_) (fun i j h1 h2 h3=>?_) fun k k1 k2 k3=>?_
 ·obtain ⟨x,h1,h2,h3⟩:=q03 (a:=arr) (i:=base+i) (by omega)
  exact⟨x,h1,oa x h3,by rw[h1];rfl⟩
 ·obtain ⟨x,x1,x2,x3⟩:=q03 (a:=arr) (i:=base+i) (by omega)
  obtain⟨y,y1,y2,y3⟩:=q03 (a:=arr) (i:=base+j) (by omega)
  rw[y1] at h3
  rw[x1]
  have h3':O.kle (kf y) (kf key):=by show O.blt (kf key) (kf y)=false;simpa using h3
  have:=KeyOrd.kle_trans (q0I sa (by omega) x2 y2) h3'
  show(!O.blt (kf key) (kf x))=true
  rw[this]
  rfl
 ·refine h k (by omega) (fun x hx=>?_) fun x hx=>?_
  ·obtain ⟨j,hj,e⟩:=q3b hx
   have:=k2 j hj
   rw[show arr[base+j]? =some x by simpa using e] at this
   show O.blt (kf key) (kf x)=false
   simpa using this
  ·obtain ⟨j,hj,e⟩:=q0x hx
   have:=k3 (k+j) (by omega) (by simp at hj;omega)
   rw[show arr[base+(k+j)]? =some x by rw[<-Nat.add_assoc];simpa using e] at this
   show O.blt (kf key) (kf x)=true
   simpa using this
set_option hygiene false in
local macro_rules| `(tactic| walk_at "tloB")=> `(tactic| (
 obtain⟨x0,x1,x2,x3⟩:=q03 (a:=a) (i:=ia2) (by omega)
 refine wpS_bind (qU x1 ?_)
 refine wpS_bind (w_gl c hk3 (by omega) (oa x0 x3) ob sb fun k' k1' k2' k3'=>?_)
 have le0:∀z∈a.toList.drop ia2,O.kle (kf x0) (kf z):=fun z hz=>by
  obtain⟨j,_,ej⟩:=q0x hz
  exact q0I sa (by omega) x2 ej
 have m4:=m3.bs k' sb fun x hx z hz=>KeyOrd.kle_trans (KeyOrd.kle_of_klt (k2' x hx)) (le0 z hz)
 rw[<-q8B,<-Array.toList_append] at m4
 dsimp only
 by_cases hk0':k'>0
 ·rw [if_pos hk0']
  by_cases he:ib3+k'=b.size
  ·rw [if_pos (by simpa using he)]
   exact wpS_pure ⟨q3,.inl ⟨_,rfl,fB m4 he⟩⟩
  ·rw [if_neg (by simpa using he)]
   have m5:=m4.a sa x2 k3'
   rw[<-Array.toList_push] at m5
   refine wpS_bind (qU x1 ?_)
   by_cases hf:ia2+1+1=a.size
   ·rw [if_pos (by simpa using hf)]
    exact wpS_pure ⟨q3,.inl ⟨_,rfl,fA m5 hf⟩⟩
   ·rw [if_neg (by simpa using hf)]
    split
    ·exact wpS_pure ⟨q3,.inr ⟨rfl,m5,by show ia2+1+1<a.size;omega,by show ib3+k'<b.size;omega,by show s1<=ia2+1+(ib3+k');omega⟩⟩
    ·exact wpS_pure ⟨q3,rfl,m5,by show ia2+1+1<a.size;omega,by show ib3+k'<b.size;omega,by show s1<=ia2+1+(ib3+k');omega⟩
 ·rw [if_neg hk0']
  have hz:k'=0:=by omega
  subst hz
  have m5:=m3.a sa x2 k3'
  rw[<-Array.toList_push] at m5
  refine wpS_bind (qU x1 ?_)
  by_cases hf:ia2+1+1=a.size
  ·rw [if_pos (by simpa using hf)]
   exact wpS_pure ⟨q3,.inl ⟨_,rfl,fA m5 hf⟩⟩
  ·rw [if_neg (by simpa using hf)]
   split
   ·exact wpS_pure ⟨q3,.inr ⟨rfl,m5,by show ia2+1+1<a.size;omega,by show ib3<b.size;omega,by show s1<=ia2+1+ib3;omega⟩⟩
   ·exact wpS_pure ⟨q3,rfl,m5,by show ia2+1+1<a.size;omega,by show ib3<b.size;omega,by show s1<=ia2+1+ib3;omega⟩))
set_option hygiene false in
local macro_rules| `(tactic| walk_at "tloA")=> `(tactic| (
 refine wpS_bind (wpS_modify ?_)
 obtain⟨y0,y1,y2,y3⟩:=q03 (a:=b) (i:=ib) (by omega)
 refine wpS_bind (qU y1 ?_)
 have q3:=q
 have hk3:kindOf st1=κ:=by rw[q.1];exact hk
 refine wpS_bind (w_gr c hk3 (by omega) (ob y0 y3) oa sa fun k k1 k2 k3=>?_)
 have le1:∀z∈b.toList.drop ib,O.kle (kf y0) (kf z):=fun z hz=>by
  obtain⟨j,_,ej⟩:=q0x hz
  exact q0I sb (by omega) y2 ej
 have m2:=m.as k sa fun x hx z hz=>KeyOrd.kle_trans (k2 x hx) (le1 z hz)
 rw[<-q8B,<-Array.toList_append] at m2
 dsimp only
 by_cases hk0:k>0
 ·rw [if_pos hk0]
  by_cases he:ia+k+1=a.size
  ·rw [if_pos (by simpa using he)]
   exact wpS_pure ⟨q3,.inl ⟨_,rfl,fA m2 he⟩⟩
  rw[if_neg (by simpa using he)]
  by_cases he2:ia+k=a.size
  ·rw [if_pos (by simpa using he2)]
   exact wpS_pure ⟨q3,.inl ⟨_,rfl,fC m2 he2⟩⟩
  rw[if_neg (by simpa using he2)]
  refine wpS_bind (qU y1 ?_)
  have m3:=m2.b sb y2 fun z hz=>KeyOrd.kle_of_klt (k3 z hz)
  rw[<-Array.toList_push] at m3
  have ba2:ia+k+1<a.size:=by omega
  have pr2:s1<=ia+k+ib:=by omega
  generalize (out++a.extract ia (ia+k)).push y0=out3 at m3 ⊢
  generalize ia+k=ia2 at m3 ba2 pr2 ⊢
  by_cases hf:ib+1=b.size
  ·rw [if_pos (by simpa using hf)]
   exact wpS_pure ⟨q3,.inl ⟨_,rfl,fB m3 hf⟩⟩
  rw[if_neg (by simpa using hf)]
  have bb3:ib+1<b.size:=by omega
  have pr3:s1<=ia2+(ib+1):=by omega
  generalize ib+1=ib3 at m3 bb3 pr3 ⊢
  walk_at "tloB"
 ·rw [if_neg hk0]
  have hz:k=0:=by omega
  subst hz
  refine wpS_bind (qU y1 ?_)
  have m3:=m.b sb y2 fun z hz=>KeyOrd.kle_of_klt (k3 z hz)
  rw[<-Array.toList_push] at m3
  have ba2:=ba
  have pr2:=pr
  generalize out.push y0=out3 at m3 ⊢
  generalize ia=ia2 at m3 ba2 pr2 ⊢
  by_cases hf:ib+1=b.size
  ·rw [if_pos (by simpa using hf)]
   exact wpS_pure ⟨q3,.inl ⟨_,rfl,fB m3 hf⟩⟩
  rw[if_neg (by simpa using hf)]
  have bb3:ib+1<b.size:=by omega
  have pr3:s1<=ia2+(ib+1):=by omega
  generalize ib+1=ib3 at m3 bb3 pr3 ⊢
  walk_at "tloB"))
theorem q7t (c:Cmp prog w A s κ O kf Ok){a b:Array Keyed}{st:SortSt}{Q:Array Keyed->SortSt->Prop}(hk:kindOf st=κ)(oa:∀x∈a.toList,Ok x)(ob:∀x∈b.toList,Ok x)(sa:Srd kf a.toList)(sb:Srd kf b.toList)(ha:0<a.size)(hb:0<b.size)
  (hd:∀x∈a.toList,∀y,b.toList[0]? =some y->O.kle (kf y) (kf x))(hl:∀y∈b.toList,∀x,a.toList[a.size - 1]? =some x->O.kle (kf y) (kf x))
  (h:∀r st',Res kf a.toList b.toList r->Stq st st'->Q r st'):wpS (model prog w) A E s (q9Z a b) Q st:=by
 have fA:∀{out:Array Keyed} {ia ib:Nat},MI kf a.toList b.toList out.toList ia ib->ia+1=a.size->Res kf a.toList b.toList (out++b.extract ib++a.extract ia):=fun {out ia ib} m e=>by
  refine m.ba sa sb (fun y hy x hx=>?_) (by rw[Array.toList_append,Array.toList_append,q2O,q2O])
  obtain⟨j,hj,ej⟩:=q0x hx
  have:ia+j=a.size - 1:=by simp at hj;omega
  rw[this] at ej
  exact hl y (List.mem_of_mem_drop hy) x ej
 have fB:∀{out:Array Keyed} {ia ib:Nat},MI kf a.toList b.toList out.toList ia ib->ib=b.size->Res kf a.toList b.toList (out++a.extract ia++b.extract ib):=fun {out ia ib} m e=>by
  refine m.ab sa sb (fun x hx y hy=>?_) (by rw[Array.toList_append,Array.toList_append,q2O,q2O])
  rw[List.drop_eq_nil_of_le (by simp;omega)] at hy
  cases hy
 have fC:∀{out:Array Keyed} {ia ib:Nat},MI kf a.toList b.toList out.toList ia ib->ia=a.size->Res kf a.toList b.toList (out++a.extract ia++b.extract ib):=fun {out ia ib} m e=>by
  refine m.ab sa sb (fun x hx y hy=>?_) (by rw[Array.toList_append,Array.toList_append,q2O,q2O])
  rw[List.drop_eq_nil_of_le (by simp;omega)] at hx
  cases hx
 obtain⟨b0,b1,b2,b3⟩:=q03 hb
 have m0:MI kf a.toList b.toList (#[b0]:Array Keyed).toList 0 1:=by
  have:=(show MI kf a.toList b.toList [] 0 0 from⟨by simp,List.Pairwise.nil,fun x hx=>(nomatch hx),fun x hx=>(nomatch hx)⟩).b sb b2 fun z hz=>hd z (by simpa using hz) b0 b2
  simpa using this
 refine wpS_bind (wpS_lift (wpAny_rule ⟨rfl,?_⟩))
 refine wpS_bind (qU b1 ?_)
 dsimp only
 by_cases e1:1=b.size
 ·rw [if_pos (by simpa using e1)]
  exact wpS_pure (h _ _ (fB m0 e1) ⟨rfl,rfl,rfl,rfl⟩)
 rw[if_neg (by simpa using e1)]
 by_cases e2:0+1=a.size
 ·rw [if_pos (by simpa using e2)]
  exact wpS_pure (h _ _ (fA m0 e2) ⟨rfl,rfl,rfl,rfl⟩)
 rw[if_neg (by simpa using e2)]
 refine wpS_bind (wpS_get ?_)
 refine wpS_bind (wpS_mono (wpS_forRange (I:=fun(x:Nat) (c:Option (Array Keyed)×Array Keyed×Nat×Nat×Nat) (st':SortSt)=>c.1=none/\Stq st st'/\MI kf a.toList b.toList c.2.1.toList c.2.2.1 c.2.2.2.1/\c.2.2.1+1<a.size/\c.2.2.2.1<b.size/\x+1<=c.2.2.1+c.2.2.2.1)
  (Q:=fun(c:Option (Array Keyed)×Array Keyed×Nat×Nat×Nat) (st':SortSt)=>Stq st st'/\∃r,c.1=some r/\Res kf a.toList b.toList r) ?_ ?_ (show _/\_ from⟨rfl,⟨rfl,rfl,rfl,rfl⟩,m0,by show 0+1<a.size;omega,by show 1<b.size;omega,Nat.le_refl _⟩)) ?_)
 ·rintro x ⟨r,out,ia,ib,mg⟩ st1 _ hx ⟨rfl,q,m,ba,bb,pr⟩
  dsimp only at m ba bb pr ⊢
  have hk1:kindOf st1=κ:=by rw[q.1];exact hk
  refine wpS_bind (wpS_mono (wpS_forRange (I:=fun(y:Nat) (c:Option (Array Keyed)×Array Keyed×Nat×Nat×Nat×Nat) (st':SortSt)=>st1=st'/\c.1=none/\MI kf a.toList b.toList c.2.1.toList c.2.2.1 c.2.2.2.1/\c.2.2.1+1<a.size/\c.2.2.2.1<b.size/\ia+ib+y<=c.2.2.1+c.2.2.2.1)
   (Q:=fun(c:Option (Array Keyed)×Array Keyed×Nat×Nat×Nat×Nat) (st':SortSt)=>st1=st'/\((∃r,c.1=some r/\Res kf a.toList b.toList r)\/c.1=none/\MI kf a.toList b.toList c.2.1.toList c.2.2.1 c.2.2.2.1/\c.2.2.1+1<a.size/\c.2.2.2.1<b.size/\ia+ib+1<=c.2.2.1+c.2.2.2.1)) ?_ ?_ (show _/\_ from⟨rfl,rfl,m,ba,bb,Nat.le_refl _⟩)) ?_)
  ·rintro y ⟨r,out',ia',ib',ac,bc⟩ st2 _ hy ⟨rfl,rfl,m',ba',bb',pr'⟩
   dsimp only at m' ba' bb' pr' ⊢
   obtain⟨y0,y1,y2,y3⟩:=q03 (a:=b) (i:=ib') (by omega)
   obtain⟨x0,x1,x2,x3⟩:=q03 (a:=a) (i:=ia') (by omega)
   refine wpS_bind (qU y1 (wpS_bind (qU x1 (wpS_bind (w_lt c hk1 (ob y0 y3) (oa x0 x3) ?_)))))
   dsimp only
   cases e:O.blt (kf y0) (kf x0) with
   |true=>
    rw[if_pos rfl]
    refine wpS_bind (qU y1 ?_)
    have m2:=m'.b sb y2 fun z hz=>by
     obtain⟨j,_,ej⟩:=q0x hz
     exact KeyOrd.kle_of_klt (KeyOrd.klt_of_klt_of_kle e (q0I sa (by omega) x2 ej))
    rw[<-Array.toList_push] at m2
    by_cases he:ib'+1=b.size
    ·rw [if_pos (by simpa using he)]
     exact wpS_pure ⟨rfl,.inl ⟨_,rfl,fB m2 he⟩⟩
    ·rw [if_neg (by simpa using he)]
     split
     ·exact wpS_pure ⟨rfl,.inr ⟨rfl,m2,ba',by show ib'+1<b.size;omega,by show ia+ib+1<=ia'+(ib'+1);omega⟩⟩
     ·exact wpS_pure ⟨rfl,rfl,m2,ba',by show ib'+1<b.size;omega,by show ia+ib+(y+1)<=ia'+(ib'+1);omega⟩
   |false=>
    rw[if_neg (by decide)]
    refine wpS_bind (qU x1 ?_)
    have m2:=m'.a sa x2 fun z hz=>by
     obtain⟨j,_,ej⟩:=q0x hz
     exact KeyOrd.kle_trans e (q0I sb (by omega) y2 ej)
    rw[<-Array.toList_push] at m2
    by_cases he:ia'+1+1=a.size
    ·rw [if_pos (by simpa using he)]
     exact wpS_pure ⟨rfl,.inl ⟨_,rfl,fA m2 he⟩⟩
    ·rw [if_neg (by simpa using he)]
     split
     ·exact wpS_pure ⟨rfl,.inr ⟨rfl,m2,by show ia'+1+1<a.size;omega,bb',by show ia+ib+1<=ia'+1+ib';omega⟩⟩
     ·exact wpS_pure ⟨rfl,rfl,m2,by show ia'+1+1<a.size;omega,bb',by show ia+ib+(y+1)<=ia'+1+ib';omega⟩
  ·rintro ⟨r,out',ia',ib',ac,bc⟩ st2 ⟨rfl,rfl,m',ba',bb',pr'⟩
   have pr2:ia+ib+max 0 (a.size+b.size)<=ia'+ib':=pr'
   exact⟨rfl,.inr ⟨rfl,m',ba',bb',by show ia+ib+1<=ia'+ib';omega⟩⟩
  ·rintro ⟨r,out',ia',ib',ac,bc⟩ st2 ⟨rfl,hq⟩
   dsimp only at hq ⊢
   rcases hq with⟨r0,e0,hr0⟩|⟨e0,m',ba',bb',pr'⟩
   ·subst e0
    exact wpS_pure ⟨q,_,rfl,hr0⟩
   ·subst e0
    dsimp only
    refine wpS_bind (wpS_lift (wpAny_rule ⟨rfl,?_⟩))
    generalize hs1:ia+ib+1=s1 at pr'
    refine wpS_bind (wpS_mono (wpS_forRange (I:=fun(y:Nat) (c:Option (Array Keyed)×Array Keyed×Nat×Nat×Nat×Nat×Nat) (st':SortSt)=>Stq st st'/\c.1=none/\MI kf a.toList b.toList c.2.1.toList c.2.2.1 c.2.2.2.1/\c.2.2.1+1<a.size/\c.2.2.2.1<b.size/\s1<=c.2.2.1+c.2.2.2.1)
     (Q:=fun(c:Option (Array Keyed)×Array Keyed×Nat×Nat×Nat×Nat×Nat) (st':SortSt)=>Stq st st'/\((∃r,c.1=some r/\Res kf a.toList b.toList r)\/c.1=none/\MI kf a.toList b.toList c.2.1.toList c.2.2.1 c.2.2.2.1/\c.2.2.1+1<a.size/\c.2.2.2.1<b.size/\s1<=c.2.2.1+c.2.2.2.1)) ?_ ?_ (show _/\_ from⟨q,rfl,m',ba',bb',pr'⟩)) ?_)
    ·clear m' ba' bb' pr' q m ba bb pr hk1
     rintro y ⟨r,out,ia,ib,mg,ac,bc⟩ st1 _ hy ⟨q,rfl,m,ba,bb,pr⟩
     dsimp only at m ba bb pr ⊢
     by_cases hg:mg>1
     ·rw [if_pos hg]
      walk_at "tloA"
     ·rw [if_neg hg]
      walk_at "tloA"
    ·rintro ⟨r,out',ia',ib',mg',ac,bc⟩ st2 ⟨q',rfl,z⟩
     exact⟨q',.inr ⟨rfl,z⟩⟩
    ·rintro ⟨r,out2,ia2,ib2,mg2,ac,bc⟩ st2 ⟨q',hq⟩
     dsimp only at hq ⊢
     rcases hq with⟨r0,e0,hr0⟩|⟨e0,m2,ba2,bb2,pr2⟩
     ·subst e0
      exact wpS_pure ⟨q',_,rfl,hr0⟩
     ·subst e0
      dsimp only
      refine wpS_bind (wpS_modify ?_)
      exact wpS_pure ⟨rfl,q',m2,ba2,bb2,by show x+1+1<=ia2+ib2;omega⟩
 ·rintro ⟨r,out,ia,ib,mg⟩ st1 ⟨rfl,q,m,ba,bb,pr⟩
  dsimp only at ba bb pr
  omega
 ·rintro ⟨r,out,ia,ib,mg⟩ st1 ⟨q,r0,e0,hr0⟩
  dsimp only at e0 ⊢
  subst e0
  exact wpS_pure (h _ _ hr0 q)
end
end Tim
namespace Tim
open PySem PySem.W PyProof.Rows
section
variable {prog:Program}{w:World}{A:Around}{E:Value->Shared->Prop}{s:Shared}{κ:SortKind}{O:KeyOrd}{kf:Keyed->O.α}{Ok:Keyed->Prop}
structure MH (kf:Keyed->O.α)(al bl ol:List Keyed)(na nb:Nat):Prop where
 pm:ol.Perm (al.drop na++bl.drop nb)
 so:Srd kf ol.reverse
 la:∀x∈ol,∀y∈al.take na,O.kle (kf y) (kf x)
 lb:∀x∈ol,∀y∈bl.take nb,O.kle (kf y) (kf x)
theorem q5B {l:List Keyed}{i j:Nat}(h:i<=j):l.drop i=(l.take j).drop i++l.drop j:=by
 have e:=List.take_append_drop j l
 conv=>lhs;rw[<-e]
 by_cases hl:i<=(l.take j).length
 ·rw [List.drop_append_of_le_length hl]
 ·rw [List.length_take] at hl
  rw[List.drop_eq_nil_of_le (show(l.take j).length<=i by rw[List.length_take];omega),List.nil_append,List.drop_eq_nil_of_le (show l.length<=j by omega),List.append_nil,List.drop_eq_nil_of_le (by rw[List.length_take];omega)]
theorem MH.as {al bl ol:List Keyed}{na nb:Nat}(k:Nat)(hk:k<=na)(h:MH kf al bl ol na nb)(sa:Srd kf al)(hl:∀x∈(al.take na).drop k,∀z∈bl.take nb,O.kle (kf z) (kf x)):MH kf al bl (ol++((al.take na).drop k).reverse) k nb:=by
 refine⟨?_,?_,fun x hx y hy=>?_,fun x hx y hy=>?_⟩
 ·rw [q5B (l:=al) hk]
  refine((h.pm.append (List.reverse_perm _)).trans ?_)
  refine List.perm_append_comm.trans ?_
  rw[List.append_assoc]
 ·rw [List.reverse_append,List.reverse_reverse]
  exact List.pairwise_append.mpr ⟨sa.sublist ((List.drop_sublist _ _).trans (List.take_sublist _ _)),h.so,fun x hx y hy=>h.la y (List.mem_reverse.mp hy) x (List.mem_of_mem_drop hx)⟩
 ·rcases List.mem_append.mp hx with hx|hx
  ·refine h.la x hx y ?_
   have e:al.take k=(al.take na).take k:=by rw[List.take_take,Nat.min_eq_left hk]
   rw[e] at hy
   exact List.mem_of_mem_take hy
  ·have hx':=List.mem_reverse.mp hx
   have e:al.take na=al.take k++(al.take na).drop k:=by
    have:=(List.take_append_drop k (al.take na)).symm
    rwa [List.take_take,Nat.min_eq_left hk] at this
   have h2:Srd kf (al.take na):=sa.sublist (List.take_sublist _ _)
   rw[e] at h2
   exact(List.pairwise_append.mp h2).2.2 y hy x hx'
 ·rcases List.mem_append.mp hx with hx|hx
  ·exact h.lb x hx y hy
  ·exact hl x (List.mem_reverse.mp hx) y hy
theorem MH.bs {al bl ol:List Keyed}{na nb:Nat}(k:Nat)(hk:k<=nb)(h:MH kf al bl ol na nb)(sb:Srd kf bl)(hl:∀x∈(bl.take nb).drop k,∀z∈al.take na,O.kle (kf z) (kf x)):MH kf al bl (ol++((bl.take nb).drop k).reverse) na k:=by
 refine⟨?_,?_,fun x hx y hy=>?_,fun x hx y hy=>?_⟩
 ·rw [q5B (l:=bl) hk]
  refine((h.pm.append (List.reverse_perm _)).trans ?_)
  rw[List.append_assoc]
  exact List.Perm.append_left _ List.perm_append_comm
 ·rw [List.reverse_append,List.reverse_reverse]
  exact List.pairwise_append.mpr ⟨sb.sublist ((List.drop_sublist _ _).trans (List.take_sublist _ _)),h.so,fun x hx y hy=>h.lb y (List.mem_reverse.mp hy) x (List.mem_of_mem_drop hx)⟩
 ·rcases List.mem_append.mp hx with hx|hx
  ·exact h.la x hx y hy
  ·exact hl x (List.mem_reverse.mp hx) y hy
 ·rcases List.mem_append.mp hx with hx|hx
  ·refine h.lb x hx y ?_
   have e:bl.take k=(bl.take nb).take k:=by rw[List.take_take,Nat.min_eq_left hk]
   rw[e] at hy
   exact List.mem_of_mem_take hy
  ·have hx':=List.mem_reverse.mp hx
   have e:bl.take nb=bl.take k++(bl.take nb).drop k:=by
    have:=(List.take_append_drop k (bl.take nb)).symm
    rwa [List.take_take,Nat.min_eq_left hk] at this
   have h2:Srd kf (bl.take nb):=sb.sublist (List.take_sublist _ _)
   rw[e] at h2
   exact(List.pairwise_append.mp h2).2.2 y hy x hx'
theorem q3c {l:List Keyed}{n:Nat}{x:Keyed}(h:l[n]? =some x):(l.take (n+1)).drop n=[x]:=by
 obtain⟨hi,e⟩:=List.getElem?_eq_some_iff.mp h
 rw[List.take_succ_eq_append_getElem hi,List.drop_append_of_le_length (by rw[List.length_take];omega),List.drop_eq_nil_of_le (by rw[List.length_take];omega),e]
 rfl
theorem MH.a {al bl ol:List Keyed}{na nb:Nat}{x:Keyed}(h:MH kf al bl ol (na+1) nb)(sa:Srd kf al)(hx:al[na]? =some x)(hl:∀z∈bl.take nb,O.kle (kf z) (kf x)):MH kf al bl (ol++[x]) na nb:=by
 have:=h.as na (by omega) sa (by rw[q3c hx];intro y hy z hz;rw[List.mem_singleton.mp hy];exact hl z hz)
 rwa [q3c hx] at this
theorem MH.b {al bl ol:List Keyed}{na nb:Nat}{x:Keyed}(h:MH kf al bl ol na (nb+1))(sb:Srd kf bl)(hx:bl[nb]? =some x)(hl:∀z∈al.take na,O.kle (kf z) (kf x)):MH kf al bl (ol++[x]) na nb:=by
 have:=h.bs nb (by omega) sb (by rw[q3c hx];intro y hy z hz;rw[List.mem_singleton.mp hy];exact hl z hz)
 rwa [q3c hx] at this
theorem MH.ab {al bl ol:List Keyed}{na nb:Nat}{r:Array Keyed}(h:MH kf al bl ol na nb)(sa:Srd kf al)(sb:Srd kf bl)(hl:∀x∈al.take na,∀y∈bl.take nb,O.kle (kf x) (kf y))(er:r.toList=al.take na++bl.take nb++ol.reverse):Res kf al bl r:=by
 unfold Res
 rw[er]
 constructor
 ·refine (List.Perm.append_left _ ((List.reverse_perm _).trans h.pm)).trans ?_
  rw[List.append_assoc]
  refine(List.Perm.append_left _ (?_:(bl.take nb++(al.drop na++bl.drop nb)).Perm (al.drop na++(bl.take nb++bl.drop nb)))).trans ?_
  ·rw [<-List.append_assoc,<-List.append_assoc]
   exact List.perm_append_comm.append_right _
  ·rw [<-List.append_assoc,List.take_append_drop,List.take_append_drop]
 ·exact List.pairwise_append.mpr ⟨List.pairwise_append.mpr ⟨sa.sublist (List.take_sublist _ _),sb.sublist (List.take_sublist _ _),hl⟩,h.so,fun x hx y hy=>by
   rcases List.mem_append.mp hx with hx|hx
   ·exact h.la y (List.mem_reverse.mp hy) x hx
   ·exact h.lb y (List.mem_reverse.mp hy) x hx⟩
theorem MH.ba {al bl ol:List Keyed}{na nb:Nat}{r:Array Keyed}(h:MH kf al bl ol na nb)(sa:Srd kf al)(sb:Srd kf bl)(hl:∀y∈bl.take nb,∀x∈al.take na,O.kle (kf y) (kf x))(er:r.toList=bl.take nb++al.take na++ol.reverse):Res kf al bl r:=by
 unfold Res
 rw[er]
 constructor
 ·refine (List.Perm.append_left _ ((List.reverse_perm _).trans h.pm)).trans ?_
  rw[List.append_assoc]
  refine(List.Perm.append_left _ (List.Perm.of_eq (show al.take na++(al.drop na++bl.drop nb)=al++bl.drop nb by rw[<-List.append_assoc,List.take_append_drop]))).trans ?_
  rw[<-List.append_assoc]
  refine(List.perm_append_comm.append_right _).trans ?_
  rw[List.append_assoc,List.take_append_drop]
 ·exact List.pairwise_append.mpr ⟨List.pairwise_append.mpr ⟨sb.sublist (List.take_sublist _ _),sa.sublist (List.take_sublist _ _),hl⟩,h.so,fun x hx y hy=>by
   rcases List.mem_append.mp hx with hx|hx
   ·exact h.lb y (List.mem_reverse.mp hy) x hx
   ·exact h.la y (List.mem_reverse.mp hy) x hx⟩
theorem q1U (a:Array Keyed)(n:Nat):(a.extract 0 n).toList=a.toList.take n:=by
 rw[Array.toList_extract,List.extract_eq_take_drop,List.drop_zero,Nat.sub_zero]
theorem q6G (a:Array Keyed)(i n:Nat):((a.extract i n).reverse).toList=((a.toList.take n).drop i).reverse:=by
 rw[Array.toList_reverse,Array.toList_extract,List.extract_eq_take_drop,List.drop_take]
theorem q09 {l:List Keyed}{n:Nat}{x:Keyed}(h:x∈l.take n):∃j,j<n/\l[j]? =some x:=by
 obtain⟨j,hj,e⟩:=q3b (i:=0) (by simpa using h)
 exact⟨j,hj,by simpa using e⟩
theorem q40 {l:List Keyed}{i n:Nat}{x:Keyed}(h:x∈(l.take n).drop i):∃j,i<=j/\j<n/\l[j]? =some x:=by
 rw[List.drop_take] at h
 obtain⟨j,hj,e⟩:=q3b h
 exact⟨i+j,by omega,by omega,e⟩
theorem w_hl (c:Cmp prog w A s κ O kf Ok){key:Keyed}{arr:Array Keyed}{n:Nat}{st:SortSt}{Q:Option Nat->SortSt->Prop}(hk:kindOf st=κ)(h0:0<n)(hn:n<=arr.size)(ok:Ok key)(oa:∀x∈arr.toList,Ok x)(sa:Srd kf arr.toList)
  (h:∀k,k<=n->(∀x∈arr.toList.take k,O.klt (kf x) (kf key))->(∀x∈(arr.toList.take n).drop k,O.kle (kf key) (kf x))->Q (some k) st):wpS (model prog w) A E s (q2M true key arr 0 n (n - 1)) Q st:=by
 refine q2e c (B:=fun i=>match arr[0+i]? with|some p=>O.blt (kf p) (kf key)|none=>false) hk (by omega) ok (fun i hi=>?_) (fun i j h1 h2 h3=>?_) fun k k1 k2 k3=>?_
 ·obtain ⟨x,h1,h2,h3⟩:=q03 (a:=arr) (i:=0+i) (by omega)
  exact⟨x,h1,oa x h3,by rw[h1];rfl⟩
 ·obtain ⟨x,x1,x2,x3⟩:=q03 (a:=arr) (i:=0+i) (by omega)
  obtain⟨y,y1,y2,y3⟩:=q03 (a:=arr) (i:=0+j) (by omega)
  rw[y1] at h3
  rw[x1]
  exact KeyOrd.klt_of_kle_of_klt (q0I sa (by omega) x2 y2) h3
 ·refine h k k1 (fun x hx=>?_) fun x hx=>?_
  ·obtain ⟨j,hj,e⟩:=q09 hx
   have:=k2 j hj
   rw[show arr[0+j]? =some x by rw[Nat.zero_add];simpa using e] at this
   exact this
  ·obtain ⟨j,hj1,hj2,e⟩:=q40 hx
   have:=k3 j hj1 hj2
   rw[show arr[0+j]? =some x by rw[Nat.zero_add];simpa using e] at this
   exact this
theorem w_hr (c:Cmp prog w A s κ O kf Ok){key:Keyed}{arr:Array Keyed}{n:Nat}{st:SortSt}{Q:Option Nat->SortSt->Prop}(hk:kindOf st=κ)(h0:0<n)(hn:n<=arr.size)(ok:Ok key)(oa:∀x∈arr.toList,Ok x)(sa:Srd kf arr.toList)
  (h:∀k,k<=n->(∀x∈arr.toList.take k,O.kle (kf x) (kf key))->(∀x∈(arr.toList.take n).drop k,O.klt (kf key) (kf x))->Q (some k) st):wpS (model prog w) A E s (q2M false key arr 0 n (n - 1)) Q st:=by
 refine q2e c (B:=fun i=>match arr[0+i]? with|some p=> !O.blt (kf key) (kf p)|none=>false) hk (by omega) ok (fun i hi=>?_) (fun i j h1 h2 h3=>?_) fun k k1 k2 k3=>?_
 ·obtain ⟨x,h1,h2,h3⟩:=q03 (a:=arr) (i:=0+i) (by omega)
  exact⟨x,h1,oa x h3,by rw[h1];rfl⟩
 ·obtain ⟨x,x1,x2,x3⟩:=q03 (a:=arr) (i:=0+i) (by omega)
  obtain⟨y,y1,y2,y3⟩:=q03 (a:=arr) (i:=0+j) (by omega)
  rw[y1] at h3
  rw[x1]
  have h3':O.kle (kf y) (kf key):=by show O.blt (kf key) (kf y)=false;simpa using h3
  have:=KeyOrd.kle_trans (q0I sa (by omega) x2 y2) h3'
  show(!O.blt (kf key) (kf x))=true
  rw[this]
  rfl
 ·refine h k k1 (fun x hx=>?_) fun x hx=>?_
  ·obtain ⟨j,hj,e⟩:=q09 hx
   have:=k2 j hj
   rw[show arr[0+j]? =some x by rw[Nat.zero_add];simpa using e] at this
   show O.blt (kf key) (kf x)=false
   simpa using this
  ·obtain ⟨j,hj1,hj2,e⟩:=q40 hx
   have:=k3 j hj1 hj2
   rw[show arr[0+j]? =some x by rw[Nat.zero_add];simpa using e] at this
   show O.blt (kf key) (kf x)=true
   simpa using this
theorem MH.a' {al bl ol:List Keyed}{na nb:Nat}{x:Keyed}(h1:1<=na)(h:MH kf al bl ol na nb)(sa:Srd kf al)(hx:al[na - 1]? =some x)(hl:∀z∈bl.take nb,O.kle (kf z) (kf x)):MH kf al bl (ol++[x]) (na - 1) nb:=by
 obtain⟨n,rfl⟩:∃n,na=n+1:=⟨na - 1,by omega⟩
 exact h.a sa hx hl
theorem MH.b' {al bl ol:List Keyed}{na nb:Nat}{x:Keyed}(h1:1<=nb)(h:MH kf al bl ol na nb)(sb:Srd kf bl)(hx:bl[nb - 1]? =some x)(hl:∀z∈al.take na,O.kle (kf z) (kf x)):MH kf al bl (ol++[x]) na (nb - 1):=by
 obtain⟨n,rfl⟩:∃n,nb=n+1:=⟨nb - 1,by omega⟩
 exact h.b sb hx hl
set_option hygiene false in
local macro_rules| `(tactic| walk_at "thiB")=> `(tactic| (
 obtain⟨x0,x1,x2,x3⟩:=q03 (a:=a) (i:=na2 - 1) (by omega)
 refine wpS_bind (qU x1 ?_)
 refine wpS_bind (w_hl c hk3 (by omega) (by omega) (oa x0 x3) ob sb fun k' k1' k2' k3'=>?_)
 have le0:∀z∈a.toList.take na2,O.kle (kf z) (kf x0):=fun z hz=>by
  obtain⟨j,hj,ej⟩:=q09 hz
  exact q0I sa (by omega) ej x2
 have m4:=m3.bs k' k1' sb fun x hx z hz=>KeyOrd.kle_trans (le0 z hz) (k3' x hx)
 rw[<-q6G,<-Array.toList_append] at m4
 dsimp only
 by_cases hk0':nb3 - k'>0
 ·rw [if_pos hk0']
  by_cases he:k'=1
  ·rw [if_pos (by simpa using he)]
   exact wpS_pure ⟨q3,.inl ⟨_,rfl,fB m4 he⟩⟩
  rw[if_neg (by simpa using he)]
  by_cases he2:k'=0
  ·rw [if_pos (by simpa using he2)]
   exact wpS_pure ⟨q3,.inl ⟨_,rfl,fC m4 he2⟩⟩
  rw[if_neg (by simpa using he2)]
  have m5:=m4.a' (by omega) sa x2 fun z hz=>KeyOrd.kle_of_klt (k2' z hz)
  rw[<-Array.toList_push] at m5
  refine wpS_bind (qU x1 ?_)
  by_cases hf:na2 - 1=0
  ·rw [if_pos (by simpa using hf)]
   exact wpS_pure ⟨q3,.inl ⟨_,rfl,fA m5 hf⟩⟩
  ·rw [if_neg (by simpa using hf)]
   split
   ·exact wpS_pure ⟨q3,.inr ⟨rfl,m5,by show 1<=na2 - 1;omega,by show 2<=k';omega,by show na2 - 1+k'<=s1;omega,by show na2 - 1<=a.size;omega,by show k'<=b.size;omega⟩⟩
   ·exact wpS_pure ⟨q3,rfl,m5,by show 1<=na2 - 1;omega,by show 2<=k';omega,by show na2 - 1+k'<=s1;omega,by show na2 - 1<=a.size;omega,by show k'<=b.size;omega⟩
 ·rw [if_neg hk0']
  have hz:k'=nb3:=by omega
  subst hz
  have m5:=m3.a' (by omega) sa x2 fun z hz=>KeyOrd.kle_of_klt (k2' z hz)
  rw[<-Array.toList_push] at m5
  refine wpS_bind (qU x1 ?_)
  by_cases hf:na2 - 1=0
  ·rw [if_pos (by simpa using hf)]
   exact wpS_pure ⟨q3,.inl ⟨_,rfl,fA m5 hf⟩⟩
  ·rw [if_neg (by simpa using hf)]
   split
   ·exact wpS_pure ⟨q3,.inr ⟨rfl,m5,by show 1<=na2 - 1;omega,by show 2<=k';omega,by show na2 - 1+k'<=s1;omega,by show na2 - 1<=a.size;omega,by show k'<=b.size;omega⟩⟩
   ·exact wpS_pure ⟨q3,rfl,m5,by show 1<=na2 - 1;omega,by show 2<=k';omega,by show na2 - 1+k'<=s1;omega,by show na2 - 1<=a.size;omega,by show k'<=b.size;omega⟩))
set_option hygiene false in
local macro_rules| `(tactic| walk_at "thiA")=> `(tactic| (
 refine wpS_bind (wpS_modify ?_)
 obtain⟨y0,y1,y2,y3⟩:=q03 (a:=b) (i:=nb - 1) (by omega)
 refine wpS_bind (qU y1 ?_)
 have q3:=q
 have hk3:kindOf st1=κ:=by rw[q.1];exact hk
 refine wpS_bind (w_hr c hk3 (by omega) (by omega) (ob y0 y3) oa sa fun k k1 k2 k3=>?_)
 have le1:∀z∈b.toList.take nb,O.kle (kf z) (kf y0):=fun z hz=>by
  obtain⟨j,hj,ej⟩:=q09 hz
  exact q0I sb (by omega) ej y2
 have m2:=m.as k k1 sa fun x hx z hz=>KeyOrd.kle_trans (le1 z hz) (KeyOrd.kle_of_klt (k3 x hx))
 rw[<-q6G,<-Array.toList_append] at m2
 dsimp only
 by_cases hk0:na - k>0
 ·rw [if_pos hk0]
  by_cases he:k=0
  ·rw [if_pos (by simpa using he)]
   exact wpS_pure ⟨q3,.inl ⟨_,rfl,fA m2 he⟩⟩
  rw[if_neg (by simpa using he)]
  refine wpS_bind (qU y1 ?_)
  have m3:=m2.b' (by omega) sb y2 k2
  rw[<-Array.toList_push] at m3
  have ba2:1<=k:=by omega
  have za2:k<=a.size:=by omega
  have pr2:k+nb<=s1:=by omega
  generalize (out++(a.extract k na).reverse).push y0=out3 at m3 ⊢
  generalize k=na2 at m3 ba2 pr2 za2 ⊢
  by_cases hf:nb - 1=1
  ·rw [if_pos (by simpa using hf)]
   exact wpS_pure ⟨q3,.inl ⟨_,rfl,fB m3 hf⟩⟩
  rw[if_neg (by simpa using hf)]
  have bb3:2<=nb - 1:=by omega
  have zb3:nb - 1<=b.size:=by omega
  have pr3:na2+(nb - 1)<=s1:=by omega
  generalize nb - 1=nb3 at m3 bb3 pr3 zb3 ⊢
  walk_at "thiB"
 ·rw [if_neg hk0]
  have hz:k=na:=by omega
  rw[hz] at k2
  refine wpS_bind (qU y1 ?_)
  have m3:=m.b' (by omega) sb y2 k2
  rw[<-Array.toList_push] at m3
  have ba2:=ba
  have za2:=za
  have pr2:=pr
  generalize out.push y0=out3 at m3 ⊢
  clear hz k1 k2 k3 m2 hk0
  generalize na=na2 at m3 ba2 pr2 za2 ⊢
  by_cases hf:nb - 1=1
  ·rw [if_pos (by simpa using hf)]
   exact wpS_pure ⟨q3,.inl ⟨_,rfl,fB m3 hf⟩⟩
  rw[if_neg (by simpa using hf)]
  have bb3:2<=nb - 1:=by omega
  have zb3:nb - 1<=b.size:=by omega
  have pr3:na2+(nb - 1)<=s1:=by omega
  generalize nb - 1=nb3 at m3 bb3 pr3 zb3 ⊢
  walk_at "thiB"))
theorem q7u (c:Cmp prog w A s κ O kf Ok){a b:Array Keyed}{st:SortSt}{Q:Array Keyed->SortSt->Prop}(hk:kindOf st=κ)(oa:∀x∈a.toList,Ok x)(ob:∀x∈b.toList,Ok x)(sa:Srd kf a.toList)(sb:Srd kf b.toList)(ha:0<a.size)(hb:0<b.size)
  (hd:∀x∈a.toList,∀y,b.toList[0]? =some y->O.kle (kf y) (kf x))(hl:∀y∈b.toList,∀x,a.toList[a.size - 1]? =some x->O.kle (kf y) (kf x))
  (h:∀r st',Res kf a.toList b.toList r->Stq st st'->Q r st'):wpS (model prog w) A E s (qa0 a b) Q st:=by
 have fA:∀{out:Array Keyed} {na nb:Nat},MH kf a.toList b.toList out.toList na nb->na=0->Res kf a.toList b.toList (a.extract 0 na++b.extract 0 nb++out.reverse):=fun {out na nb} m e=>by
  refine m.ab sa sb (fun x hx y hy=>?_) (by rw[Array.toList_append,Array.toList_append,q1U,q1U,Array.toList_reverse])
  subst e
  simp at hx
 have fC:∀{out:Array Keyed} {na nb:Nat},MH kf a.toList b.toList out.toList na nb->nb=0->Res kf a.toList b.toList (a.extract 0 na++b.extract 0 nb++out.reverse):=fun {out na nb} m e=>by
  refine m.ab sa sb (fun x hx y hy=>?_) (by rw[Array.toList_append,Array.toList_append,q1U,q1U,Array.toList_reverse])
  subst e
  simp at hy
 have fB:∀{out:Array Keyed} {na nb:Nat},MH kf a.toList b.toList out.toList na nb->nb=1->Res kf a.toList b.toList (b.extract 0 nb++a.extract 0 na++out.reverse):=fun {out na nb} m e=>by
  refine m.ba sa sb (fun y hy x hx=>?_) (by rw[Array.toList_append,Array.toList_append,q1U,q1U,Array.toList_reverse])
  obtain⟨j,hj,ej⟩:=q09 hy
  have:j=0:=by omega
  subst this
  exact hd x (List.mem_of_mem_take hx) y ej
 obtain⟨x0,x1,x2,x3⟩:=q03 (a:=a) (i:=a.size - 1) (by omega)
 have m0:MH kf a.toList b.toList (#[x0]:Array Keyed).toList (a.size - 1) b.size:=by
  have:=(show MH kf a.toList b.toList [] a.size b.size from⟨by simp,List.Pairwise.nil,fun x hx=>(nomatch hx),fun x hx=>(nomatch hx)⟩).a' ha sa x2 fun z hz=>hl z (List.mem_of_mem_take hz) x0 x2
  simpa using this
 refine wpS_bind (wpS_lift (wpAny_rule ⟨rfl,?_⟩))
 refine wpS_bind (qU x1 ?_)
 dsimp only
 by_cases e1:a.size - 1=0
 ·rw [if_pos (by simpa using e1)]
  exact wpS_pure (h _ _ (fA m0 e1) ⟨rfl,rfl,rfl,rfl⟩)
 rw[if_neg (by simpa using e1)]
 by_cases e2:b.size=1
 ·rw [if_pos (by simpa using e2)]
  exact wpS_pure (h _ _ (fB m0 e2) ⟨rfl,rfl,rfl,rfl⟩)
 rw[if_neg (by simpa using e2)]
 refine wpS_bind (wpS_get ?_)
 refine wpS_bind (wpS_mono (wpS_forRange (I:=fun(x:Nat) (c:Option (Array Keyed)×Nat×Nat×Array Keyed×Nat) (st':SortSt)=>c.1=none/\Stq st st'/\MH kf a.toList b.toList c.2.2.2.1.toList c.2.1 c.2.2.1/\1<=c.2.1/\2<=c.2.2.1/\c.2.1+c.2.2.1+x+1<=a.size+b.size/\c.2.1<=a.size/\c.2.2.1<=b.size)
  (Q:=fun(c:Option (Array Keyed)×Nat×Nat×Array Keyed×Nat) (st':SortSt)=>Stq st st'/\∃r,c.1=some r/\Res kf a.toList b.toList r) ?_ ?_ (show _/\_ from⟨rfl,⟨rfl,rfl,rfl,rfl⟩,m0,by show 1<=a.size - 1;omega,by show 2<=b.size;omega,by show a.size - 1+b.size+0+1<=a.size+b.size;omega,by show a.size - 1<=a.size;omega,Nat.le_refl _⟩)) ?_)
 ·rintro x ⟨r,na,nb,out,mg⟩ st1 _ hx ⟨rfl,q,m,ba,bb,pr,za,zb⟩
  dsimp only at m ba bb pr za zb ⊢
  have hk1:kindOf st1=κ:=by rw[q.1];exact hk
  refine wpS_bind (wpS_mono (wpS_forRange (I:=fun(y:Nat) (c:Option (Array Keyed)×Nat×Nat×Array Keyed×Nat×Nat) (st':SortSt)=>st1=st'/\c.1=none/\MH kf a.toList b.toList c.2.2.2.1.toList c.2.1 c.2.2.1/\1<=c.2.1/\2<=c.2.2.1/\c.2.1+c.2.2.1+y<=na+nb/\c.2.1<=a.size/\c.2.2.1<=b.size)
   (Q:=fun(c:Option (Array Keyed)×Nat×Nat×Array Keyed×Nat×Nat) (st':SortSt)=>st1=st'/\((∃r,c.1=some r/\Res kf a.toList b.toList r)\/c.1=none/\MH kf a.toList b.toList c.2.2.2.1.toList c.2.1 c.2.2.1/\1<=c.2.1/\2<=c.2.2.1/\c.2.1+c.2.2.1+1<=na+nb/\c.2.1<=a.size/\c.2.2.1<=b.size)) ?_ ?_ (show _/\_ from⟨rfl,rfl,m,ba,bb,Nat.le_refl _,za,zb⟩)) ?_)
  ·rintro y ⟨r,na',nb',out',ac,bc⟩ st2 _ hy ⟨rfl,rfl,m',ba',bb',pr',za',zb'⟩
   dsimp only at m' ba' bb' pr' za' zb' ⊢
   obtain⟨y0,y1,y2,y3⟩:=q03 (a:=b) (i:=nb' - 1) (by omega)
   obtain⟨x0,x1,x2,x3⟩:=q03 (a:=a) (i:=na' - 1) (by omega)
   refine wpS_bind (qU y1 (wpS_bind (qU x1 (wpS_bind (w_lt c hk1 (ob y0 y3) (oa x0 x3) ?_)))))
   dsimp only
   cases e:O.blt (kf y0) (kf x0) with
   |true=>
    rw[if_pos rfl]
    refine wpS_bind (qU x1 ?_)
    have m2:=m'.a' ba' sa x2 fun z hz=>by
     obtain⟨j,hj,ej⟩:=q09 hz
     exact KeyOrd.kle_of_klt (KeyOrd.klt_of_kle_of_klt (q0I sb (by omega) ej y2) e)
    rw[<-Array.toList_push] at m2
    by_cases he:na' - 1=0
    ·rw [if_pos (by simpa using he)]
     exact wpS_pure ⟨rfl,.inl ⟨_,rfl,fA m2 he⟩⟩
    ·rw [if_neg (by simpa using he)]
     split
     ·exact wpS_pure ⟨rfl,.inr ⟨rfl,m2,by show 1<=na' - 1;omega,bb',by show na' - 1+nb'+1<=na+nb;omega,by show na' - 1<=a.size;omega,zb'⟩⟩
     ·exact wpS_pure ⟨rfl,rfl,m2,by show 1<=na' - 1;omega,bb',by show na' - 1+nb'+(y+1)<=na+nb;omega,by show na' - 1<=a.size;omega,zb'⟩
   |false=>
    rw[if_neg (by decide)]
    refine wpS_bind (qU y1 ?_)
    have m2:=m'.b' (by omega) sb y2 fun z hz=>by
     obtain⟨j,hj,ej⟩:=q09 hz
     exact KeyOrd.kle_trans (q0I sa (by omega) ej x2) e
    rw[<-Array.toList_push] at m2
    by_cases he:nb' - 1=1
    ·rw [if_pos (by simpa using he)]
     exact wpS_pure ⟨rfl,.inl ⟨_,rfl,fB m2 he⟩⟩
    ·rw [if_neg (by simpa using he)]
     split
     ·exact wpS_pure ⟨rfl,.inr ⟨rfl,m2,ba',by show 2<=nb' - 1;omega,by show na'+(nb' - 1)+1<=na+nb;omega,za',by show nb' - 1<=b.size;omega⟩⟩
     ·exact wpS_pure ⟨rfl,rfl,m2,ba',by show 2<=nb' - 1;omega,by show na'+(nb' - 1)+(y+1)<=na+nb;omega,za',by show nb' - 1<=b.size;omega⟩
  ·rintro ⟨r,na',nb',out',ac,bc⟩ st2 ⟨rfl,rfl,m',ba',bb',pr',zz⟩
   have pr2:na'+nb'+max 0 (a.size+b.size)<=na+nb:=pr'
   exact⟨rfl,.inr ⟨rfl,m',ba',bb',by show na'+nb'+1<=na+nb;omega,zz⟩⟩
  ·rintro ⟨r,na',nb',out',ac,bc⟩ st2 ⟨rfl,hq⟩
   dsimp only at hq ⊢
   rcases hq with⟨r0,e0,hr0⟩|⟨e0,m',ba',bb',pr',za',zb'⟩
   ·subst e0
    exact wpS_pure ⟨q,_,rfl,hr0⟩
   ·subst e0
    dsimp only
    refine wpS_bind (wpS_lift (wpAny_rule ⟨rfl,?_⟩))
    obtain⟨s1,hs1⟩:∃s1,s1+1=na+nb:=⟨na+nb - 1,by omega⟩
    have pr1:na'+nb'<=s1:=by omega
    refine wpS_bind (wpS_mono (wpS_forRange (I:=fun(y:Nat) (c:Option (Array Keyed)×Nat×Nat×Array Keyed×Nat×Nat×Nat) (st':SortSt)=>Stq st st'/\c.1=none/\MH kf a.toList b.toList c.2.2.2.1.toList c.2.1 c.2.2.1/\1<=c.2.1/\2<=c.2.2.1/\c.2.1+c.2.2.1<=s1/\c.2.1<=a.size/\c.2.2.1<=b.size)
     (Q:=fun(c:Option (Array Keyed)×Nat×Nat×Array Keyed×Nat×Nat×Nat) (st':SortSt)=>Stq st st'/\((∃r,c.1=some r/\Res kf a.toList b.toList r)\/c.1=none/\MH kf a.toList b.toList c.2.2.2.1.toList c.2.1 c.2.2.1/\1<=c.2.1/\2<=c.2.2.1/\c.2.1+c.2.2.1<=s1/\c.2.1<=a.size/\c.2.2.1<=b.size)) ?_ ?_ (show _/\_ from⟨q,rfl,m',ba',bb',pr1,za',zb'⟩)) ?_)
    ·clear m' ba' bb' pr' q m ba bb hk1 za zb za' zb' pr1 x2 x3 x1
     rintro y ⟨r,na,nb,out,mg,ac,bc⟩ st1 _ hy ⟨q,rfl,m,ba,bb,pr,za,zb⟩
     dsimp only at m ba bb pr za zb ⊢
     by_cases hg:mg>1
     ·rw [if_pos hg]
      walk_at "thiA"
     ·rw [if_neg hg]
      walk_at "thiA"
    ·rintro ⟨r,na',nb',out',mg',ac,bc⟩ st2 ⟨q',rfl,z⟩
     exact⟨q',.inr ⟨rfl,z⟩⟩
    ·rintro ⟨r,na2,nb2,out2,mg2,ac,bc⟩ st2 ⟨q',hq⟩
     dsimp only at hq ⊢
     rcases hq with⟨r0,e0,hr0⟩|⟨e0,m2,ba2,bb2,pr2,zz⟩
     ·subst e0
      exact wpS_pure ⟨q',_,rfl,hr0⟩
     ·subst e0
      dsimp only
      refine wpS_bind (wpS_modify ?_)
      exact wpS_pure ⟨rfl,q',m2,ba2,bb2,by show na2+nb2+(x+1)+1<=a.size+b.size;omega,zz⟩
 ·rintro ⟨r,na,nb,out,mg⟩ st1 ⟨rfl,q,m,ba,bb,pr,zz⟩
  dsimp only at ba bb pr
  omega
 ·rintro ⟨r,na,nb,out,mg⟩ st1 ⟨q,r0,e0,hr0⟩
  dsimp only at e0 ⊢
  subst e0
  exact wpS_pure (h _ _ hr0 q)
end
end Tim
namespace Tim
open PySem PySem.W PyProof.Rows
theorem q7V:∀(m:List Keyed) (o:Nat) (k:Nat) (a:Array Keyed),o+k+m.length<=a.size->
  ((m.zipIdx k).foldl (fun a (p,j)=>a.setIfInBounds (o+j) p) a).toList=a.toList.take (o+k)++m++a.toList.drop (o+k+m.length)
 |[],o,k,a,_=>by simp
 |p::m,o,k,a,h=>by
  rw[List.length_cons] at h
  rw[List.zipIdx_cons,List.foldl_cons,q7V m o (k+1) _ (by rw[Array.size_setIfInBounds];omega)]
  have hlt:o+k<a.toList.length:=by simp;omega
  rw[Array.toList_setIfInBounds,show o+(k+1)=o+k+1 by omega,List.take_set,List.drop_set]
  rw[if_pos (by omega),List.take_succ_eq_append_getElem hlt,List.set_append_right _ _ (by rw[List.length_take];omega)]
  have e:o+k - (a.toList.take (o+k)).length=0:=by rw[List.length_take];omega
  rw[e,List.set_cons_zero,List.length_cons,show o+k+1+m.length=o+k+(m.length+1) by omega]
  simp
theorem q6r {A B:List Keyed}{n:Nat}(h:n=A.length):(A++B).drop n=B:=by subst h;simp
theorem seg {A B C:List Keyed}{i j:Nat}(hi:i=A.length)(hj:j=i+B.length){a:Array Keyed}(e:a.toList=A++B++C):(a.extract i j).toList=B:=by
 rw[Array.toList_extract,List.extract_eq_take_drop,e,List.append_assoc,q6r hi,show j - i=B.length by omega,List.take_left']
 rfl
theorem q7M {A B C:List Keyed}{i j:Nat}(hi:i=A.length)(hj:j<B.length){a:Array Keyed}(e:a.toList=A++B++C):a[i+j]? =some B[j]:=by
 rw[<-Array.getElem?_toList,e,List.append_assoc,List.getElem?_append_right (by omega),List.getElem?_append_left (by omega),show i+j - A.length=j by omega]
 exact List.getElem?_eq_getElem hj
section
variable {prog:Program}{w:World}{A:Around}{E:Value->Shared->Prop}{s:Shared}{κ:SortKind}{O:KeyOrd}{kf:Keyed->O.α}{Ok:Keyed->Prop}
theorem w_seg (c:Cmp prog w A s κ O kf Ok){left:Bool}{key:Keyed}{arr:Array Keyed}{n hint base:Nat}{L B R:List Keyed}{st:SortSt}{Q:Option Nat->SortSt->Prop}(hk:kindOf st=κ)(e:arr.toList=L++B++R)(hb:base=L.length)(hn:n=B.length)(hh:hint<n)(ok:Ok key)(ob:∀x∈B,Ok x)(sb:Srd kf B)
  (h:∀k,k<=n->(∀x∈B.take k,bdB kf left key x=true)->(∀x∈B.drop k,bdB kf left key x=false)->Q (some k) st):wpS (model prog w) A E s (q2M left key arr base n hint) Q st:=by
 refine q2e c (B:=fun i=>match B[i]? with|some p=>bdB kf left key p|none=>false) hk hh ok (fun i hi=>?_) (fun i j h1 h2 h3=>?_) fun k k1 k2 k3=>?_
 ·have hi':i<B.length:=by omega
  exact⟨B[i],q7M hb hi' e,ob _ (List.getElem_mem hi'),by rw[List.getElem?_eq_getElem hi']⟩
 ·have hi:i<B.length:=by omega
  have hj:j<B.length:=by omega
  rw[List.getElem?_eq_getElem hj] at h3
  rw[List.getElem?_eq_getElem hi]
  have le:=q0I sb h1 (List.getElem?_eq_getElem hi) (List.getElem?_eq_getElem hj)
  cases left with
  |true=>exact KeyOrd.klt_of_kle_of_klt le h3
  |false=>
   have h3':O.kle (kf B[j]) (kf key):=by show O.blt (kf key) (kf B[j])=false;simpa[bdB] using h3
   have:=KeyOrd.kle_trans le h3'
   show(!O.blt (kf key) (kf B[i]))=true
   rw[this]
   rfl
 ·refine h k k1 (fun x hx=>?_) fun x hx=>?_
  ·obtain ⟨j,hj,ej⟩:=q09 hx
   have:=k2 j hj
   rw[ej] at this
   exact this
  ·obtain ⟨j,hj,ej⟩:=q0x hx
   have:=k3 (k+j) (by omega) (by omega)
   rw[ej] at this
   exact this
theorem qaT {st st1:SortSt}{Q:PUnit->SortSt->Prop}(h:Q ⟨⟩ st1):wpS (model prog w) A E s (set st1:StateT SortSt Sem PUnit) Q st:=by
 unfold wpS;rw[StateT.run_set];exact wpAny_pure ⟨rfl,h⟩
def offs:Nat->List (List Keyed)->List (Nat×Nat)
 |_,[]=>[]
 |o,r::rs=>(o,r.length)::offs (o+r.length) rs
theorem q3a:∀(o:Nat) (A B:List (List Keyed)),offs o (A++B)=offs o A++offs (o+A.flatten.length) B
 |o,[],B=>by simp[offs]
 |o,r::A,B=>by
  simp only[List.cons_append,offs,q3a (o+r.length) A B,List.flatten_cons,List.length_append]
  rw[show o+r.length+A.flatten.length=o+(r.length+A.flatten.length) by omega]
theorem q1B:∀(o:Nat) (A:List (List Keyed)),(offs o A).length=A.length
 |_,[]=>rfl
 |o,r::A=>by simp[offs,q1B (o+r.length) A]
abbrev pr2 (p:Nat×Nat×Nat):Nat×Nat:=(p.1,p.2.1)
structure Rns (kf:Keyed->O.α)(Ok:Keyed->Prop)(a0:List Keyed)(st:SortSt)(Rs:List (List Keyed))(rest:List Keyed):Prop where
 arr:(arrOf st).toList=Rs.flatten++rest
 pm:(arrOf st).toList.Perm a0
 so:∀r∈Rs,Srd kf r/\r≠[]
 pd:(pendingOf st).toList.map pr2=offs 0 Rs
 fl:failedOf st=none
theorem q77 {p:Array (Nat×Nat×Nat)}{P S:List (List Keyed)}{X Y Z:List Keyed}{i sa na nb pw:Nat}(e:p.toList.map pr2=offs 0 (P++X::Y::S))(hi:i=P.length)(h1:sa=P.flatten.length)(h2:na+nb=Z.length)(hz:Z.length=X.length+Y.length):
  ((p.setIfInBounds i (sa,na+nb,pw)).eraseIdxIfInBounds (i+1)).toList.map pr2=offs 0 (P++Z::S):=by
 rw[q3a] at e ⊢
 rw[Nat.zero_add] at e ⊢
 obtain⟨l1,l',el,e1,e'⟩:=List.map_eq_append_iff.mp e
 simp only[offs] at e'
 obtain⟨x,l'',ex,e3,e4⟩:=List.map_eq_cons_iff.mp e'
 obtain⟨y,l2,ey,e5,e6⟩:=List.map_eq_cons_iff.mp e4
 have hl1:l1.length=i:=by have:=congrArg List.length e1;rw[List.length_map,q1B] at this;omega
 rw[Array.toList_eraseIdxIfInBounds,Array.toList_setIfInBounds,el,ex,ey]
 subst hi
 rw[show(l1++x::y::l2).set P.length (sa,na+nb,pw)=l1++(sa,na+nb,pw)::y::l2 by rw[List.set_append_right _ _ (by omega),hl1,Nat.sub_self];rfl]
 rw[show(l1++(sa,na+nb,pw)::y::l2).eraseIdx (P.length+1)=l1++(sa,na+nb,pw)::l2 by rw[List.eraseIdx_append_of_length_le (by omega),hl1,show P.length+1 - P.length=1 by omega];rfl]
 rw[List.map_append,List.map_cons,e1,e6]
 simp only[offs,pr2,h1,h2]
 rw[hz,show P.flatten.length+X.length+Y.length=P.flatten.length+(X.length+Y.length) by omega]
theorem q4M (c:Cmp prog w A s κ O kf Ok){a0:List Keyed}{st:SortSt}{P:List (List Keyed)}{X Y:List Keyed}{S:List (List Keyed)}{rest:List Keyed}{i:Nat}{Q:Bool->SortSt->Prop}(o0:∀x∈a0,Ok x)(hk:kindOf st=κ)(hi:i=P.length)(R:Rns kf Ok a0 st (P++X::Y::S) rest)
  (h:∀(Z:List Keyed) (st':SortSt),kindOf st'=κ->Rns kf Ok a0 st' (P++Z::S) rest->Q true st'):wpS (model prog w) A E s (mergeAt' i) Q st:=by
 have oall:∀x∈(arrOf st).toList,Ok x:=fun x hx=>o0 x (R.pm.mem_iff.mp hx)
 obtain⟨sX,nX⟩:=R.so X (by simp)
 obtain⟨sY,nY⟩:=R.so Y (by simp)
 have hpX:0<X.length:=List.length_pos_iff.mpr nX
 have hpY:0<Y.length:=List.length_pos_iff.mpr nY
 have ea:(arrOf st).toList=P.flatten++X++Y++(S.flatten++rest):=by rw[R.arr];simp
 have epd:=R.pd
 rw[q3a] at epd
 obtain⟨pa,ha,ea1⟩:∃pa,(pendingOf st)[i]? =some pa/\pr2 pa=(P.flatten.length,X.length):=by
  have:((pendingOf st).toList.map pr2)[i]? =some (P.flatten.length,X.length):=by
   rw[epd,List.getElem?_append_right (by rw[q1B];omega),q1B,show i - P.length=0 by omega]
   simp[offs]
  rw[List.getElem?_map] at this
  obtain⟨pa,h1,h2⟩:=Option.map_eq_some_iff.mp this
  exact⟨pa,by simpa using h1,h2⟩
 obtain⟨pb,hb,eb1⟩:∃pb,(pendingOf st)[i+1]? =some pb/\pr2 pb=(P.flatten.length+X.length,Y.length):=by
  have:((pendingOf st).toList.map pr2)[i+1]? =some (P.flatten.length+X.length,Y.length):=by
   rw[epd,List.getElem?_append_right (by rw[q1B];omega),q1B,show i+1 - P.length=1 by omega]
   simp[offs]
  rw[List.getElem?_map] at this
  obtain⟨pb,h1,h2⟩:=Option.map_eq_some_iff.mp this
  exact⟨pb,by simpa using h1,h2⟩
 obtain⟨sa,na,pw⟩:=pa
 obtain⟨sb,nb,pw'⟩:=pb
 simp only[pr2,Prod.mk.injEq] at ea1 eb1
 refine wpS_bind (wpS_get ?_)
 dsimp only
 obtain⟨esa,ena⟩:=ea1
 obtain⟨esb,enb⟩:=eb1
 have fin:∀(Z:List Keyed) (st':SortSt),kindOf st'=κ->failedOf st'=none->pendingOf st'=((pendingOf st).setIfInBounds i (sa,na+nb,pw)).eraseIdxIfInBounds (i+1)->(arrOf st').toList=P.flatten++Z++(S.flatten++rest)->Z.Perm (X++Y)->Srd kf Z->Q true st':=fun Z st' g1 g2 g3 g4 g5 g6=>by
  have hz:Z.length=X.length+Y.length:=by rw[g5.length_eq,List.length_append]
  refine h Z st' g1 ⟨by rw[g4];simp,?_,fun r hr=>?_,by rw[g3];exact q77 R.pd hi esa (by omega) hz,g2⟩
  ·refine List.Perm.trans ?_ R.pm
   rw[g4,ea]
   refine List.Perm.append_right _ ?_
   rw[List.append_assoc]
   exact List.Perm.append_left _ g5
  ·rcases List.mem_append.mp hr with hr|hr
   ·exact R.so r (by simp[hr])
   ·rcases List.mem_cons.mp hr with rfl|hr
    ·exact ⟨g6,fun z=>by rw[z] at hz;simp at hz;omega⟩
    ·exact R.so r (by simp[hr])
 have same:(arrOf st).toList=P.flatten++(X++Y)++(S.flatten++rest):=by rw[ea];simp
 have oX:∀x∈X,Ok x:=fun x hx=>oall x (by rw[ea];simp[hx])
 have oY:∀x∈Y,Ok x:=fun x hx=>oall x (by rw[ea];simp[hx])
 have hY0:(arrOf st)[sb]? =some Y[0]:=by
  have:=q7M (A:=P.flatten++X) (B:=Y) (C:=S.flatten++rest) (i:=sb) (j:=0) (by rw[List.length_append];omega) hpY ea
  simpa using this
 have hXl:(arrOf st)[sa+(na - 1)]? =some (X[na - 1]'(by omega)):=q7M (A:=P.flatten) (B:=X) (C:=Y++(S.flatten++rest)) (i:=sa) (j:=na - 1) esa (by omega) (by rw[ea];simp)
 simp only[ha,hb]
 refine wpS_bind (qaT ?_)
 refine wpS_bind (qU hY0 ?_)
 refine wpS_bind (w_seg c (left:=false) (L:=P.flatten) (B:=X) (R:=Y++(S.flatten++rest)) hk (by rw[ea];simp) esa ena (by omega) (oY _ (List.getElem_mem _)) oX sX fun k k1 k2 k3=>?_)
 dsimp only
 have leY:∀y∈Y,O.kle (kf Y[0]) (kf y):=fun y hy=>by
  obtain⟨j,hj,ej⟩:=List.getElem_of_mem hy
  exact q0I sY (Nat.zero_le j) (List.getElem?_eq_getElem hpY) (by rw[List.getElem?_eq_getElem hj,ej])
 have k2':∀x∈X.take k,O.kle (kf x) (kf Y[0]):=fun x hx=>by show O.blt (kf Y[0]) (kf x)=false;simpa[bdB] using k2 x hx
 have k3':∀x∈X.drop k,O.klt (kf Y[0]) (kf x):=fun x hx=>by show O.blt (kf Y[0]) (kf x)=true;simpa[bdB] using k3 x hx
 by_cases e1:na - k=0
 ·rw [if_pos (by simpa using e1)]
  refine wpS_pure (fin (X++Y) _ hk R.fl rfl same (List.Perm.refl _) (List.pairwise_append.mpr ⟨sX,sY,fun x hx y hy=>?_⟩))
  exact KeyOrd.kle_trans (k2' x (by rw[List.take_of_length_le (by omega)];exact hx)) (leY y hy)
 rw[if_neg (by simpa using e1)]
 rw[show sa+k+(na - k) - 1=sa+(na - 1) by omega]
 refine wpS_bind (qU hXl ?_)
 have leX:∀x∈X,O.kle (kf x) (kf (X[na - 1]'(by omega))):=fun x hx=>by
  obtain⟨j,hj,ej⟩:=List.getElem_of_mem hx
  exact q0I sX (i:=j) (j:=na - 1) (by omega) (by rw[List.getElem?_eq_getElem hj,ej]) (List.getElem?_eq_getElem (by omega))
 refine wpS_bind (w_seg c (left:=true) (L:=P.flatten++X) (B:=Y) (R:=S.flatten++rest) hk ea (by rw[List.length_append];omega) enb (by omega) (oX _ (List.getElem_mem _)) oY sY fun m m1 m2 m3=>?_)
 dsimp only
 have m2':∀y∈Y.take m,O.klt (kf y) (kf (X[na - 1]'(by omega))):=fun y hy=>by show O.blt _ _=true;simpa[bdB] using m2 y hy
 have m3':∀y∈Y.drop m,O.kle (kf (X[na - 1]'(by omega))) (kf y):=fun y hy=>by show O.blt _ _=false;simpa[bdB] using m3 y hy
 by_cases e2:m=0
 ·rw [if_pos (by simpa using e2)]
  refine wpS_pure (fin (X++Y) _ hk R.fl rfl same (List.Perm.refl _) (List.pairwise_append.mpr ⟨sX,sY,fun x hx y hy=>?_⟩))
  exact KeyOrd.kle_trans (leX x hx) (m3' y (by rw[e2];exact hy))
 rw[if_neg (by simpa using e2)]
 have eX:(P.flatten++X.take k)++X.drop k++(Y++(S.flatten++rest))=P.flatten++X++Y++(S.flatten++rest):=by
  rw[List.append_assoc (P.flatten),List.take_append_drop]
  simp
 have eY:(P.flatten++X)++Y.take m++(Y.drop m++(S.flatten++rest))=P.flatten++X++Y++(S.flatten++rest):=by
  rw[List.append_assoc _ (Y.take m),<-List.append_assoc (Y.take m),List.take_append_drop]
  simp
 have s1:((arrOf st).extract (sa+k) sb).toList=X.drop k:=seg (A:=P.flatten++X.take k) (B:=X.drop k) (C:=Y++(S.flatten++rest)) (by rw[List.length_append,List.length_take];omega) (by rw[List.length_drop];omega) (by rw[ea,eX])
 have s2:((arrOf st).extract sb (sb+m)).toList=Y.take m:=seg (A:=P.flatten++X) (B:=Y.take m) (C:=Y.drop m++(S.flatten++rest)) (by rw[List.length_append];omega) (by rw[List.length_take];omega) (by rw[ea,eY])
 have z1:((arrOf st).extract (sa+k) sb).size=na - k:=by rw[<-Array.length_toList,s1,List.length_drop];omega
 have z2:((arrOf st).extract sb (sb+m)).size=m:=by rw[<-Array.length_toList,s2,List.length_take];omega
 have hd:∀x∈((arrOf st).extract (sa+k) sb).toList,∀y,((arrOf st).extract sb (sb+m)).toList[0]? =some y->O.kle (kf y) (kf x):=fun x hx y hy=>by
  rw[s1] at hx
  rw[s2,List.getElem?_take_of_lt (by omega),List.getElem?_eq_getElem hpY] at hy
  cases hy
  exact KeyOrd.kle_of_klt (k3' x hx)
 have hl:∀y∈((arrOf st).extract sb (sb+m)).toList,∀x,((arrOf st).extract (sa+k) sb).toList[((arrOf st).extract (sa+k) sb).size - 1]? =some x->O.kle (kf y) (kf x):=fun y hy x hx=>by
  rw[s2] at hy
  rw[s1,z1,List.getElem?_drop,show k+(na - k - 1)=na - 1 by omega,List.getElem?_eq_getElem (by omega)] at hx
  cases hx
  exact KeyOrd.kle_of_klt (m2' y hy)
 have oa:∀x∈((arrOf st).extract (sa+k) sb).toList,Ok x:=fun x hx=>by rw[s1] at hx;exact oX x (List.mem_of_mem_drop hx)
 have ob:∀x∈((arrOf st).extract sb (sb+m)).toList,Ok x:=fun x hx=>by rw[s2] at hx;exact oY x (List.mem_of_mem_take hx)
 have sA:Srd kf ((arrOf st).extract (sa+k) sb).toList:=by rw[s1];exact sX.sublist (List.drop_sublist _ _)
 have sB:Srd kf ((arrOf st).extract sb (sb+m)).toList:=by rw[s2];exact sY.sublist (List.take_sublist _ _)
 have put:∀(r:Array Keyed) (st':SortSt),Res kf ((arrOf st).extract (sa+k) sb).toList ((arrOf st).extract sb (sb+m)).toList r->kindOf st'=κ->failedOf st'=none->pendingOf st'=((pendingOf st).setIfInBounds i (sa,na+nb,pw)).eraseIdxIfInBounds (i+1)->arrOf st'=List.foldl (fun a (x:Keyed×Nat)=>a.setIfInBounds (sa+k+x.2) x.1) (arrOf st) r.toList.zipIdx->Q true st':=fun r st' hr g1 g2 g3 g4=>by
  obtain⟨r1,r2⟩:=hr
  rw[s1,s2] at r1
  have rl:r.toList.length=na - k+m:=by rw[r1.length_eq,List.length_append,List.length_drop,List.length_take];omega
  refine fin (X.take k++r.toList++Y.drop m) st' g1 g2 g3 ?_ ?_ ?_
  ·have al:(arrOf st).toList.length=P.flatten.length+X.length+Y.length+(S.flatten++rest).length:=by rw[ea];simp;omega
   rw[g4,q7V r.toList (sa+k) 0 (arrOf st) (by rw[<-Array.length_toList];omega)]
   rw[Nat.add_zero,rl]
   have t1:(arrOf st).toList.take (sa+k)=P.flatten++X.take k:=by
    rw[ea,<-eX,List.append_assoc,List.take_left' (by rw[List.length_append,List.length_take];omega)]
   have t2:(arrOf st).toList.drop (sa+k+(na - k+m))=Y.drop m++(S.flatten++rest):=by
    rw[ea,<-eY,q6r (by rw[List.length_append,List.length_append,List.length_take];omega)]
   rw[t1,t2]
   simp
  ·refine (List.Perm.append_right _ (List.Perm.append_left _ r1)).trans ?_
   rw[<-List.append_assoc,List.take_append_drop,List.append_assoc,List.take_append_drop]
  ·refine List.pairwise_append.mpr ⟨List.pairwise_append.mpr ⟨sX.sublist (List.take_sublist _ _),r2,fun x hx y hy=>?_⟩,sY.sublist (List.drop_sublist _ _),fun x hx y hy=>?_⟩
   ·rcases List.mem_append.mp (r1.mem_iff.mp hy) with hy|hy
    ·have:=sX
     rw[<-List.take_append_drop k X] at this
     exact(List.pairwise_append.mp this).2.2 x hx y hy
    ·exact KeyOrd.kle_trans (k2' x hx) (leY y (List.mem_of_mem_take hy))
   ·rcases List.mem_append.mp hx with hx|hx
    ·exact KeyOrd.kle_trans (leX x (List.mem_of_mem_take hx)) (m3' y hy)
    ·rcases List.mem_append.mp (r1.mem_iff.mp hx) with hx|hx
     ·exact KeyOrd.kle_trans (leX x (List.mem_of_mem_drop hx)) (m3' y hy)
     ·have:=sY
      rw[<-List.take_append_drop m Y] at this
      exact(List.pairwise_append.mp this).2.2 x hx y hy
 by_cases hle:na - k<=m
 ·rw [if_pos hle]
  refine wpS_bind (q7t c hk oa ob sA sB (show 0<((arrOf st).extract (sa+k) sb).size by omega) (show 0<((arrOf st).extract sb (sb+m)).size by omega) hd hl fun r st' hr q=>?_)
  refine wpS_bind (wpS_modify (wpS_bind (wpS_get ?_)))
  have ef:failedOf st'=none:=q.2.2.2.trans R.fl
  have e0:(failedOf st').isNone=true:=by rw[ef];rfl
  refine wpS_pure ?_
  show Q (failedOf st').isNone _
  rw[e0]
  exact put r _ hr (q.1.trans hk) ef q.2.2.1 (by show List.foldl _ (arrOf st') _=_;rw[q.2.1])
 ·rw [if_neg hle]
  refine wpS_bind (q7u c hk oa ob sA sB (show 0<((arrOf st).extract (sa+k) sb).size by omega) (show 0<((arrOf st).extract sb (sb+m)).size by omega) hd hl fun r st' hr q=>?_)
  refine wpS_bind (wpS_modify (wpS_bind (wpS_get ?_)))
  have ef:failedOf st'=none:=q.2.2.2.trans R.fl
  have e0:(failedOf st').isNone=true:=by rw[ef];rfl
  refine wpS_pure ?_
  show Q (failedOf st').isNone _
  rw[e0]
  exact put r _ hr (q.1.trans hk) ef q.2.2.1 (by show List.foldl _ (arrOf st') _=_;rw[q.2.1])
end
end Tim
namespace Tim
open PySem PySem.W PyProof.Rows
section
variable {prog:Program}{w:World}{A:Around}{E:Value->Shared->Prop}{s:Shared}{κ:SortKind}{O:KeyOrd}{kf:Keyed->O.α}{Ok:Keyed->Prop}
def Kx (kf:Keyed->O.α)(a:Array Keyed)(i:Nat):O.α:=kf (a.getD i (Value.none,Value.none))
theorem q2z {a b:Array Keyed}{i j:Nat}(h:a[i]? =b[j]?):Kx kf a i=Kx kf b j:=by
 unfold Kx
 rw[Array.getD_eq_getD_getElem?,Array.getD_eq_getD_getElem?,h]
theorem qci {a:Array Keyed}{i:Nat}{x:Keyed}(h:a[i]? =some x):Kx kf a i=kf x:=by
 unfold Kx
 rw[Array.getD_eq_getD_getElem?,h]
 rfl
theorem q4N (c:Cmp prog w A s κ O kf Ok){i j:Nat}{st:SortSt}{Q:Option Bool->SortSt->Prop}(hk:kindOf st=κ)(hi:i<(arrOf st).size)(hj:j<(arrOf st).size)(ok:∀x∈(arrOf st).toList,Ok x)(h:Q (some (O.blt (Kx kf (arrOf st) i) (Kx kf (arrOf st) j))) st):wpS (model prog w) A E s (ltAt' i j) Q st:=by
 obtain⟨x,x1,x2,x3⟩:=q03 hi
 obtain⟨y,y1,y2,y3⟩:=q03 hj
 rw[qci x1,qci y1] at h
 rw[ltAt'_eq]
 exact wpS_bind (wpS_get (wpS_bind (qU x1 (wpS_bind (qU y1 (w_lt c hk (ok x x3) (ok y y3) h))))))
structure Chg (st st':SortSt)(lo hi:Nat):Prop where
 kd:kindOf st'=kindOf st
 pd:pendingOf st'=pendingOf st
 fl:failedOf st'=failedOf st
 pm:(arrOf st').Perm (arrOf st)
 out:∀j,(j<lo\/hi<=j)->(arrOf st')[j]? =(arrOf st)[j]?
theorem Chg.refl (st:SortSt)(lo hi:Nat):Chg st st lo hi:=⟨rfl,rfl,rfl,Array.Perm.refl _,fun _ _=>rfl⟩
theorem Chg.rev {st st1:SortSt}{lo hi i j:Nat}(h:Chg st st1 lo hi)(hi':lo<=i)(hj:j<=hi)(hs:hi<=(arrOf st1).size):Chg st (setArr st1 (mirror (arrOf st1) i j ((j - i) / 2))) lo hi:=
 ⟨h.kd,h.pd,h.fl,(mirror_perm _ _ _ _).trans h.pm,fun k hk=>by
  show(mirror (arrOf st1) i j ((j - i) / 2))[k]? =_
  rw[getElem?_mirror_all (by omega),if_neg (by omega)]
  exact h.out k hk⟩
theorem Chg.bub {st st1:SortSt}{lo hi src d:Nat}(h:Chg st st1 lo hi)(h1:src<hi)(h2:d<=src)(h3:lo<=src - d)(hs:hi<=(arrOf st1).size):Chg st (setArr st1 (bubble (arrOf st1) src d)) lo hi:=
 ⟨h.kd,h.pd,h.fl,(bubble_perm _ _ _).trans h.pm,fun k hk=>by
  show(bubble (arrOf st1) src d)[k]? =_
  rw[getElem?_bubble (by omega) d h2,if_neg (by omega),if_neg (by omega)]
  exact h.out k hk⟩
theorem q9e {i j:Nat}{st:SortSt}{Q:Unit->SortSt->Prop}(h:Q () (setArr st (mirror (arrOf st) i j ((j - i) / 2)))):wpS (model prog w) A E s (reverseSlice' i j) Q st:=by
 rw[reverseSlice'_eq]
 exact wpS_modify h
theorem w_down {i j:Nat}{st:SortSt}{Q:Unit->SortSt->Prop}(h:Q () (setArr st (bubble (arrOf st) i (i - j)))):wpS (model prog w) A E s (moveDown' i j) Q st:=by
 rw[moveDown'_eq]
 exact wpS_modify h
theorem q9a {a:Array Keyed}{i j:Nat}(hj:j<=a.size)(k:Nat):Kx kf (mirror a i j ((j - i) / 2)) k=if i<=k/\k<j then Kx kf a (i+j - 1 - k) else Kx kf a k:=by
 have e:=getElem?_mirror_all (i:=i) hj k
 by_cases h1:i<=k/\k<j
 ·rw [if_pos h1] at e ⊢;exact q2z e
 ·rw [if_neg h1] at e ⊢;exact q2z e
theorem q4J {a:Array Keyed}{i j:Nat}(hj:j<=a.size)(heq:∀k,i<=k->k<j->Kx kf a k=Kx kf a (j - 1))(k:Nat):Kx kf (mirror a i j ((j - i) / 2)) k=Kx kf a k:=by
 rw[q9a hj]
 split
 ·rw [heq _ (by omega) (by omega),heq k (by omega) (by omega)]
 ·rfl
theorem q9b {a:Array Keyed}{src d:Nat}(hs:src<a.size)(hd:d<=src)(k:Nat):Kx kf (bubble a src d) k=if k=src - d then Kx kf a src else if src - d<k/\k<=src then Kx kf a (k - 1) else Kx kf a k:=by
 have e:=getElem?_bubble hs d hd k
 split
 ·rename_i h;rw[if_pos h] at e;exact q2z e
 ·rename_i h
  rw[if_neg h] at e
  split
  ·rename_i h2;rw[if_pos h2] at e;exact q2z e
  ·rename_i h2;rw[if_neg h2] at e;exact q2z e
def Upx (kf:Keyed->O.α)(a:Array Keyed)(lo m:Nat):Prop:=∀i j,i<=j->j<m->O.kle (Kx kf a (lo+i)) (Kx kf a (lo+j))
def Dnx (kf:Keyed->O.α)(a:Array Keyed)(lo m:Nat):Prop:=∀i j,i<=j->j<m->O.kle (Kx kf a (lo+j)) (Kx kf a (lo+i))
abbrev Eqx (kf:Keyed->O.α)(a:Array Keyed)(lo m q:Nat):Prop:=∀i,m - (q+1)<=i->i<m->Kx kf a (lo+i)=Kx kf a (lo+m - 1)
theorem Upx.one {a:Array Keyed}{lo:Nat}:Upx kf a lo 1:=fun i j h1 h2=>by
 have:i=j:=by omega
 subst this
 exact KeyOrd.kle_refl _
theorem Upx.snoc {a:Array Keyed}{lo m:Nat}(h:Upx kf a lo m)(h1:1<=m)(hl:O.kle (Kx kf a (lo+m - 1)) (Kx kf a (lo+m))):Upx kf a lo (m+1):=fun i j hij hj=>by
 by_cases e:j=m
 ·subst e
  by_cases e2:i=j
  ·subst e2;exact KeyOrd.kle_refl _
  ·have:=h i (j - 1) (by omega) (by omega)
   rw[show lo+(j - 1)=lo+j - 1 by omega] at this
   exact KeyOrd.kle_trans this hl
 ·exact h i j hij (by omega)
theorem Dnx.snoc {a:Array Keyed}{lo m:Nat}(h:Dnx kf a lo m)(h1:1<=m)(hl:O.kle (Kx kf a (lo+m)) (Kx kf a (lo+m - 1))):Dnx kf a lo (m+1):=fun i j hij hj=>by
 by_cases e:j=m
 ·subst e
  by_cases e2:i=j
  ·subst e2;exact KeyOrd.kle_refl _
  ·have:=h i (j - 1) (by omega) (by omega)
   rw[show lo+(j - 1)=lo+j - 1 by omega] at this
   exact KeyOrd.kle_trans hl this
 ·exact h i j hij (by omega)
set_option hygiene false in
local macro_rules| `(tactic| walk_at "tcAsc")=> `(tactic| (
 refine wpS_bind (wpS_mono (wpS_forRange (I:=fun(x:Nat) (c:Option (Option Nat)×Nat) (st':SortSt)=>st1=st'/\c.1=none/\x=c.2/\Upx kf (arrOf st1) lo c.2)
  (Q:=fun(c:Option (Option Nat)×Nat) (st':SortSt)=>st1=st'/\c.1=none/\1<=c.2/\c.2<=nrem/\Upx kf (arrOf st1) lo c.2/\(c.2=nrem\/O.klt (Kx kf (arrOf st1) (lo+c.2)) (Kx kf (arrOf st1) (lo+c.2 - 1)))) ?_ ?_ (show _/\_ from⟨rfl,rfl,rfl,u1⟩)) ?_)
 ·rintro x ⟨r,n⟩ st2 hx1 hx2 ⟨rfl,rfl,e,u⟩
  dsimp only at e u ⊢
  subst e
  refine wpS_bind (q4N c hk1 (by omega) (by omega) ok1 ?_)
  dsimp only
  cases eb:O.blt (Kx kf (arrOf st1) (lo+x)) (Kx kf (arrOf st1) (lo+x - 1)) with
  |true=>
   rw[if_pos rfl]
   exact wpS_pure ⟨rfl,rfl,by show 1<=x;omega,by show x<=nrem;omega,u,.inr eb⟩
  |false=>
   rw[if_neg (by decide)]
   exact wpS_pure ⟨rfl,rfl,rfl,u.snoc (by omega) eb⟩
 ·rintro ⟨r,n⟩ st2 ⟨rfl,rfl,e,u⟩
  dsimp only at e u
  exact⟨rfl,rfl,by show 1<=n;omega,by show n<=nrem;omega,u,.inl (by show n=nrem;omega)⟩))
set_option hygiene false in
theorem w_two {α:Type}{c:Prop}[Decidable c]{p q:StateT SortSt Sem α}{R:SortSt->Prop}{Q:α->SortSt->Prop}{st:SortSt}(D:∀st0,R st0->wpS (model prog w) A E s q Q st0)(h1:c->(∀st0,R st0->wpS (model prog w) A E s q Q st0)->wpS (model prog w) A E s p Q st)(h2:¬c->R st):wpS (model prog w) A E s (if c then p else q) Q st:=by
 by_cases h:c
 ·rw [if_pos h];exact h1 h D
 ·rw [if_neg h];exact D st (h2 h)
theorem qaV (c:Cmp prog w A s κ O kf Ok){lo nrem:Nat}{st:SortSt}{Q:Option Nat->SortSt->Prop}(hk:kindOf st=κ)(ok:∀x∈(arrOf st).toList,Ok x)(hn:1<=nrem)(hs:lo+nrem<=(arrOf st).size)
  (h:∀m st',1<=m->m<=nrem->Chg st st' lo (lo+nrem)->Upx kf (arrOf st') lo m->Q (some m) st'):wpS (model prog w) A E s (countRun' lo nrem) Q st:=by
 obtain⟨st1,est⟩:∃st1,st1=st:=⟨st,rfl⟩
 have hk1:kindOf st1=κ:=by rw[est];exact hk
 have ok1:∀x∈(arrOf st1).toList,Ok x:=by rw[est];exact ok
 have sz:(arrOf st1).size=(arrOf st).size:=by rw[est]
 have u1:Upx kf (arrOf st1) lo 1:=Upx.one
 have hc0:Chg st st1 lo (lo+nrem):=by rw[est];exact Chg.refl _ _ _
 rw[<-est]
 walk_at "tcAsc"
 rintro⟨r,n⟩ st2 ⟨rfl,rfl,g1,g2,g3,g4⟩
 dsimp only at g1 g2 g3 g4 ⊢
 by_cases e:n=nrem
 ·rw [if_pos (by simpa using e)]
  exact wpS_pure (h n st1 g1 g2 hc0 g3)
 rw[if_neg (by simpa using e)]
 have hl:=g4.resolve_left e
 refine w_two (R:=fun st0=>Chg st st0 lo (lo+nrem)/\Dnx kf (arrOf st0) lo (n+1)) ?_ (fun hn1 D=>?_) (fun hn1=>⟨hc0,?_⟩)
 ·clear hl g3 g4 u1 hc0 sz ok1 hk1 est
  clear st1
  rintro st1 ⟨hc,dn⟩
  refine wpS_bind (wpS_lift (wpAny_rule ⟨rfl,?_⟩))
  refine wpS_bind (wpS_mono (wpS_forRange (I:=fun(x:Nat) (c:Option (Option Nat)×Nat×Nat) (st':SortSt)=>Chg st st' lo (lo+nrem)/\c.1=none/\x=c.2.1/\Dnx kf (arrOf st') lo c.2.1/\c.2.2+1<=c.2.1/\Eqx kf (arrOf st') lo c.2.1 c.2.2)
   (Q:=fun(c:Option (Option Nat)×Nat×Nat) (st':SortSt)=>Chg st st' lo (lo+nrem)/\c.1=none/\c.2.1<=nrem/\Dnx kf (arrOf st') lo c.2.1/\c.2.2+1<=c.2.1/\Eqx kf (arrOf st') lo c.2.1 c.2.2) ?_ ?_ (show _/\_ from⟨hc,rfl,rfl,dn,by show 0+1<=n+1;omega,fun i h1 h2=>by have h1':n+1 - (0+1)<=i:=h1;have h2':i<n+1:=h2;rw[show i=n by omega];show _=Kx kf _ (lo+(n+1) - 1);rw[show lo+(n+1) - 1=lo+n by omega]⟩)) ?_)
  ·clear dn hc
   rintro x ⟨r,n,q⟩ st1 hx1 hx2 ⟨hc,rfl,e,dn,hq,he⟩
   dsimp only at e dn hq he ⊢
   subst e
   have sz:(arrOf st1).size=(arrOf st).size:=hc.pm.size_eq
   have hk1:kindOf st1=κ:=hc.kd.trans hk
   have ok1:∀y∈(arrOf st1).toList,Ok y:=fun y hy=>ok y (hc.pm.toList.mem_iff.mp hy)
   refine wpS_bind (q4N c hk1 (by omega) (by omega) ok1 ?_)
   dsimp only
   have one:∀a,Eqx kf a lo (x+1) 0:=fun a i h1 h2=>by rw[show i=x by omega,show lo+(x+1) - 1=lo+x by omega]
   cases eb:O.blt (Kx kf (arrOf st1) (lo+x)) (Kx kf (arrOf st1) (lo+x - 1)) with
   |true=>
    rw[if_pos rfl]
    have dn':Dnx kf (arrOf st1) lo (x+1):=dn.snoc (by omega) (KeyOrd.kle_of_klt eb)
    by_cases hq0:q>0
    ·rw [if_pos hq0]
     refine wpS_bind (q9e (wpS_pure ⟨hc.rev (by omega) (by omega) (by omega),rfl,rfl,fun i j h1 h2=>?_,by show 0+1<=x+1;omega,one _⟩))
     have kk:=q4J (kf:=kf) (a:=arrOf st1) (i:=lo+x - (q+1)) (j:=lo+x) (by omega) fun k h1 h2=>by
      have:=he (k - lo) (by omega) (by omega)
      rwa [show lo+(k - lo)=k by omega] at this
     show O.kle (Kx kf (mirror _ _ _ _) _) (Kx kf (mirror _ _ _ _) _)
     rw[kk,kk]
     exact dn' i j h1 h2
    ·rw [if_neg hq0]
     exact wpS_pure ⟨hc,rfl,rfl,dn',by show 0+1<=x+1;omega,one _⟩
   |false=>
    rw[if_neg (by decide)]
    refine wpS_bind (q4N c hk1 (by omega) (by omega) ok1 ?_)
    dsimp only
    cases eb2:O.blt (Kx kf (arrOf st1) (lo+x - 1)) (Kx kf (arrOf st1) (lo+x)) with
    |true=>
     rw[if_pos rfl]
     exact wpS_pure ⟨hc,rfl,by show x<=nrem;omega,dn,hq,he⟩
    |false=>
     rw[if_neg (by decide)]
     have eq:=O.total _ _ eb eb2
     refine wpS_pure ⟨hc,rfl,rfl,dn.snoc (by omega) eb2,by show q+1+1<=x+1;omega,fun i h1 h2=>?_⟩
     have h1':x+1 - (q+1+1)<=i:=h1
     have h2':i<x+1:=h2
     show _=Kx kf _ (lo+(x+1) - 1)
     rw[show lo+(x+1) - 1=lo+x by omega]
     by_cases ei:i=x
     ·rw [ei]
     ·rw [eq]
      exact he i (by omega) (by omega)
  ·rintro ⟨r,n,q⟩ st1 ⟨hc,rfl,e,z⟩
   dsimp only at e
   exact⟨hc,rfl,by show n<=nrem;omega,z⟩
  ·clear dn hc
   rintro⟨r,n,q⟩ st1 ⟨hc,rfl,hn,dn,hq,he⟩
   dsimp only at hn dn hq he ⊢
   have sz:(arrOf st1).size=(arrOf st).size:=hc.pm.size_eq
   have fin:∀st1,Chg st st1 lo (lo+nrem)->Dnx kf (arrOf st1) lo n->Chg st (setArr st1 (mirror (arrOf st1) lo (lo+n) ((lo+n - lo) / 2))) lo (lo+nrem)/\Upx kf (mirror (arrOf st1) lo (lo+n) ((lo+n - lo) / 2)) lo n:=fun st1 hc dn=>by
    have sz:(arrOf st1).size=(arrOf st).size:=hc.pm.size_eq
    refine⟨hc.rev (by omega) (by omega) (by omega),fun i j h1 h2=>?_⟩
    rw[q9a (by omega),q9a (by omega),if_pos (by omega),if_pos (by omega),show lo+(lo+n) - 1 - (lo+i)=lo+(n - 1 - i) by omega,show lo+(lo+n) - 1 - (lo+j)=lo+(n - 1 - j) by omega]
    exact dn _ _ (by omega) (by omega)
   refine w_two (R:=fun st0=>Chg st st0 lo (lo+nrem)/\Dnx kf (arrOf st0) lo n) ?_ (fun hq0 D=>?_) (fun _=>⟨hc,dn⟩)
   ·clear dn hc he sz
    clear st1
    rintro st1 ⟨hc,dn⟩
    refine wpS_bind (q9e ?_)
    obtain⟨hc2,u0⟩:=fin st1 hc dn
    generalize hst:setArr st1 (mirror (arrOf st1) lo (lo+n) ((lo+n - lo) / 2))=st3 at hc2
    have u1:Upx kf (arrOf st3) lo n:=by rw[<-hst];exact u0
    clear hst u0 fin dn hc
    clear st1
    obtain⟨st1,rfl⟩:∃st1,st1=st3:=⟨_,rfl⟩
    have sz:(arrOf st1).size=(arrOf st).size:=hc2.pm.size_eq
    have hk1:kindOf st1=κ:=hc2.kd.trans hk
    have ok1:∀y∈(arrOf st1).toList,Ok y:=fun y hy=>ok y (hc2.pm.toList.mem_iff.mp hy)
    walk_at "tcAsc"
    rintro⟨r,m⟩ st2 ⟨rfl,rfl,g1,g2,g3,_⟩
    exact wpS_pure (h m st1 g1 g2 hc2 g3)
   ·refine wpS_bind (q9e ?_)
    have kk:=q4J (kf:=kf) (a:=arrOf st1) (i:=lo+n - (q+1)) (j:=lo+n) (by omega) fun k h1 h2=>by
     have:=he (k - lo) (by omega) (by omega)
     rwa [show lo+(k - lo)=k by omega] at this
    exact D _ ⟨hc.rev (by omega) (by omega) (by omega),fun i j h1 h2=>by
     show O.kle (Kx kf (mirror _ _ _ _) _) (Kx kf (mirror _ _ _ _) _)
     rw[kk,kk]
     exact dn i j h1 h2⟩
 ·refine wpS_bind (q4N c hk1 (by omega) (by omega) ok1 ?_)
  dsimp only
  cases eb:O.blt (Kx kf (arrOf st1) lo) (Kx kf (arrOf st1) (lo+n - 1)) with
  |true=>
   rw[if_pos rfl]
   exact wpS_pure (h n st1 g1 g2 hc0 g3)
  |false=>
   rw[if_neg (by decide)]
   have eqs:∀i,i<n->Kx kf (arrOf st1) (lo+i)=Kx kf (arrOf st1) (lo+n - 1):=fun i hi=>by
    have a1:=g3 i (n - 1) (by omega) (by omega)
    rw[show lo+(n - 1)=lo+n - 1 by omega] at a1
    have a2:=g3 0 i (by omega) hi
    rw[Nat.add_zero] at a2
    exact KeyOrd.kle_antisymm a1 (KeyOrd.kle_trans (show O.kle (Kx kf (arrOf st1) (lo+n - 1)) (Kx kf (arrOf st1) lo) from eb) a2)
   have kk:=q4J (kf:=kf) (a:=arrOf st1) (i:=lo) (j:=lo+n) (by omega) fun k h1 h2=>by
    have:=eqs (k - lo) (by omega)
    rwa [show lo+(k - lo)=k by omega] at this
   refine wpS_bind (q9e ?_)
   refine D _ ⟨hc0.rev (i:=lo) (j:=lo+n) (by omega) (by omega) (by omega),fun i j h1 h2=>?_⟩
   show O.kle (Kx kf (mirror _ _ _ _) _) (Kx kf (mirror _ _ _ _) _)
   rw[kk,kk]
   by_cases ej:j=n
   ·by_cases ei:i=n
    ·rw [ej,ei];exact KeyOrd.kle_refl _
    ·rw [ej,eqs i (by omega)];exact KeyOrd.kle_of_klt hl
   ·rw [eqs i (by omega),eqs j (by omega)];exact KeyOrd.kle_refl _
 ·have hz:n=1:=by omega
  intro i j h1 h2
  subst hz
  by_cases ej:j=1
  ·by_cases ei:i=1
   ·rw [ej,ei];exact KeyOrd.kle_refl _
   ·rw [ej,show i=0 by omega,Nat.add_zero]
    exact KeyOrd.kle_of_klt hl
  ·rw [show i=0 by omega,show j=0 by omega];exact KeyOrd.kle_refl _
theorem w_bin (c:Cmp prog w A s κ O kf Ok){lo n m:Nat}{st:SortSt}{Q:Bool->SortSt->Prop}(hk:kindOf st=κ)(ok:∀x∈(arrOf st).toList,Ok x)(hm:1<=m)(hmn:m<=n)(hs:lo+n<=(arrOf st).size)(u0:Upx kf (arrOf st) lo m)
  (h:∀st',Chg st st' lo (lo+n)->Upx kf (arrOf st') lo n->Q true st'):wpS (model prog w) A E s (binarySort' lo n m) Q st:=by
 refine wpS_bind (wpS_mono (wpS_forRange (I:=fun(x:Nat) (c:Option Bool×Unit) (st':SortSt)=>Chg st st' lo (lo+n)/\c.1=none/\Upx kf (arrOf st') lo x)
  (Q:=fun(c:Option Bool×Unit) (st':SortSt)=>Chg st st' lo (lo+n)/\c.1=none/\Upx kf (arrOf st') lo n) ?_ ?_ (show _/\_ from⟨Chg.refl _ _ _,rfl,by rw[Nat.max_eq_left hm];exact u0⟩)) ?_)
 ·rintro k ⟨r,⟨⟩⟩ st1 hk1 hk2 ⟨hc,rfl,u⟩
  dsimp only
  have sz:(arrOf st1).size=(arrOf st).size:=hc.pm.size_eq
  have hkd:kindOf st1=κ:=hc.kd.trans hk
  have ok1:∀y∈(arrOf st1).toList,Ok y:=fun y hy=>ok y (hc.pm.toList.mem_iff.mp hy)
  refine wpS_bind (wpS_mono (wpS_forRange (I:=fun(y:Nat) (c:Option Bool×Nat×Nat) (st':SortSt)=>st1=st'/\c.1=none/\c.2.1<=c.2.2/\c.2.2<=k/\c.2.2 - c.2.1<=k - y/\(∀i,i<c.2.1->O.kle (Kx kf (arrOf st1) (lo+i)) (Kx kf (arrOf st1) (lo+k)))/\∀i,c.2.2<=i->i<k->O.klt (Kx kf (arrOf st1) (lo+k)) (Kx kf (arrOf st1) (lo+i)))
   (Q:=fun(c:Option Bool×Nat×Nat) (st':SortSt)=>st1=st'/\c.1=none/\c.2.1=c.2.2/\c.2.2<=k/\(∀i,i<c.2.1->O.kle (Kx kf (arrOf st1) (lo+i)) (Kx kf (arrOf st1) (lo+k)))/\∀i,c.2.2<=i->i<k->O.klt (Kx kf (arrOf st1) (lo+k)) (Kx kf (arrOf st1) (lo+i))) ?_ ?_ (show _/\_ from⟨rfl,rfl,Nat.zero_le _,Nat.le_refl _,Nat.le_refl _,fun i hi=>absurd hi (Nat.not_lt_zero _),fun i h1 h2=>absurd h2 (Nat.not_lt.mpr h1)⟩)) ?_)
  ·rintro y ⟨r,l,rr⟩ st2 _ hy ⟨rfl,rfl,g1,g2,g3,g4,g5⟩
   dsimp only at g1 g2 g3 g4 g5 ⊢
   by_cases hge:l≥rr
   ·rw [if_pos hge]
    exact wpS_pure ⟨rfl,rfl,by show l=rr;omega,g2,g4,g5⟩
   ·rw [if_neg hge]
    refine wpS_bind (q4N c hkd (by omega) (by omega) ok1 ?_)
    dsimp only
    cases e:O.blt (Kx kf (arrOf st1) (lo+k)) (Kx kf (arrOf st1) (lo+(l+rr) / 2)) with
    |true=>
     rw[if_pos rfl]
     exact wpS_pure ⟨rfl,rfl,by show l<=(l+rr) / 2;omega,by show(l+rr) / 2<=k;omega,by show(l+rr) / 2 - l<=k - (y+1);omega,g4,fun i h1 h2=>KeyOrd.klt_of_klt_of_kle e (u _ _ h1 h2)⟩
    |false=>
     rw[if_neg (by decide)]
     exact wpS_pure ⟨rfl,rfl,by show(l+rr) / 2+1<=rr;omega,g2,by show rr - ((l+rr) / 2+1)<=k - (y+1);omega,fun i hi=>KeyOrd.kle_trans (u i ((l+rr) / 2) (Nat.le_of_lt_succ hi) (by omega)) e,g5⟩
  ·rintro ⟨r,l,rr⟩ st2 ⟨rfl,rfl,g1,g2,g3,g4,g5⟩
   exact⟨rfl,rfl,by show l=rr;have g1':l<=rr:=g1;have g3':rr - l<=k - max 0 k:=g3;omega,g2,g4,g5⟩
  ·rintro ⟨r,l,rr⟩ st2 ⟨rfl,rfl,g1,g2,g4,g5⟩
   dsimp only at g1 g2 g4 g5 ⊢
   subst g1
   refine wpS_bind (w_down (wpS_pure ⟨hc.bub (by omega) (by omega) (by omega) (by omega),rfl,fun i j x y=>?_⟩))
   show O.kle (Kx kf (bubble _ _ _) _) (Kx kf (bubble _ _ _) _)
   have hkx:=q9b (kf:=kf) (a:=arrOf st1) (src:=lo+k) (d:=lo+k - (lo+l)) (by omega) (by omega)
   rw[hkx,hkx,show lo+k - (lo+k - (lo+l))=lo+l by omega]
   by_cases i1:i=l
   ·rw [if_pos (by omega)]
    by_cases j1:j=l
    ·rw [if_pos (by omega)];exact KeyOrd.kle_refl _
    ·rw [if_neg (by omega),if_pos (by omega),show lo+j - 1=lo+(j - 1) by omega]
     exact KeyOrd.kle_of_klt (g5 (j - 1) (by omega) (by omega))
   ·rw [if_neg (by omega)]
    by_cases i2:l<i/\i<=k
    ·rw [if_pos (by omega),if_neg (by omega),if_pos (by omega),show lo+i - 1=lo+(i - 1) by omega,show lo+j - 1=lo+(j - 1) by omega]
     exact u _ _ (by omega) (by omega)
    ·rw [if_neg (by omega)]
     by_cases j1:j=l
     ·rw [if_pos (by omega)];exact g4 i (by omega)
     ·rw [if_neg (by omega)]
      by_cases j2:l<j/\j<=k
      ·rw [if_pos (by omega),show lo+j - 1=lo+(j - 1) by omega]
       exact u _ _ (by omega) (by omega)
      ·rw [if_neg (by omega)]
       exact u _ _ x (by omega)
 ·rintro ⟨r,⟨⟩⟩ st1 ⟨hc,rfl,u⟩
  exact⟨hc,rfl,by rw[show max (max m 1) n=n by omega] at u;exact u⟩
 ·rintro ⟨r,⟨⟩⟩ st1 ⟨hc,rfl,u⟩
  exact wpS_pure (h st1 hc u)
end
end Tim
namespace Tim
open PySem PySem.W PyProof.Rows
section
variable {prog:Program}{w:World}{A:Around}{E:Value->Shared->Prop}{s:Shared}{κ:SortKind}{O:KeyOrd}{kf:Keyed->O.α}{Ok:Keyed->Prop}{a0:List Keyed}{st:SortSt}{Rs:List (List Keyed)}{rest:List Keyed}
theorem Rns.psize (R:Rns kf Ok a0 st Rs rest):(pendingOf st).size=Rs.length:=by
 have:=congrArg List.length R.pd
 rw[List.length_map,q1B,Array.length_toList] at this
 exact this
theorem Rns.len (R:Rns kf Ok a0 st Rs rest):Rs.flatten.length+rest.length=a0.length:=by
 have:=R.pm.length_eq
 rw[R.arr,List.length_append] at this
 exact this
theorem Rns.asize (R:Rns kf Ok a0 st Rs rest):(arrOf st).size=a0.length:=by rw[<-Array.length_toList];exact R.pm.length_eq
theorem qax {α:Type}{l:List α}{i:Nat}(h:i+1<l.length):∃P X Y S,l=P++X::Y::S/\i=P.length:=by
 refine⟨l.take i,l[i],l[i+1],l.drop (i+2),?_,by rw[List.length_take];omega⟩
 rw[<-List.drop_eq_getElem_cons (i:=i+1) h,<-List.drop_eq_getElem_cons (i:=i) (by omega),List.take_append_drop]
theorem Rns.chg {st2:SortSt}{hi:Nat}(R:Rns kf Ok a0 st Rs rest)(h:Chg st st2 Rs.flatten.length hi):Rns kf Ok a0 st2 Rs ((arrOf st2).toList.drop Rs.flatten.length):=by
 refine⟨?_,h.pm.toList.trans R.pm,R.so,by rw[h.pd];exact R.pd,h.fl.trans R.fl⟩
 have e:(arrOf st2).toList.take Rs.flatten.length=Rs.flatten:=by
  have e1:(arrOf st).toList.take Rs.flatten.length=Rs.flatten:=by rw[R.arr];exact List.take_left' rfl
  refine Eq.trans (List.ext_getElem? fun j=>?_) e1
  rw[List.getElem?_take,List.getElem?_take]
  split
  ·rename_i hj
   have:=h.out j (.inl hj)
   simpa using this
  ·rfl
 conv=>lhs;rw[<-List.take_append_drop Rs.flatten.length (arrOf st2).toList,e]
theorem Upx.srd {a:Array Keyed}{lo n:Nat}(h:Upx kf a lo n)(hn:lo+n<=a.size):Srd kf ((a.toList.drop lo).take n):=by
 refine List.pairwise_iff_getElem.mpr fun i j hi hj hij=>?_
 rw[List.length_take] at hi hj
 have hi':i<n:=by omega
 have hj':j<n:=by omega
 have g:∀k (hk:k<n),Kx kf a (lo+k)=kf (((a.toList.drop lo).take n)[k]'(by rw[List.length_take,List.length_drop,Array.length_toList];omega)):=fun k hk=>by
  refine qci ?_
  rw[List.getElem_take,List.getElem_drop]
  simp[show lo+k<a.size by omega]
 rw[<-g i hi',<-g j hj']
 exact h i j (by omega) hj'
theorem Rns.push {n lo:Nat}(R:Rns kf Ok a0 st Rs rest)(hlo:lo=Rs.flatten.length)(h1:1<=n)(h2:n<=rest.length)(hs:Srd kf (rest.take n)):Rns kf Ok a0 (SortSt.mk' (kindOf st) (arrOf st) ((pendingOf st).push (lo,n,0)) (gallopOf st) (failedOf st)) (Rs++[rest.take n]) (rest.drop n):=by
 subst hlo
 refine⟨?_,R.pm,fun r hr=>?_,?_,R.fl⟩
 ·show (arrOf st).toList=_
  rw[R.arr]
  simp
 ·rcases List.mem_append.mp hr with hr|hr
  ·exact R.so r hr
  ·rw [List.mem_singleton.mp hr]
   exact⟨hs,fun z=>by have:=congrArg List.length z;rw[List.length_take,List.length_nil] at this;omega⟩
 ·show ((pendingOf st).push (Rs.flatten.length,n,0)).toList.map pr2=_
  rw[Array.toList_push,List.map_append,R.pd,q3a]
  simp[offs,pr2]
  omega
theorem Rns.power {pw:Nat}(R:Rns kf Ok a0 st Rs rest):Rns kf Ok a0 (SortSt.mk' (kindOf st) (arrOf st) ((pendingOf st).modify ((pendingOf st).size - 1) fun x=>match x with|(st,len,snd)=>(st,len,pw)) (gallopOf st) (failedOf st)) Rs rest:=by
 refine⟨R.arr,R.pm,R.so,?_,R.fl⟩
 show((pendingOf st).modify ((pendingOf st).size - 1) fun x=>match x with|(st,len,snd)=>(st,len,pw)).toList.map pr2=_
 rw[<-R.pd,Array.toList_modify]
 refine List.ext_getElem? fun j=>?_
 rw[List.getElem?_map,List.getElem?_map,List.getElem?_modify]
 cases(pendingOf st).toList[j]? with
 |none=>rfl
 |some p=>
  obtain⟨p1,p2,p3⟩:=p
  by_cases hj:(pendingOf st).size - 1=j
  ·simp [hj,pr2]
  ·simp [hj]
theorem q5y {n:Nat}(h:n<=rest.length):(Rs++[rest.take n]).flatten.length=Rs.flatten.length+n:=by
 rw[List.flatten_append,List.length_append]
 simp
 omega
set_option hygiene false in
local macro_rules| `(tactic| walk_at "tsTail")=> `(tactic| (
 refine wpS_bind (wpS_get ?_)
 try dsimp only
 rcases hbk:(pendingOf st2).back? with _|⟨sB,nB,pB⟩
 ·simp only[hbk]
  refine wpS_bind (wpS_modify (wpS_pure ?_))
  exact⟨_,_,hk2,R2.push rfl g1 g2 g3,rfl,(q5y g2).symm,Nat.add_le_add hxl g1⟩
 ·simp only[hbk]
  refine wpS_bind (wpS_mono (wpS_forRange (I:=fun(y:Nat) (c:Option Unit×Unit) (st':SortSt)=>c.1=none/\∃Rs',kindOf st'=κ/\Rns kf Ok a0 st' Rs' rest2)
   (Q:=fun(c:Option Unit×Unit) (st':SortSt)=>c.1=none/\∃Rs',kindOf st'=κ/\Rns kf Ok a0 st' Rs' rest2) ?_ ?_ (show _/\_ from⟨rfl,_,hk2,R2⟩)) ?_)
  ·rintro y ⟨r,⟨⟩⟩ st3 _ hy ⟨rfl,Rs',hk3,R3⟩
   refine wpS_bind (wpS_get ?_)
   try dsimp only
   split
   ·rename_i older heq
    split
    ·exact wpS_pure ⟨rfl,_,hk3,R3⟩
    ·have hp:1<(pendingOf st3).size:=by
      by_cases hp:(pendingOf st3).size>1
      ·exact hp
      ·rw [if_neg hp] at heq;cases heq
     have hps:=R3.psize
     obtain⟨P,X,Y,S,eR,eP⟩:=qax (l:=Rs') (i:=(pendingOf st3).size - 2) (by omega)
     rw[eR] at R3
     refine wpS_bind (q4M c o0 hk3 eP R3 fun Z st4 hk4 R4=>?_)
     rw[if_neg (by decide)]
     exact wpS_pure ⟨rfl,_,hk4,R4⟩
   ·exact wpS_pure ⟨rfl,_,hk3,R3⟩
  ·rintro ⟨r,⟨⟩⟩ st3 z
   exact z
  ·rintro ⟨r,⟨⟩⟩ st3 ⟨rfl,Rs',hk3,R3⟩
   try dsimp only
   refine wpS_bind (wpS_modify (wpS_bind (wpS_modify (wpS_pure ?_))))
   have e0:=R2.len
   have e1:=R3.len
   have e2:Rs.flatten.length=Rs'.flatten.length:=by omega
   exact⟨_,_,hk3,R3.power.push e2 g1 g2 g3,rfl,(congrArg (· +_) e2).trans (q5y g2).symm,Nat.add_le_add hxl g1⟩))
theorem q6R (c:Cmp prog w A s κ O kf Ok){Q:Unit->SortSt->Prop}(hk:kindOf st=κ)(o0:∀x∈(arrOf st).toList,Ok x)(hpd:pendingOf st= #[])(hfl:failedOf st=none)
  (h:∀st',(arrOf st').toList.Perm (arrOf st).toList->Srd kf (arrOf st').toList->failedOf st'=none->Q () st'):wpS (model prog w) A E s sortRuns' Q st:=by
 obtain⟨a0,ea0⟩:∃a0,a0=(arrOf st).toList:=⟨_,rfl⟩
 have sz:(arrOf st).size=a0.length:=by rw[ea0,Array.length_toList]
 rw[<-ea0] at o0
 have R0:Rns kf Ok a0 st [] (arrOf st).toList:=⟨by simp,by rw[ea0],fun r hr=>(nomatch hr),by rw[hpd];rfl,hfl⟩
 refine wpS_bind (wpS_get ?_)
 refine wpS_bind (wpS_mono (wpS_forRange (I:=fun(x:Nat) (c:Option Unit×Nat) (st':SortSt)=>∃Rs rest,kindOf st'=κ/\Rns kf Ok a0 st' Rs rest/\c.1=none/\c.2=Rs.flatten.length/\x<=c.2)
  (Q:=fun(c:Option Unit×Nat) (st':SortSt)=>c.1=none/\∃Rs,kindOf st'=κ/\Rns kf Ok a0 st' Rs []) ?_ ?_ ⟨[],_,hk,R0,rfl,rfl,Nat.le_refl _⟩) ?_)
 ·rintro x ⟨r,lo⟩ st1 _ hx ⟨Rs,rest,hk1,R1,rfl,rfl,hxl⟩
  dsimp only at hxl ⊢
  have len1:=R1.len
  by_cases hge:Rs.flatten.length≥(arrOf st).size
  ·rw [if_pos hge]
   have er:rest=[]:=List.length_eq_zero_iff.mp (by omega)
   subst er
   exact wpS_pure ⟨rfl,_,hk1,R1⟩
  ·rw [if_neg hge]
   have as1:=R1.asize
   have ok1:∀y∈(arrOf st1).toList,Ok y:=fun y hy=>o0 y (R1.pm.mem_iff.mp hy)
   refine wpS_bind (qaV c hk1 ok1 (show 1<=(arrOf st).size - Rs.flatten.length by omega) (show Rs.flatten.length+((arrOf st).size - Rs.flatten.length)<=(arrOf st1).size by omega) fun m st2 m1 m2 hc u=>?_)
   try dsimp only
   have R2:=R1.chg hc
   have as2:=R2.asize
   have hk2:kindOf st2=κ:=hc.kd.trans hk1
   have m2:m<=(arrOf st).size - Rs.flatten.length:=m2
   split
   ·rename_i hlt
    refine wpS_bind (wpS_lift (wpAny_rule ⟨rfl,?_⟩))
    have ok2:∀y∈(arrOf st2).toList,Ok y:=fun y hy=>o0 y (R2.pm.mem_iff.mp hy)
    have f1:1<=min ((arrOf st).size - Rs.flatten.length) (minRun' (arrOf st).size (arrOf st).size 0):=Nat.le_min.mpr ⟨by omega,Nat.le_trans m1 (Nat.le_of_lt hlt)⟩
    have f2:min ((arrOf st).size - Rs.flatten.length) (minRun' (arrOf st).size (arrOf st).size 0)<=(arrOf st).size - Rs.flatten.length:=Nat.min_le_left _ _
    refine wpS_bind (w_bin c hk2 ok2 m1 (Nat.le_min.mpr ⟨m2,Nat.le_of_lt hlt⟩) (show Rs.flatten.length+min ((arrOf st).size - Rs.flatten.length) (minRun' (arrOf st).size (arrOf st).size 0)<=(arrOf st2).size by omega) u fun st3 hc3 u3=>?_)
    rw[if_neg (by decide)]
    have R3:=R2.chg hc3
    have hk3:kindOf st3=κ:=hc3.kd.trans hk2
    have as3:=R3.asize
    have g1:=f1
    have g2:min ((arrOf st).size - Rs.flatten.length) (minRun' (arrOf st).size (arrOf st).size 0)<=((arrOf st3).toList.drop Rs.flatten.length).length:=by rw[List.length_drop,show(arrOf st3).toList.length=(arrOf st3).size from Array.length_toList];omega
    have g3:Srd kf (((arrOf st3).toList.drop Rs.flatten.length).take (min ((arrOf st).size - Rs.flatten.length) (minRun' (arrOf st).size (arrOf st).size 0))):=u3.srd (show Rs.flatten.length+min ((arrOf st).size - Rs.flatten.length) (minRun' (arrOf st).size (arrOf st).size 0)<=(arrOf st3).size by omega)
    clear hc3 u3 R2 hk2 as2 ok2 hc u m1 m2 hlt f1 f2
    clear st2
    obtain⟨st2,rfl⟩:∃z,z=st3:=⟨_,rfl⟩
    have R2:=R3
    have hk2:=hk3
    clear R3 hk3
    obtain⟨rest2,er2⟩:∃z,z=(arrOf st2).toList.drop Rs.flatten.length:=⟨_,rfl⟩
    rw[<-er2] at R2 g2 g3
    walk_at "tsTail"
   ·have g1:=m1
    have g2:m<=((arrOf st2).toList.drop Rs.flatten.length).length:=by rw[List.length_drop,show(arrOf st2).toList.length=(arrOf st2).size from Array.length_toList];omega
    have g3:Srd kf (((arrOf st2).toList.drop Rs.flatten.length).take m):=u.srd (by omega)
    obtain⟨rest2,er2⟩:∃z,z=(arrOf st2).toList.drop Rs.flatten.length:=⟨_,rfl⟩
    rw[<-er2] at R2 g2 g3
    walk_at "tsTail"
 ·rintro ⟨r,lo⟩ st1 ⟨Rs,rest,hk1,R1,rfl,rfl,hxl⟩
  dsimp only at hxl ⊢
  have len1:=R1.len
  have er:rest=[]:=List.length_eq_zero_iff.mp (by have:max 0 (arrOf st).size<=Rs.flatten.length:=hxl;omega)
  subst er
  exact⟨rfl,_,hk1,R1⟩
 ·rintro ⟨r,lo⟩ st1 ⟨rfl,Rs,hk1,R1⟩
  try dsimp only
  refine wpS_bind (wpS_mono (wpS_forRange (I:=fun(y:Nat) (c:Option Unit×Unit) (st':SortSt)=>c.1=none/\∃Rs,kindOf st'=κ/\Rns kf Ok a0 st' Rs []/\Rs.length<=max 1 (a0.length - y))
   (Q:=fun(c:Option Unit×Unit) (st':SortSt)=>c.1=none/\∃Rs,kindOf st'=κ/\Rns kf Ok a0 st' Rs []/\Rs.length<=1) ?_ ?_ (show _/\_ from⟨rfl,_,hk1,R1,?_⟩)) ?_)
  ·rintro y ⟨r,⟨⟩⟩ st3 _ hy ⟨rfl,Rs,hk3,R3,hlen⟩
   refine wpS_bind (wpS_get ?_)
   try dsimp only
   have hps:=R3.psize
   by_cases hp:(pendingOf st3).size<=1
   ·rw [if_pos hp]
    exact wpS_pure ⟨rfl,_,hk3,R3,by omega⟩
   ·rw [if_neg hp]
    have mrg:∀(i:Nat),i+1<Rs.length->∀{Q:Bool->SortSt->Prop},(∀(Rs4:List (List Keyed)) (st4:SortSt),kindOf st4=κ->Rns kf Ok a0 st4 Rs4 []->Rs4.length+1=Rs.length->Q true st4)->wpS (model prog w) A E s (mergeAt' i) Q st3:=fun i hi Q hq=>by
     obtain⟨P,X,Y,S,eR,eP⟩:=qax hi
     rw[eR] at R3
     refine q4M c o0 hk3 eP R3 fun Z st4 hk4 R4=>hq _ _ hk4 R4 ?_
     rw[eR]
     simp
     omega
    split
    ·rename_i h3
     have h3':0<(pendingOf st3).size - 2:=h3
     split
     ·refine wpS_bind (mrg ((pendingOf st3).size - 2 - 1) (by omega) fun Rs4 st4 hk4 R4 h4=>?_)
      rw[if_neg (by decide)]
      exact wpS_pure ⟨rfl,_,hk4,R4,by omega⟩
     ·refine wpS_bind (mrg ((pendingOf st3).size - 2) (by omega) fun Rs4 st4 hk4 R4 h4=>?_)
      rw[if_neg (by decide)]
      exact wpS_pure ⟨rfl,_,hk4,R4,by omega⟩
    ·split
     ·rename_i z
      exact nomatch z
     ·refine wpS_bind (mrg ((pendingOf st3).size - 2) (by omega) fun Rs4 st4 hk4 R4 h4=>?_)
      rw[if_neg (by decide)]
      exact wpS_pure ⟨rfl,_,hk4,R4,by omega⟩
  ·rintro ⟨r,⟨⟩⟩ st3 ⟨rfl,Rs,hk3,R3,hlen⟩
   exact⟨rfl,_,hk3,R3,by have h2:Rs.length<=max 1 (a0.length - max 0 (arrOf st).size):=hlen;omega⟩
  ·have ln:=R1.len
   have:∀(l:List (List Keyed)),(∀r∈l,r≠[])->l.length<=l.flatten.length:=fun l=>by
    induction l with
    |nil=>intro _;simp
    |cons r l ih=>
     intro hr
     have h1:=ih fun z hz=>hr z (List.mem_cons_of_mem _ hz)
     have h2:0<r.length:=List.length_pos_iff.mpr (hr r (.head _))
     rw[List.flatten_cons,List.length_append,List.length_cons]
     omega
   have:=this Rs fun r hr=>(R1.so r hr).2
   rw[List.length_nil] at ln
   omega
  ·rintro ⟨r,⟨⟩⟩ st3 ⟨rfl,Rs,hk3,R3,hlen⟩
   try dsimp only
   refine wpS_pure (h st3 (by rw[<-ea0];exact R3.pm) ?_ R3.fl)
   rw[R3.arr,List.append_nil]
   match Rs,R3.so,hlen with
   |[],_,_=>exact List.Pairwise.nil
   |[r],so,_=>simpa using(so r (by simp)).1
   |_::_::_,_,hl=>simp at hl
end
end Tim
namespace Srt
open PySem PySem.W PyProof.Rows
section
variable {prog:Program}{w:World}{A:Around}{E:Value->Shared->Prop}{s:Shared}
theorem q6l {α:Type}:∀l:List α,l.zip l=l.map fun v=>(v,v)
 |[]=>rfl
 |v::l=>by rw[List.zip_cons_cons,q6l l];rfl
theorem q41 {κ:SortKind}{a:Addr}{vs:List Value}{n:Nat}{P:PySem.Fin->Shared->Prop}{O:KeyOrd}{kv:Value->O.α}(ho:s.heap.get? a=some (seqObj "list" vs.toArray n))(hz:vs.length<=sizeLine)
  (hk:2<=vs.length->∀(h':Heap),(∀b o,b≠a->s.heap.get? b=some o->h'.get? b=some o)->∀(R:SortKind->Shared->Prop),R κ {s with heap:=h'}->wpAny (model prog w) A (keyKind' vs.toArray) R (fun _ _=>False) {s with heap:=h'})
  (ha:2<=vs.length->∀(h':Heap),(∀b o,b≠a->s.heap.get? b=some o->h'.get? b=some o)->∀(x y:Value) (C:Bool->Shared->Prop) (E:Value->Shared->Prop),x∈vs->y∈vs->C (O.blt (kv x) (kv y)) {s with heap:=h'}->wpAny (model prog w) A (keyLt' κ x y) C E {s with heap:=h'})
  (h:∀out:Array Value,(out.toList.Perm vs/\out.toList.Pairwise fun x y=>O.kle (kv x) (kv y))->P (.done (.ret .none)) {s with heap:=sortedHeap s.heap a vs out}):
  wpAny (model prog w) A (Builtin.«list.sort» ⟨[.ref a],[]⟩) P E s:=by
 have hlt:a<s.heap.objs.size:=Heap.lt_size ho
 obtain⟨e1,ho1⟩:∃e1,(s.heap.update a (Obj.mapSeq fun _=>(#[]:Array Value))).get? a=some (seqObj "list" #[] e1):=⟨_,get?_update_seq ho fun _=> #[]⟩
 have kp:∀b o,b≠a->s.heap.get? b=some o->(((s.heap.update a (Obj.mapSeq fun _=>(#[]:Array Value))).push (seqObj "tuple" vs.toArray 0)).push (seqObj "list" #[] 0)).get? b=some o:=fun b o hb e=>
  Heap.get?_push_of_some _ (Heap.get?_push_of_some _ (((Heap.SameBut.update s.heap a (Obj.mapSeq fun _=>(#[]:Array Value))).2 b hb).trans e))
 have ho6:(((s.heap.update a (Obj.mapSeq fun _=>(#[]:Array Value))).push (seqObj "tuple" vs.toArray 0)).push (seqObj "list" #[] 0)).get? a=some (seqObj "list" #[] e1):=Heap.get?_push_of_some _ (Heap.get?_push_of_some _ ho1)
 rw[list_sort_plain]
 refine wpAny_bind (listItems_at ho rfl (wpAny_bind (listUpdate_at ho rfl (wpAny_bind (seqEpoch_at ho1 rfl (wpAny_bind (wpAny_newTuple (wpAny_bind (wpAny_newList (wpAny_holding ?_) (Nat.zero_le _))) hz)))) (by rw[List.size_toArray];exact hz) (Nat.zero_le _))))
 show wpAny (model prog w) A _ P E {s with heap:=((s.heap.update a (Obj.mapSeq fun _=>(#[]:Array Value))).push (seqObj "tuple" vs.toArray 0)).push (seqObj "list" #[] 0)}
 dsimp only
 by_cases h2:vs.length<2
 ·have h2':vs.toArray.size<2:=by rw[List.size_toArray];exact h2
  rw[if_pos h2',if_pos h2']
  refine wpAny_bind (wpAny_pure ?_)
  rw[StateT.run_pure]
  refine wpAny_bind (wpAny_pure ?_)
  dsimp only
  have eo:Array.map (fun x:Value×Value=>x.2) (arrOf (SortSt.mk' general' (vs.toArray.zip vs.toArray) #[] 7 none))=vs.toArray:=by
   show Array.map (fun x:Value×Value=>x.2) (vs.toArray.zip vs.toArray)=vs.toArray
   apply Array.toList_inj.mp
   rw[Array.toList_map,Array.toList_zip]
   exact List.map_snd_zip (Nat.le_refl _)
  rw[eo]
  refine wpAny_bind (seqEpoch_at ho6 rfl (wpAny_bind (listUpdate_at ho6 rfl ?_ (Nat.zero_le _) (by rw[List.size_toArray];exact Nat.le_succ_of_le hz))))
  simp only[bne_self_eq_false,Bool.false_eq_true,if_false]
  exact wpAny_pure (h _ ⟨List.Perm.refl _,L2.pw_two h2⟩)
 ·have h2':¬vs.toArray.size<2:=by rw[List.size_toArray];exact h2
  rw[if_neg h2',if_neg h2']
  obtain⟨s6,es6⟩:∃s6:Shared,s6={s with heap:=((s.heap.update a (Obj.mapSeq fun _=>(#[]:Array Value))).push (seqObj "tuple" vs.toArray 0)).push (seqObj "list" #[] 0)}:=⟨_,rfl⟩
  have ho7:s6.heap.get? a=some (seqObj "list" #[] e1):=by rw[es6];exact ho6
  have hk':=hk (by omega) _ kp (fun κ' s0=>κ'=κ/\s0=s6) ⟨rfl,es6.symm⟩
  have ha':=ha (by omega) _ kp
  rw[<-es6] at hk' ha' ⊢
  refine wpAny_bind (wpAny_mono hk' (fun κ' s0 hκ=>?_) fun _ _ x=>x.elim)
  obtain⟨rfl,rfl⟩:=hκ
  have cm:Tim.Cmp prog w A s0 κ' O (fun x=>kv x.1) (fun x=>x.1∈vs):=⟨fun x y Q E hx hy hq=>ha' x.1 y.1 Q E hx hy hq⟩
  have eq2:(vs.toArray.zip vs.toArray).toList=vs.map fun v=>(v,v):=by
   rw[Array.toList_zip]
   exact q6l vs
  refine wpAny_bind (wpAny_mono (show wpS (model prog w) A E s0 sortRuns' (fun _ st'=>∃l:List Value,(arrOf st').toList=l.map (fun v=>(v,v))/\l.Perm vs/\(l.Pairwise fun x y=>O.kle (kv x) (kv y))/\failedOf st'=none) (SortSt.mk' κ' (vs.toArray.zip vs.toArray) #[] 7 none) from
   Tim.q6R cm rfl (fun x hx=>?_) rfl rfl fun st' pm so fl=>?_) ?_ fun _ _ e=>e)
  ·have hx:x∈(vs.toArray.zip vs.toArray).toList:=hx
   rw[eq2] at hx
   obtain⟨v,hv,rfl⟩:=List.mem_map.mp hx
   exact hv
  ·have pm:(arrOf st').toList.Perm (vs.toArray.zip vs.toArray).toList:=pm
   rw[eq2] at pm
   have e3:(arrOf st').toList=((arrOf st').toList.map (·.2)).map fun v=>(v,v):=by
    rw[List.map_map]
    conv=>lhs;rw[<-List.map_id (arrOf st').toList]
    refine List.map_congr_left fun x hx=>?_
    obtain⟨v,_,rfl⟩:=List.mem_map.mp (pm.mem_iff.mp hx)
    rfl
   refine⟨(arrOf st').toList.map (·.2),e3,?_,?_,fl⟩
   ·have:=pm.map (·.2)
    rwa [List.map_map,show((fun x:Keyed=>x.2) ∘ fun v:Value=>(v,v))=id from rfl,List.map_id] at this
   ·rw [e3] at so
    exact(List.pairwise_map (R:=fun x y:Keyed=>O.kle (kv x.1) (kv y.1))).mp (show(List.map (fun v:Value=>(v,v)) (List.map (fun x=>x.2) (arrOf st').toList)).Pairwise (fun x y=>O.kle (kv x.1) (kv y.1)) from so)
  rintro⟨⟨⟩,st'⟩ s' ⟨rfl,l,har,pm,so,hf⟩
  dsimp only
  have eo:Array.map (fun x:Value×Value=>x.2) (arrOf st')=l.toArray:=by
   apply Array.toList_inj.mp
   rw[Array.toList_map,har,List.map_map]
   exact List.map_id _
  rw[eo]
  refine wpAny_bind (seqEpoch_at ho7 rfl (wpAny_bind (listUpdate_at ho7 rfl ?_ (Nat.zero_le _) (by rw[List.size_toArray,pm.length_eq];exact Nat.le_succ_of_le hz))))
  rw[hf]
  simp only[bne_self_eq_false,Bool.false_eq_true,if_false]
  have hh:=h l.toArray ⟨pm,so⟩
  rw[es6]
  exact wpAny_pure hh
end
end Srt
namespace L2
open PySem PySem.Spec PyProof.Rows PySem.W
section
variable {X:Cx}{pins:List (Addr×Obj)}{σ:St}{H:Hp}{s:Shared}{l:List (Addr×List Int)}{m:Nat}
theorem kindT (I:Inv X pins σ H s)(hm:1<=m)(hl:∀x∈l,H x.1=some (.tup (x.2.map V.int))/\x.2.length=m)(h2:2<=l.length){A:Around}{R:SortKind->Shared->Prop}(hR:R (tuples' true) s):wpAny (model X.prog X.w) A (keyKind' (l.map fun x=>Value.ref x.1).toArray) R (fun _ _=>False) s:=by
 obtain⟨fs,kt,hf⟩:∃fs:List Value,KatTups s.heap (l.map fun x=>Value.ref x.1) fs/\fs.length=l.length/\∀v∈fs,∃n t,v=Value.int n t:=by
  clear h2
  induction l with
  |nil=>exact⟨[],trivial,rfl,fun v hv=>nomatch hv⟩
  |cons x l ih=>
   obtain⟨fs,a1,a2,a3⟩:=ih fun y hy=>hl y (List.mem_cons_of_mem _ hy)
   obtain⟨e1,e2⟩:=hl x (.head _)
   obtain⟨o,us,n,g1,g2,g3,g4⟩:=q4a I e1
   have hlen:=q4x g4
   match us,x.2,g4,hlen,e2 with
   |_,_,.cons k t hr,_,_=>
    refine⟨.int k t::fs,KatTups.cons g1 g2 g3 (by simp) a1,by simpa using a2,fun v hv=>?_⟩
    rcases List.mem_cons.mp hv with rfl|hv
    ·exact ⟨_,_,rfl⟩
    ·exact a3 v hv
   |_,_,.nil,_,e2=>simp at e2;omega
 refine kat_kind kt (by have:=hf.1;omega) (T:= .type "int") (fun v hv=>?_) (by decide) (by rw[show(Value.type "int" != Value.type "tuple")=true by decide];exact hR)
 obtain⟨n,t,rfl⟩:=hf.2 v hv
 exact .now
theorem ltT (I:Inv X pins σ H s){kd:Value->List Int}(hkd:∀x∈l,kd (.ref x.1)=x.2)(hl:∀x∈l,H x.1=some (.tup (x.2.map V.int))/\x.2.length=m){A:Around}{u v:Value}{C:Bool->Shared->Prop}{E:Value->Shared->Prop}(hi:u∈l.map fun x=>Value.ref x.1)(hj:v∈l.map fun x=>Value.ref x.1)(hC:C (Srt.LO.blt (kd u) (kd v)) s):wpAny (model X.prog X.w) A (keyLt' (tuples' true) u v) C E s:=by
 obtain⟨x,hx,rfl⟩:=List.mem_map.mp hi
 obtain⟨y,hy,rfl⟩:=List.mem_map.mp hj
 obtain⟨a1,a2⟩:=hl x hx
 obtain⟨b1,b2⟩:=hl y hy
 obtain⟨o,us,n,g1,g2,g3,g4⟩:=q4a I a1
 obtain⟨o',us',n',g1',g2',g3',g4'⟩:=q4a I b1
 have l1:=q4x g4
 have l2:=q4x g4'
 refine kat_lt g1 g3 g1' g3' ?_
 rw[show decide (us.toArray.size<us'.toArray.size)=false by simp;omega]
 refine Srt.lex g4 g4' (by omega) ?_
 have hC':C (decide (kd (.ref x.1)<kd (.ref y.1))) s:=hC
 rw[hkd x hx,hkd y hy] at hC'
 exact hC'
theorem keyT (hl:∀x∈l,H x.1=some (.tup (x.2.map V.int))/\x.2.length=m):∃kd:Value->List Int,∀x∈l,kd (.ref x.1)=x.2:=by
 refine⟨fun v=>match v with| .ref a=>(match H a with|some (.tup ys)=>ys.map (fun y=>match y with| .int n=>n|_=>0)|_=>[])|_=>[],fun x hx=>?_⟩
 dsimp only
 rw[(hl x hx).1]
 dsimp only
 rw[List.map_map]
 exact List.map_id _
theorem outT {kd:Value->List Int}(hkd:∀x∈l,kd (.ref x.1)=x.2){out:Array Value}(pm:out.toList.Perm (l.map fun x=>Value.ref x.1))(so:out.toList.Pairwise fun x y=>Srt.LO.kle (kd x) (kd y)):
  ∃l':List (Addr×List Int),l'.Perm l/\out.toList=l'.map (fun x=>Value.ref x.1)/\l'.Pairwise (fun a b=>¬b.2<a.2):=by
 have g:∀x∈l,(fun v:Value=>((match v with| .ref a=>a|_=>0:Addr),kd v)) (Value.ref x.1)=x:=fun x hx=>by
  dsimp only
  rw[hkd x hx]
 refine⟨out.toList.map fun v=>((match v with| .ref a=>a|_=>0:Addr),kd v),?_,?_,?_⟩
 ·have:=pm.map fun v:Value=>((match v with| .ref a=>a|_=>0:Addr),kd v)
  rw[List.map_map] at this
  refine this.trans (List.Perm.of_eq ?_)
  conv=>rhs;rw[<-List.map_id l]
  exact List.map_congr_left fun x hx=>g x hx
 ·rw [List.map_map]
  conv=>lhs;rw[<-List.map_id out.toList]
  refine List.map_congr_left fun v hv=>?_
  obtain⟨x,hx,rfl⟩:=List.mem_map.mp (pm.mem_iff.mp hv)
  rfl
 ·rw [List.pairwise_map]
  exact so.imp fun {a b} hab=>of_decide_eq_false hab
theorem refsT:∀l':List (Addr×List Int),Vals (l'.map fun x=>V.ref x.1) (l'.map fun x=>Value.ref x.1)
 |[]=> .nil
 |_::l'=> .cons rfl (refsT l')
end
end L2
namespace Ce
open L2 PySem PySem.Spec PyProof.Rows
structure Small (C:Cl):Prop where
 r:C.rooms<=5
 w:C.ways.length<=4
 t:C.things.length<=2
 l:C.levers.length<=1
 v:C.wheels.length<=1
def nx (C:Cl)(s:Sd):List Sd:=(fitD C s).map fun x=>q0o C s x.1 (x.2:Int)
def NxR (C:Cl)(s t:Sd):Prop:=t∈nx C s
theorem nx_of {C:Cl}{s t:Sd}(h:NxR C s t):∃(d:Wd) (i:Nat),canD C s d (i:Int)=true/\t=q0o C s d (i:Int):=by
 obtain⟨⟨d,i⟩,hx,rfl⟩:=List.mem_map.mp h
 exact⟨d,i,q4v.mp hx,rfl⟩
theorem nx_ok {C:Cl}{s t:Sd}(ok:ClOk C)(h:s.ok C)(r:NxR C s t):t.ok C:=by
 obtain⟨d,i,hc,rfl⟩:=nx_of r
 exact qc0 ok h hc
theorem q8S {C:Cl}{s t:Sd}(ok:ClOk C)(h:s.ok C)(r:Rch (NxR C) s t):t.ok C:=by
 induction r with
 |refl=>exact h
 |step _ r ih=>exact nx_ok ok ih r
theorem q6L {P:Nat->Bool}{n:Nat}(h:∀i,n<=i->P i=false):∀{m:Nat},n<=m->cnt P m=cnt P n
 |0,hm=>by rw[Nat.le_zero.mp hm]
 |m+1,hm=>by
  by_cases e:n=m+1
  ·rw [e]
  ·show cnt P m+_=_
   rw[h m (by omega),q6L h (by omega)]
   rfl
theorem q7D (f g:Nat->Int):∀l:List Nat,(l.map fun k=>f k+g k).sum=(l.map f).sum+(l.map g).sum
 |[]=>rfl
 |k::l=>by
  simp only[List.map_cons,List.sum_cons]
  rw[q7D f g l]
  omega
theorem one12:∀j,j<12->((List.range 12).map fun k:Nat=>if decide (j=k)=true then(1:Int) else 0).sum=1:=by decide
theorem qbR {κ:Nat->Option Int}{b:Nat->Bool}:∀{n:Nat},(∀i,i<n->b i=true->∃k:Nat,κ i=some (k:Int)/\k<12)->((List.range 12).map fun k:Nat=>(cnt (fun i=>decide (κ i=some (k:Int))&&b i) n:Int)).sum=(cnt b n:Int)
 |0,_=>rfl
 |n+1,h=>by
  have ih:=qbR (n:=n) fun i hi=>h i (Nat.lt_succ_of_lt hi)
  have e:(fun k:Nat=>(cnt (fun i=>decide (κ i=some (k:Int))&&b i) (n+1):Int))=fun k:Nat=>(cnt (fun i=>decide (κ i=some (k:Int))&&b i) n:Int)+(if (decide (κ n=some (k:Int))&&b n)=true then(1:Int) else 0):=by
   funext k
   show((cnt _ n+_:Nat):Int)=_
   split<;>simp
  rw[e,q7D,ih]
  show _=((cnt b n+_:Nat):Int)
  cases hb:b n with
  |false=>
   have:(fun k:Nat=>if (decide (κ n=some (k:Int))&&false)=true then(1:Int) else 0)=fun _=>0:=by funext k;simp
   rw[this,show((List.range 12).map fun _:Nat=>(0:Int)).sum=0 from rfl]
   simp
  |true=>
   obtain⟨j,hj,hl⟩:=h n (Nat.lt_succ_self n) hb
   have:(fun k:Nat=>if (decide (κ n=some (k:Int))&&true)=true then(1:Int) else 0)=fun k=>if decide (j=k)=true then(1:Int) else 0:=by
    funext k
    rw[hj,Bool.and_true]
    congr 1
    simp only[decide_eq_true_eq,eq_iff_iff,Option.some.injEq]
    omega
   rw[this,one12 j hl]
   simp
theorem qaw:∀{l:List Nat} {f g:Nat->Int},(∀k∈l,f k<=g k)->(l.map f).sum<=(l.map g).sum
 |[],_,_,_=>Int.le_refl _
 |k::l,f,g,h=>by
  have:=qaw (l:=l) (f:=f) (g:=g) fun j hj=>h j (List.mem_cons_of_mem _ hj)
  have:=h k (.head _)
  simp only[List.map_cons,List.sum_cons]
  omega
theorem q85 {C:Cl}{s:Sd}(ok:ClOk C)(h:s.ok C):cnt (bit s.op) C.ways.length<=cnt (bit s.tk) C.things.length:=by
 have e1:((List.range 12).map fun k:Nat=>(cnt (dP (dsOf C) s.op (k:Int)) C.ways.length:Int)).sum=(cnt (bit s.op) C.ways.length:Int):=by
  refine qbR fun i hi hb=>?_
  have hd:=h.dr i hi hb
  unfold dsOf at hd ⊢
  rw[List.getElem?_eq_getElem hi] at hd ⊢
  obtain⟨k,hk⟩:=Option.isSome_iff_exists.mp hd
  have hg:=(ok.w _ (List.getElem_mem hi)).2.2.2
  have hk':C.ways[i].g.dk=some k:=hk
  cases eg:C.ways[i].g with
  |door k'=>
   rw[eg] at hg hk'
   have hg:0<=k'/\k'<12:=hg
   refine⟨k'.toNat,?_,by omega⟩
   show C.ways[i].g.dk=_
   rw[eg]
   show some k'=_
   congr 1
   omega
  |_=>rw[eg] at hk';cases hk'
 have e2:((List.range 12).map fun k:Nat=>(cnt (tP C s.tk (k:Int)) C.things.length:Int)).sum=(cnt (bit s.tk) C.things.length:Int):=by
  have:=qbR (κ:=fun i=>some (C.things.getD i (0,0)).2) (b:=bit s.tk) (n:=C.things.length) fun i hi _=>by
   have ht:=(ok.t _ (List.getElem_mem hi)).2
   refine⟨(C.things[i].2).toNat,?_,by omega⟩
   simp only[List.getD_eq_getElem?_getD,List.getElem?_eq_getElem hi,Option.getD_some]
   congr 1
   omega
  rw[<-this]
  congr 1
  refine List.map_congr_left fun k _=>?_
  congr 1
  refine q3D fun i _=>?_
  unfold tP
  congr 1
  simp
 have e3:=qaw (l:=List.range 12) (f:=fun k:Nat=>(cnt (dP (dsOf C) s.op (k:Int)) C.ways.length:Int)) (g:=fun k:Nat=>(cnt (tP C s.tk (k:Int)) C.things.length:Int)) fun k hk=>by
  have hk:k<12:=List.mem_range.mp hk
  have:=h.held k (by omega) (by omega)
  unfold hold at this
  omega
 rw[e1,e2] at e3
 omega
def popc (n:Nat):Nat:=cnt (fun i=>n.testBit i) 4
def fits (d:Nat->Bool)(t o:Nat):Bool:=decide (popc o<=popc t)&&(List.range 4).all fun i=> !o.testBit i||d i
def num (d:Nat->Bool)(o:Nat):Nat:=cnt (fun i=> !d i||o.testBit i) 4
def prs (d:Nat->Bool):List (Nat×Nat):=((List.range 4).flatMap fun t=>(List.range 16).map fun o=>(t,o)).filter fun x=>fits d x.1 x.2
def mk4 (d0 d1 d2 d3:Bool)(i:Nat):Bool:=match i with|0=>d0|1=>d1|2=>d2|_=>d3
theorem qbp:∀d0 d1 d2 d3:Bool,((prs (mk4 d0 d1 d2 d3)).map fun x=>4*min 5 (1+2*num (mk4 d0 d1 d2 d3) x.2)).sum<=288:=by decide +kernel
def ends (C:Cl)(i:Nat):List Int:=match C.ways[i]? with|some x=>[x.a,x.b]|none=>[0,0]
def dI (C:Cl):Nat->Bool:=mk4 (dsOf C 0).isSome (dsOf C 1).isSome (dsOf C 2).isSome (dsOf C 3).isSome
theorem dI_at {C:Cl}{i:Nat}(h:i<4):dI C i=(dsOf C i).isSome:=by
 match i,h with
 |0,_=>rfl
 |1,_=>rfl
 |2,_=>rfl
 |3,_=>rfl
def rms (C:Cl)(s0:Sd)(o:Nat):List Int:=if 1+2*num (dI C) o<=5 then s0.rm::(List.range 4).flatMap fun i=>if (!dI C i||o.testBit i)=true then ends C i else [] else(List.range 5).map fun n:Nat=>(n:Int)
theorem qak (C:Cl)(i:Nat):(ends C i).length=2:=by unfold ends;split<;>rfl
theorem qbd (C:Cl)(s0:Sd)(o:Nat):(rms C s0 o).length=min 5 (1+2*num (dI C) o):=by
 unfold rms
 split
 ·rename_i h
  have e:((List.range 4).flatMap fun i=>if (!dI C i||o.testBit i)=true then ends C i else []).length=2*num (dI C) o:=by
   have:∀n,((List.range n).flatMap fun i=>if (!dI C i||o.testBit i)=true then ends C i else []).length=2*cnt (fun i=> !dI C i||o.testBit i) n:=fun n=>by
    induction n with
    |zero=>rfl
    |succ n ih=>
     rw[List.range_succ,List.flatMap_append,List.length_append,ih]
     show _=2*(cnt _ n+_)
     simp only[List.flatMap_cons,List.flatMap_nil,List.append_nil]
     split
     ·rw [qak];omega
     ·simp
   exact this 4
  rw[List.length_cons,e]
  omega
 ·rename_i h
  simp
  omega
def bs2 (C:Cl)(s0:Sd):List Int:=[s0.b,Builtin.bitXor s0.b (C.levers.getD 0 (0,0)).2]
def ws2 (C:Cl)(s0:Sd):List Int:=[s0.wt,(C.wheels.getD 0 (0,0)).2]
def uni (C:Cl)(s0:Sd):List Sd:=(prs (dI C)).flatMap fun x=>(rms C s0 x.2).flatMap fun r=>(bs2 C s0).flatMap fun b=>(ws2 C s0).map fun w=>(⟨r,(x.1:Int),(x.2:Int),b,w⟩:Sd)
theorem qaY (C:Cl)(s0:Sd):(uni C s0).length<=288:=by
 refine Nat.le_trans (Nat.le_of_eq ?_) (qbp (dsOf C 0).isSome (dsOf C 1).isSome (dsOf C 2).isSome (dsOf C 3).isSome)
 unfold uni
 rw[List.length_flatMap]
 congr 1
 refine List.map_congr_left fun x _=>?_
 rw[List.length_flatMap]
 have:∀l:List Int,(l.map fun r=>((bs2 C s0).flatMap fun b=>(ws2 C s0).map fun w=>(⟨r,(x.1:Int),(x.2:Int),b,w⟩:Sd)).length).sum=4*l.length:=fun l=>by
  induction l with
  |nil=>rfl
  |cons r l ih=>
   rw[List.map_cons,List.sum_cons,ih,List.length_cons]
   simp[bs2,ws2]
   omega
 rw[this,qbd]
 rfl
structure Bnd (C:Cl)(s0 s:Sd):Prop where
 ok:s.ok C
 rm:s.rm=s0.rm\/∃(i:Nat) (x:Way),C.ways[i]? =some x/\((dsOf C i).isSome=false\/bit s.op i=true)/\(s.rm=x.a\/s.rm=x.b)
 b:s.b∈bs2 C s0
 wt:s.wt∈ws2 C s0
theorem Bnd.step {C:Cl}{s0 s t:Sd}(ok:ClOk C)(sm:Small C)(h0:s0.ok C)(h:Bnd C s0 s)(r:NxR C s t):Bnd C s0 t:=by
 have okt:=nx_ok ok h.ok r
 obtain⟨d,i,hc,rfl⟩:=nx_of r
 cases d with
 |go=>
  obtain⟨x,hx,_,hl,_,e⟩:=go_of hc
  rw[e] at okt ⊢
  refine⟨okt,.inr ⟨i,x,hx,?_,?_⟩,h.b,h.wt⟩
  ·show (dsOf C i).isSome=false\/bit s.op i=true
   unfold dsOf
   rw[hx]
   cases eg:x.g with
   |door k=>rw[eg] at hl;exact .inr hl
   |_=>exact .inl (by show(x.g.dk).isSome=false;rw[eg];rfl)
  ·show (if s.rm=x.a then x.b else x.a)=x.a\/(if s.rm=x.a then x.b else x.a)=x.b
   split
   ·exact .inr rfl
   ·exact .inl rfl
 |pull=>
  obtain⟨x,hx,_,_,e⟩:=qbn hc
  rw[e] at okt ⊢
  refine⟨okt,h.rm,?_,h.wt⟩
  have hi:i<C.levers.length:=(List.getElem?_eq_some_iff.mp hx).1
  have hi0:i=0:=by have:=sm.l;omega
  subst hi0
  have ex:C.levers.getD 0 (0,0)=x:=by rw[List.getD_eq_getElem?_getD,hx];rfl
  have hxm:=ok.lv x (List.mem_of_getElem? hx)
  show Builtin.bitXor s.b x.2∈_
  have hb:=h.b
  unfold bs2 at hb ⊢
  rw[ex] at hb ⊢
  rcases List.mem_cons.mp hb with hb|hb
  ·rw [hb];simp
  ·rw [List.mem_singleton.mp hb,q9d h0.hb.1 h0.hb.2 (by omega) (by omega)];simp
 |take=>
  obtain⟨x,hx,e⟩:=qb2 hc
  rw[e] at okt ⊢
  exact⟨okt,h.rm,h.b,h.wt⟩
 |turn=>
  obtain⟨x,hx,_,e⟩:=qb0 hc
  rw[e] at okt ⊢
  refine⟨okt,h.rm,h.b,?_⟩
  have hi:i<C.wheels.length:=(List.getElem?_eq_some_iff.mp hx).1
  have hi0:i=0:=by have:=sm.v;omega
  subst hi0
  have ex:C.wheels.getD 0 (0,0)=x:=by rw[List.getD_eq_getElem?_getD,hx];rfl
  show x.2∈_
  unfold ws2
  rw[ex]
  simp
 |unlock=>
  obtain⟨hl,j,ej,hj,hcb⟩:=q0p hc
  have ej:i=j:=by omega
  subst ej
  obtain⟨x,kd,hx,hg,e⟩:=q7v hc
  rw[e] at okt ⊢
  refine⟨okt,?_,h.b,h.wt⟩
  have hb:bit s.op i=false:=by
   simp only[canB,hx,hg,Gt.dk,Bool.and_eq_true,Bool.not_eq_true'] at hcb
   exact hcb.1.2
  rcases h.rm with z|⟨k,y,hy,hz,hr⟩
  ·exact .inl z
  ·refine .inr ⟨k,y,hy,?_,hr⟩
   rcases hz with hz|hz
   ·exact .inl hz
   ·refine .inr ?_
    show bit (s.op+2 ^ i) k=true
    rw[q2P h.ok.hop.1 hb]
    by_cases e:i=k
    ·subst e;rw[hb] at hz;cases hz
    ·simp [e,hz]
theorem Bnd.come {C:Cl}{s0 s:Sd}(ok:ClOk C)(sm:Small C)(h0:s0.ok C)(r:Rch (NxR C) s0 s):Bnd C s0 s:=by
 induction r with
 |refl=>exact⟨h0,.inl rfl,by simp[bs2],by simp[ws2]⟩
 |step _ r ih=>exact ih.step ok sm h0 r
theorem cnt4 {x:Int}{n:Nat}(h0:0<=x)(h1:x<2 ^ n)(hn:n<=4):popc x.toNat=cnt (bit x) n:=by
 unfold popc
 rw[<-q6L (P:=bit x) (n:=n) (fun i hi=>q97 h0 h1 hi) hn]
 exact q3D fun i _=>(q1D h0 i).symm
theorem q7Y {n m:Nat}(h:n<=m):(2:Int) ^ n<=2 ^ m:=by
 have:(2:Nat) ^ n<=2 ^ m:=Nat.pow_le_pow_right (by decide) h
 exact_mod_cast this
theorem Bnd.mem {C:Cl}{s0 s:Sd}(ok:ClOk C)(sm:Small C)(h:Bnd C s0 s):s∈uni C s0:=by
 have ho:=h.ok
 have p1:=q7Y sm.t
 have p2:=q7Y sm.w
 have q1:(2:Int) ^ 2=4:=rfl
 have q2:(2:Int) ^ 4=16:=rfl
 have t0:=ho.htk
 have o0:=ho.hop
 obtain⟨rm,tk,op,b,wt⟩:=s
 dsimp only at t0 o0
 have ops:=q85 ok ho
 rw[<-cnt4 t0.1 t0.2 (by have:=sm.t;omega),<-cnt4 o0.1 o0.2 sm.w] at ops
 unfold uni
 refine List.mem_flatMap.mpr ⟨(tk.toNat,op.toNat),List.mem_filter.mpr ⟨List.mem_flatMap.mpr ⟨tk.toNat,List.mem_range.mpr (by omega),List.mem_map.mpr ⟨op.toNat,List.mem_range.mpr (by omega),rfl⟩⟩,?_⟩,List.mem_flatMap.mpr ⟨rm,?_,List.mem_flatMap.mpr ⟨b,h.b,List.mem_map.mpr ⟨wt,h.wt,?_⟩⟩⟩⟩
 ·dsimp only
  unfold fits
  rw[decide_eq_true ops,Bool.true_and,List.all_eq_true]
  intro i hi
  have hi:i<4:=List.mem_range.mp hi
  rw[<-q1D o0.1,dI_at hi]
  cases hb:bit op i with
  |false=>rfl
  |true=>
   have hl:i<C.ways.length:=by
    refine Nat.lt_of_not_le fun z=>?_
    rw[q97 o0.1 o0.2 z] at hb
    cases hb
   rw[ho.dr i hl hb]
   rfl
 ·dsimp only
  unfold rms
  split
  ·rcases h.rm with z|⟨i,x,hx,hz,hr⟩
   ·exact List.mem_cons.mpr (.inl z)
   ·have hi:i<4:=by have:=(List.getElem?_eq_some_iff.mp hx).1;have:=sm.w;omega
    refine List.mem_cons_of_mem _ (List.mem_flatMap.mpr ⟨i,List.mem_range.mpr hi,?_⟩)
    rw[<-q1D o0.1,dI_at hi,if_pos ?_]
    ·unfold ends
     rw[hx]
     have hr:rm=x.a\/rm=x.b:=hr
     simpa using hr
    ·rcases hz with hz|hz
     ·rw [hz];rfl
     ·have hz:bit op i=true:=hz
      rw[hz];simp
  ·have hm:=ho.hrm
   have:=sm.r
   exact List.mem_map.mpr ⟨rm.toNat,List.mem_range.mpr (by dsimp only at hm;omega),by dsimp only at hm;omega⟩
 ·dsimp only
  rw[show((tk.toNat:Nat):Int)=tk by omega,show((op.toNat:Nat):Int)=op by omega]
theorem q6m:∀{l m:List Sd},l.Nodup->(∀x∈l,x∈m)->l.length<=m.length
 |[],_,_,_=>Nat.zero_le _
 |x::l,m,hn,h=>by
  rw[List.nodup_cons] at hn
  have hx:=h x (.head _)
  have:=q6m (m:=m.erase x) hn.2 fun y hy=>(List.mem_erase_of_ne fun e=>hn.1 (by rw[<-e];exact hy)).mpr (h y (List.mem_cons_of_mem _ hy))
  rw[List.length_erase_of_mem hx] at this
  have:0<m.length:=List.length_pos_of_mem hx
  rw[List.length_cons]
  omega
theorem few {C:Cl}{s0:Sd}{row:List Sd}(ok:ClOk C)(sm:Small C)(h0:s0.ok C)(nd:row.Nodup)(hr:∀x∈row,Rch (NxR C) s0 x):row.length<=288:=
 Nat.le_trans (q6m nd fun x hx=>(Bnd.come ok sm h0 (hr x hx)).mem ok sm) (qaY C s0)
end Ce
namespace DI
open PySem PySem.W PyProof.Rows
theorem src {prog:Program}{w:World}{d:Addr}{o:Obj}{es:Array DictEntry}{ep:Nat}(hd:(d==sysModules)=false)(hx:o.ExactDict)(hdat:o.data= .dict es ep):KdlSrc prog w "dict" d d es.size (fun i v=>∃h:i<es.size,v=es[i].key) (fun h=>h.get? d=some o) where
 type:=fun s ho=>ty ho hx
 there:=fun _ ho=>⟨Heap.lt_size ho,Heap.lt_size ho⟩
 keep:=fun _ _ ho k=>k d (.inl rfl) o ho
 notList:=by decide
 notTuple:=by decide
 hint:=fun _ _ _ _ ho hq=>kdl_hint_dict (ty ho hx) hq
 iter:=fun A s hh ho=>by
  refine⟨_,fun i h=>h.IsKeyIter s.heap.objs.size d i es.size ep/\h.get? d=some o,(fun _ _ hq=>keys hd ho hx hdat hq),⟨?_,?_,?_,?_,?_⟩,⟨_,Heap.get?_push_size _ rfl,rfl,rfl⟩,Heap.get?_push_of_some _ ho⟩
  ·intro b hb
   exact List.mem_cons.mpr (.inl (List.mem_singleton.mp hb))
  ·intro i h h' ⟨st,e⟩ k
   exact⟨st.at fun o e=>k _ (by simp) o e,k d (by simp) o e⟩
  ·intro i s' Q E hi ⟨st,e⟩ hQ
   refine qbT st e hdat hi fun h' st' sb=>?_
   have ne:d≠s.heap.objs.size:=Nat.ne_of_lt (Heap.lt_size ho)
   exact hQ _ h' s'.toks ⟨hi,rfl⟩ ⟨st',(sb.2 d ne).trans e⟩ fun b o hb q=>(sb.2 b fun z=>hb (by simp[z])).trans q
  ·intro s' Q E ⟨st,e⟩ hQ
   exact keyEnd hh st e hdat (Nat.le_refl _) fun h' eb=>hQ h' s'.toks fun b o hb q=>eb b o (fun z=>hb (by simp[z])) q
  ·intro i s' Q E ⟨st,e⟩ hQ
   exact wpAny_pyIter_keyiter st hQ
end DI
namespace Srt
open PySem PySem.W PyProof.Rows
section
variable {prog:Program}{w:World}{A:Around}{E:Value->Shared->Prop}{s:Shared}
theorem q53 {κ:SortKind}{d:Addr}{o:Obj}{es:Array DictEntry}{ep:Nat}{Q:Value->Shared->Prop}{O:KeyOrd}{kv:Value->O.α}{vs:List Value}(hh:A.handled=none)(hd:(d==sysModules)=false)(ho:s.heap.get? d=some o)(hx:o.ExactDict)(hdat:o.data= .dict es ep)(evs:vs=es.toList.map (·.key))(hz:vs.length<=sizeLine)
  (hk:2<=vs.length->∀(A':Around) (h':Heap) (tk:Nat),A'.units<=A.units+2->(∀b o,s.heap.get? b=some o->h'.get? b=some o)->∀(R:SortKind->Shared->Prop),R κ {s with heap:=h',toks:=tk}->wpAny (model prog w) A' (keyKind' vs.toArray) R (fun _ _=>False) {s with heap:=h',toks:=tk})
  (ha:2<=vs.length->∀(A':Around) (h':Heap) (tk:Nat),A'.units<=A.units+2->(∀b o,s.heap.get? b=some o->h'.get? b=some o)->∀(x y:Value) (C:Bool->Shared->Prop) (E:Value->Shared->Prop),x∈vs->y∈vs->C (O.blt (kv x) (kv y)) {s with heap:=h',toks:=tk}->wpAny (model prog w) A' (keyLt' κ x y) C E {s with heap:=h',toks:=tk})
  (h:∀(h1:Heap) (tk:Nat),(∀b o,s.heap.get? b=some o->h1.get? b=some o)->∀out:Array Value,(out.toList.Perm vs/\out.toList.Pairwise fun x y=>O.kle (kv x) (kv y))->Q (.ref h1.objs.size) {s with heap:=sortedHeap (h1.push (seqObj "list" vs.toArray 0)) h1.objs.size vs out,toks:=tk}):
  wpAny (model prog w) A (call (.builtin "sorted") [.ref d]) Q E s:=by
 refine Calls.call_function_entry kind_sorted plain_sorted entry_sorted (args_sorted1 _) ?_
 unfold Builtin.«sorted»
 refine wpAny_bind (m:=checkCount "sorted" 1 1 _) (wpAny_pure (wpAny_bind (kdu_collect (A:=A.in1) (DI.src hd hx hdat) hh ho (by rw[evs,List.length_map,Array.length_toList] at hz;exact hz) fun h1 tk acc k1 hacc=>?_)))
 have eacc:acc.toList=vs:=by
  rw[evs]
  refine List.ext_getElem? fun j=>?_
  rw[Array.getElem?_toList,List.getElem?_map,Array.getElem?_toList]
  by_cases hj:j<es.size
  ·have hj':j<acc.size:=by rw[hacc.1];exact hj
   obtain⟨_,e⟩:=hacc.2 j _ (Array.getElem?_eq_getElem hj')
   rw[Array.getElem?_eq_getElem hj',Array.getElem?_eq_getElem hj,e]
   rfl
  ·rw [Array.getElem?_eq_none (by rw[hacc.1];omega),Array.getElem?_eq_none (by omega)]
   rfl
 rw[eacc]
 refine wpAny_bind (wpAny_newList ?_ hz)
 have hoL:(h1.push (seqObj "list" vs.toArray 0)).get? h1.objs.size=some (seqObj "list" vs.toArray 0):=Heap.get?_push_size _ rfl
 have kp:∀b o,s.heap.get? b=some o->(h1.push (seqObj "list" vs.toArray 0)).get? b=some o:=fun b o q=>Heap.get?_push_of_some _ (k1 b o q)
 have kq:∀b o,s.heap.get? b=some o->b≠h1.objs.size:=fun b o q=>Nat.ne_of_lt (Heap.lt_size (k1 b o q))
 show wpAny _ _ _ _ _ {s with heap:=h1.push (seqObj "list" vs.toArray 0),toks:=tk}
 refine wpAny_bind (wpAny_holding (wpAny_call_entry slot_list_sort ⟨_,hoL,rfl⟩ entry_list_sort (q41 (s:={s with heap:=h1.push (seqObj "list" vs.toArray 0),toks:=tk}) hoL hz (fun h2 h' k=>hk h2 _ h' tk (Nat.le_refl _) fun b o q=>k b o (kq b o q) (kp b o q)) (fun h2 h' k=>ha h2 _ h' tk (Nat.le_refl _) fun b o q=>k b o (kq b o q) (kp b o q)) fun out ho=>⟨_,rfl,?_⟩) (args_list_sort _)))
 exact wpAny_pure ⟨_,rfl,h h1 tk k1 out ho⟩
theorem q2h {h:Heap}{a:Addr}{vs:List Value}{n:Nat}(out:Array Value)(ho:h.get? a=some (seqObj "list" vs.toArray n)):∃e,(sortedHeap h a vs out).get? a=some (seqObj "list" out e):=by
 obtain⟨e1,h1⟩:∃e1,(h.update a (Obj.mapSeq fun _=>(#[]:Array Value))).get? a=some (seqObj "list" #[] e1):=⟨_,get?_update_seq ho fun _=> #[]⟩
 exact⟨_,get?_update_seq (Heap.get?_push_of_some _ (Heap.get?_push_of_some _ h1)) fun _=>out⟩
theorem q20 {h:Heap}{a:Addr}{vs:List Value}{out:Array Value}{b:Addr}{o:Obj}(hb:b≠a)(e:h.get? b=some o):(sortedHeap h a vs out).get? b=some o:=
 ((Heap.SameBut.update _ a (Obj.mapSeq fun _=>out)).2 b hb).trans (Heap.get?_push_of_some _ (Heap.get?_push_of_some _ (((Heap.SameBut.update h a (Obj.mapSeq fun _=>(#[]:Array Value))).2 b hb).trans e)))
end
end Srt
namespace L2
open PySem PySem.Spec PyProof.Rows PySem.W
theorem Inv.dictAt {X:Cx}{pins:List (Addr×Obj)}{σ:St}{H:Hp}{s:Shared}{a:Addr}{kvs:List (List Key×V)}(I:Inv X pins σ H s)(e:H a=some (.dT kvs)):∃(o:Obj) (es:Array DictEntry) (ep:Nat) (bs:List Addr),s.heap.get? a=some o/\o.ExactDict/\o.data= .dict es ep/\(a==sysModules)=false/\kvs.length<=sizeLine/\
  es.toList.map (·.key)=bs.map Value.ref/\bs.length=kvs.length/\∀(i:Nat) (b:Addr) (p:List Key×V),bs[i]? =some b->kvs[i]? =some p->H b=some (.tup (p.1.map kV)):=by
 obtain⟨z,y,xs,r,o,es,ep,h1,h2,h3,h4,h5⟩:=(show q0a X.prog X.w H s.heap a (.dT kvs) from I.hok a _ e)
 have hl:kvs.length=xs.length:=r.length
 refine⟨o,es,ep,xs.map fun x=>x.2.1,h1,h2,h3,y,z,?_,by rw[List.length_map,hl],fun i b p hb hp=>?_⟩
 ·refine List.ext_getElem? fun i=>?_
  rw[List.getElem?_map,Array.getElem?_toList,List.getElem?_map,List.getElem?_map,entry_at h4 i]
  cases xs[i]? with
  |none=>rfl
  |some x=>rfl
 ·rw [List.getElem?_map] at hb
  cases hx:xs[i]? with
  |none=>rw[hx] at hb;cases hb
  |some x=>
   rw[hx] at hb
   cases hb
   exact(Paired.at' r hp hx).2.1
def qaC:List V->Hp->VK->Prop:=fun xs H Q=>∃(a:Addr) (kvs:List (List Key×V)) (ns:List (List Int)) (m:Nat),xs=[.ref a]/\H a=some (.dT kvs)/\kvs.map (·.1)=ns.map (fun n=>n.map Sum.inl)/\1<=m/\(∀n∈ns,n.length=m)/\
 ∀(q:Addr) (l':List (Addr×List Int)),H q=none->(l'.map (·.2)).Perm ns->l'.Pairwise (fun a b=>¬b.2<a.2)->(∀x∈l',H x.1=some (.tup (x.2.map V.int)))->Q (.ref q) (upd H q (.lst (l'.map fun x=>V.ref x.1)))
theorem sortDW {X:Cx}(hc:X.calm=true:=by rfl):q1Y X (.builtin "sorted") qaC:=by
 intro pins s σ H xs us Q I r h
 obtain⟨a,kvs,ns,m,rfl,ha,hk,hm,hn,q⟩:=h
 obtain⟨u,rfl,rx⟩:=q3J r
 cases rx
 obtain⟨o,es,ep,bs,ho,hx,hd,hs,hz,hes,hbl,hb⟩:=I.dictAt ha
 have hnl:ns.length=kvs.length:=by have:=congrArg List.length hk;simpa using this.symm
 obtain⟨l,el⟩:∃l,l=bs.zip ns:=⟨_,rfl⟩
 have e1:l.map (·.1)=bs:=by rw[el];exact List.map_fst_zip (by omega)
 have e2:l.map (·.2)=ns:=by rw[el];exact List.map_snd_zip (by omega)
 have hl:∀x∈l,H x.1=some (.tup (x.2.map V.int))/\x.2.length=m:=fun x hx=>by
  refine⟨?_,hn _ (by rw[<-e2];exact List.mem_map_of_mem hx)⟩
  obtain⟨i,hi,ei⟩:=List.getElem_of_mem hx
  have g1:bs[i]? =some x.1:=by rw[<-e1,List.getElem?_map,List.getElem?_eq_getElem hi,ei];rfl
  have g2:ns[i]? =some x.2:=by rw[<-e2,List.getElem?_map,List.getElem?_eq_getElem hi,ei];rfl
  have hi2:i<kvs.length:=by have:=(List.getElem?_eq_some_iff.mp g1).1;omega
  have g3:=hb i x.1 kvs[i] g1 (List.getElem?_eq_getElem hi2)
  have g4:(kvs[i]).1=x.2.map Sum.inl:=by
   have:=congrArg (·[i]?) hk
   simp only[List.getElem?_map,List.getElem?_eq_getElem hi2,g2,Option.map_some] at this
   exact Option.some.inj this
  rw[g3,g4,List.map_map]
  rfl
 have evs:(l.map fun x=>Value.ref x.1)=es.toList.map (·.key):=by rw[hes,<-e1,List.map_map];rfl
 have hll:l.length=kvs.length:=by have:=congrArg List.length e1;rw[List.length_map] at this;omega
 obtain⟨kd,hkd⟩:=keyT hl
 refine Srt.q53 (κ:=tuples' true) (O:=Srt.LO) (kv:=kd) (I.ok.hd hc) hs ho hx hd evs (by rw[List.length_map,hll];exact hz) (fun h2 A h' tk _ kp R hR=>kindT (I.kept (t':=tk) kp) hm hl (by rw[List.length_map] at h2;exact h2) hR) (fun h2 A h' tk _ kp x y C E hx hy hC=>ltT (I.kept (t':=tk) kp) hkd hl hx hy hC) fun h1 tk k1 out ho=>?_
 obtain⟨l',hp,ho',hs⟩:=outT hkd ho.1 ho.2
 have I1:Inv X pins σ H {s with heap:=h1,toks:=tk}:=I.kept (t':=tk) k1
 obtain⟨e,he⟩:=Srt.q2h out (show(h1.push (seqObj "list" (l.map fun x=>Value.ref x.1).toArray 0)).get? h1.objs.size=some (seqObj "list" (l.map fun x=>Value.ref x.1).toArray 0) from Heap.get?_push_size _ rfl)
 have I2:=I1.laid (a:=h1.objs.size) (o:= .lst (l'.map fun x=>V.ref x.1)) (t':=tk) (h':=sortedHeap (h1.push (seqObj "list" (l.map fun x=>Value.ref x.1).toArray 0)) h1.objs.size (l.map fun x=>Value.ref x.1) out) (fun b o q=>Srt.q20 (Nat.ne_of_lt (Heap.lt_size q)) (Heap.get?_push_of_some _ q)) (Nat.le_refl _) ⟨by rw[List.length_map,hp.length_eq,hll];exact hz,out.toList,e,by rw[ho'];exact refsT l',by simpa[seqObj] using he⟩
 refine⟨.ref h1.objs.size,_,I2,rfl,q _ _ (I1.hok.fresh (Nat.le_refl _)) (by rw[<-e2];exact hp.map _) hs fun x hx=>(hl x (hp.mem_iff.mp hx)).1⟩
def tDisp1 (tk tv:TE):TE:=fun σ H Q=>∀p,H p=none->tk σ (upd H p (.dT [])) fun x H1=>tv σ H1 fun y H2=>∃(b:Addr) (k:List Key),x= .ref b/\H2 p=some (.dT [])/\H2 b=some (.tup (k.map kV))/\Q (.ref p) (upd H2 p (.dT [(k,y)]))
theorem q9F {X:Cx}{pos:Pos}{k v:Expr}{tk tv:TE}(hu:X.A.units+1<cLine)(hk:PE X k tk)(hv:PE X v tv):PE X (.Dict [some k] [v] pos) (tDisp1 tk tv):=by
 intro pins s σ H Q I q
 have hn:=I.hok.fresh (Nat.le_refl s.heap.objs.size)
 have I1:=I.laid (a:=s.heap.objs.size) (o:= .dT []) (h':=s.heap.push {cls:= .type "dict",data:= .dict #[]}) (t':=s.toks) (fun _ _ q=>Heap.get?_push_of_some _ q) (Nat.le_refl _) (q6H s.heap I.big)
 have pp:=q9x (pos:=pos) hk hv qbq pins _ σ _ (fun ps H2=>match ps with|[(x,y)]=>∃(b:Addr) (k:List Key),x= .ref b/\H2 s.heap.objs.size=some (.dT [])/\H2 b=some (.tup (k.map kV))/\Q (.ref s.heap.objs.size) (upd H2 s.heap.objs.size (.dT [(k,y)]))|_=>False) I1 (q _ hn)
 rw[arm_eval_Dict,zip_pairTrees [some k] [v] X.env pos rfl rfl,dictDisplay_pairs _ (by intro z;cases z) (by show 1<17;decide)]
 refine wpAny_bind (wpAny_standAt (wpAny_bind ?_))
 unfold subDict
 refine wpAny_bind (wpAny_alloc ?_)
 refine wpAny_bind (wpAny_holding ?_)
 rw[if_pos (by show 1<=15;decide)]
 refine wpAny_bind (wpAny_mono pp (fun ws s2 z=>?_) fun _ _ e=>e)
 obtain⟨ps,H2,I2,rel,z⟩:=z
 cases rel with
 |nil=>exact z.elim
 | @cons p0 q0 _ _ r1 rel=>
 cases rel with
 |cons _ _=>exact z.elim
 |nil=>
  obtain⟨x,y⟩:=p0
  obtain⟨w1,w2⟩:=q0
  obtain⟨b,k,rfl,e,eb,q2⟩:=z
  obtain⟨ra,rb⟩:=r1
  cases(show w1=Value.ref b from ra)
  refine wpAny_holding ?_
  rw[List.forIn_cons]
  obtain⟨z,hd,xs,rel,dd⟩:=dt_of I2.hok e
  have hx:xs=[]:=by cases rel;rfl
  subst hx
  refine wpAny_bind (wpAny_bind (wpAny_bind (wpAny_dictSet_heap (hsz:=Nat.zero_le _) (show X.A.units<cLine from Nat.lt_of_succ_lt hu) (q2W I2.hok eb) dd fun h' dd' hs=>wpAny_pure ?_)))
  dsimp only
  rw[List.forIn_nil]
  refine wpAny_pure (wpAny_pure (wpAny_pure (wpAny_pure ⟨.ref s.heap.objs.size,_,?_,rfl,q2⟩)))
  obtain⟨qo,es,ep,hq,h2,h3,h4,_,h5⟩:=dd'
  refine q6c I2 (by rw[e];exact True.intro) hs ⟨qo,hq⟩ ⟨by show 1<=sizeLine;decide,hd,_,((show KT H2 [] [] from .nil).put k eb rb).keeps fun c ys ec=>?_,qo,es,ep,hq,h2,h3,h4,h5⟩
  rw[qj (q2H ec e (fun z=>nomatch z))]
  exact ec
theorem q7W {X:Cx}{body:List Stmt}{h0:ExceptHandler}{hs:List ExceptHandler}{t:TS}{pos:Pos}(hb:PSs X.nox body t):PS X (.Try body (h0::hs) [] [] pos) t:=by
 intro pins s σ H D I h
 refine wpAny_Try_except (wpAny_mono (hb pins s σ H D (I.wish _) h) (fun f s1 z=>?_) (fun e s1 z=>False.elim z))
 have z:=SP.unwish z
 cases f with
 |next=>exact wpAny_execs_nil z
 |ret v=>exact z
 |brk=>exact z
 |cont=>exact z
end L2
namespace Nst
open PySem PySem.W PyProof.Rows
section
variable {prog:Program}{w:World}{K1 K2:Type}[DecidableEq K1][DecidableEq K2]
abbrev LK:=List L2.Key
theorem q5v {prog':Program}{w':World}:∀{ks:LK} {vs:List Value},ItemsAre (L2.qJ prog w) ks vs->ItemsAre (L2.qJ prog' w') ks vs
 |_,_,.nil=> .nil
 |_,_,.cons h t=> .cons h (q5v t)
theorem q8h {prog':Program}{w':World}{h:Heap}{ks:LK}{a:Addr}:IsTupleKey (L2.qJ prog w) h ks a->IsTupleKey (L2.qJ prog' w') h ks a:=fun⟨o,it,n,h1,h2,h3,h4⟩=>⟨o,it,n,h1,h2,h3,q5v h4⟩
theorem eq_any {A:Around}{s:Shared}{x y:LK}{a b:Addr}(hu:A.units<cLine)(hx:IsTupleKey (L2.qJ prog w) s.heap x a)(hy:IsTupleKey (L2.qJ prog w) s.heap y b):SeqAt.EqAt A s (.ref a) (.ref b) (decide (x=y)):=
 fun p' w' E Q h=>wpAny_eqBool_tuple (knd:=L2.qJ p' w') hu (q8h hx) (q8h hy) h
end
end Nst
namespace Nst
open PySem PySem.W PyProof.Rows
end Nst
namespace DI
open PySem PySem.W PyProof.Rows
section
variable {prog:Program}{w:World}{A:Around}{E:Value->Shared->Prop}{s:Shared}{it d a:Addr}{o oa:Obj}{es:Array DictEntry}{ep i:Nat}
theorem alive {M:Model}{Q:Option Obj->Shared->Prop}(h:Q (s.heap.get? a) s):wpAny M A (loadIfAlive a) Q E s:=by
 intro Γ p hΓ
 unfold loadIfAlive
 rw[Sem.wp_loadIfAlive]
 exact(wpAny_pure (M:=M) (A:=A) (E:=E) h) Γ p hΓ
abbrev ItO (h:Heap)(it d:Addr)(i n ep:Nat)(ok ov:Value)(a:Addr)(f:Bool):Prop:=h.get? it=some {cls:= .type "dict_itemiterator",data:= .fields #[rawInt (a:Nat),.bool f,.ref d,.int i 0,.int n 0,.int ep 0,ok,ov]}
theorem q67 {ok ov:Value}{f:Bool}{Q:Option Value->Shared->Prop}(hit:ItO s.heap it d i es.size ep ok ov a f)(ha:s.heap.get? a=some oa)(hai:a≠it)(ho:s.heap.get? d=some o)(hdat:o.data= .dict es ep)(hi:i<es.size)
  (hQ:∀h',ItO h' it d (i+1) es.size ep ok ov a true->h'.get? s.heap.objs.size=some {cls:= .type "tuple",data:= .seq #[es[i].key,es[i].val]}->
   (∀b o,b≠it->s.heap.get? b=some o->h'.get? b=some o)->h'.objs.size=s.heap.objs.size+1->Q (some (.ref s.heap.objs.size)) {s with heap:=h'}):wpAny (model prog w) A (pyNext (.ref it)) Q E s:=by
 obtain⟨hp,g,dr,tk,os⟩:=s
 have hT:Shared.TypeIs ⟨hp,g,dr,tk,os⟩ (.ref it) "dict_itemiterator":=⟨_,hit,rfl⟩
 unfold pyNext
 refine wpAny_bind (wpAny_attempt (wpAny_callSpecial?_slot (name:=Str.ofString "__next__") hT F.slot_dict_itemiterator_next (wpAny_call_entry F.slot_dict_itemiterator_next hT F.entry_dict_itemiterator_next ?_ (F.args_dict_itemiterator_next_1 _))))
 refine wpAny_bind (wpAny_pure (wpAny_bind (wpAny_bind ?_)))
 refine wpAny_bind (wpAny_typeNameOfWhole_itemiter hT (wpAny_pure (wpAny_bind (wpAny_fieldsOf hit rfl ?_))))
 simp only[show Builtin.Dict_items.ownsTuple "dict_itemiterator"=true by decide,if_true]
 show wpAny _ _ (if (Value.ref d==Value.none)=true then _ else _) _ _ _
 rw[if_neg (by exact Bool.false_ne_true)]
 refine wpAny_bind (wpAny_pure (wpAny_bind (wpAny_dictEntries ho hdat ?_)))
 rw[if_neg (by simp)]
 refine wpAny_bind (wpAny_pure (wpAny_bind (wpAny_dictEpoch ho hdat ?_)))
 rw[if_neg (by simp)]
 refine wpAny_pure ?_
 simp only[show¬((i:Int)<0) by omega,if_false,Int.toNat_natCast,Array.getElem?_eq_getElem hi]
 refine wpAny_bind ?_
 refine wpAny_bind (wpAny_typeNameOfWhole_itemiter hT (wpAny_pure (wpAny_bind (wpAny_isOneOf_itemiter hT ?_))))
 show wpAny _ _ (setField (.ref it) 3 (rawInt ((i:Int)+1)) >>= _) _ _ _
 refine wpAny_bind (wpAny_setField_rec hit (by simp) fun h1 e1 b1=>?_)
 replace b1:Heap.SameBut it hp h1:=b1
 replace e1:ItO h1 it d (i+1) es.size ep ok ov a f:=by
  show h1.get? it=_
  rw[show((i+1:Nat):Int)=(i:Int)+1 by omega]
  simpa[rawInt] using e1
 have T1:Shared.TypeIs ⟨h1,g,dr,tk,os⟩ (.ref it) "dict_itemiterator":=⟨_,e1,rfl⟩
 refine wpAny_bind (wpAny_holding (wpAny_bind (wpAny_isOneOf_itemiter T1 (wpAny_bind (wpAny_isOneOf_itemiter T1 ?_)))))
 show wpAny _ _ (Builtin.Dict_items.pairFromOwner (.ref it) 6 es[i].key es[i].val) _ _ _
 unfold Builtin.Dict_items.pairFromOwner
 refine wpAny_bind (wpAny_newTuple ?_)
 have z1:h1.objs.size=hp.objs.size:=b1.1
 have ne:hp.objs.size≠it:=Nat.ne_of_gt (Heap.lt_size hit)
 obtain⟨h2,eh2⟩:∃h2,h2=h1.push {cls:= .type "tuple",data:= .seq #[es[i].key,es[i].val]}:=⟨_,rfl⟩
 have e2:ItO h2 it d (i+1) es.size ep ok ov a f:=by rw[eh2];exact Heap.get?_push_of_some _ e1
 have t2:h2.get? hp.objs.size=some {cls:= .type "tuple",data:= .seq #[es[i].key,es[i].val]}:=by rw[eh2,<-z1];exact Heap.get?_push_size _ rfl
 have k2:∀b o,b≠it->hp.get? b=some o->h2.get? b=some o:=fun b o hb e=>by rw[eh2];exact Heap.get?_push_of_some _ (b1.extBut b o hb e)
 have y2:h2.objs.size=hp.objs.size+1:=by rw[eh2,Heap.size_push,z1]
 show wpAny _ _ (Builtin.Dict_items.ownedTupleIsFree (.ref it) >>= _) _ _ ⟨h1.push _,g,dr,tk,os⟩
 rw[z1,<-eh2]
 refine wpAny_bind ?_
 unfold Builtin.Dict_items.ownedTupleIsFree
 refine wpAny_bind (wpAny_field e2 rfl (x:=rawInt (a:Nat)) rfl ?_)
 show wpAny _ _ (loadIfAlive (a:Int).toNat >>= _) _ _ _
 refine wpAny_bind (alive ?_)
 rw[Int.toNat_natCast,show(Shared.mk h2 g dr tk os).heap.get? a=some oa from k2 a oa hai ha]
 rw[if_neg (by simp)]
 refine wpAny_bind (wpAny_field e2 rfl (x:= .bool f) rfl ?_)
 cases f with
 |true=>
  rw[if_neg (by decide)]
  refine wpAny_pure ?_
  rw[if_neg (by decide)]
  exact wpAny_pure (wpAny_pure ⟨_,rfl,wpAny_pure (hQ h2 e2 t2 k2 y2)⟩)
 |false=>
  rw[if_pos (by decide)]
  refine wpAny_bind (wpAny_setField_rec e2 (by simp) fun h3 e3 b3=>?_)
  replace b3:Heap.SameBut it h2 h3:=b3
  replace e3:ItO h3 it d (i+1) es.size ep ok ov a true:=e3
  refine wpAny_pure ?_
  rw[if_neg (by decide)]
  exact wpAny_pure (wpAny_pure ⟨_,rfl,wpAny_pure (hQ h3 e3 (b3.extBut _ _ ne t2) (fun b o hb e=>b3.extBut b o hb (k2 b o hb e)) (b3.1.trans y2))⟩)
structure Got (es:Array DictEntry)(lo:Addr)(h:Heap)(as:List Addr):Prop where
 rise:as.Pairwise (· < ·)
 above:∀a∈as,lo<a
 pairs:∀j a,as[j]? =some a->∃hj:j<es.size,h.get? a=some {cls:= .type "tuple",data:= .seq #[es[j].key,es[j].val]}
theorem Got.there {lo:Addr}{h:Heap}{as:List Addr}(g:Got es lo h as):∀a∈as,a<h.objs.size:=fun a ha=>by
 obtain⟨j,hj,e⟩:=List.getElem_of_mem ha
 obtain⟨_,q⟩:=g.pairs j a (by rw[List.getElem?_eq_getElem hj,e])
 exact Heap.lt_size q
theorem Got.snoc {lo:Addr}{h h':Heap}{as:List Addr}(g:Got es lo h as)(hi:i<es.size)(hl:as.length=i)(hlo:lo<h.objs.size)(hz:h.objs.size<h'.objs.size)(hn:h'.get? h.objs.size=some {cls:= .type "tuple",data:= .seq #[es[i].key,es[i].val]})(hk:∀b o,lo<b->h.get? b=some o->h'.get? b=some o):Got es lo h' (as++[h.objs.size]):=by
 refine⟨List.pairwise_append.mpr ⟨g.rise,List.pairwise_singleton _ _,fun a ha b hb=>?_⟩,fun a ha=>?_,fun j a hj=>?_⟩
 ·rw [List.mem_singleton.mp hb];exact g.there a ha
 ·rcases List.mem_append.mp ha with z|z
  ·exact g.above a z
  ·rw [List.mem_singleton.mp z];exact hlo
 ·by_cases h1:j<as.length
  ·rw [List.getElem?_append_left h1] at hj
   obtain⟨hj',e⟩:=g.pairs j a hj
   exact⟨hj',hk a _ (g.above a (List.mem_of_getElem? hj)) e⟩
  ·rw [List.getElem?_append_right (by omega)] at hj
   have e0:j - as.length=0:=by
    have:=(List.getElem?_eq_some_iff.mp hj).1
    simpa using this
   rw[e0] at hj
   cases hj
   have:j=i:=by omega
   subst this
   exact⟨hi,hn⟩
def ItS (h:Heap)(it d S:Addr)(i n ep:Nat):Prop:=(i=0/\∃ok ov,IsItemIter h it d 0 n ep ok ov)\/∃ok ov a f oa,ItO h it d i n ep ok ov a f/\h.get? a=some oa/\a≠it/\a≠S
theorem ItS.keep {h h':Heap}{S:Addr}{n:Nat}(x:ItS h it d S i n ep)(hk:∀b o,b≠S->h.get? b=some o->h'.get? b=some o)(ne:it≠S):ItS h' it d S i n ep:=by
 rcases x with⟨e,ok,ov,q⟩|⟨ok,ov,a,f,oa,q1,q2,q3,q4⟩
 ·exact .inl ⟨e,ok,ov,hk _ _ ne q⟩
 ·exact .inr ⟨ok,ov,a,f,oa,hk _ _ ne q1,hk _ _ q4 q2,q3,q4⟩
theorem qa8 {S:Addr}{Q:Option Value->Shared->Prop}(hit:ItS s.heap it d S i es.size ep)(hS:S<s.heap.objs.size)(ho:s.heap.get? d=some o)(hdat:o.data= .dict es ep)(hi:i<es.size)
  (hQ:∀h',ItS h' it d S (i+1) es.size ep->h'.get? s.heap.objs.size=some {cls:= .type "tuple",data:= .seq #[es[i].key,es[i].val]}->(∀b o,b≠it->s.heap.get? b=some o->h'.get? b=some o)->s.heap.objs.size<h'.objs.size->Q (some (.ref s.heap.objs.size)) {s with heap:=h'}):wpAny (model prog w) A (pyNext (.ref it)) Q E s:=by
 rcases hit with⟨rfl,ok,ov,q⟩|⟨ok,ov,a,f,oa,q1,q2,q3,q4⟩
 ·have lt:it<s.heap.objs.size:=Heap.lt_size q
  exact q6E q ho hdat hi fun h' e1 e2 e3=>hQ h' (.inr ⟨_,_,_,false,_,e1,e2,Nat.ne_of_gt lt,Nat.ne_of_gt hS⟩) e2 e3 (Heap.lt_size e2)
 ·exact q67 q1 q2 q3 ho hdat hi fun h' e1 e2 e3 e4=>hQ h' (.inr ⟨_,_,_,true,oa,e1,e3 a oa q3 q2,q3,q4⟩) e2 e3 (by omega)
theorem q7l {ok ov:Value}{f:Bool}{Q:Option Value->Shared->Prop}(hh:A.handled=none)(hit:ItO s.heap it d i es.size ep ok ov a f)(ho:s.heap.get? d=some o)(hdat:o.data= .dict es ep)(hi:es.size<=i)
  (hQ:∀h',Heap.ExtBut it s.heap h'->Q none {s with heap:=h'}):wpAny (model prog w) A (pyNext (.ref it)) Q E s:=by
 have hT:s.TypeIs (.ref it) "dict_itemiterator":=⟨_,hit,rfl⟩
 unfold pyNext
 refine wpAny_bind (wpAny_attempt (wpAny_callSpecial?_slot (name:=Str.ofString "__next__") hT F.slot_dict_itemiterator_next (wpAny_call_entry F.slot_dict_itemiterator_next hT F.entry_dict_itemiterator_next ?_ (F.args_dict_itemiterator_next_1 _))))
 refine wpAny_bind (wpAny_pure (wpAny_bind (wpAny_bind ?_)))
 first|refine wpAny_bind (wpAny_typeNameOfWhole_itemiter hT (wpAny_pure (wpAny_bind (wpAny_fieldsOf hit rfl ?_))))|refine wpAny_bind (wpAny_typeNameOf_itemiter hT (wpAny_pure (wpAny_bind (wpAny_fieldsOf hit rfl ?_))))
 simp only[show Builtin.Dict_items.ownsTuple "dict_itemiterator"=true by decide,if_true]
 show wpAny _ _ (if (Value.ref d==Value.none)=true then _ else _) _ _ s
 rw[if_neg (by exact Bool.false_ne_true)]
 refine wpAny_bind (wpAny_pure (wpAny_bind (wpAny_dictEntries ho hdat ?_)))
 rw[if_neg (by simp)]
 refine wpAny_bind (wpAny_pure (wpAny_bind (wpAny_dictEpoch ho hdat ?_)))
 rw[if_neg (by simp)]
 refine wpAny_pure ?_
 simp only[show¬((i:Int)<0) by omega,if_false,Int.toNat_natCast,Array.getElem?_eq_none hi]
 refine wpAny_bind ?_
 first|refine wpAny_bind (wpAny_typeNameOfWhole_itemiter hT (wpAny_pure ?_))|refine wpAny_bind (wpAny_typeNameOf_itemiter hT (wpAny_pure ?_))
 show wpAny _ _ (setField (.ref it) 2 .none >>= _) _ _ s
 refine wpAny_bind (wpAny_setField hit rfl (by simp) ?_)
 show wpAny _ _ (newExc (.type "StopIteration") [] >>= _) _ _ _
 refine wpAny_bind ?_
 simp only[newExc,newTuple]
 refine wpAny_bind (wpAny_newObj_type (wpAny_bind (m:=firstArgMember _ _) (wpAny_of_eq (a:=Value.none) (by first|rfl|(simp only[firstArgMember];rfl)) (wpAny_newObj_type ?_ (by size_fits)))) (by size_fits))
 simp only[raiseNew]
 refine wpAny_bind (wpAny_handled ?_)
 rw[show A.in1.handled=none from hh]
 refine wpAny_bind (wpAny_pure (wpAny_throw ?_))
 refine wpAny_bind (wpAny_isInstance (b:=true) (T:="StopIteration") ⟨_,Heap.get?_push_size _ rfl,rfl⟩ isSubtype_stop ?_)
 exact wpAny_pure (hQ _ (((Heap.SameBut.update ..).extBut.push _).push _))
theorem qa9 {S:Addr}{Q:Option Value->Shared->Prop}(hh:A.handled=none)(hit:ItS s.heap it d S i es.size ep)(ho:s.heap.get? d=some o)(hdat:o.data= .dict es ep)(hi:es.size<=i)(hQ:∀h',Heap.ExtBut it s.heap h'->Q none {s with heap:=h'}):wpAny (model prog w) A (pyNext (.ref it)) Q E s:=by
 rcases hit with⟨rfl,ok,ov,q⟩|⟨ok,ov,a,f,oa,q1,q2,q3,q4⟩
 ·exact q8l hh q ho hdat hi hQ
 ·exact q7l hh q1 ho hdat hi hQ
theorem qbZ {R:Result->Shared->Prop}{S I:Addr}(hh:A.handled=none)(hSI:S<I)(hSd:d≠S)(hId:d≠I)(hn:es.size<=sizeLine)(res:Value)(hdat:o.data= .dict es ep){h₁:Heap}
  (hR:∀(h':Heap) (tk:Nat) (acc:Array Value) (c:Nat) (as:List Addr),(∀b o,b≠S->b≠I->h₁.get? b=some o->h'.get? b=some o)->h'.get? S=some {cls:= .type "list",data:= .seq acc c}->as.length=es.size->Got es I h' as->acc.toList=as.map Value.ref->R (.ok (.ret res)) {s with heap:=h',toks:=tk}):
  ∀(k i:Nat) (h:Heap) (tk c:Nat) (acc:Array Value) (as:List Addr),es.size - i=k->i<=es.size->ItS h I d S i es.size ep->h.get? d=some o->(∀b o,b≠S->b≠I->h₁.get? b=some o->h.get? b=some o)->h.get? S=some {cls:= .type "list",data:= .seq acc c}->acc.toList=as.map Value.ref->as.length=i->Got es I h as->I<h.objs.size->codeAny (model prog w) A (.builtin "list.extend.loop" ⟨[.ref S,.ref I,res],[]⟩) R {s with heap:=h,toks:=tk}:=by
 have hne:S≠I:=Nat.ne_of_lt hSI
 intro k
 induction k with
 |zero=>
  intro i h tk c acc as hk hi hst hd hkeep hS hacc hal hG hIs
  refine codeAny_builtin F.entry_extend_loop ?_
  rw[Around.under_plainId F.plain_extend_loop]
  show wpAny (model prog w) A.in1 (pyNext (.ref I) >>= _) _ _ _
  refine wpAny_bind (qa9 (s:={s with heap:=h,toks:=tk}) hh hst hd hdat (by omega) fun h' he=>?_)
  have hG':Got es I h' as:=⟨hG.rise,hG.above,fun j a hj=>let ⟨q1,q2⟩:=hG.pairs j a hj;⟨q1,he a _ (Nat.ne_of_gt (hG.above a (List.mem_of_getElem? hj))) q2⟩⟩
  exact wpAny_pure (hR h' tk acc c as (fun b o h1 h2 e=>he b o h2 (hkeep b o h1 h2 e)) (he S _ hne hS) (by omega) hG' hacc)
 |succ k ih=>
  intro i h tk c acc as hk hi hst hd hkeep hS hacc hal hG hIs
  have hlt:i<es.size:=by omega
  have hsz:acc.size=i:=by rw[<-Array.length_toList,hacc,List.length_map,hal]
  refine codeAny_builtin F.entry_extend_loop ?_
  rw[Around.under_plainId F.plain_extend_loop]
  show wpAny (model prog w) A.in1 (pyNext (.ref I) >>= _) _ _ _
  refine wpAny_bind (qa8 (s:={s with heap:=h,toks:=tk}) hst (Heap.lt_size hS) hd hdat hlt fun h' hst' ht hkp hz=>?_)
  have hS':=hkp S _ hne hS
  have up:∀b ob,b≠S->h'.get? b=some ob->(h'.update S (Obj.mapSeq fun x=>x.push (.ref h.objs.size))).get? b=some ob:=fun b ob hb e=>(Heap.get?_update_other h' _ hb.symm).trans e
  have hzz:h.objs.size<h'.objs.size:=hz
  show wpAny (model prog w) A.in1 (Builtin.List.listUpdate (.ref S) (fun x=>x.push (.ref h.objs.size)) >>= _) _ _ {s with heap:=h',toks:=tk}
  refine wpAny_bind (listUpdate_at (s:={s with heap:=h',toks:=tk}) hS' rfl ?_ (by show acc.size<=sizeLine;omega) (by show(acc.push _).size<=sizeLine+1;rw[Array.size_push];omega))
  refine wpAny_pure ⟨plainId_quiet F.plain_extend_loop _,?_⟩
  have hIz:I<(h'.update S (Obj.mapSeq fun x=>x.push (.ref h.objs.size))).objs.size:=by rw[Heap.size_update];exact Nat.lt_trans hIs hzz
  refine ih (i+1) _ tk _ (acc.push (.ref h.objs.size)) (as++[h.objs.size]) (by omega) hlt (hst'.keep up hne.symm) (up d o hSd (hkp d o hId hd)) (fun b ob h1 h2 e=>up b ob h1 (hkp b ob h2 (hkeep b ob h1 h2 e))) (Heap.get?_update_self (Obj.mapSeq fun x=>x.push (.ref h.objs.size)) hS' rfl) (by rw[Array.toList_push,hacc,List.map_append];rfl) (by rw[List.length_append,hal];rfl) ?_ hIz
  refine hG.snoc hlt hal hIs (by rw[Heap.size_update];exact hzz) (up _ _ (Nat.ne_of_gt (Heap.lt_size hS)) ht) fun b ob hb e=>up b ob (Nat.ne_of_gt (Nat.lt_trans hSI hb)) (hkp b ob (Nat.ne_of_gt hb) e)
theorem qai {R:Result->Shared->Prop}{r S:Addr}(hh:A.handled=none)(hv:s.heap.IsItemsView r d)(ho:s.heap.get? d=some o)(hdat:o.data= .dict es ep)(hSr:S≠r)(hSd:d≠S)(res:Value){c₀:Nat}(hS:s.heap.get? S=some {cls:= .type "list",data:= .seq #[] c₀})(hn:es.size<=sizeLine)
  (hR:∀(h':Heap) (tk:Nat) (acc:Array Value) (c:Nat) (as:List Addr),(∀b o,b≠S->s.heap.get? b=some o->h'.get? b=some o)->h'.get? S=some {cls:= .type "list",data:= .seq acc c}->as.length=es.size->Got es s.heap.objs.size h' as->acc.toList=as.map Value.ref->R (.ok (.ret res)) {s with heap:=h',toks:=tk}):
  wpAny (model prog w) A.in1 (Builtin.List.listExtendWith (.ref S) (.ref r) res) (fun fin s'=>match fin with| .done f=>R (.ok f) s'| .again c'=>c'.quiet=true/\codeAny (model prog w) A c' R s') (fun e s'=>R (.error e) s') s:=by
 have hSI:=Heap.lt_size hS
 have hdI:=Heap.lt_size ho
 have key:∀(h:Heap) (c₁ tk:Nat),(∀b ob,b≠S->(s.heap.push {cls:= .type "dict_itemiterator",data:= .fields #[.none,.bool false,.ref d,.int 0 0,.int es.size 0,.int ep 0,.none,.none]}).get? b=some ob->h.get? b=some ob)->h.get? S=some {cls:= .type "list",data:= .seq #[] c₁}->codeAny (model prog w) A (.builtin "list.extend.loop" ⟨[.ref S,.ref s.heap.objs.size,res],[]⟩) R {s with heap:=h,toks:=tk}:=fun h c₁ tk hk hS₁=>by
  have hI:=hk s.heap.objs.size _ (Nat.ne_of_gt hSI) (Heap.get?_push_size s.heap rfl)
  exact qbZ hh hSI hSd (Nat.ne_of_lt hdI) hn res hdat (fun h' tk' acc c as hk' hS' hl hG hacc=>hR h' tk' acc c as (fun b o hb e=>hk' b o hb (Nat.ne_of_lt (Heap.lt_size e)) e) hS' hl hG hacc) es.size 0 h tk c₁ #[] [] (Nat.sub_zero _) (Nat.zero_le _) (.inl ⟨rfl,.none,.none,hI⟩) (hk d o hSd (Heap.get?_push_of_some _ ho)) (fun b o hb _ e=>hk b o hb (Heap.get?_push_of_some _ e)) hS₁ rfl rfl ⟨.nil,fun _ z=>(nomatch z),fun j a z=>by simp at z⟩ (Heap.lt_size hI)
 have hT:=Heap.IsItemsView.typeIs hv
 have hS₁:=Heap.get?_push_of_some {cls:= .type "dict_itemiterator",data:= .fields #[.none,.bool false,.ref d,.int 0 0,.int es.size 0,.int ep 0,.none,.none]} hS
 unfold Builtin.List.listExtendWith
 refine wpAny_bind (wpAny_typeOf hT ?_)
 rw[if_neg (by
  have h1:Builtin.List.listSameRef (.ref S) (.ref r)=false:=by simpa[Builtin.List.listSameRef] using hSr
  rw[h1]
  decide)]
 refine wpAny_bind (items hv ho hdat ?_)
 obtain⟨ov,hov,hcv,hdv⟩:=id hv
 have hT₁:Shared.TypeIs {s with heap:=s.heap.push {cls:= .type "dict_itemiterator",data:= .fields #[.none,.bool false,.ref d,.int 0 0,.int es.size 0,.int ep 0,.none,.none]}} (.ref r) "dict_items":=⟨ov,Heap.get?_push_of_some _ hov,hcv⟩
 refine wpAny_bind (wpAny_holding (kdx_hint hT₁ (wpAny_ite_split (fun _=>?_) fun _=>?_)))
 ·refine wpAny_bind (wpAny_rule (wpAny_bind ?_))
  unfold Builtin.List.listTouch
  refine wpAny_bind (wpAny_updateSeq hS₁ rfl ?_)
  have hS₂:=Heap.get?_update_self (Obj.mapSeq fun x=>x.push Value.none) hS₁ rfl
  refine wpAny_updateSeq hS₂ rfl ?_
  have hS₃:=Heap.get?_update_self (Obj.mapSeq fun x=>x.pop) hS₂ rfl
  refine wpAny_pure ⟨plainId_quiet F.plain_extend_loop _,key _ _ s.toks (fun b ob hb e=>?_) hS₃⟩
  exact(Heap.get?_update_other _ _ hb.symm).trans ((Heap.get?_update_other _ _ hb.symm).trans e)
 ·exact wpAny_pure ⟨plainId_quiet F.plain_extend_loop _,key _ _ s.toks (fun b ob _ e=>e) hS₁⟩
theorem q5H {R:List Value->Shared->Prop}{r:Addr}(hh:A.handled=none)(hv:s.heap.IsItemsView r d)(ho:s.heap.get? d=some o)(hdat:o.data= .dict es ep)(hn:es.size<=sizeLine)
  (h:∀(h':Heap) (tk:Nat) (as:List Addr),(∀b o,s.heap.get? b=some o->h'.get? b=some o)->as.length=es.size->Got es s.heap.objs.size h' as->R (as.map Value.ref) {s with heap:=h',toks:=tk}):wpAny (model prog w) A (collect (.ref r)) R E s:=by
 obtain⟨ov,hov,hcv,hdv⟩:=id hv
 have hr:=Heap.lt_size hov
 have hd:=Heap.lt_size ho
 unfold collect
 refine wpAny_bind (wpAny_runValue (codeAny_builtin PyProof.Rows.entry_proto_collect' ?_))
 rw[Around.under_plainId F.plain_proto_collect]
 unfold Builtin.«proto.collect»
 refine wpAny_bind (wpAny_newObj_type (wpAny_pure ⟨plainId_quiet F.plain_list_iadd _,codeAny_builtin PyProof.Rows.entry_list_iadd' ?_⟩))
 rw[Around.under_plainId F.plain_list_iadd]
 have hS₁:=Heap.get?_push_size (o:={cls:= .type "list",data:= .seq #[]}) s.heap rfl
 have hv₁:(s.heap.push {cls:= .type "list",data:= .seq #[]}).IsItemsView r d:=⟨ov,Heap.get?_push_of_some _ hov,hcv,hdv⟩
 have key:=qai (s:={s with heap:=s.heap.push {cls:= .type "list",data:= .seq #[]}}) (prog:=prog) (w:=w) (A:=A) (R:=fun res s'=>∃(h':Heap) (tk:Nat) (acc:Array Value) (c:Nat) (as:List Addr),res= .ok (.ret (.ref s.heap.objs.size))/\s'={s with heap:=h',toks:=tk}/\(∀b o,s.heap.get? b=some o->h'.get? b=some o)/\h'.get? s.heap.objs.size=some {cls:= .type "list",data:= .seq acc c}/\as.length=es.size/\Got es s.heap.objs.size h' as/\acc.toList=as.map Value.ref)
  hh hv₁ (Heap.get?_push_of_some _ ho) hdat (Nat.ne_of_gt hr) (Nat.ne_of_lt hd) (.ref s.heap.objs.size) hS₁ hn fun h' tk acc c as hk hS hl hG hacc=>⟨h',tk,acc,c,as,rfl,rfl,fun b o e=>hk b o (Nat.ne_of_lt (Heap.lt_size e)) (Heap.get?_push_of_some _ e),hS,hl,⟨hG.rise,fun a ha=>Nat.lt_trans (by rw[Heap.size_push];exact Nat.lt_succ_self _) (hG.above a ha),hG.pairs⟩,hacc⟩
 have fin:∀(res:Result) (s':Shared),(∃(h':Heap) (tk:Nat) (acc:Array Value) (c:Nat) (as:List Addr),res= .ok (.ret (.ref s.heap.objs.size))/\s'={s with heap:=h',toks:=tk}/\(∀b o,s.heap.get? b=some o->h'.get? b=some o)/\h'.get? s.heap.objs.size=some {cls:= .type "list",data:= .seq acc c}/\as.length=es.size/\Got es s.heap.objs.size h' as/\acc.toList=as.map Value.ref)->∃v,res= .ok (.ret v)/\wpAny (model prog w) A (match v with| .ref a=>(do let x<-load a;match x.data with| .seq xs _=>pure xs.toList|_=>unsupported "internal:collect")|_=>unsupported "internal:collect") R E s':=by
  rintro res s' ⟨h',tk,acc,c,as,rfl,rfl,hk,hS,hl,hG,hacc⟩
  refine⟨_,rfl,wpAny_bind (wpAny_load hS (wpAny_pure ?_))⟩
  rw[hacc]
  exact h h' tk as hk hl hG
 refine wpAny_mono (show wpAny (model prog w) A.in1 (Builtin.«list.__iadd__» ⟨[.ref s.heap.objs.size,.ref r],[]⟩) _ _ _ from key) (fun fi s' x=>?_) fun e s' x=>?_
 ·cases fi with
  |done f=>
   obtain⟨v,ev,q⟩:=fin _ _ x
   cases ev
   exact q
  |again c'=>
   refine⟨x.1,codeAny_mono x.2 fun res s'' z=>?_⟩
   obtain⟨v,ev,q⟩:=fin _ _ z
   cases ev
   exact q
 ·obtain ⟨_,_,_,_,_,z,_⟩:=x
  cases z
end
end DI
namespace L2
open PySem PySem.Spec PyProof.Rows PySem.W Ce
def cutH (h:Heap)(n:Nat):Heap:={h with objs:=h.objs.extract 0 n}
theorem q6e {h:Heap}{n b:Nat}(hb:b<n):(cutH h n).get? b=h.get? b:=by
 unfold cutH Heap.get?
 have:(h.objs.extract 0 n)[b]? =h.objs[b]? :=by
  rw[Array.getElem?_extract]
  by_cases z:b<h.objs.size
  ·simp [hb,z]
   omega
  ·simp [z]
 rw[this]
theorem q5F (h:Heap)(n:Nat):(cutH h n).objs.size<=n:=by
 unfold cutH
 simp
 omega
theorem q8Q {h:Heap}{n:Nat}:∀b u,(cutH h n).get? b=some u->h.get? b=some u:=fun b u e=>by
 have:b<n:=Nat.lt_of_lt_of_le (Heap.lt_size e) (q5F h n)
 rwa [q6e this] at e
def q1G (H:Hp):List (Addr×List V)->Hp
 |[]=>H
 |p::ps=>q1G (upd H p.1 (.tup p.2)) ps
theorem q2A {b:Addr}:∀{ps:List (Addr×List V)} {H:Hp},b∉ps.map (·.1)->q1G H ps b=H b
 |[],_,_=>rfl
 |p::ps,H,h=>by
  rw[List.map_cons,List.mem_cons,not_or] at h
  show q1G (upd H p.1 _) ps b=_
  rw[q2A h.2,qj h.1]
theorem q50 {x:Addr×List V}:∀{ps:List (Addr×List V)} {H:Hp},(ps.map (·.1)).Pairwise (· < ·)->x∈ps->q1G H ps x.1=some (.tup x.2)
 |p::ps,H,hp,h=>by
  have hp':=List.pairwise_cons.mp hp
  show q1G (upd H p.1 _) ps x.1=_
  rcases List.mem_cons.mp h with rfl|e
  ·rw [q2A fun z=>Nat.lt_irrefl _ (hp'.1 _ z)]
   exact qb
  ·exact q50 hp'.2 e
section
variable {X:Cx}{pins:List (Addr×Obj)}{σ:St}
theorem Inv.adopt {h1:Heap}{t':Nat}:∀{ps:List (Addr×List V)} {H:Hp} {s:Shared},Inv X pins σ H s->(∀b u,s.heap.get? b=some u->h1.get? b=some u)->(ps.map (·.1)).Pairwise (· < ·)->(∀p∈ps,s.heap.objs.size<=p.1)->(∀p∈ps,p.2.length<=sizeLine/\∃its:List Value,Vals p.2 its/\IsTup h1 p.1 its.toArray)->
  Inv X pins σ (q1G H ps) {s with heap:=h1,toks:=t'}
 |[],H,s,I,k,_,_,_=>I.kept k
 |p::ps,H,s,I,k,hp,hs,ho=>by
  have hp':=List.pairwise_cons.mp hp
  obtain⟨z,its,rv,o,q1,q2,n,q3⟩:=ho p (.head _)
  have I':=I.laid (a:=p.1) (o:= .tup p.2) (h':=cutH h1 (p.1+1)) (t':=t') (fun b u e=>by
   have:b<p.1+1:=Nat.lt_of_lt_of_le (Heap.lt_size e) (Nat.le_trans (hs p (.head _)) (Nat.le_succ p.1))
   rw[q6e this]
   exact k b u e) (hs p (.head _)) ⟨z,its,rv,o,by rw[q6e (Nat.lt_succ_self p.1)];exact q1,q2,n,q3⟩
  show Inv X pins σ (q1G (upd H p.1 (.tup p.2)) ps) _
  exact Inv.adopt (ps:=ps) (s:={s with heap:=cutH h1 (p.1+1),toks:=t'}) I' q8Q hp'.2 (fun b hb=>Nat.le_trans (q5F _ _) (hp'.1 b.1 (List.mem_map_of_mem hb))) fun b hb=>ho b (List.mem_cons_of_mem _ hb)
end
end L2
namespace Ce
open L2 PySem PySem.Spec PyProof.Rows
def SnAt (H:Hp)(p:Addr)(x:Sd×Int):Prop:=∃b,H p=some (.tup [.ref b,.int x.2])/\SAt H b x.1
theorem SnAt.mono {H H':Hp}(ts:q00 H H'){p:Addr}{x:Sd×Int}(h:SnAt H p x):SnAt H' p x:=let ⟨b,c,d⟩:=h;⟨b,ts _ _ c,ts _ _ d⟩
theorem SnAt.uniq {H:Hp}{p:Addr}{x y:Sd×Int}(h:SnAt H p x)(g:SnAt H p y):x=y:=by
 obtain⟨b,c,d⟩:=h
 obtain⟨b',c',d'⟩:=g
 rw[c] at c'
 simp only[Option.some.injEq,HO.tup.injEq,List.cons.injEq,V.ref.injEq,V.int.injEq,and_true] at c'
 obtain⟨rfl,e2⟩:=c'
 exact Prod.ext (Sd.vs_inj (by have h:=d.symm.trans d';simpa using h)) e2
end Ce
namespace L2
open PySem PySem.Spec PyProof.Rows PySem.W Ce
theorem q8p {α β:Type}{f:α->β}{x y:α}:∀{l:List α},(l.map f).Nodup->x∈l->y∈l->f x=f y->x=y
 |z::l,hn,hx,hy,e=>by
  rw[List.map_cons,List.nodup_cons] at hn
  rcases List.mem_cons.mp hx with rfl|hx'
  ·rcases List.mem_cons.mp hy with rfl|hy'
   ·rfl
   ·exact absurd (by rw[e];exact List.mem_map_of_mem hy') hn.1
  ·rcases List.mem_cons.mp hy with rfl|hy'
   ·exact absurd (by rw[<-e];exact List.mem_map_of_mem hx') hn.1
   ·exact q8p hn.2 hx' hy' e
theorem q42:∀{a b:List Int},a.length=b.length->HT.q2I a b=decide (a<b)
 |[],[],_=>rfl
 |x::a,y::b,h=>by
  rw[HT.q43]
  by_cases e:x=y
  ·subst e
   rw[if_pos rfl,q42 (by simpa using h)]
   simp[List.cons_lt_cons_iff]
  ·rw [if_neg e]
   simp[List.cons_lt_cons_iff,e]
section
variable {X:Cx}{pins:List (Addr×Obj)}{σ:St}{H:Hp}{s:Shared}
theorem q9l (I:Inv X pins σ H s){p:Addr}{x:Sd×Int}(h:SnAt H p x):∃b t,s.heap.IsTuple p #[.ref b,.int x.2 t]/\SAt H b x.1:=by
 obtain⟨b,h1,h2⟩:=h
 obtain⟨its,rv,pa,_⟩:=I.tuple (SqT.of h1)
 obtain⟨u0,u1,rfl,r0,t,rfl⟩:=qaW rv
 cases(show u0=Value.ref b from r0)
 exact⟨b,t,pa,h2⟩
theorem lt_sn (I:Inv X pins σ H s){A:Around}{a b:Addr}{x y:Sd×Int}{C:Bool->Shared->Prop}{E:Value->Shared->Prop}(hu:A.units+1<cLine)(hx:SnAt H a x)(hy:SnAt H b y)(hd:x.1=y.1->x=y)(hC:C (decide (x.1.ns<y.1.ns)) s):wpAny (model X.prog X.w) A (keyLt' (tuples' false) (.ref a) (.ref b)) C E s:=by
 obtain⟨q,t,⟨o,ho,_,n,hd1⟩,h3⟩:=q9l I hx
 obtain⟨q',t',⟨o',ho',_,n',hd2⟩,g3⟩:=q9l I hy
 have kq:(tupleKind (qJ X.prog X.w)).is s.heap x.1.key q:=q2W I.hok h3
 have kq':(tupleKind (qJ X.prog X.w)).is s.heap y.1.key q':=q2W I.hok g3
 refine kat_lt ho hd1 ho' hd2 ?_
 rw[show decide ((#[Value.ref q,Value.int x.2 t]:Array Value).size<(#[Value.ref q',Value.int y.2 t']:Array Value).size)=false from rfl]
 show KatLex X.prog X.w A false false C [(.ref q,.ref q'),(.int x.2 t,.int y.2 t')] 0 s
 refine kat_cons (Nst.eq_any (Nat.lt_of_succ_lt hu) kq kq' _ _ _ _ ?_)
 by_cases ez:x.1=y.1
 ·obtain rfl:=hd ez
  rw[decide_eq_true rfl]
  rw[decide_eq_false (List.lt_irrefl _)] at hC
  refine kat_yes (kat_cons (wpAny_eqBool_int ?_))
  rw[show(x.2==x.2)=true by simp]
  exact kat_yes hC
 ·rw [decide_eq_false fun w=>ez (Sd.key_inj w)]
  refine kat_no (kat_one _ _ ?_)
  obtain⟨its,rv,pa,_⟩:=I.tuple (SqT.of h3)
  obtain⟨its',rv',pa',_⟩:=I.tuple (SqT.of g3)
  refine HT.q7j pa pa' (ns:=x.1.ns) (ms:=y.1.ns) (by simpa using q2J (show Vals (x.1.ns.map V.int) its from rv)) (by simpa using q2J (show Vals (y.1.ns.map V.int) its' from rv')) (Nat.lt_of_succ_lt hu) ?_
  rw[q42 (show x.1.ns.length=y.1.ns.length from rfl)]
  exact hC
theorem qbS (I:Inv X pins σ H s):∀{l:List (Addr×(Sd×Int))},(∀x∈l,SnAt H x.1 x.2)->2<=l.length->∀{A:Around} {R:SortKind->Shared->Prop},R (tuples' false) s->wpAny (model X.prog X.w) A (keyKind' (l.map fun x=>Value.ref x.1).toArray) R (fun _ _=>False) s:=by
 intro l hl h2 A R hR
 obtain⟨fs,kt,hf,ht⟩:∃fs:List Value,KatTups s.heap (l.map fun x=>Value.ref x.1) fs/\fs.length=l.length/\∀v∈fs,∃b o,v=Value.ref b/\s.heap.get? b=some o/\o.cls= .type "tuple":=by
  clear h2
  induction l with
  |nil=>exact⟨[],trivial,rfl,fun v hv=>nomatch hv⟩
  |cons x l ih=>
   obtain⟨fs,a1,a2,a3⟩:=ih fun y hy=>hl y (List.mem_cons_of_mem _ hy)
   obtain⟨q,t,⟨o,ho,hc,n,hd⟩,e2⟩:=q9l I (hl x (.head _))
   obtain⟨its,rv,⟨o2,ho2,hc2,_⟩,_⟩:=I.tuple (SqT.of e2)
   refine⟨.ref q::fs,KatTups.cons ho hc hd rfl a1,by simpa using a2,fun v hv=>?_⟩
   rcases List.mem_cons.mp hv with rfl|hv
   ·exact ⟨q,o2,rfl,ho2,hc2⟩
   ·exact a3 v hv
 refine kat_kind kt (by omega) (T:= .type "tuple") (fun v hv=>?_) (by decide) (by rw[show(Value.type "tuple" != Value.type "tuple")=false by decide];exact hR)
 obtain⟨b,o,rfl,ho,hc⟩:=ht v hv
 rw[<-hc]
 exact Looks.andThen (Looks.ld ho) .now
end
noncomputable def ky2 (H:Hp)(v:Value):Sd×Int:= @Classical.epsilon (Sd×Int) ⟨(⟨0,0,0,0,0⟩,0)⟩ fun x=>∃a,v= .ref a/\SnAt H a x
theorem q8f {H:Hp}{a:Addr}{x:Sd×Int}(h:SnAt H a x):ky2 H (.ref a)=x:=by
 have e:∃x,∃b,Value.ref a= .ref b/\SnAt H b x:=⟨x,a,rfl,h⟩
 obtain⟨b,eb,hb⟩:= @Classical.epsilon_spec_aux (Sd×Int) ⟨(⟨0,0,0,0,0⟩,0)⟩ _ e
 cases eb
 exact hb.uniq h
def qas (te:TE):TE:=fun σ H Q=>te σ H fun v H1=>∃(a:Addr) (l:List (Sd×Int)),v= .ref a/\H1 a=some (.dT (l.map fun x=>(x.1.key,V.int x.2)))/\(l.map (·.1)).Nodup/\
 ∀(q:Addr) (L:List (Sd×Int)) (H':Hp),Same H1 H'->H1 q=none->qV SnAt H' q L->L.Perm l->L.Pairwise (fun a b=>¬b.1.ns<a.1.ns)->Q (.ref q) H'
theorem q9D {X:Cx}{l:Expr}{tl:TE}{p pos apos cpos:Pos}(hu:X.A.units+4<cLine)(hg:Gl X "sorted")(hm:X.mg "sorted"=none)(hl:PE X l tl)(hbase:attributeBase l "items" X.env (eval l X.env)=eval l X.env:=by rfl)(hline:(apos.endLine==cpos.line)=true:=by rfl)(hc:X.calm=true:=by rfl)
  (he:starEach [.Call (.Attribute l "items" apos) [] [] cpos] X.env=[(false,eval (.Call (.Attribute l "items" apos) [] [] cpos) X.env)]:=by rfl):PE X (.Call (.Name "sorted" p) [.Call (.Attribute l "items" apos) [] [] cpos] [] pos) (qas tl):=by
 intro pins s σ H Q I h
 refine wpAny_Call_Name_kw (q2V I hg hm q5K ?_ (by decide) (by decide))
 refine PyProof.Rows.callWith_builtin1 ?_ he rfl
 rw[he]
 refine Calls.spliced_cons (wpAny_Call_method0_late hbase hline (thn (hl pins s σ H _ I h) fun v s1 ⟨x,H1,I1,r1,q1⟩=>?_))
 obtain⟨a,l,rfl,ha,nd,q⟩:=q1
 cases r1
 obtain⟨z,y,xs,r,o,es,ep,g0,gx,gd,ge,gn⟩:=(show q0a X.prog X.w H1 s1.heap a (.dT _) from I1.hok a _ ha)
 have hxl:l.length=xs.length:=by have:=r.length;simpa using this
 have hes:es.size=xs.length:=by rw[<-Array.length_toList,ge,List.length_map]
 rw[List.length_map] at z
 refine⟨"dict","dict.items",F.plainAttrs_dict,F.slot_dict_items,F.type_dict_items,DI.ty g0 gx,fun b w=>by cases w;exact⟨o,g0,gx.2.1⟩,Calls.callWith_builtin rfl (PySem.evalArgs_none ?_)⟩
 refine call_meetsIn F.slot_dict_items (DI.ty g0 gx) F.entry_dict_items (F.args_dict_items_1 _) (DI.view a y) ⟨⟨o,g0,gx⟩,?_⟩
 have I2:Inv X pins σ H1 {s1 with heap:=s1.heap.push {cls:= .type "dict_items",data:= .fields #[.ref a]}}:=I1.kept (t':=s1.toks) fun b o e=>Heap.get?_push_of_some _ e
 refine Calls.spliced_nil ?_
 refine Calls.call_function_entry kind_sorted plain_sorted entry_sorted (args_sorted1 _) ?_
 unfold Builtin.«sorted»
 refine wpAny_bind (m:=checkCount "sorted" 1 1 _) (wpAny_pure (wpAny_bind (DI.q5H (s:={s1 with heap:=s1.heap.push {cls:= .type "dict_items",data:= .fields #[.ref a]}}) (A:=X.A.in1) (I.ok.hd hc) ⟨_,Heap.get?_push_size _ rfl,rfl,rfl⟩ (Heap.get?_push_of_some _ g0) gd (by omega) fun h1 tk as hk hal hG=>?_)))
 have hal2:as.length=l.length:=by omega
 have at_:∀j (hj:j<l.length),∃(b:Addr) (t:Tok),h1.get? (as[j]'(by omega))=some {cls:= .type "tuple",data:= .seq #[.ref b,.int l[j].2 t]}/\SAt H1 b l[j].1:=fun j hj=>by
  have hjx:j<xs.length:=by omega
  obtain⟨hje,e⟩:=hG.pairs j _ (List.getElem?_eq_getElem (by omega))
  have e2:=Paired.at' r (i:=j) (by rw[List.getElem?_map,List.getElem?_eq_getElem hj];rfl) (List.getElem?_eq_getElem hjx)
  have e3:es[j]=entryOfKey (tupleKind (qJ X.prog X.w)) xs[j]:=by
   have:=congrArg (·[j]?) ge
   rw[Array.getElem?_toList,Array.getElem?_eq_getElem hje,List.getElem?_map,List.getElem?_eq_getElem hjx] at this
   exact Option.some.inj this
  obtain⟨f1,f2,t,f3⟩:=e2
  rw[e3] at e
  refine⟨xs[j].2.1,t,?_,f2⟩
  rw[e,<-f3]
  rfl
 obtain⟨f,hf⟩:∃f:Fin l.length->Addr,∀j:Fin l.length,(∃t:Tok,h1.get? (as[j.1]'(by omega))=some {cls:= .type "tuple",data:= .seq #[.ref (f j),.int l[j.1].2 t]})/\SAt H1 (f j) l[j.1].1:=
  ⟨fun j=>Classical.choose (at_ j.1 j.2),fun j=>let ⟨t,h⟩:=Classical.choose_spec (at_ j.1 j.2);⟨⟨t,h.1⟩,h.2⟩⟩
 obtain⟨ps,eps⟩:∃ps:List (Addr×List V),ps=List.ofFn fun j:Fin l.length=>(as[j.1]'(by omega),[V.ref (f j),V.int l[j.1].2]):=⟨_,rfl⟩
 have psl:ps.length=l.length:=by rw[eps,List.length_ofFn]
 have psg:∀j (hj:j<l.length),ps[j]'(by omega)=(as[j]'(by omega),[V.ref (f ⟨j,hj⟩),V.int l[j].2]):=fun j hj=>by simp only[eps,List.getElem_ofFn]
 have psa:ps.map (·.1)=as:=List.ext_getElem (by rw[List.length_map];omega) fun j h1 h2=>by
  rw[List.getElem_map,psg j (by omega)]
 have pin:∀p∈ps,∃j,∃hj:j<l.length,p=(as[j]'(by omega),[V.ref (f ⟨j,hj⟩),V.int l[j].2]):=fun p hp=>by
  obtain⟨j,hj,e⟩:=List.getElem_of_mem hp
  exact⟨j,by omega,by rw[<-e,psg j (by omega)]⟩
 have hlow:∀a∈as,s1.heap.objs.size<a:=fun a ha=>Nat.lt_trans (by show s1.heap.objs.size<(s1.heap.push _).objs.size;rw[Heap.size_push];exact Nat.lt_succ_self _) (hG.above a ha)
 have I3:Inv X pins σ (q1G H1 ps) {s1 with heap:=h1,toks:=tk}:=Inv.adopt (s:=s1) I1 (fun b u e=>hk b u (Heap.get?_push_of_some _ e)) (by rw[psa];exact hG.rise) (fun p hp=>Nat.le_of_lt (hlow p.1 (by rw[<-psa];exact List.mem_map_of_mem hp))) fun p hp=>by
  obtain⟨j,hj,rfl⟩:=pin p hp
  obtain⟨⟨t,e⟩,_⟩:=hf ⟨j,hj⟩
  exact⟨by show 2<=sizeLine;decide,[.ref (f ⟨j,hj⟩),.int l[j].2 t],.cons rfl (.cons ⟨t,rfl⟩ .nil),_,e,rfl,_,rfl⟩
 have sm:Same H1 (q1G H1 ps):=fun b u e=>by
  rw[q2A fun z=>by
   rw[psa] at z
   rw[I1.hok.fresh (Nat.le_of_lt (hlow b z))] at e
   cases e]
  exact e
 obtain⟨M,eM⟩:∃M,M=as.zip l:=⟨_,rfl⟩
 have e1:M.map (·.1)=as:=by rw[eM];exact List.map_fst_zip (by omega)
 have e2:M.map (·.2)=l:=by rw[eM];exact List.map_snd_zip (by omega)
 have hM:∀x∈M,SnAt (q1G H1 ps) x.1 x.2:=fun x hx=>by
  obtain⟨j,hj,e⟩:=List.getElem_of_mem hx
  have hjl:j<l.length:=by rw[eM,List.length_zip] at hj;omega
  have ex:x=(as[j]'(by omega),l[j]):=by rw[<-e];simp only[eM,List.getElem_zip]
  subst ex
  refine⟨f ⟨j,hjl⟩,?_,sm _ _ (hf ⟨j,hjl⟩).2⟩
  have:=q50 (H:=H1) (by rw[psa];exact hG.rise) (List.getElem_mem (l:=ps) (by omega:j<ps.length))
  rw[psg j hjl] at this
  exact this
 have hd2:∀x∈M,∀y∈M,x.2.1=y.2.1->x.2=y.2:=fun x hx y hy e=>by
  have hx':x.2∈l:=by rw[<-e2];exact List.mem_map_of_mem hx
  have hy':y.2∈l:=by rw[<-e2];exact List.mem_map_of_mem hy
  exact q8p nd hx' hy' e
 generalize q1G H1 ps=H2 at I3 sm hM
 have ev:as.map Value.ref=M.map fun x=>Value.ref x.1:=by rw[<-e1,List.map_map];rfl
 have hML:M.length=l.length:=by have:=congrArg List.length e2;rwa [List.length_map] at this
 rw[ev]
 have hz:(M.map fun x=>Value.ref x.1).length<=sizeLine:=by rw[List.length_map];omega
 refine wpAny_bind (wpAny_newList ?_ hz)
 have hoL:(h1.push (seqObj "list" (M.map fun x=>Value.ref x.1).toArray 0)).get? h1.objs.size=some (seqObj "list" (M.map fun x=>Value.ref x.1).toArray 0):=Heap.get?_push_size _ rfl
 have kp:∀b o,h1.get? b=some o->(h1.push (seqObj "list" (M.map fun x=>Value.ref x.1).toArray 0)).get? b=some o:=fun b o q=>Heap.get?_push_of_some _ q
 have kq:∀b o,h1.get? b=some o->b≠h1.objs.size:=fun b o q=>Nat.ne_of_lt (Heap.lt_size q)
 show wpAny _ _ _ _ _ {s1 with heap:=h1.push (seqObj "list" (M.map fun x=>Value.ref x.1).toArray 0),toks:=tk}
 refine wpAny_bind (wpAny_holding (wpAny_call_entry slot_list_sort ⟨_,hoL,rfl⟩ entry_list_sort (Srt.q41 (s:={s1 with heap:=h1.push (seqObj "list" (M.map fun x=>Value.ref x.1).toArray 0),toks:=tk}) (κ:=tuples' false) (O:=Srt.LO) (kv:=fun v=>(ky2 H2 v).1.ns) hoL hz (fun h2 h' k R hR=>?_) (fun h2 h' k x y C E hx hy hC=>?_) fun out ho=>⟨_,rfl,?_⟩) (args_list_sort _)))
 ·exact qbS (I3.kept (t':=tk) fun b o q=>k b o (kq b o q) (kp b o q)) hM (by rw[List.length_map] at h2;exact h2) hR
 ·obtain ⟨x,hx',rfl⟩:=List.mem_map.mp hx
  obtain⟨y,hy',rfl⟩:=List.mem_map.mp hy
  have hC:C (decide ((ky2 H2 (.ref x.1)).1.ns<(ky2 H2 (.ref y.1)).1.ns)) _:=hC
  rw[q8f (hM x hx'),q8f (hM y hy')] at hC
  exact lt_sn (I3.kept (t':=tk) fun b o q=>k b o (kq b o q) (kp b o q)) (by show X.A.units+1+1+1<cLine;omega) (hM x hx') (hM y hy') (hd2 x hx' y hy') hC
 refine wpAny_pure ⟨_,rfl,?_⟩
 have g:∀x∈M,(fun v:Value=>((match v with| .ref a=>a|_=>0:Addr),ky2 H2 v)) (Value.ref x.1)=x:=fun x hx=>by
  dsimp only
  rw[q8f (hM x hx)]
 obtain⟨M',hp,ho',hs⟩:∃M':List (Addr×(Sd×Int)),M'.Perm M/\out.toList=M'.map (fun x=>Value.ref x.1)/\M'.Pairwise (fun a b=>¬b.2.1.ns<a.2.1.ns):=by
  refine⟨out.toList.map fun v=>((match v with| .ref a=>a|_=>0:Addr),ky2 H2 v),?_,?_,?_⟩
  ·have:=ho.1.map fun v:Value=>((match v with| .ref a=>a|_=>0:Addr),ky2 H2 v)
   rw[List.map_map] at this
   refine this.trans (List.Perm.of_eq ?_)
   conv=>rhs;rw[<-List.map_id M]
   exact List.map_congr_left fun x hx=>g x hx
  ·rw [List.map_map]
   conv=>lhs;rw[<-List.map_id out.toList]
   refine List.map_congr_left fun v hv=>?_
   obtain⟨x,hx,rfl⟩:=List.mem_map.mp (ho.1.mem_iff.mp hv)
   rfl
  ·rw [List.pairwise_map]
   exact ho.2.imp fun {a b} hab=>of_decide_eq_false hab
 obtain⟨e,he⟩:=Srt.q2h out hoL
 have rf:∀M':List (Addr×(Sd×Int)),Vals (M'.map fun x=>V.ref x.1) (M'.map fun x=>Value.ref x.1):=fun M'=>by
  induction M' with
  |nil=>exact .nil
  |cons x M' ih=>exact .cons rfl ih
 have I4:=I3.laid (a:=h1.objs.size) (o:= .lst (M'.map fun x=>V.ref x.1)) (t':=tk) (h':=sortedHeap (h1.push (seqObj "list" (M.map fun x=>Value.ref x.1).toArray 0)) h1.objs.size (M.map fun x=>Value.ref x.1) out) (fun b o q=>Srt.q20 (Nat.ne_of_lt (Heap.lt_size q)) (Heap.get?_push_of_some _ q)) (Nat.le_refl _) ⟨by rw[List.length_map,hp.length_eq];omega,out.toList,e,by rw[ho'];exact rf M',by simpa[seqObj] using he⟩
 have hq2:H2 h1.objs.size=none:=I3.hok.fresh (Nat.le_refl _)
 have s4:=Same.upd (o:= .lst (M'.map fun x=>V.ref x.1)) hq2
 refine⟨.ref h1.objs.size,_,I4,rfl,q _ (M'.map (·.2)) _ (sm.trans s4) (sm.free hq2) ⟨M'.map (·.1),by rw[qb,List.map_map];rfl,⟨by simp,fun i p x hi hx=>?_⟩⟩ (by have:=hp.map (·.2);rwa [e2] at this) (List.pairwise_map.mpr hs)⟩
 rw[List.getElem?_map] at hi hx
 cases e:M'[i]? with
 |none=>rw[e] at hi;cases hi
 |some z=>
  rw[e] at hi hx
  cases hi
  cases hx
  exact SnAt.mono s4.ts (hM z (hp.mem_iff.mp (List.mem_of_getElem? e)))
end L2
namespace DI
open PySem PySem.W PyProof.Rows
theorem q3Q:typeLookup (.type "list") "keys"=pure none:=by rw[typeLookup_type,builtinLookup_eq_fast];kernel_rfl
theorem noKeys {prog:Program}{w:World}{A:Around}{E:Value->Shared->Prop}{s:Shared}{a:Addr}{o:Obj}{xs:Array Value}{k:Nat}{Q:Option Value->Shared->Prop}
  (hx:s.heap.get? a=some o)(hc:o.cls= .type "list")(hdat:o.data= .seq xs k)(hd:o.dict=none)(hA:A.handled=none)
  (h:∀h' tk,(∀b ob,s.heap.get? b=some ob->h'.get? b=some ob)->Q none {s with heap:=h',toks:=tk}):
  wpAny (model prog w) A (getAttr? (.ref a) "keys") Q E s:=by
 have hname:(["__module__","__name__","__qualname__","__doc__","__annotations__"]:List Str).contains "keys"=false:=by decide +kernel
 have hsz:("keys":Str).length+100<=sizeLine:=by decide +kernel
 obtain⟨c,dct,dat,sl⟩:=o
 simp only at hc hdat hd
 subst hc hdat hd
 obtain⟨hp,g,d,tk,os⟩:=s
 have hT:∀tk',(⟨hp,g,d,tk',os⟩:Shared).TypeIs (.ref a) "list":=fun _=>⟨_,hx,rfl⟩
 have f1:=sub_AttributeError
 have f3:=F.slot_list_getattribute.lookup
 have f4:=F.slot_list_getattribute.bind (.ref a)
 have f5:=am_list_getattr_none
 unfold getAttr? getAttrBy?
 refine wpAny_bind (wpAny_mkText (wpAny_bind (wpAny_attempt ?_)))
 unfold getAttrBy
 repeat (any_goals (first|assumption|exact hT _|((with_reducible show wpAny _ _ (call (Value.builtin "list.__getattribute__") _ _) _ _ _);refine call_meets F.slot_list_getattribute (hT _) am_entry_list_getattribute (F.args_list_getattribute_2 _ _) (meets_getattribute_miss_list a xs k sl "keys" _ q3Q hname hsz) ⟨hx,hA,fun h' tk' e hx'=>?_⟩)|wp_step))
 obtain⟨t',u',he⟩:=hx'.there
 show wpAny _ _ (getattributeRaised _ _ _ _ _ _ _) _ _ _
 unfold getattributeRaised
 repeat (any_goals (first|assumption|wp_step))
 exact h _ _ hx'.keeps
theorem q5z:entryFor table "dict.update.loop"=some Builtin.«dict.update.loop» :=entryFor_of_tree (by kernel_rfl)
theorem q2r:plainId "dict.update.loop"=true:=by decide +kernel
section
variable {prog:Program}{w:World}{A:Around}{E:Value->Shared->Prop}{s:Shared}{Ky:Type}[DecidableEq Ky]{knd:HeapKind prog w Ky}{R:Result->Shared->Prop}{h0:Heap}{D I L:Addr}{items:Array Value}{xs:List (Ky×Addr×Value)}
theorem qaX (hh:A.handled=none)(hu:knd.room A.in1)(hD:h0.get? D=none)(hI:h0.get? I=none)(hDI:D≠I)(hL:h0.IsList L items)(hn:items.size=xs.length)(hz:xs.length<=sizeLine)
  (hit:∀(i:Nat) (x:Ky×Addr×Value),xs[i]? =some x->∃p,items[i]? =some (.ref p)/\h0.IsTuple p #[.ref x.2.1,x.2.2])(hkp:∀h',(∀b o,h0.get? b=some o->h'.get? b=some o)->∀x∈xs,knd.is h' x.1 x.2.1)(nd:(xs.map (·.1)).Nodup)(res:Value):
  ∀(k i:Nat) (s:Shared),xs.length - i=k->i<=xs.length->(∀b o,h0.get? b=some o->s.heap.get? b=some o)->s.heap.IsListIter I L i->s.heap.DictOfH knd D (xs.take i)->
   (∀h' tk,(∀b o,h0.get? b=some o->h'.get? b=some o)->h'.DictOfH knd D xs->R (.ok (.ret res)) {s with heap:=h',toks:=tk})->
   codeAny (model prog w) A (.builtin "dict.update.loop" ⟨[.ref D,.ref I,rawInt i,res],[]⟩) R s:=by
 have hLI:L≠I:=fun z=>by
  obtain⟨_,e,_⟩:=hL
  rw[z,hI] at e
  cases e
 have W:=Walks.list (prog:=prog) (w:=w) (A:=A.in1) (by simpa using hh) I L hLI items
 intro k
 induction k with
 |zero=>
  intro i s hk hi kp st hd hR
  obtain rfl:i=xs.length:=by omega
  refine codeAny_builtin q5z ?_
  rw[Around.under_plainId q2r _]
  show wpAny _ A.in1 (pyNext (.ref I) >>= _) _ _ s
  have hLs:s.heap.IsList L items:=let ⟨o,e,r⟩:=hL;⟨o,kp _ _ e,r⟩
  refine wpAny_bind (W.done s _ _ ⟨by rw[hn];exact st,hLs⟩ fun h' tk hm=>?_)
  show wpAny _ A.in1 (Builtin.Dict.addKeywords D [] >>= _) _ _ _
  refine wpAny_bind (wpAny_pure ?_)
  show wpAny _ A.in1 (ret res) _ _ _
  rw[List.take_length] at hd
  have kp':∀b o,h0.get? b=some o->h'.get? b=some o:=fun b o e=>hm b o (fun z=>by rw[List.mem_singleton.mp z,hI] at e;cases e) (kp b o e)
  refine wpAny_pure (hR h' tk kp' ?_)
  obtain⟨o,es,ep,ho,hc,hd',he,his,hn'⟩:=hd
  exact⟨o,es,ep,hm D o (fun z=>hDI (List.mem_singleton.mp z)) ho,hc,hd',he,hkp h' kp',hn'⟩
 |succ k ih=>
  intro i s hk hi kp st hd hR
  have hlt:i<xs.length:=by omega
  refine codeAny_builtin q5z ?_
  rw[Around.under_plainId q2r _]
  show wpAny _ A.in1 (pyNext (.ref I) >>= _) _ _ s
  have hLs:s.heap.IsList L items:=let ⟨o,e,r⟩:=hL;⟨o,kp _ _ e,r⟩
  refine wpAny_bind (W.item i s _ _ (by omega) ⟨st,hLs⟩ fun v h' tk hv st' hm=>?_)
  have kp':∀b o,h0.get? b=some o->h'.get? b=some o:=fun b o e=>hm b o (fun z=>by rw[List.mem_singleton.mp z,hI] at e;cases e) (kp b o e)
  have hx:xs[i]? =some xs[i]:=List.getElem?_eq_getElem hlt
  obtain⟨p,ep,hp⟩:=hit i _ hx
  rw[ep] at hv
  cases hv
  obtain⟨op,eo,hcl,n,hdat⟩:=hp
  have eo':=kp' _ _ eo
  have hd2:h'.DictOfH knd D (xs.take i):=by
   obtain⟨o,es,ep,ho,hc,hd',he,his,hn'⟩:=hd
   exact⟨o,es,ep,hm D o (fun z=>hDI (List.mem_singleton.mp z)) ho,hc,hd',he,fun x hx=>hkp h' kp' x (List.mem_of_mem_take hx),hn'⟩
  show wpAny _ A.in1 (holding [Value.ref p] _ >>= _) _ _ _
  refine wpAny_bind (wpAny_holding (wpAny_bind (wpAny_tryCatch ?_)))
  unfold Builtin.Dict.pairItems
  refine wpAny_bind (wpAny_typeOf (T:="tuple") ⟨op,eo',hcl⟩ ?_)
  rw[if_pos (by decide)]
  refine wpAny_bind (wpAny_seqItems eo' hdat (wpAny_pure ?_))
  show wpAny _ A.in1 (holding [Value.ref xs[i].2.1,xs[i].2.2] (dictSet D (.ref xs[i].2.1) xs[i].2.2)) _ _ _
  have hno:atKey (xs.take i) xs[i].1=none:=by
   unfold atKey
   rw[Option.map_eq_none_iff,List.find?_eq_none]
   intro y hy z
   have z:y.1=xs[i].1:=by simpa using z
   obtain⟨j,hj,ej⟩:=List.getElem_of_mem hy
   rw[List.length_take] at hj
   rw[List.getElem_take] at ej
   have:=(List.pairwise_iff_getElem.mp nd) j i (by rw[List.length_map];omega) (by rw[List.length_map];exact hlt) (by omega)
   rw[List.getElem_map,List.getElem_map,ej] at this
   exact this z
  refine wpAny_holding (wpAny_dictSet_heap (s:={s with heap:=h',toks:=tk}) (hsz:=by rw[List.length_take];omega) hu (hkp h' kp' _ (List.getElem_mem hlt)) hd2 fun h2 hd3 hs2=>?_)
  rw[storedH_new hno,<-show xs.take (i+1)=xs.take i++[(xs[i].1,xs[i].2.1,xs[i].2.2)] from List.take_succ_eq_append_getElem hlt] at hd3
  have kp2:∀b o,h0.get? b=some o->h2.get? b=some o:=fun b o e=>(hs2.2 b fun z=>by rw[z,hD] at e;cases e).trans (kp' b o e)
  refine wpAny_pure ⟨plainId_quiet q2r _,?_⟩
  refine ih (i+1) _ (by omega) hlt kp2 ?_ hd3 fun h3 tk3 kp3 hd4=>hR h3 tk3 kp3 hd4
  obtain⟨o,eI,r⟩:=st'.1
  exact⟨o,(hs2.2 I fun z=>hDI z.symm).trans eI,r⟩
theorem q93 {Q:Value->Shared->Prop}{o:Obj}{n:Nat}(hh:A.handled=none)(hu:knd.room A.in1.in1)(ho:s.heap.get? L=some o)(hc:o.cls= .type "list")(hdat:o.data= .seq items n)(hdn:o.dict=none)(hn:items.size=xs.length)(hz:xs.length<=sizeLine)
  (hit:∀(i:Nat) (x:Ky×Addr×Value),xs[i]? =some x->∃p,items[i]? =some (.ref p)/\s.heap.IsTuple p #[.ref x.2.1,x.2.2])(hkp:∀h',(∀b o,s.heap.get? b=some o->h'.get? b=some o)->∀x∈xs,knd.is h' x.1 x.2.1)(nd:(xs.map (·.1)).Nodup)
  (h:∀h' tk,h'.DictOfH knd s.heap.objs.size xs->(∀b o,s.heap.get? b=some o->h'.get? b=some o)->Q (.ref s.heap.objs.size) {s with heap:=h',toks:=tk}):
  wpAny (model prog w) A (call (.type "dict") [.ref L]) Q E s:=by
 refine callType_codes (Q₁:=fun obj s₁=>obj= .ref s.heap.objs.size/\s₁={s with heap:=s.heap.push {cls:= .type "dict",data:= .dict #[]}}) F.kt_called_dict (F.kt_typeCall_dict_1 _) F.entry_dict_init (kt_code_dict_new _ ⟨rfl,rfl⟩) ?_
 rintro obj s₁ ⟨rfl,rfl⟩
 have hnew:(s.heap.push {cls:= .type "dict",data:= .dict #[]}).DictOfH knd s.heap.objs.size []:=Heap.DictOfH.new s.heap
 refine⟨Heap.DictOfH.typeIs (s:={s with heap:=s.heap.push {cls:= .type "dict",data:= .dict #[]}}) hnew,F.args_dict_init_2 _ _,?_⟩
 unfold Builtin.«dict.__init__»
 refine wpAny_bind ?_
 unfold Builtin.Dict.selfAndRest
 refine wpAny_bind (wpAny_notOrdered_dict (Heap.DictOfH.typeIs (s:={s with heap:=s.heap.push {cls:= .type "dict",data:= .dict #[]}}) hnew) ?_)
 show wpAny _ _ (pure (s.heap.objs.size,[Value.ref L])) _ _ _
 refine wpAny_pure ?_
 show wpAny _ _ (Builtin.Dict.updateFrom "dict.__init__" s.heap.objs.size (.ref L) [] .none) _ _ _
 unfold Builtin.Dict.updateFrom
 have ho1:=Heap.get?_push_of_some {cls:= .type "dict",data:= .dict #[]} ho
 refine wpAny_bind (wpAny_typeOf (T:="list") ⟨o,ho1,hc⟩ ?_)
 rw[if_pos (by decide)]
 refine wpAny_bind (noKeys (s:={s with heap:=s.heap.push {cls:= .type "dict",data:= .dict #[]}}) ho1 hc hdat hdn (by simpa using hh) fun h1 tk1 kp1=>?_)
 rw[if_pos (by rfl)]
 refine wpAny_bind (wpAny_rule ?_)
 have hl1:h1.IsList L items:=⟨o,kp1 _ _ ho1,hc,n,hdat⟩
 refine wpAny_bind (wpAny_pyIter_list (s:={s with heap:=h1,toks:=tk1}) hl1 ?_)
 have kp0:∀b o,s.heap.get? b=some o->h1.get? b=some o:=fun b o e=>kp1 b o (Heap.get?_push_of_some _ e)
 have hDl:s.heap.objs.size<h1.objs.size:=Heap.lt_size (kp1 _ _ (Heap.get?_push_size _ rfl))
 refine wpAny_pure ⟨plainId_quiet q2r _,?_⟩
 refine qaX (h0:=s.heap) (xs:=xs) (by simpa using hh) hu (Heap.get?_none_of_le (Nat.le_refl _)) (Heap.get?_none_of_le (Nat.le_of_lt hDl)) (Nat.ne_of_lt hDl) ⟨o,ho,hc,n,hdat⟩ hn hz hit hkp nd .none _ 0 _ rfl (Nat.zero_le _) (fun b o e=>Heap.get?_push_of_some _ (kp0 b o e)) ⟨_,Heap.get?_push_size _ rfl,rfl,rfl⟩ ?_ fun h' tk kp hd=>⟨rfl,h h' tk hd kp⟩
 obtain⟨o',es,ep,ho',r⟩:=hnew
 exact⟨o',es,ep,Heap.get?_push_of_some _ (kp1 _ _ ho'),r.1,r.2.1,r.2.2.1,fun x hx=>(nomatch hx),r.2.2.2.2⟩
end
end DI
namespace L2
open PySem PySem.Spec PyProof.Rows Ce
theorem qcc:bootBuiltins "dict"=some (.type "dict"):=by decide +kernel
theorem q8G {X:Cx}{pins:List (Addr×Obj)}{σ:St}{H:Hp}{s:Shared}(I:Inv X pins σ H s):∀{l:List (Sd×Int)} {qs:List Addr},Rows SnAt H qs l->∃xs:List (List Key×Addr×Value),
  KT H (l.map fun x=>(x.1.key,V.int x.2)) xs/\∀(i:Nat) (x:List Key×Addr×Value),xs[i]? =some x->∃p,qs[i]? =some p/\s.heap.IsTuple p #[.ref x.2.1,x.2.2]
 |[],qs,h=>⟨[],.nil,fun i x e=>by simp at e⟩
 |x::l,[],h=>by have:=h.1;simp at this
 |x::l,q::qs,h=>by
  obtain⟨xs,r,k⟩:=q8G I (l:=l) (qs:=qs) ⟨by have:=h.1;simpa using this,fun i p y e1 e2=>h.2 (i+1) p y (by simpa using e1) (by simpa using e2)⟩
  obtain⟨b,t,ht,hb⟩:=q9l I (h.2 0 q x rfl rfl)
  refine⟨(x.1.key,b,.int x.2 t)::xs,.cons ⟨rfl,hb,t,rfl⟩ r,fun i y e=>?_⟩
  cases i with
  |zero=>cases e;exact⟨q,rfl,ht⟩
  |succ i=>exact k i y (by simpa using e)
def rDictL:List V->Hp->VK->Prop:=fun xs H Q=>∃(p:Addr) (qs:List Addr) (l:List (Sd×Int)),xs=[.ref p]/\H p=some (.lst (qs.map V.ref))/\Rows SnAt H qs l/\(l.map (·.1)).Nodup/\∀d,H d=none->Q (.ref d) (upd H d (.dT (l.map fun x=>(x.1.key,V.int x.2))))
theorem q7o {X:Cx}(hu:X.A.units+3<cLine)(hc:X.calm=true:=by rfl):q1Y X (.type "dict") rDictL:=by
 intro pins s σ H xs us Q I r h
 obtain⟨p,qs,l,rfl,hp,hr,nd,q⟩:=h
 obtain⟨u,rfl,rx⟩:=q3J r
 cases rx
 obtain⟨hz,its,n,hv,ho⟩:=(show q0a X.prog X.w H s.heap p (.lst _) from I.hok p _ hp)
 obtain⟨ys,kt,hit⟩:=q8G I hr
 rw[List.length_map,hr.1] at hz
 have hkl:=Paired.length kt
 rw[List.length_map] at hkl
 have hvl:=hv.length
 rw[List.length_map,hr.1] at hvl
 have ky:ys.map (·.1)=l.map fun x=>x.1.key:=by
  refine List.ext_getElem (by simp;omega) fun j h1 h2=>?_
  rw[List.length_map] at h1 h2
  rw[List.getElem_map,List.getElem_map]
  have:=Paired.at' kt (i:=j) (by rw[List.getElem?_map,List.getElem?_eq_getElem h2];rfl) (List.getElem?_eq_getElem h1)
  exact this.1.symm
 have ndy:(ys.map (·.1)).Nodup:=by
  rw[ky,show(l.map fun x=>x.1.key)=(l.map (·.1)).map Sd.key by rw[List.map_map];rfl]
  exact List.Pairwise.map _ (fun a b z e=>z (Sd.key_inj e)) nd
 refine DI.q93 (knd:=tupleKind (qJ X.prog X.w)) (xs:=ys) (items:=its.toArray) (I.ok.hd hc) (show X.A.in1.in1.units<cLine from ?_) ho rfl rfl rfl (by simp;omega) (by omega) (fun i x e=>?_) (fun h' kp x hx=>?_) ndy fun h' tk hd kp=>?_
 ·have e:∀A:Around,A.in1.units=A.units+1:=fun A=>rfl
  rw[e,e];omega
 ·obtain ⟨p',e1,e2⟩:=hit i x e
  refine⟨p',?_,e2⟩
  obtain⟨u,eu,ru⟩:=hv.get (i:=i) (x:=V.ref p') (by rw[List.getElem?_map,e1];rfl)
  cases ru
  rw[List.getElem?_toArray]
  exact eu
 ·obtain ⟨j,hj,rfl⟩:=List.getElem_of_mem hx
  have e1:=Paired.at' kt (i:=j) (by rw[List.getElem?_map,List.getElem?_eq_getElem (by omega)];rfl) (List.getElem?_eq_getElem hj)
  obtain⟨o,it,m,h1,r⟩:=q2W I.hok e1.2.1
  rw[<-e1.1]
  exact⟨o,it,m,kp _ _ h1,r⟩
 ·refine ⟨.ref s.heap.objs.size,_,I.laid (a:=s.heap.objs.size) (o:= .dT (l.map fun x=>(x.1.key,V.int x.2))) (t':=tk) kp (Nat.le_refl _) ?_,rfl,q _ (I.hok.fresh (Nat.le_refl _))⟩
  obtain⟨o,es,ep,g1,g2,g3,g4,_,g5⟩:=hd
  exact⟨by rw[List.length_map];omega,beq_eq_false_iff_ne.mpr (Ne.symm (Nat.ne_of_lt I.big)),ys,kt.keeps fun b zs e=>Same.upd (I.hok.fresh (Nat.le_refl _)) _ _ e,o,es,ep,g1,g2,g3,g4,g5⟩
end L2
namespace Mine
open PySem L2
theorem bl0 {P:List Value->Prop}(h:P []):∀us:List Value,us.length=0->P us:=fun us e=>by cases us with|nil=>exact h|cons=>cases e
theorem blS {n:Nat}{P:List Value->Prop}(h:∀a (us:List Value),us.length=n->P (a::us)):∀us:List Value,us.length=n+1->P us:=fun us e=>by cases us with|nil=>cases e|cons a us=>exact h a us (Nat.succ.inj e)
def top (i:Nat):Stmt:=PySem.Challenge.pw_delve_k22_depths.main.body.getD i (.Pass ⟨0,0,0,0⟩)
abbrev q7Q:Stmt:=top 0
abbrev q35:Stmt:=top 11
abbrev q2j:Stmt:=top 12
abbrev q2m:Stmt:=top 13
abbrev q2k:Stmt:=top 22
abbrev q1J:Stmt:=top 23
abbrev q2i:Stmt:=top 24
abbrev q0T:Stmt:=top 45
abbrev q0q:Stmt:=top 46
abbrev q1h:Stmt:=top 47
abbrev q0S:Stmt:=top 48
abbrev q0h:Stmt:=top 49
abbrev q4o:Stmt:=top 56
abbrev q6s:Stmt:=top 57
abbrev q0v:Stmt:=top 58
abbrev q1i:Stmt:=top 66
abbrev q2l:Stmt:=top 67
abbrev q16:Stmt:=top 68
abbrev q37:Stmt:=top 69
abbrev q3o:Stmt:=top 70
abbrev q0J:Stmt:=top 71
abbrev q17:Stmt:=top 72
abbrev q05:Stmt:=top 73
abbrev q3X:Stmt:=top 76
abbrev q36:Stmt:=top 77
abbrev q1M:Stmt:=top 78
abbrev q1g:Stmt:=top 79
abbrev q15:Stmt:=top 80
abbrev q0A:Stmt:=top 81
abbrev q0r:Stmt:=top 83
abbrev q1j:Stmt:=top 84
abbrev qR:Stmt:=top 85
abbrev q0C:Stmt:=top 86
abbrev q0B:Stmt:=top 87
abbrev qbb:Stmt:=top 88
abbrev q1x:Stmt:=qC (top 15) 0
abbrev qG:Stmt:=qC (top 15) 1
abbrev q0V:Stmt:=qC (top 16) 0
abbrev q0U:Stmt:=qC (top 16) 1
abbrev q1z:Stmt:=qC (top 17) 0
abbrev q1y:Stmt:=qC (top 17) 1
abbrev q1w:Stmt:=qC (top 18) 0
abbrev q1v:Stmt:=qC (top 18) 1
abbrev q1O:Stmt:=qC (top 19) 0
abbrev q1N:Stmt:=qC (top 19) 1
abbrev q1l:Stmt:=qC (top 20) 0
abbrev q1k:Stmt:=qC (top 20) 1
abbrev q0X:Stmt:=qC (top 21) 0
abbrev q0W:Stmt:=qC (top 21) 1
abbrev q1A:Stmt:=qC (top 60) 0
abbrev qP:Stmt:=qC (top 60) 1
abbrev qH:Stmt:=qC (top 60) 2
abbrev qx:Stmt:=qC (top 60) 4
abbrev q2n:Stmt:=qC (top 61) 0
abbrev q2o:Stmt:=qC (top 61) 1
abbrev q2p:Stmt:=qC (top 61) 2
abbrev q1s:Stmt:=qC (top 62) 0
abbrev q1t:Stmt:=qC (top 62) 1
abbrev q1u:Stmt:=qC (top 62) 2
abbrev q1p:Stmt:=qC (top 63) 0
abbrev q1q:Stmt:=qC (top 63) 1
abbrev q1r:Stmt:=qC (top 63) 2
abbrev q1m:Stmt:=qC (top 64) 0
abbrev q1n:Stmt:=qC (top 64) 1
abbrev q1o:Stmt:=qC (top 64) 2
abbrev q0D:Stmt:=qC (top 65) 0
abbrev q0E:Stmt:=qC (top 65) 1
abbrev q0F:Stmt:=qC (top 65) 2
theorem q7O:FnScope ["number","least","most"] ["number","least","most"] (qd q35):=⟨rfl,rfl,rfl,by decide +kernel,rfl,by decide +kernel,by decide +kernel⟩
theorem q72:FnScope ["bits","place"] ["bits","place"] (qd q2j):=⟨rfl,rfl,rfl,by decide +kernel,rfl,by decide +kernel,by decide +kernel⟩
theorem q73:FnScope ["parts","place","part"] ["parts","place","part"] (qd q2m):=⟨rfl,rfl,rfl,by decide +kernel,rfl,by decide +kernel,by decide +kernel⟩
theorem q3V:FnScope ["gate","word"] ["gate"] (qd q2k):=⟨rfl,rfl,rfl,by decide +kernel,rfl,by decide +kernel,by decide +kernel⟩
theorem q2B:FnScope ["thing","tops","numbers"] ["thing"] (qd q1J):=⟨rfl,rfl,rfl,by decide +kernel,rfl,by decide +kernel,by decide +kernel⟩
theorem q71:FnScope ["word"] ["word"] (qd q2i):=⟨rfl,rfl,rfl,by decide +kernel,rfl,by decide +kernel,by decide +kernel⟩
theorem q7P:FnScope ["rooms","first","last","ways","things","levers","wheels","bars","water"] ["rooms","first","last","ways","things","levers","wheels","bars","water"] (qd q0T):=⟨rfl,rfl,rfl,by decide +kernel,rfl,by decide +kernel,by decide +kernel⟩
theorem q3m:FnScope ["name","number","least","most"] ["name","number","least","most"] (qd q0q):=⟨rfl,rfl,rfl,by decide +kernel,rfl,by decide +kernel,by decide +kernel⟩
theorem q0i:FnScope ["rooms","ways","made","a","b","gate","back"] ["rooms","ways"] (qd q1h):=⟨rfl,rfl,rfl,by decide +kernel,rfl,by decide +kernel,by decide +kernel⟩
theorem q0z:FnScope ["name","rooms","pairs","most_pairs","least","most","made","room","number"] ["name","rooms","pairs","most_pairs","least","most"] (qd q0S):=⟨rfl,rfl,rfl,by decide +kernel,rfl,by decide +kernel,by decide +kernel⟩
theorem q0R:FnScope ["name","rows","most","made"] ["name","rows","most"] (qd q0h):=⟨rfl,rfl,rfl,by decide +kernel,rfl,by decide +kernel,by decide +kernel⟩
theorem q9m:FnScope ["cellar"] ["cellar"] (qd q4o):=⟨rfl,rfl,rfl,by decide +kernel,rfl,by decide +kernel,by decide +kernel⟩
theorem q2C:FnScope ["cellar","stand","counts","number","thing","kind"] ["cellar","stand"] (qd q6s):=⟨rfl,rfl,rfl,by decide +kernel,rfl,by decide +kernel,by decide +kernel⟩
theorem q4j:FnScope ["cellar"] ["cellar"] (qd q0v):=⟨rfl,rfl,rfl,by decide +kernel,rfl,by decide +kernel,by decide +kernel⟩
theorem q57:FnScope ["way","room"] ["way","room"] (qd q1i):=⟨rfl,rfl,rfl,by decide +kernel,rfl,by decide +kernel,by decide +kernel⟩
theorem q3W:FnScope ["deed","word"] ["deed"] (qd q2l):=⟨rfl,rfl,rfl,by decide +kernel,rfl,by decide +kernel,by decide +kernel⟩
theorem q5U:FnScope ["cellar","stand"] ["cellar","stand"] (qd q16):=⟨rfl,rfl,rfl,by decide +kernel,rfl,by decide +kernel,by decide +kernel⟩
theorem q58:FnScope ["cellar","stand","deed","thing"] ["cellar","stand","deed"] (qd q37):=⟨rfl,rfl,rfl,by decide +kernel,rfl,by decide +kernel,by decide +kernel⟩
theorem q9n:FnScope ["cellar","stand"] ["cellar","stand"] (qd q3o):=⟨rfl,rfl,rfl,by decide +kernel,rfl,by decide +kernel,by decide +kernel⟩
theorem q55:FnScope ["cellar","stand"] ["cellar","stand"] (qd q0J):=⟨rfl,rfl,rfl,by decide +kernel,rfl,by decide +kernel,by decide +kernel⟩
theorem q5W:FnScope ["cellar"] ["cellar"] (qd q17):=⟨rfl,rfl,rfl,by decide +kernel,rfl,by decide +kernel,by decide +kernel⟩
theorem q0u:FnScope ["cellar","pulls","takes","turns","unlocks"] ["cellar"] (qd q05):=⟨rfl,rfl,rfl,by decide +kernel,rfl,by decide +kernel,by decide +kernel⟩
theorem qba:FnScope ["cellar","stand"] ["cellar","stand"] (qd q3X):=⟨rfl,rfl,rfl,by decide +kernel,rfl,by decide +kernel,by decide +kernel⟩
theorem q56:FnScope ["cellar","begin"] ["cellar"] (qd q36):=⟨rfl,rfl,rfl,by decide +kernel,rfl,by decide +kernel,by decide +kernel⟩
theorem q5V:FnScope ["cellar","stand"] ["cellar","stand"] (qd q1M):=⟨rfl,rfl,rfl,by decide +kernel,rfl,by decide +kernel,by decide +kernel⟩
theorem qQ:FnScope ["cellar","begin","walk","row","place","here","pairs","deed","other"] ["cellar","begin"] (qd q1g):=⟨rfl,rfl,rfl,by decide +kernel,rfl,by decide +kernel,by decide +kernel⟩
theorem q1f:FnScope ["walk","links","stand","pairs"] ["walk"] (qd q15):=⟨rfl,rfl,rfl,by decide +kernel,rfl,by decide +kernel,by decide +kernel⟩
theorem qM:FnScope ["begins","links","row","counts","begin","place","here","other"] ["begins","links"] (qd q0A):=⟨rfl,rfl,rfl,by decide +kernel,rfl,by decide +kernel,by decide +kernel⟩
theorem q3n:FnScope ["_law_script","_law_k"] ["_law_script","_law_k"] (qd q0r):=⟨rfl,rfl,rfl,by decide +kernel,rfl,by decide +kernel,by decide +kernel⟩
theorem q1I:FnScope ["_law_cell","_law_way"] ["_law_cell"] (qd q1j):=⟨rfl,rfl,rfl,by decide +kernel,rfl,by decide +kernel,by decide +kernel⟩
theorem qv:FnScope ["_law_script","_law_first","_law_rooms","_law_ways","_law_k","_law_cell","_law_a","_law_b","_law_some","_law_things","_law_levers","_law_wheels","_law_last","_law_more"] ["_law_script"] (qd qR):=⟨rfl,rfl,rfl,by decide +kernel,rfl,by decide +kernel,by decide +kernel⟩
theorem q21:FnScope ["_law_told","_law_some","_law_k"] ["_law_told","_law_some"] (qd q0C):=⟨rfl,rfl,rfl,by decide +kernel,rfl,by decide +kernel,by decide +kernel⟩
theorem qF:FnScope ["_law_place","_law_told","_law_depth","_law_near","_law_here","_law_number","_law_deed","_law_other"] ["_law_place","_law_told"] (qd q0B):=⟨rfl,rfl,rfl,by decide +kernel,rfl,by decide +kernel,by decide +kernel⟩
theorem q3l:FnScope ["_law_script","_law_place","_law_some","_law_told","_law_kept"] ["_law_script"] (qd qbb):=⟨rfl,rfl,rfl,by decide +kernel,rfl,by decide +kernel,by decide +kernel⟩
theorem q5l:FnScope ["self","word","numbers"] ["self","word","numbers"] (qd q1x):=⟨rfl,rfl,rfl,by decide +kernel,rfl,by decide +kernel,by decide +kernel⟩
theorem q4l:FnScope ["self"] ["self"] (qd q0V):=⟨rfl,rfl,rfl,by decide +kernel,rfl,by decide +kernel,by decide +kernel⟩
theorem q4k:FnScope ["self","held","opened","bars","water"] ["self","held","opened","bars","water"] (qd q0U):=⟨rfl,rfl,rfl,by decide +kernel,rfl,by decide +kernel,by decide +kernel⟩
theorem q5n:FnScope ["self","kind"] ["self","kind"] (qd q1z):=⟨rfl,rfl,rfl,by decide +kernel,rfl,by decide +kernel,by decide +kernel⟩
theorem q5m:FnScope ["self","held","opened","bars","water"] ["self","held","opened","bars","water"] (qd q1y):=⟨rfl,rfl,rfl,by decide +kernel,rfl,by decide +kernel,by decide +kernel⟩
theorem q5k:FnScope ["self","kind"] ["self","kind"] (qd q1w):=⟨rfl,rfl,rfl,by decide +kernel,rfl,by decide +kernel,by decide +kernel⟩
theorem q5j:FnScope ["self","held","opened","bars","water"] ["self","held","opened","bars","water"] (qd q1v):=⟨rfl,rfl,rfl,by decide +kernel,rfl,by decide +kernel,by decide +kernel⟩
theorem q5Z:FnScope ["self","bar"] ["self","bar"] (qd q1O):=⟨rfl,rfl,rfl,by decide +kernel,rfl,by decide +kernel,by decide +kernel⟩
theorem q5Y:FnScope ["self","held","opened","bars","water"] ["self","held","opened","bars","water"] (qd q1N):=⟨rfl,rfl,rfl,by decide +kernel,rfl,by decide +kernel,by decide +kernel⟩
theorem q5a:FnScope ["self","height","kind"] ["self","height","kind"] (qd q1l):=⟨rfl,rfl,rfl,by decide +kernel,rfl,by decide +kernel,by decide +kernel⟩
theorem q59:FnScope ["self","held","opened","bars","water"] ["self","held","opened","bars","water"] (qd q1k):=⟨rfl,rfl,rfl,by decide +kernel,rfl,by decide +kernel,by decide +kernel⟩
theorem q4n:FnScope ["self","height"] ["self","height"] (qd q0X):=⟨rfl,rfl,rfl,by decide +kernel,rfl,by decide +kernel,by decide +kernel⟩
theorem q4m:FnScope ["self","held","opened","bars","water"] ["self","held","opened","bars","water"] (qd q0W):=⟨rfl,rfl,rfl,by decide +kernel,rfl,by decide +kernel,by decide +kernel⟩
theorem q5p:FnScope ["self","word","number","part"] ["self","word","number","part"] (qd q1A):=⟨rfl,rfl,rfl,by decide +kernel,rfl,by decide +kernel,by decide +kernel⟩
theorem q5X:FnScope ["self","cellar","stand"] ["self","cellar","stand"] (qd qP):=⟨rfl,rfl,rfl,by decide +kernel,rfl,by decide +kernel,by decide +kernel⟩
theorem q5o:FnScope ["self"] ["self"] (qd qH):=⟨rfl,rfl,rfl,by decide +kernel,rfl,by decide +kernel,by decide +kernel⟩
theorem q30:FnScope ["self","cellar"] ["self","cellar"] (qd qx):=⟨rfl,rfl,rfl,by decide +kernel,rfl,by decide +kernel,by decide +kernel⟩
theorem q74:FnScope ["self","number"] ["self","number"] (qd q2n):=⟨rfl,rfl,rfl,by decide +kernel,rfl,by decide +kernel,by decide +kernel⟩
theorem q2D:FnScope ["self","cellar","stand","way","opened"] ["self","cellar","stand"] (qd q2o):=⟨rfl,rfl,rfl,by decide +kernel,rfl,by decide +kernel,by decide +kernel⟩
theorem q2E:FnScope ["self","cellar","stand","way","other_end"] ["self","cellar","stand"] (qd q2p):=⟨rfl,rfl,rfl,by decide +kernel,rfl,by decide +kernel,by decide +kernel⟩
theorem q5g:FnScope ["self","number"] ["self","number"] (qd q1s):=⟨rfl,rfl,rfl,by decide +kernel,rfl,by decide +kernel,by decide +kernel⟩
theorem q5h:FnScope ["self","cellar","stand"] ["self","cellar","stand"] (qd q1t):=⟨rfl,rfl,rfl,by decide +kernel,rfl,by decide +kernel,by decide +kernel⟩
theorem q5i:FnScope ["self","cellar","stand"] ["self","cellar","stand"] (qd q1u):=⟨rfl,rfl,rfl,by decide +kernel,rfl,by decide +kernel,by decide +kernel⟩
theorem q5d:FnScope ["self","number"] ["self","number"] (qd q1p):=⟨rfl,rfl,rfl,by decide +kernel,rfl,by decide +kernel,by decide +kernel⟩
theorem q5e:FnScope ["self","cellar","stand"] ["self","cellar","stand"] (qd q1q):=⟨rfl,rfl,rfl,by decide +kernel,rfl,by decide +kernel,by decide +kernel⟩
theorem q5f:FnScope ["self","cellar","stand"] ["self","cellar","stand"] (qd q1r):=⟨rfl,rfl,rfl,by decide +kernel,rfl,by decide +kernel,by decide +kernel⟩
theorem q5b:FnScope ["self","number"] ["self","number"] (qd q1m):=⟨rfl,rfl,rfl,by decide +kernel,rfl,by decide +kernel,by decide +kernel⟩
theorem q2U:FnScope ["self","cellar","stand","wheel"] ["self","cellar","stand"] (qd q1n):=⟨rfl,rfl,rfl,by decide +kernel,rfl,by decide +kernel,by decide +kernel⟩
theorem q5c:FnScope ["self","cellar","stand"] ["self","cellar","stand"] (qd q1o):=⟨rfl,rfl,rfl,by decide +kernel,rfl,by decide +kernel,by decide +kernel⟩
theorem q3L:FnScope ["self","number"] ["self","number"] (qd q0D):=⟨rfl,rfl,rfl,by decide +kernel,rfl,by decide +kernel,by decide +kernel⟩
theorem q13:FnScope ["self","cellar","stand","way","gate"] ["self","cellar","stand"] (qd q0E):=⟨rfl,rfl,rfl,by decide +kernel,rfl,by decide +kernel,by decide +kernel⟩
theorem q3M:FnScope ["self","cellar","stand"] ["self","cellar","stand"] (qd q0F):=⟨rfl,rfl,rfl,by decide +kernel,rfl,by decide +kernel,by decide +kernel⟩
structure Cs where
 Gate:Addr
 Plain:Addr
 Door:Addr
 Need:Addr
 Bar:Addr
 Wade:Addr
 Float:Addr
 Deed:Addr
 Go:Addr
 Pull:Addr
 Take:Addr
 Turn:Addr
 Unlock:Addr
structure TxtR (a:Str->Value->Prop)(n:Str->Prop)(cs:Cs):Prop where
 n_all:n "all"
 n_bool:n "bool"
 n_dict:n "dict"
 n_enumerate:n "enumerate"
 n_int:n "int"
 n_isinstance:n "isinstance"
 n_len:n "len"
 n_list:n "list"
 n_range:n "range"
 n_sorted:n "sorted"
 n_tuple:n "tuple"
 n_zip:n "zip"
 e_ALL_BARS:∃t,a "ALL_BARS" (.int 255 t)
 e_BARS:∃t,a "BARS" (.int 3 t)
 e_FIRST:∃t,a "FIRST" (.int 1 t)
 e_FIRST_BARS:∃t,a "FIRST_BARS" (.int 7 t)
 e_FIRST_WATER:∃t,a "FIRST_WATER" (.int 8 t)
 e_LAST:∃t,a "LAST" (.int 2 t)
 e_LAST_BAR:∃t,a "LAST_BAR" (.int 7 t)
 e_LAST_KIND:∃t,a "LAST_KIND" (.int 11 t)
 e_LEVERS:∃t,a "LEVERS" (.int 5 t)
 e_MOST_LEVERS:∃t,a "MOST_LEVERS" (.int 4 t)
 e_MOST_ROOMS:∃t,a "MOST_ROOMS" (.int 14 t)
 e_MOST_STANDS:∃t,a "MOST_STANDS" (.int 300 t)
 e_MOST_THINGS:∃t,a "MOST_THINGS" (.int 8 t)
 e_MOST_WAYS:∃t,a "MOST_WAYS" (.int 20 t)
 e_MOST_WHEELS:∃t,a "MOST_WHEELS" (.int 4 t)
 e_OPENED:∃t,a "OPENED" (.int 2 t)
 e_PAIR_NUMBER:∃t,a "PAIR_NUMBER" (.int 1 t)
 e_PAIR_ROOM:∃t,a "PAIR_ROOM" (.int 0 t)
 e_ROOM:∃t,a "ROOM" (.int 0 t)
 e_TAKEN:∃t,a "TAKEN" (.int 1 t)
 e_THINGS:∃t,a "THINGS" (.int 4 t)
 e_TOP_HEIGHT:∃t,a "TOP_HEIGHT" (.int 9 t)
 e_WATER:∃t,a "WATER" (.int 4 t)
 e_WAYS:∃t,a "WAYS" (.int 3 t)
 e_WAY_A:∃t,a "WAY_A" (.int 0 t)
 e_WAY_B:∃t,a "WAY_B" (.int 1 t)
 e_WAY_BACK:∃t,a "WAY_BACK" (.int 3 t)
 e_WAY_GATE:∃t,a "WAY_GATE" (.int 2 t)
 e_WHEELS:∃t,a "WHEELS" (.int 6 t)
 c_Gate:a "Gate" (.ref cs.Gate)
 c_Plain:a "Plain" (.ref cs.Plain)
 c_Door:a "Door" (.ref cs.Door)
 c_Need:a "Need" (.ref cs.Need)
 c_Bar:a "Bar" (.ref cs.Bar)
 c_Wade:a "Wade" (.ref cs.Wade)
 c_Float:a "Float" (.ref cs.Float)
 c_Deed:a "Deed" (.ref cs.Deed)
 c_Go:a "Go" (.ref cs.Go)
 c_Pull:a "Pull" (.ref cs.Pull)
 c_Take:a "Take" (.ref cs.Take)
 c_Turn:a "Turn" (.ref cs.Turn)
 c_Unlock:a "Unlock" (.ref cs.Unlock)
abbrev Txt (mg:Str->Option Value)(cs:Cs):Prop:=TxtR (fun x v=>mg x=some v) (fun x=>mg x=none) cs
theorem TxtR.up {a a':Str->Value->Prop}{n n':Str->Prop}{cs:Cs}(h1:∀x v,a x v->a' x v)(h2:∀x,n x->n' x)(t:TxtR a n cs):TxtR a' n' cs:=⟨h2 _ t.n_all,h2 _ t.n_bool,h2 _ t.n_dict,h2 _ t.n_enumerate,h2 _ t.n_int,h2 _ t.n_isinstance,h2 _ t.n_len,h2 _ t.n_list,h2 _ t.n_range,h2 _ t.n_sorted,h2 _ t.n_tuple,h2 _ t.n_zip,t.e_ALL_BARS.imp fun _=>h1 _ _,t.e_BARS.imp fun _=>h1 _ _,t.e_FIRST.imp fun _=>h1 _ _,t.e_FIRST_BARS.imp fun _=>h1 _ _,t.e_FIRST_WATER.imp fun _=>h1 _ _,t.e_LAST.imp fun _=>h1 _ _,t.e_LAST_BAR.imp fun _=>h1 _ _,t.e_LAST_KIND.imp fun _=>h1 _ _,t.e_LEVERS.imp fun _=>h1 _ _,t.e_MOST_LEVERS.imp fun _=>h1 _ _,t.e_MOST_ROOMS.imp fun _=>h1 _ _,t.e_MOST_STANDS.imp fun _=>h1 _ _,t.e_MOST_THINGS.imp fun _=>h1 _ _,t.e_MOST_WAYS.imp fun _=>h1 _ _,t.e_MOST_WHEELS.imp fun _=>h1 _ _,t.e_OPENED.imp fun _=>h1 _ _,t.e_PAIR_NUMBER.imp fun _=>h1 _ _,t.e_PAIR_ROOM.imp fun _=>h1 _ _,t.e_ROOM.imp fun _=>h1 _ _,t.e_TAKEN.imp fun _=>h1 _ _,t.e_THINGS.imp fun _=>h1 _ _,t.e_TOP_HEIGHT.imp fun _=>h1 _ _,t.e_WATER.imp fun _=>h1 _ _,t.e_WAYS.imp fun _=>h1 _ _,t.e_WAY_A.imp fun _=>h1 _ _,t.e_WAY_B.imp fun _=>h1 _ _,t.e_WAY_BACK.imp fun _=>h1 _ _,t.e_WAY_GATE.imp fun _=>h1 _ _,t.e_WHEELS.imp fun _=>h1 _ _,h1 _ _ t.c_Gate,h1 _ _ t.c_Plain,h1 _ _ t.c_Door,h1 _ _ t.c_Need,h1 _ _ t.c_Bar,h1 _ _ t.c_Wade,h1 _ _ t.c_Float,h1 _ _ t.c_Deed,h1 _ _ t.c_Go,h1 _ _ t.c_Pull,h1 _ _ t.c_Take,h1 _ _ t.c_Turn,h1 _ _ t.c_Unlock⟩
structure Tcl (K:W.Frag)(cs:Cs):Prop where
 cl_Plain:Cls K cs.Plain
 no_Plain_numbers:qy K cs.Plain "numbers"
 no_Plain_word:qy K cs.Plain "word"
 cl_Door:Cls K cs.Door
 no_Door_numbers:qy K cs.Door "numbers"
 no_Door_word:qy K cs.Door "word"
 cl_Need:Cls K cs.Need
 no_Need_kind:qy K cs.Need "kind"
 no_Need_numbers:qy K cs.Need "numbers"
 no_Need_word:qy K cs.Need "word"
 cl_Bar:Cls K cs.Bar
 no_Bar_bar:qy K cs.Bar "bar"
 no_Bar_numbers:qy K cs.Bar "numbers"
 no_Bar_word:qy K cs.Bar "word"
 cl_Wade:Cls K cs.Wade
 no_Wade_height:qy K cs.Wade "height"
 no_Wade_kind:qy K cs.Wade "kind"
 no_Wade_numbers:qy K cs.Wade "numbers"
 no_Wade_word:qy K cs.Wade "word"
 cl_Float:Cls K cs.Float
 no_Float_height:qy K cs.Float "height"
 no_Float_numbers:qy K cs.Float "numbers"
 no_Float_word:qy K cs.Float "word"
 cl_Go:Cls K cs.Go
 no_Go_number:qy K cs.Go "number"
 no_Go_part:qy K cs.Go "part"
 no_Go_word:qy K cs.Go "word"
 cl_Pull:Cls K cs.Pull
 no_Pull_number:qy K cs.Pull "number"
 no_Pull_part:qy K cs.Pull "part"
 no_Pull_word:qy K cs.Pull "word"
 cl_Take:Cls K cs.Take
 no_Take_number:qy K cs.Take "number"
 no_Take_part:qy K cs.Take "part"
 no_Take_word:qy K cs.Take "word"
 cl_Turn:Cls K cs.Turn
 no_Turn_number:qy K cs.Turn "number"
 no_Turn_part:qy K cs.Turn "part"
 no_Turn_word:qy K cs.Turn "word"
 cl_Unlock:Cls K cs.Unlock
 no_Unlock_number:qy K cs.Unlock "number"
 no_Unlock_part:qy K cs.Unlock "part"
 no_Unlock_word:qy K cs.Unlock "word"
-- ROOM 13
-- SLIM
-- PATCHED
-- DROP ok_cell
-- DROP ok_gate
-- DROP ok_heldL
-- DROP ok_cellar
-- DROP stand_b
-- DROP ok_stand
-- DROP vm_dtext
-- DROP vm_told
-- DROP vm_text
local macro_rules| `(tactic| walk_at "ne")=> `(tactic| refine ifd (fun h=>absurd h (by decide +kernel)) (fun _=>?_))
local macro_rules| `(tactic| walk_at "eq")=> `(tactic| refine ifd (fun _=>?_) (fun h=>absurd rfl h))
local macro_rules| `(tactic| walk_at "at")=> `(tactic| first|rfl|exact atI0|exact qce (by assumption)|exact q0P (by assumption)|assumption)
local macro_rules| `(tactic| walk_at "hp")=> `(tactic| first|with_reducible assumption|with_reducible exact qb|((with_reducible apply q0g);(rotate_left;(with_reducible assumption));walk_at "hp")|exact qb)
local macro_rules| `(tactic| walk_at "sq")=> `(tactic| first|with_reducible assumption|((with_reducible apply SqT.of);walk_at "hp")|((with_reducible apply SqL.of);walk_at "hp")|((with_reducible refine' Same.seq ?s ?h);(case h=>with_reducible assumption);(case s=>walk_at "sm"))|((with_reducible refine' Same.tup ?s ?h);(case h=>with_reducible assumption);(case s=>walk_at "sm")))
local macro_rules| `(tactic| walk_at "sm")=> `(tactic| first|with_reducible assumption|with_reducible exact Same.refl _|((with_reducible refine Same.trans ?_ (Same.upd (by assumption)));walk_at "sm"))
local macro_rules| `(tactic| walk_at "side")=> `(tactic| first|assumption|omega|(exact⟨by omega,by omega⟩)|(exact Or.inl ⟨by omega,by omega⟩)|(exact Or.inr ⟨by omega,by omega⟩)|(exact⟨by omega,by omega,by omega⟩)|(exact⟨by omega,by omega,by decide⟩)|(exact⟨⟨by omega,by omega⟩,by omega,by omega⟩))
local macro_rules| `(tactic| walk_at "rd1")=> `(tactic| first|((with_reducible refine' r_var ?h ?_);(case h=>rfl))|with_reducible refine' r_op ?_|with_reducible refine' r_c ?_|with_reducible refine' r_cons ?_|with_reducible refine' r_nil ?_|with_reducible refine' r_seq ?_|with_reducible refine' r_asg ?_|with_reducible refine' r_name ?_|with_reducible refine' r_call ?_|with_reducible refine' r_cb ?_|with_reducible refine' r_I0 ?_|with_reducible refine' r_test ?_|with_reducible refine' r_bl ?_|with_reducible refine' r_B ?_|with_reducible refine' r_ifS ?_|with_reducible refine' r_ret ?_|with_reducible refine' r_eqI ?_|with_reducible refine' r_eqS ?_|with_reducible refine' r_eqB ?_|with_reducible refine' r_neI ?_|with_reducible refine' r_neS ?_|with_reducible refine' r_neB ?_|with_reducible refine' r_and ?_|with_reducible refine' r_or ?_|with_reducible refine' r_not ?_|with_reducible refine' r_un ?_|with_reducible refine' r_U ?_|with_reducible refine' r_isN ?_|with_reducible refine' r_notN ?_|with_reducible refine' r_andV ?_|with_reducible refine' r_orV ?_|with_reducible refine' r_notV ?_|with_reducible refine' r_if ?_|with_reducible refine' r_tup ?_|with_reducible refine' r_lst ?_|with_reducible refine' r_sl ?_|with_reducible refine' r_np ?_|with_reducible refine' r_pt ?_|with_reducible refine' r_int ?_|with_reducible refine' r_fld0 ?_|with_reducible refine' qbe ?_|with_reducible refine' r_vm0 ?_|with_reducible refine' r_make ?_|with_reducible refine' qbh ?_|with_reducible refine' r_max2 ?_|with_reducible refine' r_min2 ?_|with_reducible refine' r_inti ?_|with_reducible refine' r_intb ?_|with_reducible refine' r_strs ?_|with_reducible refine' r_next ?_|with_reducible refine' r_drop ?_|with_reducible refine' r_sub ?_|with_reducible refine' r_augS ?_|with_reducible refine' r_ipI ?_|with_reducible refine' r_gc ?_|with_reducible refine' r_gn ?_|with_reducible refine' r_retN ?_|with_reducible refine' r_bm ?_|with_reducible refine' r_bm0 ?_|with_reducible refine' r_for ?_|with_reducible refine' r_rng1 ?_|with_reducible refine' r_rng2 ?_|with_reducible refine' r_comp ?_|with_reducible refine' r_yes ?_|with_reducible refine' r_iL ?_|with_reducible refine' r_iT ?_|with_reducible refine' r_eL ?_|with_reducible refine' r_eT ?_|with_reducible refine' iteT ?_|with_reducible refine' iteF ?_|with_reducible refine' ifnT ?_|with_reducible refine' ifnF ?_|with_reducible refine' r_fs ?_|with_reducible refine' r_fv ?_|with_reducible refine' qbk ?_|with_reducible refine' r_callK ?_|with_reducible refine' q9v ?_|with_reducible refine' q9w ?_|with_reducible refine' r_isi_bb ?_|with_reducible refine' r_isi_bi ?_|with_reducible refine' r_isi_ss ?_|with_reducible refine' r_isi_sb ?_|with_reducible refine' r_isi_si ?_|with_reducible refine' q9s ?_|with_reducible refine' r_isi_it ?_|with_reducible refine' r_isi_bt ?_|with_reducible refine' r_isi_is ?_|with_reducible refine' r_isi_bs ?_|with_reducible refine' q9t ?_|with_reducible refine' r_notT0 ?_|with_reducible refine' r_dnew ?_|with_reducible refine' r_dget ?_|with_reducible refine' r_din ?_|with_reducible refine' r_dnin ?_|with_reducible refine' r_dput ?_|with_reducible refine' r_hold ?_|with_reducible refine' r_dk ?_|with_reducible refine' r_dp ?_|((with_reducible refine' r_I ?h ?_);(case h=>walk_at "side"))|((with_reducible refine' r_al ?h ?_);(case h=>rfl))|((with_reducible refine' r_aug ?h ?_);(case h=>rfl))|((with_reducible refine' r_augN ?h ?_);(case h=>rfl))|((with_reducible refine' q31 ?h ?e ?_);(case h=>walk_at "sq");(case e=>walk_at "at"))|((with_reducible refine' q60 ?h ?e ?_);(case h=>walk_at "sq");(case e=>walk_at "at"))|((with_reducible refine' r_ixU ?h ?e ?_);(case h=>assumption);(case e=>walk_at "at"))|((with_reducible refine' r_lenT ?h ?_);(case h=>walk_at "sq"))|((with_reducible refine' r_lenL ?h ?_);(case h=>walk_at "sq"))|((with_reducible refine' r_lenU ?h ?_);(case h=>assumption))|((with_reducible refine' r_refT ?h ?_);(case h=>walk_at "sq"))|((with_reducible refine' r_refL ?h ?_);(case h=>walk_at "sq"))|((with_reducible refine' qbf ?h ?_);(case h=>walk_at "sq"))|((with_reducible refine' qbg ?h ?_);(case h=>walk_at "sq"))|((with_reducible refine' r_tyL ?h ?_);(case h=>walk_at "hp"))|((with_reducible refine' q9r ?h ?_);(case h=>walk_at "hp"))|((with_reducible refine' r_isi_tl ?h ?_);(case h=>walk_at "hp"))|((with_reducible refine' q9u ?h ?_);(case h=>walk_at "hp"))|((with_reducible refine' r_isi_lt ?h ?_);(case h=>walk_at "hp"))|((with_reducible refine' r_gT ?h ?e ?_);(case h=>walk_at "sq");(case e=>rfl))|((with_reducible refine' r_gL ?h ?e ?_);(case h=>walk_at "sq");(case e=>rfl))|((with_reducible refine' r_rg ?h ?_);(case h=>walk_at "side"))|((with_reducible refine' r_rg2 ?h ?_);(case h=>walk_at "side")))
local macro_rules| `(tactic| walk_at "rd")=> `(tactic| repeat (walk_at "rd1"))
open Ce
def q5T:Sp:=fun vs H Q _=>∃x t,vs=[.int x,.int t]/\0<=t/\Q (.bl (bit x t.toNat)) H
def qaz:Sp:=fun vs H Q _=>∃c:Int,vs=[.int c]/\∀(p:Addr) (g:Gt) (H':Hp),Same H H'->g.ok->H' p=some (.tup g.vs)->Q (.ref p) H'
def q3i:Sp:=fun vs H Q _=>∃(p:Addr) (C:Cl),vs=[.ref p]/\ClAt H p C/\∀(q:Addr) (H':Hp),Same H H'->H' q=some (.tup [.int C.fst,.int 0,.int 0,.int C.bars,.int C.water])->Q (.ref q) H'
def dkV (g:Gt):V:=match g.dk with
 |some k=> .int k
 |none=> .non
def spDk:Sp:=fun vs H Q _=>∃(p:Addr) (C:Cl),vs=[.ref p]/\ClAt H p C/\ClOk C/\∀(q:Addr) (H':Hp),Same H H'->H q=none->H' q=some (.lst (C.ways.map fun x=>dkV x.g))->Q (.ref q) H'
def q6o:Sp:=fun vs H Q _=>∃(p q:Addr) (C:Cl) (rm tk op b wt:Int),vs=[.ref p,.ref q]/\ClAt H p C/\ClOk C/\H q=some (.tup [.int rm,.int tk,.int op,.int b,.int wt])/\(∀i,i<C.ways.length->bit op i=true->(dsOf C i).isSome=true)/\
 ∀(r:Addr) (H':Hp),Same H H'->H r=none->H' r=some (.lst (cl (hold C tk op)))->Q (.ref r) H'
theorem qaq {xs:List Int}{j:Nat}(h:j<xs.length):atI (xs.map V.int) (j:Int)=some (.int (xs.getD j 0)):=q0P (by simp[List.getD,h])
theorem qaO {C:Cl}{tk k:Int}{i:Nat}(hi:i<C.things.length):(cnt (tP C tk k) (i+1):Int)=(cnt (tP C tk k) i:Int)+(if bit tk i=true then(if k=C.things[i].2 then 1 else 0) else 0):=by
 show((cnt _ i+_:Nat):Int)=_
 have e:C.things.getD i (0,0)=C.things[i]:=by simp[List.getD,hi]
 unfold tP
 rw[e]
 by_cases h1:bit tk i=true
 ·by_cases h2:C.things[i].2=k
  ·simp [h1,h2]
  ·have:¬k=C.things[i].2:=fun z=>h2 z.symm
   simp[h1,h2,this]
 ·simp [h1]
theorem qaP {C:Cl}{op k:Int}{i:Nat}(hi:i<C.ways.length):(cnt (dP (dsOf C) op k) (i+1):Int)=(cnt (dP (dsOf C) op k) i:Int)+(if bit op i=true then(if C.ways[i].g.dk=some k then 1 else 0) else 0):=by
 show((cnt _ i+_:Nat):Int)=_
 have e:dsOf C i=C.ways[i].g.dk:=by simp[dsOf,hi]
 unfold dP
 rw[e]
 by_cases h1:bit op i=true
 ·by_cases h2:C.ways[i].g.dk=some k
  ·simp [h1,h2]
  ·simp [h1,h2]
 ·simp [h1]
section
variable {P:Program}{w:World}{K:W.Frag}{mg:Str->Option Value}{base:Heap}{cs:Cs}
theorem q7b (T:Txt mg cs)(L:Laid K mg "has_bit" q2j ["bits","place"]):Cal P w K mg base 1 "has_bit" ["bits","place"] q5T:=by
 refine L.cal (k:=0) q72 (fun vs H Q E h=>?_) (fun f cdv A outer s H vs Q E hr h=>?_)
 ·obtain ⟨x,t,rfl,_⟩:=h
  rfl
 ·obtain ⟨x,t,rfl,h0,k⟩:=h
  refine⟨_,(qf (qk (q07 q04 (qw op_and (qw op_shr (pv 0) (pv 1)) qg) qg (qq _)))),?_⟩
  walk_at "rd"
  rw[q7p]
  exact k
theorem q9J (T:Txt mg cs)(L:Laid K mg "start" q4o ["cellar"]):Cal P w K mg base 1 "start" ["cellar"] q3i:=by
 obtain⟨t1,e_FIRST⟩:=T.e_FIRST
 obtain⟨t2,e_FIRST_BARS⟩:=T.e_FIRST_BARS
 obtain⟨t3,e_FIRST_WATER⟩:=T.e_FIRST_WATER
 refine L.cal (k:=0) q9m (fun vs H Q E h=>?_) (fun f cdv A outer s H vs Q E hr h=>?_)
 ·obtain ⟨p,C,rfl,_⟩:=h
  rfl
 ·obtain ⟨p,C,rfl,hC,k⟩:=h
  obtain⟨pw,pt,pl,pv',h0,_⟩:=hC.ex
  refine⟨_,(qf (qk (qS (qa (qu (qi K) (pv 0) (qh (v:= .int 1) rfl e_FIRST ⟨_,rfl⟩) (fun _ _=>rfl)) (qa qg (qa qg (qa (qu (qi K) (pv 0) (qh (v:= .int 7) rfl e_FIRST_BARS ⟨_,rfl⟩) (fun _ _=>rfl)) (qa (qu (qi K) (pv 0) (qh (v:= .int 8) rfl e_FIRST_WATER ⟨_,rfl⟩) (fun _ _=>rfl)) qe)))))))),?_⟩
  walk_at "rd"
  intro q hq
  exact k q _ (Same.upd hq) qb
theorem ok_dk (T:Txt mg cs)(L:Laid K mg "door_kinds" q0v ["cellar"]):Cal P w K mg base 1 "door_kinds" ["cellar"] spDk:=by
 obtain⟨t1,e_WAYS⟩:=T.e_WAYS
 refine L.cal (k:=0) q4j (fun vs H Q E h=>?_) (fun f cdv A outer s H vs Q E hr h=>?_)
 ·obtain ⟨p,C,rfl,_⟩:=h
  rfl
 ·obtain ⟨p,C,rfl,hC,ok,k⟩:=h
  obtain⟨pw,pt,pl,pv',h0,h1,_⟩:=hC.ex
  obtain⟨wv,hw,hwl,hwg⟩:=h1.get
  have big:=qT
  refine⟨_,(qf (qk (q0N (q0m (N:=["a","b","gate","back"]) (own:=4) (caps:=[]) ["cellar"] (qd q0v) (by decide +kernel)) rfl (q4q K (qu (qi K) (pv 0) (qh (v:= .int 3) rfl e_WAYS ⟨_,rfl⟩) (fun _ _=>rfl))) (fun _ _ _ _=>(q0L (n:=4) K rfl (qD (qr (i:=0) (show List.Nodup (["a","b","gate","back"]:List Str) by decide +kernel) rfl (Or.inl rfl)) (qD (qr (i:=1) (show List.Nodup (["a","b","gate","back"]:List Str) by decide +kernel) rfl (Or.inl rfl)) (qD (qr (i:=2) (show List.Nodup (["a","b","gate","back"]:List Str) by decide +kernel) rfl (Or.inl rfl)) (qD (qr (i:=3) (show List.Nodup (["a","b","gate","back"]:List Str) by decide +kernel) rfl (Or.inl rfl)) q0K)))))) (fun _ _ _ _=>q0w) (fun _ _ _ _=>(q1Q (qt q04 (qu (qi K) (pv 2) qg (fun _ _=>rfl)) qA (qq _)) (qu (qi K) (pv 2) qg (fun _ _=>rfl)) q6x))))),?_⟩
  walk_at "rd"
  intro D hD
  refine q6J wv (fun i σ H'=>∃v0 v1 v2 v3,σ=[v0,v1,v2,v3]/\Same H H'/\H' D=some (.lst ((C.ways.take i).map fun x=>dkV x.g))) ⟨none,none,none,none,rfl,Same.upd hD,by rw[qb];rfl⟩ ?_ ?_ ?_
  ·rintro i σ H' ⟨_,_,_,_,rfl,s1,_⟩
   exact SqT.of (s1 _ _ hw)
  ·rintro i x σ H' hx ⟨v0,v1,v2,v3,rfl,s1,hD1⟩
   have hi:i<C.ways.length:=by rw[<-hwl];exact(List.getElem?_eq_some_iff.mp hx).1
   obtain⟨p1,e,g,hp1,hg⟩:=hwg i hi
   rw[hx] at e
   cases e
   have hp2:=s1 _ _ hp1
   have hg2:=s1 _ _ hg
   have hl:=ok.wl
   rw[Gt.vs_eq] at hg2
   have fin:∀v,v=dkV C.ways[i].g->∃ys,H' D=some (.lst ys)/\ys.length<sizeLine/\∃v0 v1 v2 v3,([some (.int C.ways[i].a),some (.int C.ways[i].b),some (.ref g),some (.bl C.ways[i].back)]:St)=[v0,v1,v2,v3]/\Same H (upd H' D (.lst (ys++[v])))/\(upd H' D (.lst (ys++[v]))) D=some (.lst ((C.ways.take (i+1)).map fun x=>dkV x.g)):=by
    intro v ev
    subst ev
    refine⟨_,hD1,by simp;omega,_,_,_,_,rfl,s1.put hD,?_⟩
    rw[qb,q7z (fun x:Way=>dkV x.g) C.ways hi]
   walk_at "rd"
   refine ifd (fun hd=>?_) (fun hd=>?_)
   ·obtain ⟨k1,ek⟩:=q8F hd
    rw[ek] at hg2
    walk_at "rd"
    exact fin _ (by rw[ek];rfl)
   ·walk_at "rd"
    refine fin _ ?_
    cases eg:C.ways[i].g with
    |door k1=>rw[eg] at hd;exact absurd rfl hd
    |_=>rfl
  ·rintro σ H' ⟨_,_,_,_,rfl,s1,hD1⟩
   rw[show wv.length=C.ways.length from hwl,List.take_length] at hD1
   exact k D H' s1 hD hD1
theorem qbB (T:Txt mg cs)(L:Laid K mg "held" q6s ["cellar","stand"])(C_has_bit:Cal P w K mg base 1 "has_bit" ["bits","place"] q5T)(C_door_kinds:Cal P w K mg base 1 "door_kinds" ["cellar"] spDk):Cal P w K mg base 2 "held" ["cellar","stand"] q6o:=by
 obtain⟨t1,e_LAST_KIND⟩:=T.e_LAST_KIND
 obtain⟨t2,e_OPENED⟩:=T.e_OPENED
 obtain⟨t3,e_TAKEN⟩:=T.e_TAKEN
 obtain⟨t4,e_THINGS⟩:=T.e_THINGS
 refine L.cal (k:=1) q2C (fun vs H Q E h=>?_) (fun f cdv A outer s H vs Q E hr h=>?_)
 ·obtain ⟨p,q,C,_,_,_,_,_,rfl,_⟩:=h
  rfl
 ·obtain ⟨p,q,C,rm,tk,op,b,wt,rfl,hC,ok,hq,hdr,k⟩:=h
  obtain⟨pw,pt,pl,pv',h0,h1,h2,_⟩:=hC.ex
  obtain⟨tv,ht,htl,htg⟩:=h2.get
  have big:=qT
  refine⟨_,(qc (qz (i:=2) q2C.nd rfl (Or.inl rfl) (qw op_rep (q3Z (qa qg qe)) (qw q1c (qh (v:= .int 11) rfl e_LAST_KIND ⟨_,rfl⟩) qg)))
   (qc (q1b PassesOwn.never rfl (q80 K rfl T.n_enumerate (qa (qu (qi K) (pv 0) (qh (v:= .int 4) rfl e_THINGS ⟨_,rfl⟩) (fun _ _=>rfl)) qe)) (q0L (n:=2) K rfl (qD (qr (i:=3) q2C.nd rfl (Or.inl rfl)) (qD (qr (i:=4) q2C.nd rfl (Or.inl rfl)) q0K))) (qf (qN (q0l (qp C_has_bit hr (by decide) rfl (qa (qu (qi K) (pv 1) (qh (v:= .int 1) rfl e_TAKEN ⟨_,rfl⟩) (fun _ _=>rfl)) (qa (pv 3) qe)))) (qf (q7X (pv 2) (qu (qi K) (pv 4) qg (fun _ _=>rfl)) (q5w K) qg q8n q6q)) qm)))
   (qc (q1b PassesOwn.never rfl (q81 K rfl T.n_enumerate (qa (qp C_door_kinds hr (by decide) rfl (qa (pv 0) qe)) qe)) (q0L (n:=2) K rfl (qD (qr (i:=3) q2C.nd rfl (Or.inl rfl)) (qD (qr (i:=5) q2C.nd rfl (Or.inl rfl)) q0K))) (qf (qN (q0l (qp C_has_bit hr (by decide) rfl (qa (qu (qi K) (pv 1) (qh (v:= .int 2) rfl e_OPENED ⟨_,rfl⟩) (fun _ _=>rfl)) (qa (pv 3) qe)))) (qf (q7X (pv 2) (pv 5) (q5w K) qg ip_sub q6q)) qm)))
   (qf (qk (pv 2)))))),?_⟩
  walk_at "rd"
  intro p1 hp1
  walk_at "rd"
  refine⟨p1,_,_,rfl,rfl,qb,by decide,by decide,by show 1*12<=sizeLine;decide,fun cs hcs=>?_⟩
  have hcs0:H cs=none:=(Same.upd hp1).free hcs
  have s0:Same H (upd (upd H p1 (.lst [.int 0])) cs (.lst (List.replicate (11+1:Int).toNat [V.int 0]).flatten)):=(Same.upd hp1).trans (Same.upd hcs)
  have h0':=s0 _ _ h0
  have ht':=s0 _ _ ht
  walk_at "rd"
  refine q8z tv (fun i σ H'=>∃v3 v4 v5,σ=[some (.ref p),some (.ref q),some (.ref cs),v3,v4,v5]/\Same H H'/\H' cs=some (.lst (cl fun k=>(cnt (tP C tk k) i:Int)))) ⟨none,none,none,rfl,s0,by rw[qb];rfl⟩ ?_ ?_ ?_
  ·rintro i σ H' ⟨_,_,_,rfl,s1,_⟩
   exact SqT.of (s1 _ _ ht)
  ·rintro i x σ H' T1 hx ⟨v3,v4,v5,rfl,s1,hc⟩ hT1
   have hi:i<C.things.length:=by rw[<-htl];exact(List.getElem?_eq_some_iff.mp hx).1
   obtain⟨p2,e,hp2⟩:=htg i hi
   rw[hx] at e
   cases e
   have hp3:H' p2=_:=s1 _ _ hp2
   have hq3:=s1 _ _ hq
   obtain⟨_,k0,k1⟩:=ok.t _ (List.getElem_mem hi)
   have sT:Same H (upd H' T1 (.tup [.int (i:Nat),.ref p2])):=s1.trans (Same.upd hT1)
   have hcT:(upd H' T1 (.tup [.int (i:Nat),.ref p2])) cs=some (.lst (cl fun k=>(cnt (tP C tk k) i:Int))):=q0g hc hT1
   walk_at "rd"
   refine⟨tk,i,rfl,by omega,?_⟩
   rw[Int.toNat_natCast]
   walk_at "rd"
   refine ite2 (fun hb=>?_) (fun hb=>?_)
   ·walk_at "rd"
    refine q60 (SqL.of hcT) (q8W k0 k1) ?_
    walk_at "rd"
    refine qaB hcT (cl_ix k0 k1) ?_
    refine⟨_,_,_,rfl,sT.put hcs0,?_⟩
    rw[qb,qaR k0 k1]
    congr 2
    refine q2w fun k _ _=>?_
    rw[qaO hi,if_pos hb]
    by_cases ek:k=C.things[i].2
    ·rw [if_pos ek,if_pos ek,ek]
    ·rw [if_neg ek,if_neg ek];omega
   ·walk_at "rd"
    refine⟨_,_,_,rfl,sT,?_⟩
    rw[hcT]
    congr 2
    refine q2w fun k _ _=>?_
    rw[qaO hi,if_neg hb];omega
  ·rintro σ H' ⟨v3,v4,v5,rfl,s1,hc⟩
   rw[show tv.length=C.things.length from htl] at hc
   walk_at "rd"
   refine⟨p,C,rfl,hC.mono s1.ts,ok,fun dk H2 s2 hdk hdk2=>?_⟩
   have s12:=s1.trans s2
   have hc2:=s2 _ _ hc
   walk_at "rd"
   refine q8z (C.ways.map fun x=>dkV x.g) (fun i σ H'=>∃v3 v4 v5,σ=[some (.ref p),some (.ref q),some (.ref cs),v3,v4,v5]/\Same H H'/\H' dk=some (.lst (C.ways.map fun x=>dkV x.g))/\H' cs=some (.lst (cl fun k=>(cnt (tP C tk k) C.things.length:Int) - (cnt (dP (dsOf C) op k) i:Int)))) ⟨v3,v4,v5,rfl,s12,hdk2,?_⟩ ?_ ?_ ?_
   ·rw [hc2]
    refine congrArg (fun l=>some (HO.lst l)) (q2w fun k _ _=>?_)
    show _=_ - ((0:Nat):Int)
    omega
   ·rintro i σ H' ⟨_,_,_,rfl,s3,h3,_⟩
    exact SqL.of h3
   ·rintro i x σ H' T1 hx ⟨v3,v4,v5,rfl,s3,hd3,hc3⟩ hT1
    have hi:i<C.ways.length:=by have:=(List.getElem?_eq_some_iff.mp hx).1;simpa using this
    have ex:x=dkV C.ways[i].g:=by simpa[hi] using hx.symm
    subst ex
    have hq3:=s3 _ _ hq
    have hne:dk≠cs:=fun z=>by rw[z] at hdk;rw[hdk] at hc;cases hc
    have sT:Same H (upd H' T1 (.tup [.int (i:Nat),dkV C.ways[i].g])):=s3.trans (Same.upd hT1)
    have hcT:(upd H' T1 (.tup [.int (i:Nat),dkV C.ways[i].g])) cs=_:=q0g hc3 hT1
    have hdT:(upd H' T1 (.tup [.int (i:Nat),dkV C.ways[i].g])) dk=_:=q0g hd3 hT1
    walk_at "rd"
    refine⟨op,i,rfl,by omega,?_⟩
    rw[Int.toNat_natCast]
    walk_at "rd"
    refine ite2 (fun hb=>?_) (fun hb=>?_)
    ·have hsome:=hdr i hi hb
     have eds:dsOf C i=C.ways[i].g.dk:=by simp[dsOf,hi]
     rw[eds] at hsome
     obtain⟨k2,ek2⟩:=Option.isSome_iff_exists.mp hsome
     have hgok:=(ok.w _ (List.getElem_mem hi)).2.2.2
     have hk2:0<=k2/\k2<12:=by
      cases eg:C.ways[i].g with
      |door j=>rw[eg] at ek2 hgok;cases ek2;exact hgok
      |_=>rw[eg] at ek2;cases ek2
     have ev:dkV C.ways[i].g= .int k2:=by unfold dkV;rw[ek2]
     rw[ev] at hcT hdT sT ⊢
     walk_at "rd"
     refine q60 (SqL.of hcT) (q8W hk2.1 hk2.2) ?_
     walk_at "rd"
     refine qaB hcT (cl_ix hk2.1 hk2.2) ?_
     refine⟨_,_,_,rfl,sT.put hcs0,up_oth hdT hne,?_⟩
     rw[qb,qaR hk2.1 hk2.2]
     congr 2
     refine q2w fun k _ _=>?_
     rw[qaP hi,if_pos hb,ek2]
     by_cases ek:k=k2
     ·rw [if_pos ek,if_pos (by rw[ek]),ek];omega
     ·rw [if_neg ek,if_neg (by intro z;exact ek (Option.some.inj z).symm)];omega
    ·walk_at "rd"
     refine⟨_,_,_,rfl,sT,hdT,?_⟩
     rw[hcT]
     congr 2
     refine q2w fun k _ _=>?_
     rw[qaP hi,if_neg hb];omega
   ·rintro σ H' ⟨v3,v4,v5,rfl,s3,hd3,hc3⟩
    walk_at "rd"
    rw[List.length_map] at hc3
    exact k cs H' s3 hcs0 hc3
end
def q8U (cs:Cs):Gt->Addr
 | .plain=>cs.Plain
 | .door _=>cs.Door
 | .need _=>cs.Need
 | .bar _=>cs.Bar
 | .wade _ _=>cs.Wade
 | .float _=>cs.Float
def fldB (q:Addr)(g:Gt):List (Str×V):=putF "numbers" (.ref q) (putF "word" (.str g.word) [])
def flds (q:Addr):Gt->List (Str×V)
 | .need k=>putF "kind" (.int k) (fldB q (.need k))
 | .bar b=>putF "bar" (.int b) (fldB q (.bar b))
 | .wade h k=>putF "kind" (.int k) (putF "height" (.int h) (fldB q (.wade h k)))
 | .float h=>putF "height" (.int h) (fldB q (.float h))
 |g=>fldB q g
theorem qbX (q:Addr)(g:Gt):(flds q g).lookup ("lets":Str)=none:=by
 cases g<;>(unfold flds;first|unfold fldB|skip)<;>simp only[fldB,qE]<;>repeat (first|rfl|rw[if_neg (by decide +kernel)])
theorem qah (q:Addr)(k:Int):(flds q (.need k)).lookup ("kind":Str)=some (.int k):=by
 unfold flds;rw[qE,if_pos rfl]
theorem qbY (q:Addr)(k:Int):(flds q (.bar k)).lookup ("bar":Str)=some (.int k):=by
 unfold flds;rw[qE,if_pos rfl]
theorem qaf (q:Addr)(h k:Int):(flds q (.wade h k)).lookup ("kind":Str)=some (.int k):=by
 unfold flds;rw[qE,if_pos rfl]
theorem qag (q:Addr)(h k:Int):(flds q (.wade h k)).lookup ("height":Str)=some (.int h):=by
 unfold flds;rw[qE,if_neg (by decide +kernel),qE,if_pos rfl]
theorem q8A (q:Addr)(h:Int):(flds q (.float h)).lookup ("height":Str)=some (.int h):=by
 unfold flds;rw[qE,if_pos rfl]
structure GObj (cs:Cs)(H:Hp)(p:Addr)(g:Gt):Prop where
 ex:∃dx q,H p=some (.ins (q8U cs g) dx (flds q g))/\H q=some (.tup (g.ns.map V.int))
theorem GObj.mono {cs:Cs}{H H':Hp}{p:Addr}{g:Gt}(s:Same H H')(h:GObj cs H p g):GObj cs H' p g:=let ⟨dx,q,h1,h2⟩:=h.ex;⟨dx,q,s _ _ h1,s _ _ h2⟩
def q1H (K:W.Frag):Sp:=fun vs H Q _=>∃(p C dx q:Addr) (z:Str),vs=[.ref p,.str z,.ref q]/\H p=some (.ins C dx [])/\Cls K C/\qy K C "word"/\qy K C "numbers"/\Q .non (upd H p (.ins C dx (putF "numbers" (.ref q) (putF "word" (.str z) []))))
def spMk (cs:Cs)(wd:Str):Sp:=fun vs H Q _=>∃(p dx:Addr) (g:Gt),vs= .ref p::g.ns.map V.int/\g.word=wd/\H p=some (.ins (q8U cs g) dx [])/\∀H',(∀b o,H b=some o->b≠p->H' b=some o)->GObj cs H' p g->Q .non H'
def qb6 (cs:Cs):Sp:=fun vs H Q _=>∃(p:Addr) (g:Gt),vs=[.ref p]/\H p=some (.tup g.vs)/\∀(x:Addr) (H':Hp),Same H H'->H x=none->GObj cs H' x g->Q (.ref x) H'
def q2S (cs:Cs)(wd:Str):Sp:=fun vs H Q _=>∃(p hl:Addr) (g:Gt) (f:Int->Int) (op:Bool) (bars wt:Int),vs=[.ref p,.ref hl,.bl op,.int bars,.int wt]/\g.word=wd/\GObj cs H p g/\g.ok/\H hl=some (.lst (cl f))/\Q (.bl (qa4 g f op bars wt)) H
section
variable {P:Program}{w:World}{K:W.Frag}{mg:Str->Option Value}{base:Heap}{cs:Cs}
theorem q9N (T:Txt mg cs)(L:LaidC K mg "Gate" "__init__" "Gate.__init__" q1x ["self","word","numbers"]):CCal P w K mg base 1 "Gate" "__init__" ["self","word","numbers"] (q1H K):=by
 refine L.cc (k:=0) q5l (fun vs H Q E h=>?_) (fun f cdv A outer s H vs Q E hr h=>?_)
 ·obtain ⟨p,C,dx,q,z,rfl,_⟩:=h
  rfl
 ·obtain ⟨p,C,dx,q,z,rfl,hp,cl,nw,nn,k⟩:=h
  refine⟨_,(qc (q14 K (pv 0) (pv 1) rfl)
   (qf (q14 K (pv 0) (pv 2) rfl))),?_⟩
  walk_at "rd"
  refine q23 hp cl nw (by decide) ?_
  walk_at "rd"
  refine q23 qb cl nn (by show 1<1000;decide) ?_
  rw[q1F]
  exact k
theorem q9X (T:Txt mg cs)(TC:Tcl K cs)(L:LaidI K mg "Plain" cs.Plain "Plain.__init__" q0V ["self"])(C_Gate_init:CCal P w K mg base 1 "Gate" "__init__" ["self","word","numbers"] (q1H K)):Makes P w K mg base 2 "Plain" cs.Plain ["self"] (spMk cs "plain"):=by
 refine L.makes (k:=1) q4l (fun vs H Q E h=>?_) (fun f cdv A outer s H vs Q E hr h=>?_)
 ·obtain ⟨p,dx,g,rfl,hw,_⟩:=h
  cases g<;>first|rfl|exact absurd hw (by simp only[Gt.word];decide +kernel)
 ·obtain ⟨p,dx,g,rfl,hw,hp,k⟩:=h
  cases g<;>first|exact absurd hw (by simp only[Gt.word];decide +kernel)|skip
  refine⟨_,(qf (qI (q3p C_Gate_init hr (by decide) rfl (qa (pv 0) (qa qA (qa (qS qe) qe)))))),?_⟩
  walk_at "rd"
  intro t ht
  refine⟨p,cs.Plain,dx,t,_,rfl,q0g hp ht,TC.cl_Plain,TC.no_Plain_word,TC.no_Plain_numbers,?_⟩
  walk_at "rd"
  have hpt:p≠t:=ql hp ht
  refine k _ (fun b o hb hbp=>?_) ⟨dx,t,qb,by rw[qj hpt.symm];exact qb⟩
  rw[qj hbp,qj (ql hb ht)]
  exact hb
theorem qbM (T:Txt mg cs)(TC:Tcl K cs)(L:LaidI K mg "Door" cs.Door "Door.__init__" q1z ["self","kind"])(C_Gate_init:CCal P w K mg base 1 "Gate" "__init__" ["self","word","numbers"] (q1H K)):Makes P w K mg base 2 "Door" cs.Door ["self","kind"] (spMk cs "door"):=by
 refine L.makes (k:=1) q5n (fun vs H Q E h=>?_) (fun f cdv A outer s H vs Q E hr h=>?_)
 ·obtain ⟨p,dx,g,rfl,hw,_⟩:=h
  cases g<;>first|rfl|exact absurd hw (by simp only[Gt.word];decide +kernel)
 ·obtain ⟨p,dx,g,rfl,hw,hp,k⟩:=h
  cases g<;>first|exact absurd hw (by simp only[Gt.word];decide +kernel)|skip
  rename_i n
  refine⟨_,(qf (qI (q3p C_Gate_init hr (by decide) rfl (qa (pv 0) (qa qA (qa (qS (qa (pv 1) qe)) qe)))))),?_⟩
  walk_at "rd"
  intro t ht
  refine⟨p,cs.Door,dx,t,_,rfl,q0g hp ht,TC.cl_Door,TC.no_Door_word,TC.no_Door_numbers,?_⟩
  walk_at "rd"
  have hpt:p≠t:=ql hp ht
  refine k _ (fun b o hb hbp=>?_) ⟨dx,t,qb,by rw[qj hpt.symm];exact qb⟩
  rw[qj hbp,qj (ql hb ht)]
  exact hb
theorem qbL (T:Txt mg cs)(TC:Tcl K cs)(L:LaidI K mg "Need" cs.Need "Need.__init__" q1w ["self","kind"])(C_Gate_init:CCal P w K mg base 1 "Gate" "__init__" ["self","word","numbers"] (q1H K)):Makes P w K mg base 2 "Need" cs.Need ["self","kind"] (spMk cs "need"):=by
 refine L.makes (k:=1) q5k (fun vs H Q E h=>?_) (fun f cdv A outer s H vs Q E hr h=>?_)
 ·obtain ⟨p,dx,g,rfl,hw,_⟩:=h
  cases g<;>first|rfl|exact absurd hw (by simp only[Gt.word];decide +kernel)
 ·obtain ⟨p,dx,g,rfl,hw,hp,k⟩:=h
  cases g<;>first|exact absurd hw (by simp only[Gt.word];decide +kernel)|skip
  rename_i n
  refine⟨_,(qc (qI (q3p C_Gate_init hr (by decide) rfl (qa (pv 0) (qa qA (qa (qS (qa (pv 1) qe)) qe)))))
   (qf (q14 K (pv 0) (pv 1) rfl))),?_⟩
  walk_at "rd"
  intro t ht
  refine⟨p,cs.Need,dx,t,_,rfl,q0g hp ht,TC.cl_Need,TC.no_Need_word,TC.no_Need_numbers,?_⟩
  walk_at "rd"
  refine q23 qb TC.cl_Need TC.no_Need_kind (by show 2<1000;decide) ?_
  rw[q1F]
  have hpt:p≠t:=ql hp ht
  refine k _ (fun b o hb hbp=>?_) ⟨dx,t,qb,by rw[qj hpt.symm];exact qb⟩
  rw[qj hbp,qj (ql hb ht)]
  exact hb
theorem mk_bar (T:Txt mg cs)(TC:Tcl K cs)(L:LaidI K mg "Bar" cs.Bar "Bar.__init__" q1O ["self","bar"])(C_Gate_init:CCal P w K mg base 1 "Gate" "__init__" ["self","word","numbers"] (q1H K)):Makes P w K mg base 2 "Bar" cs.Bar ["self","bar"] (spMk cs "bar"):=by
 refine L.makes (k:=1) q5Z (fun vs H Q E h=>?_) (fun f cdv A outer s H vs Q E hr h=>?_)
 ·obtain ⟨p,dx,g,rfl,hw,_⟩:=h
  cases g<;>first|rfl|exact absurd hw (by simp only[Gt.word];decide +kernel)
 ·obtain ⟨p,dx,g,rfl,hw,hp,k⟩:=h
  cases g<;>first|exact absurd hw (by simp only[Gt.word];decide +kernel)|skip
  rename_i n
  refine⟨_,(qc (qI (q3p C_Gate_init hr (by decide) rfl (qa (pv 0) (qa qA (qa (qS (qa (pv 1) qe)) qe)))))
   (qf (q14 K (pv 0) (pv 1) rfl))),?_⟩
  walk_at "rd"
  intro t ht
  refine⟨p,cs.Bar,dx,t,_,rfl,q0g hp ht,TC.cl_Bar,TC.no_Bar_word,TC.no_Bar_numbers,?_⟩
  walk_at "rd"
  refine q23 qb TC.cl_Bar TC.no_Bar_bar (by show 2<1000;decide) ?_
  rw[q1F]
  have hpt:p≠t:=ql hp ht
  refine k _ (fun b o hb hbp=>?_) ⟨dx,t,qb,by rw[qj hpt.symm];exact qb⟩
  rw[qj hbp,qj (ql hb ht)]
  exact hb
theorem q9Y (T:Txt mg cs)(TC:Tcl K cs)(L:LaidI K mg "Float" cs.Float "Float.__init__" q0X ["self","height"])(C_Gate_init:CCal P w K mg base 1 "Gate" "__init__" ["self","word","numbers"] (q1H K)):Makes P w K mg base 2 "Float" cs.Float ["self","height"] (spMk cs "float"):=by
 refine L.makes (k:=1) q4n (fun vs H Q E h=>?_) (fun f cdv A outer s H vs Q E hr h=>?_)
 ·obtain ⟨p,dx,g,rfl,hw,_⟩:=h
  cases g<;>first|rfl|exact absurd hw (by simp only[Gt.word];decide +kernel)
 ·obtain ⟨p,dx,g,rfl,hw,hp,k⟩:=h
  cases g<;>first|exact absurd hw (by simp only[Gt.word];decide +kernel)|skip
  rename_i n
  refine⟨_,(qc (qI (q3p C_Gate_init hr (by decide) rfl (qa (pv 0) (qa qA (qa (qS (qa (pv 1) qe)) qe)))))
   (qf (q14 K (pv 0) (pv 1) rfl))),?_⟩
  walk_at "rd"
  intro t ht
  refine⟨p,cs.Float,dx,t,_,rfl,q0g hp ht,TC.cl_Float,TC.no_Float_word,TC.no_Float_numbers,?_⟩
  walk_at "rd"
  refine q23 qb TC.cl_Float TC.no_Float_height (by show 2<1000;decide) ?_
  rw[q1F]
  have hpt:p≠t:=ql hp ht
  refine k _ (fun b o hb hbp=>?_) ⟨dx,t,qb,by rw[qj hpt.symm];exact qb⟩
  rw[qj hbp,qj (ql hb ht)]
  exact hb
theorem qbH (T:Txt mg cs)(TC:Tcl K cs)(L:LaidI K mg "Wade" cs.Wade "Wade.__init__" q1l ["self","height","kind"])(C_Gate_init:CCal P w K mg base 1 "Gate" "__init__" ["self","word","numbers"] (q1H K)):Makes P w K mg base 2 "Wade" cs.Wade ["self","height","kind"] (spMk cs "wade"):=by
 refine L.makes (k:=1) q5a (fun vs H Q E h=>?_) (fun f cdv A outer s H vs Q E hr h=>?_)
 ·obtain ⟨p,dx,g,rfl,hw,_⟩:=h
  cases g<;>first|rfl|exact absurd hw (by simp only[Gt.word];decide +kernel)
 ·obtain ⟨p,dx,g,rfl,hw,hp,k⟩:=h
  cases g<;>first|exact absurd hw (by simp only[Gt.word];decide +kernel)|skip
  rename_i n1 n2
  refine⟨_,(qc (qI (q3p C_Gate_init hr (by decide) rfl (qa (pv 0) (qa qA (qa (qS (qa (pv 1) (qa (pv 2) qe))) qe)))))
   (qc (q14 K (pv 0) (pv 1) rfl)
   (qf (q14 K (pv 0) (pv 2) rfl)))),?_⟩
  walk_at "rd"
  intro t ht
  refine⟨p,cs.Wade,dx,t,_,rfl,q0g hp ht,TC.cl_Wade,TC.no_Wade_word,TC.no_Wade_numbers,?_⟩
  walk_at "rd"
  refine q23 qb TC.cl_Wade TC.no_Wade_height (by show 2<1000;decide) ?_
  walk_at "rd"
  refine q23 qb TC.cl_Wade TC.no_Wade_kind (by show 3<1000;decide) ?_
  rw[q1F,q1F]
  have hpt:p≠t:=ql hp ht
  refine k _ (fun b o hb hbp=>?_) ⟨dx,t,qb,by rw[qj hpt.symm];exact qb⟩
  rw[qj hbp,qj (ql hb ht)]
  exact hb
theorem q1T {H:Hp}{Q:VK}{g:Gt}{x dx:Addr}(hx:H x=none)(hdx:H dx=none)(ne:dx≠x)(k:∀(x:Addr) (H':Hp),Same H H'->H x=none->GObj cs H' x g->Q (.ref x) H'):spMk cs g.word (.ref x::(g.ns.map V.int++[])) (upd (upd H dx (.own x)) x (.ins (q8U cs g) dx [])) (fun v H2=>v= .non/\Q (.ref x) H2) E0:=by
 refine⟨x,dx,g,by rw[List.append_nil],rfl,qb,fun H' hk ho=>⟨rfl,k x H' (fun b o hb=>?_) hx ho⟩⟩
 refine hk b o ?_ (ql hb hx)
 rw[qj (ql hb hx),qj (ql hb hdx)]
 exact hb
theorem q7c (T:Txt mg cs)(L:Laid K mg "gate_of" q2k ["gate"])(C_Plain:Makes P w K mg base 2 "Plain" cs.Plain ["self"] (spMk cs "plain"))(C_Door:Makes P w K mg base 2 "Door" cs.Door ["self","kind"] (spMk cs "door"))(C_Need:Makes P w K mg base 2 "Need" cs.Need ["self","kind"] (spMk cs "need"))
  (C_Bar:Makes P w K mg base 2 "Bar" cs.Bar ["self","bar"] (spMk cs "bar"))(C_Wade:Makes P w K mg base 2 "Wade" cs.Wade ["self","height","kind"] (spMk cs "wade"))(C_Float:Makes P w K mg base 2 "Float" cs.Float ["self","height"] (spMk cs "float")):Cal P w K mg base 4 "gate_of" ["gate"] (qb6 cs):=by
 refine L.cal (k:=3) q3V (fun vs H Q E h=>?_) (fun f cdv A outer s H vs Q E hr h=>?_)
 ·obtain ⟨p,g,rfl,_⟩:=h
  rfl
 ·obtain ⟨p,g,rfl,hp,k⟩:=h
  refine⟨_,(qc (qz (i:=1) q3V.nd rfl (Or.inl rfl) (qu (qi K) (pv 0) qg (fun _ _=>rfl)))
   (qc (qN (qt q04 (pv 1) qA (qq _)) (qf (qk (qbu C_Plain hr (by decide) rfl))) qm)
   (qc (qN (qt q04 (pv 1) qA (qq _)) (qf (qk (q0M C_Door hr (by decide) rfl (qa (qu (qi K) (pv 0) qg (fun _ _=>rfl)) qe)))) qm)
   (qc (qN (qt q04 (pv 1) qA (qq _)) (qf (qk (q0M C_Need hr (by decide) rfl (qa (qu (qi K) (pv 0) qg (fun _ _=>rfl)) qe)))) qm)
   (qc (qN (qt q04 (pv 1) qA (qq _)) (qf (qk (q0M C_Bar hr (by decide) rfl (qa (qu (qi K) (pv 0) qg (fun _ _=>rfl)) qe)))) qm)
   (qc (qN (qt q04 (pv 1) qA (qq _)) (qf (qk (q0M C_Wade hr (by decide) rfl (qa (qu (qi K) (pv 0) qg (fun _ _=>rfl)) (qa (qu (qi K) (pv 0) qg (fun _ _=>rfl)) qe))))) qm)
   (qc (qN (qt q04 (pv 1) qA (qq _)) (qf (qk (q0M C_Float hr (by decide) rfl (qa (qu (qi K) (pv 0) qg (fun _ _=>rfl)) qe)))) qm)
   (qf q0s)))))))),?_⟩
  have hp':=hp
  rw[Gt.vs_eq] at hp'
  walk_at "rd"
  refine ifd (fun h1=>?_) (fun h1=>?_)
  ·cases g<;>first|exact absurd h1 (by simp only[Gt.word];decide +kernel)|skip
   walk_at "rd"
   exact fun x dx hx hdx ne=>q1T hx hdx ne k
  walk_at "rd"
  refine ifd (fun h2=>?_) (fun h2=>?_)
  ·cases g<;>first|exact absurd h2 (by simp only[Gt.word];decide +kernel)|skip
   walk_at "rd"
   exact fun x dx hx hdx ne=>q1T hx hdx ne k
  walk_at "rd"
  refine ifd (fun h3=>?_) (fun h3=>?_)
  ·cases g<;>first|exact absurd h3 (by simp only[Gt.word];decide +kernel)|skip
   walk_at "rd"
   exact fun x dx hx hdx ne=>q1T hx hdx ne k
  walk_at "rd"
  refine ifd (fun h4=>?_) (fun h4=>?_)
  ·cases g<;>first|exact absurd h4 (by simp only[Gt.word];decide +kernel)|skip
   walk_at "rd"
   exact fun x dx hx hdx ne=>q1T hx hdx ne k
  walk_at "rd"
  refine ifd (fun h5=>?_) (fun h5=>?_)
  ·cases g<;>first|exact absurd h5 (by simp only[Gt.word];decide +kernel)|skip
   walk_at "rd"
   exact fun x dx hx hdx ne=>q1T hx hdx ne k
  walk_at "rd"
  refine ifd (fun h6=>?_) (fun h6=>?_)
  ·cases g<;>first|exact absurd h6 (by simp only[Gt.word];decide +kernel)|skip
   walk_at "rd"
   exact fun x dx hx hdx ne=>q1T hx hdx ne k
  cases g
  ·exact absurd rfl h1
  ·exact absurd rfl h2
  ·exact absurd rfl h3
  ·exact absurd rfl h4
  ·exact absurd rfl h5
  ·exact absurd rfl h6
theorem q47 (T:Txt mg cs)(TC:Tcl K cs)(L:LaidM K cs.Plain "lets" "Plain.lets" q0U ["self","held","opened","bars","water"]):VMeth P w K mg base 2 cs.Plain "lets" ["self","held","opened","bars","water"] (q2S cs "plain"):=by
 refine L.vm (k:=1) TC.cl_Plain q4k (fun vs H Q E h=>?_) (fun f cdv A outer s H vs Q E hr h=>?_)
 ·obtain ⟨p,hl,g,fn,op,bars,wt,rfl,_⟩:=h
  rfl
 ·obtain ⟨p,hl,g,fn,op,bars,wt,rfl,hw,ho,ok,hh,k⟩:=h
  obtain⟨dx,q,hp,hq⟩:=ho.ex
  cases g<;>first|exact absurd hw (by simp only[Gt.word];decide +kernel)|skip
  refine⟨_,(qf (qk q1X)),?_⟩
  walk_at "rd"
  exact k
theorem q4R (T:Txt mg cs)(TC:Tcl K cs)(L:LaidM K cs.Door "lets" "Door.lets" q1y ["self","held","opened","bars","water"]):VMeth P w K mg base 2 cs.Door "lets" ["self","held","opened","bars","water"] (q2S cs "door"):=by
 refine L.vm (k:=1) TC.cl_Door q5m (fun vs H Q E h=>?_) (fun f cdv A outer s H vs Q E hr h=>?_)
 ·obtain ⟨p,hl,g,fn,op,bars,wt,rfl,_⟩:=h
  rfl
 ·obtain ⟨p,hl,g,fn,op,bars,wt,rfl,hw,ho,ok,hh,k⟩:=h
  obtain⟨dx,q,hp,hq⟩:=ho.ex
  cases g<;>first|exact absurd hw (by simp only[Gt.word];decide +kernel)|skip
  rename_i n
  refine⟨_,(qf (qk (pv 2))),?_⟩
  walk_at "rd"
  exact k
theorem q4Q (T:Txt mg cs)(TC:Tcl K cs)(L:LaidM K cs.Need "lets" "Need.lets" q1v ["self","held","opened","bars","water"]):VMeth P w K mg base 2 cs.Need "lets" ["self","held","opened","bars","water"] (q2S cs "need"):=by
 refine L.vm (k:=1) TC.cl_Need q5j (fun vs H Q E h=>?_) (fun f cdv A outer s H vs Q E hr h=>?_)
 ·obtain ⟨p,hl,g,fn,op,bars,wt,rfl,_⟩:=h
  rfl
 ·obtain ⟨p,hl,g,fn,op,bars,wt,rfl,hw,ho,ok,hh,k⟩:=h
  obtain⟨dx,q,hp,hq⟩:=ho.ex
  cases g<;>first|exact absurd hw (by simp only[Gt.word];decide +kernel)|skip
  rename_i n
  refine⟨_,(qf (qk (q07 q3s (qu (qK K) (pv 1) (q0b K (pv 0) rfl) (fun _ _=>rfl)) qg (qq _)))),?_⟩
  have ok':0<=n/\n<12:=ok
  walk_at "rd"
  refine q18 hp TC.cl_Need TC.no_Need_kind (qah q n) ?_
  refine q60 (SqL.of hh) (q8W ok'.1 ok'.2) ?_
  walk_at "rd"
  exact k
theorem q5Q (T:Txt mg cs)(TC:Tcl K cs)(L:LaidM K cs.Bar "lets" "Bar.lets" q1N ["self","held","opened","bars","water"])(C_has_bit:Cal P w K mg base 1 "has_bit" ["bits","place"] q5T):VMeth P w K mg base 2 cs.Bar "lets" ["self","held","opened","bars","water"] (q2S cs "bar"):=by
 refine L.vm (k:=1) TC.cl_Bar q5Y (fun vs H Q E h=>?_) (fun f cdv A outer s H vs Q E hr h=>?_)
 ·obtain ⟨p,hl,g,fn,op,bars,wt,rfl,_⟩:=h
  rfl
 ·obtain ⟨p,hl,g,fn,op,bars,wt,rfl,hw,ho,ok,hh,k⟩:=h
  obtain⟨dx,q,hp,hq⟩:=ho.ex
  cases g<;>first|exact absurd hw (by simp only[Gt.word];decide +kernel)|skip
  rename_i n
  refine⟨_,(qf (qk (qp C_has_bit hr (by decide) rfl (qa (pv 3) (qa (q0b K (pv 0) rfl) qe))))),?_⟩
  have ok':0<=n/\n<8:=ok
  walk_at "rd"
  refine q18 hp TC.cl_Bar TC.no_Bar_bar (qbY q n) ?_
  walk_at "rd"
  exact⟨bars,n,rfl,ok'.1,k⟩
theorem q4P (T:Txt mg cs)(TC:Tcl K cs)(L:LaidM K cs.Wade "lets" "Wade.lets" q1k ["self","held","opened","bars","water"]):VMeth P w K mg base 2 cs.Wade "lets" ["self","held","opened","bars","water"] (q2S cs "wade"):=by
 refine L.vm (k:=1) TC.cl_Wade q59 (fun vs H Q E h=>?_) (fun f cdv A outer s H vs Q E hr h=>?_)
 ·obtain ⟨p,hl,g,fn,op,bars,wt,rfl,_⟩:=h
  rfl
 ·obtain ⟨p,hl,g,fn,op,bars,wt,rfl,hw,ho,ok,hh,k⟩:=h
  obtain⟨dx,q,hp,hq⟩:=ho.ex
  cases g<;>first|exact absurd hw (by simp only[Gt.word];decide +kernel)|skip
  rename_i n1 n2
  refine⟨_,(qf (qk (pe_or (q07 qbw (pv 4) (q0b K (pv 0) rfl) (qq _)) (q3Y (q07 q3s (qu (qK K) (pv 1) (q0b K (pv 0) rfl) (fun _ _=>rfl)) qg (qq _)))))),?_⟩
  have ok':(0<=n1/\n1<10)/\0<=n2/\n2<12:=ok
  walk_at "rd"
  refine q18 hp TC.cl_Wade TC.no_Wade_height (qag q n1 n2) ?_
  walk_at "rd"
  have k':Q (.bl (decide (wt<=n1)||decide (0<fn n2))) H:=k
  refine ifd (fun h1=>?_) (fun h1=>?_)
  ·rw [decide_eq_true h1,Bool.true_or] at k'
   exact k'
  ·rw [decide_eq_false h1,Bool.false_or] at k'
   walk_at "rd"
   refine q18 hp TC.cl_Wade TC.no_Wade_kind (qaf q n1 n2) ?_
   refine q60 (SqL.of hh) (q8W ok'.2.1 ok'.2.2) ?_
   walk_at "rd"
   exact k'
theorem q48 (T:Txt mg cs)(TC:Tcl K cs)(L:LaidM K cs.Float "lets" "Float.lets" q0W ["self","held","opened","bars","water"]):VMeth P w K mg base 2 cs.Float "lets" ["self","held","opened","bars","water"] (q2S cs "float"):=by
 refine L.vm (k:=1) TC.cl_Float q4m (fun vs H Q E h=>?_) (fun f cdv A outer s H vs Q E hr h=>?_)
 ·obtain ⟨p,hl,g,fn,op,bars,wt,rfl,_⟩:=h
  rfl
 ·obtain ⟨p,hl,g,fn,op,bars,wt,rfl,hw,ho,ok,hh,k⟩:=h
  obtain⟨dx,q,hp,hq⟩:=ho.ex
  cases g<;>first|exact absurd hw (by simp only[Gt.word];decide +kernel)|skip
  rename_i n
  refine⟨_,(qf (qk (q07 op_ge (pv 4) (q0b K (pv 0) rfl) (qq _)))),?_⟩
  walk_at "rd"
  refine q18 hp TC.cl_Float TC.no_Float_height (q8A q n) ?_
  walk_at "rd"
  exact k
end
def dcls (cs:Cs):Wd->Addr
 | .go=>cs.Go
 | .pull=>cs.Pull
 | .take=>cs.Take
 | .turn=>cs.Turn
 | .unlock=>cs.Unlock
def dfl (d:Wd)(n:Int):List (Str×V):=putF "part" (.int d.part) (putF "number" (.int n) (putF "word" (.str d.str) []))
theorem qc4 (d:Wd)(n:Int):(dfl d n).lookup ("word":Str)=some (.str d.str):=by
 unfold dfl;simp only[qE];repeat (first|rw[if_pos rfl]|rw[if_pos trivial]|rw[if_neg (by decide +kernel)])
theorem q01 (d:Wd)(n:Int):(dfl d n).lookup ("number":Str)=some (.int n):=by
 unfold dfl;simp only[qE];repeat (first|rw[if_pos rfl]|rw[if_pos trivial]|rw[if_neg (by decide +kernel)])
theorem q8J (d:Wd)(n:Int):(dfl d n).lookup ("part":Str)=some (.int d.part):=by
 unfold dfl;simp only[qE];repeat (first|rw[if_pos rfl]|rw[if_pos trivial]|rw[if_neg (by decide +kernel)])
theorem q3C (d:Wd)(n:Int){m:Str}(h1:m≠"part")(h2:m≠"number")(h3:m≠"word"):(dfl d n).lookup m=none:=by
 unfold dfl;simp only[qE];rw[if_neg h1,if_neg h2,if_neg h3];rfl
theorem qaM (d:Wd)(n:Int):(dfl d n).lookup ("can":Str)=none:=q3C d n (by decide +kernel) (by decide +kernel) (by decide +kernel)
theorem qc5 (d:Wd)(n:Int):(dfl d n).lookup ("fits":Str)=none:=q3C d n (by decide +kernel) (by decide +kernel) (by decide +kernel)
theorem q8K (d:Wd)(n:Int):(dfl d n).lookup ("done":Str)=none:=q3C d n (by decide +kernel) (by decide +kernel) (by decide +kernel)
theorem q8I (d:Wd)(n:Int):(dfl d n).lookup ("told":Str)=none:=q3C d n (by decide +kernel) (by decide +kernel) (by decide +kernel)
theorem q2Y (d:Wd)(n:Int):(dfl d n).lookup ("own_part":Str)=none:=q3C d n (by decide +kernel) (by decide +kernel) (by decide +kernel)
structure DObj (cs:Cs)(H:Hp)(p:Addr)(d:Wd)(n:Int):Prop where
 ex:∃dx,H p=some (.ins (dcls cs d) dx (dfl d n))
theorem DObj.mono {cs:Cs}{H H':Hp}{p:Addr}{d:Wd}{n:Int}(s:Same H H')(h:DObj cs H p d n):DObj cs H' p d n:=let ⟨dx,h1⟩:=h.ex;⟨dx,s _ _ h1⟩
structure DCl (K:W.Frag)(cs:Cs)(d:Wd):Prop where
 cl:Cls K (dcls cs d)
 nw:qy K (dcls cs d) "word"
 nn:qy K (dcls cs d) "number"
 np:qy K (dcls cs d) "part"
theorem q27 {K:W.Frag}{cs:Cs}(TC:Tcl K cs)(d:Wd):DCl K cs d:=by
 cases d
 ·exact ⟨TC.cl_Go,TC.no_Go_word,TC.no_Go_number,TC.no_Go_part⟩
 ·exact ⟨TC.cl_Pull,TC.no_Pull_word,TC.no_Pull_number,TC.no_Pull_part⟩
 ·exact ⟨TC.cl_Take,TC.no_Take_word,TC.no_Take_number,TC.no_Take_part⟩
 ·exact ⟨TC.cl_Turn,TC.no_Turn_word,TC.no_Turn_number,TC.no_Turn_part⟩
 ·exact ⟨TC.cl_Unlock,TC.no_Unlock_word,TC.no_Unlock_number,TC.no_Unlock_part⟩
def RowAt (H:Hp)(C:Cl)(i:Nat)(r:Addr):Wd->Prop
 | .go=>∃x,C.ways[i]? =some x/\q4H H r x
 | .pull=>∃x,C.levers[i]? =some x/\q1e H r x
 | .take=>∃x,C.things[i]? =some x/\q1e H r x
 | .turn=>∃x,C.wheels[i]? =some x/\q1e H r x
 | .unlock=>∃x,C.ways[i]? =some x/\q4H H r x
def q2g:Sp:=fun vs H Q _=>∃n a b:Int,vs=[.int n,.int a,.int b]/\Q (.bl (decide (a<=n)&&decide (n<=b))) H
def q4e:Sp:=fun vs H Q _=>∃(r:Addr) (x:Way) (rm:Int),vs=[.ref r,.int rm]/\q4H H r x/\Q (.bl (q2u x rm)) H
def q5S:Sp:=fun vs H Q _=>∃(q:Addr) (s:Sd) (j:Nat) (n:Int),vs=[.ref q,.int j,.int n]/\j<5/\H q=some (.tup s.vs)/\∀(r:Addr) (H':Hp),Same H H'->H' r=some (.tup (s.vs.set j (.int n)))->Q (.ref r) H'
def q29 (K:W.Frag):Sp:=fun vs H Q _=>∃(p C dx:Addr) (z:Str) (n t:Int),vs=[.ref p,.str z,.int n,.int t]/\H p=some (.ins C dx [])/\Cls K C/\qy K C "word"/\qy K C "number"/\qy K C "part"/\Q .non (upd H p (.ins C dx (putF "part" (.int t) (putF "number" (.int n) (putF "word" (.str z) [])))))
def q0Q (cs:Cs)(d:Wd):Sp:=fun vs H Q _=>∃(p dx:Addr) (n:Int),vs=[.ref p,.int n]/\H p=some (.ins (dcls cs d) dx [])/\∀H',(∀b o,H b=some o->b≠p->H' b=some o)->DObj cs H' p d n->Q .non H'
def q3K (cs:Cs)(d:Wd):Sp:=fun vs H Q _=>∃(p c:Addr) (C:Cl) (i:Nat),vs=[.ref p,.ref c]/\DObj cs H p d i/\ClAt H c C/\i<C.num d/\∀r,RowAt H C i r d->Q (.ref r) H
def q3j (cs:Cs)(d:Wd):Sp:=fun vs H Q _=>∃(p c q:Addr) (C:Cl) (s:Sd) (i:Nat),vs=[.ref p,.ref c,.ref q]/\DObj cs H p d i/\ClAt H c C/\ClOk C/\H q=some (.tup s.vs)/\s.ok C/\i<C.num d/\∀H',Same H H'->Q (.bl (canB C s i d)) H'
def q9k (cs:Cs)(d:Wd):Sp:=fun vs H Q _=>∃(p c q:Addr) (C:Cl) (s:Sd) (n:Int),vs=[.ref p,.ref c,.ref q]/\DObj cs H p d n/\ClAt H c C/\ClOk C/\H q=some (.tup s.vs)/\s.ok C/\∀H',Same H H'->Q (.bl (canD C s d n)) H'
def q2T (cs:Cs)(d:Wd):Sp:=fun vs H Q _=>∃(p c q:Addr) (C:Cl) (s:Sd) (n:Int),vs=[.ref p,.ref c,.ref q]/\DObj cs H p d n/\ClAt H c C/\ClOk C/\H q=some (.tup s.vs)/\s.ok C/\canD C s d n=true/\∀(r:Addr) (H':Hp),Same H H'->H' r=some (.tup (q0o C s d n).vs)->Q (.ref r) H'
def q4f (cs:Cs)(d:Wd):Sp:=fun vs H Q _=>∃(p:Addr) (n:Int),vs=[.ref p]/\DObj cs H p d n/\∀(r:Addr) (H':Hp),Same H H'->H' r=some (.tup [.str d.str,.int n])->Q (.ref r) H'
def qb8 (cs:Cs):Sp:=fun vs H Q _=>∃(t:Addr) (d:Wd) (n:Int),vs=[.ref t]/\H t=some (.tup [.str d.str,.int n])/\∀(x:Addr) (H':Hp),Same H H'->H x=none->DObj cs H' x d n->Q (.ref x) H'
section
variable {P:Program}{w:World}{K:W.Frag}{mg:Str->Option Value}{base:Heap}{cs:Cs}
theorem q86 (T:Txt mg cs)(L:Laid K mg "within" q35 ["number","least","most"]):Cal P w K mg base 1 "within" ["number","least","most"] q2g:=by
 refine L.cal (k:=0) q7O (fun vs H Q E h=>?_) (fun f cdv A outer s H vs Q E hr h=>?_)
 ·obtain ⟨n,a,b,rfl,_⟩:=h
  rfl
 ·obtain ⟨n,a,b,rfl,k⟩:=h
  refine⟨_,(qc (qN (PW.pt (q1W (q0l (qB q0O rfl T.n_isinstance qZ (qa (pv 0) (qa (q2b (v:= .ty "bool") rfl T.n_bool q95 rfl) qe)))) (q19 (q1a (q0l (qB q0O rfl T.n_isinstance qZ (qa (pv 0) (qa (q2b (v:= .ty "int") rfl T.n_int q94 rfl) qe)))))))) (qf (qk q1X)) qm)
   (qf (qk (q9G qbw qbw (pv 1) (pv 0) (pv 2))))),?_⟩
  walk_at "rd"
  refine ifd (fun h=>?_) (fun h=>?_)
  ·walk_at "rd"
   rw[decide_eq_true h,Bool.true_and] at k
   exact k
  ·rw [decide_eq_false h,Bool.false_and] at k
   exact k
theorem q9P (T:Txt mg cs)(L:Laid K mg "can_enter" q1i ["way","room"]):Cal P w K mg base 1 "can_enter" ["way","room"] q4e:=by
 obtain⟨t1,e_WAY_A⟩:=T.e_WAY_A
 obtain⟨t2,e_WAY_B⟩:=T.e_WAY_B
 obtain⟨t3,e_WAY_BACK⟩:=T.e_WAY_BACK
 refine L.cal (k:=0) q57 (fun vs H Q E h=>?_) (fun f cdv A outer s H vs Q E hr h=>?_)
 ·obtain ⟨r,x,rm,rfl,_⟩:=h
  rfl
 ·obtain ⟨r,x,rm,rfl,hW,k⟩:=h
  obtain⟨g,hr1,hg⟩:=hW
  unfold q2u at k
  refine⟨_,(qf (qk (pe_or (q07 q04 (pv 1) (qu (qi K) (pv 0) (qh (v:= .int 0) rfl e_WAY_A ⟨_,rfl⟩) (fun _ _=>rfl)) (qq _)) (q3Y (q6y (q07 q04 (pv 1) (qu (qi K) (pv 0) (qh (v:= .int 1) rfl e_WAY_B ⟨_,rfl⟩) (fun _ _=>rfl)) (qq _)) (q3Y (qu (qi K) (pv 0) (qh (v:= .int 3) rfl e_WAY_BACK ⟨_,rfl⟩) (fun _ _=>rfl)))))))),?_⟩
  walk_at "rd"
  refine ifd (fun h=>?_) (fun h=>?_)
  ·rw [decide_eq_true h,Bool.true_or] at k
   exact k
  ·rw [decide_eq_false h,Bool.false_or] at k
   walk_at "rd"
   refine ifd (fun h=>?_) (fun h=>?_)
   ·rw [decide_eq_true h,Bool.true_and] at k
    walk_at "rd"
    exact k
   ·rw [decide_eq_false h,Bool.false_and] at k
    exact k
theorem q7f (T:Txt mg cs)(L:Laid K mg "changed" q2m ["parts","place","part"]):Cal P w K mg base 1 "changed" ["parts","place","part"] q5S:=by
 refine L.cal (k:=0) q73 (fun vs H Q E h=>?_) (fun f cdv A outer s H vs Q E hr h=>?_)
 ·obtain ⟨q,s,j,n,rfl,_⟩:=h
  rfl
 ·obtain ⟨q,st,j,n,rfl,hj,hq,k⟩:=h
  have big:=qT
  refine⟨_,(qf (qk (qw (q6z K) (qw (q6z K) (q4r (q4i K) (pv 0) q62 (q61 (pv 1))) (qS (qa (pv 2) qe))) (q4r (q4i K) (pv 0) (q61 (qw q1c (pv 1) qg)) q62)))),?_⟩
  obtain rfl|rfl|rfl|rfl|rfl:j=0\/j=1\/j=2\/j=3\/j=4:=by omega
  ·walk_at "rd"
   refine⟨q,_,rfl,SqT.of hq,fun e=>absurd (show(0:Nat)=5 from congrArg List.length e) (by decide),fun t1 ht1=>?_⟩
   have s1:=Same.upd (o:= .tup (cutV st.vs none (some ((0:Nat):Int)))) ht1
   have h1:(upd H t1 (.tup (cutV st.vs none (some ((0:Nat):Int))))) t1=some (.tup []):=qb
   generalize upd H t1 (.tup (cutV st.vs none (some ((0:Nat):Int))))=H1 at s1 h1 ⊢
   walk_at "rd"
   intro t2 ht2
   have s2:=Same.upd (o:= .tup [.int n]) ht2
   have h2:=qb (H:=H1) (a:=t2) (o:= .tup [.int n])
   have h12:=s2 _ _ h1
   generalize upd H1 t2 (.tup [.int n])=H2 at s2 h2 h12 ⊢
   refine qbj (SqT.of h12) (SqT.of h2) (by show 1<=sizeLine;omega) ?_
   have hq2:=s2 _ _ (s1 _ _ hq)
   walk_at "rd"
   refine⟨q,_,rfl,SqT.of hq2,fun e=>absurd (show(4:Nat)=5 from congrArg List.length e) (by decide),fun t3 ht3=>?_⟩
   have s3:=Same.upd (o:= .tup (cutV st.vs (some (((0:Nat):Int)+1)) none)) ht3
   have h3:(upd H2 t3 (.tup (cutV st.vs (some (((0:Nat):Int)+1)) none))) t3=some (.tup [.int st.tk,.int st.op,.int st.b,.int st.wt]):=qb
   generalize upd H2 t3 (.tup (cutV st.vs (some (((0:Nat):Int)+1)) none))=H3 at s3 h3 ⊢
   refine q1K (SqT.of (s3 _ _ h2)) (SqT.of h3) rfl fun t4 ht4=>?_
   exact k t4 _ (((s1.trans s2).trans s3).trans (Same.upd ht4)) qb
  ·walk_at "rd"
   refine⟨q,_,rfl,SqT.of hq,fun e=>absurd (show(1:Nat)=5 from congrArg List.length e) (by decide),fun t1 ht1=>?_⟩
   have s1:=Same.upd (o:= .tup (cutV st.vs none (some ((1:Nat):Int)))) ht1
   have h1:(upd H t1 (.tup (cutV st.vs none (some ((1:Nat):Int))))) t1=some (.tup [.int st.rm]):=qb
   generalize upd H t1 (.tup (cutV st.vs none (some ((1:Nat):Int))))=H1 at s1 h1 ⊢
   walk_at "rd"
   intro t2 ht2
   have s2:=Same.upd (o:= .tup [.int n]) ht2
   have h2:=qb (H:=H1) (a:=t2) (o:= .tup [.int n])
   have h12:=s2 _ _ h1
   generalize upd H1 t2 (.tup [.int n])=H2 at s2 h2 h12 ⊢
   refine q1K (SqT.of h12) (SqT.of h2) rfl fun t5 ht5=>?_
   have s5:=Same.upd (o:= .tup [.int st.rm,.int n]) ht5
   have h5:=qb (H:=H2) (a:=t5) (o:= .tup [.int st.rm,.int n])
   have hq2:=s5 _ _ (s2 _ _ (s1 _ _ hq))
   show(tSl _ _ _ _) _ (upd H2 t5 (.tup [.int st.rm,.int n])) _
   generalize upd H2 t5 (.tup [.int st.rm,.int n])=H5 at s5 h5 hq2 ⊢
   walk_at "rd"
   refine⟨q,_,rfl,SqT.of hq2,fun e=>absurd (show(3:Nat)=5 from congrArg List.length e) (by decide),fun t3 ht3=>?_⟩
   have s3:=Same.upd (o:= .tup (cutV st.vs (some (((1:Nat):Int)+1)) none)) ht3
   have h3:(upd H5 t3 (.tup (cutV st.vs (some (((1:Nat):Int)+1)) none))) t3=some (.tup [.int st.op,.int st.b,.int st.wt]):=qb
   generalize upd H5 t3 (.tup (cutV st.vs (some (((1:Nat):Int)+1)) none))=H3 at s3 h3 ⊢
   refine q1K (SqT.of (s3 _ _ h5)) (SqT.of h3) rfl fun t4 ht4=>?_
   exact k t4 _ ((((s1.trans s2).trans s5).trans s3).trans (Same.upd ht4)) qb
  ·walk_at "rd"
   refine⟨q,_,rfl,SqT.of hq,fun e=>absurd (show(2:Nat)=5 from congrArg List.length e) (by decide),fun t1 ht1=>?_⟩
   have s1:=Same.upd (o:= .tup (cutV st.vs none (some ((2:Nat):Int)))) ht1
   have h1:(upd H t1 (.tup (cutV st.vs none (some ((2:Nat):Int))))) t1=some (.tup [.int st.rm,.int st.tk]):=qb
   generalize upd H t1 (.tup (cutV st.vs none (some ((2:Nat):Int))))=H1 at s1 h1 ⊢
   walk_at "rd"
   intro t2 ht2
   have s2:=Same.upd (o:= .tup [.int n]) ht2
   have h2:=qb (H:=H1) (a:=t2) (o:= .tup [.int n])
   have h12:=s2 _ _ h1
   generalize upd H1 t2 (.tup [.int n])=H2 at s2 h2 h12 ⊢
   refine q1K (SqT.of h12) (SqT.of h2) rfl fun t5 ht5=>?_
   have s5:=Same.upd (o:= .tup [.int st.rm,.int st.tk,.int n]) ht5
   have h5:=qb (H:=H2) (a:=t5) (o:= .tup [.int st.rm,.int st.tk,.int n])
   have hq2:=s5 _ _ (s2 _ _ (s1 _ _ hq))
   show(tSl _ _ _ _) _ (upd H2 t5 (.tup [.int st.rm,.int st.tk,.int n])) _
   generalize upd H2 t5 (.tup [.int st.rm,.int st.tk,.int n])=H5 at s5 h5 hq2 ⊢
   walk_at "rd"
   refine⟨q,_,rfl,SqT.of hq2,fun e=>absurd (show(2:Nat)=5 from congrArg List.length e) (by decide),fun t3 ht3=>?_⟩
   have s3:=Same.upd (o:= .tup (cutV st.vs (some (((2:Nat):Int)+1)) none)) ht3
   have h3:(upd H5 t3 (.tup (cutV st.vs (some (((2:Nat):Int)+1)) none))) t3=some (.tup [.int st.b,.int st.wt]):=qb
   generalize upd H5 t3 (.tup (cutV st.vs (some (((2:Nat):Int)+1)) none))=H3 at s3 h3 ⊢
   refine q1K (SqT.of (s3 _ _ h5)) (SqT.of h3) rfl fun t4 ht4=>?_
   exact k t4 _ ((((s1.trans s2).trans s5).trans s3).trans (Same.upd ht4)) qb
  ·walk_at "rd"
   refine⟨q,_,rfl,SqT.of hq,fun e=>absurd (show(3:Nat)=5 from congrArg List.length e) (by decide),fun t1 ht1=>?_⟩
   have s1:=Same.upd (o:= .tup (cutV st.vs none (some ((3:Nat):Int)))) ht1
   have h1:(upd H t1 (.tup (cutV st.vs none (some ((3:Nat):Int))))) t1=some (.tup [.int st.rm,.int st.tk,.int st.op]):=qb
   generalize upd H t1 (.tup (cutV st.vs none (some ((3:Nat):Int))))=H1 at s1 h1 ⊢
   walk_at "rd"
   intro t2 ht2
   have s2:=Same.upd (o:= .tup [.int n]) ht2
   have h2:=qb (H:=H1) (a:=t2) (o:= .tup [.int n])
   have h12:=s2 _ _ h1
   generalize upd H1 t2 (.tup [.int n])=H2 at s2 h2 h12 ⊢
   refine q1K (SqT.of h12) (SqT.of h2) rfl fun t5 ht5=>?_
   have s5:=Same.upd (o:= .tup [.int st.rm,.int st.tk,.int st.op,.int n]) ht5
   have h5:=qb (H:=H2) (a:=t5) (o:= .tup [.int st.rm,.int st.tk,.int st.op,.int n])
   have hq2:=s5 _ _ (s2 _ _ (s1 _ _ hq))
   show(tSl _ _ _ _) _ (upd H2 t5 (.tup [.int st.rm,.int st.tk,.int st.op,.int n])) _
   generalize upd H2 t5 (.tup [.int st.rm,.int st.tk,.int st.op,.int n])=H5 at s5 h5 hq2 ⊢
   walk_at "rd"
   refine⟨q,_,rfl,SqT.of hq2,fun e=>absurd (show(1:Nat)=5 from congrArg List.length e) (by decide),fun t3 ht3=>?_⟩
   have s3:=Same.upd (o:= .tup (cutV st.vs (some (((3:Nat):Int)+1)) none)) ht3
   have h3:(upd H5 t3 (.tup (cutV st.vs (some (((3:Nat):Int)+1)) none))) t3=some (.tup [.int st.wt]):=qb
   generalize upd H5 t3 (.tup (cutV st.vs (some (((3:Nat):Int)+1)) none))=H3 at s3 h3 ⊢
   refine q1K (SqT.of (s3 _ _ h5)) (SqT.of h3) rfl fun t4 ht4=>?_
   exact k t4 _ ((((s1.trans s2).trans s5).trans s3).trans (Same.upd ht4)) qb
  ·walk_at "rd"
   refine⟨q,_,rfl,SqT.of hq,fun e=>absurd (show(4:Nat)=5 from congrArg List.length e) (by decide),fun t1 ht1=>?_⟩
   have s1:=Same.upd (o:= .tup (cutV st.vs none (some ((4:Nat):Int)))) ht1
   have h1:(upd H t1 (.tup (cutV st.vs none (some ((4:Nat):Int))))) t1=some (.tup [.int st.rm,.int st.tk,.int st.op,.int st.b]):=qb
   generalize upd H t1 (.tup (cutV st.vs none (some ((4:Nat):Int))))=H1 at s1 h1 ⊢
   walk_at "rd"
   intro t2 ht2
   have s2:=Same.upd (o:= .tup [.int n]) ht2
   have h2:=qb (H:=H1) (a:=t2) (o:= .tup [.int n])
   have h12:=s2 _ _ h1
   generalize upd H1 t2 (.tup [.int n])=H2 at s2 h2 h12 ⊢
   refine q1K (SqT.of h12) (SqT.of h2) rfl fun t5 ht5=>?_
   have s5:=Same.upd (o:= .tup [.int st.rm,.int st.tk,.int st.op,.int st.b,.int n]) ht5
   have h5:=qb (H:=H2) (a:=t5) (o:= .tup [.int st.rm,.int st.tk,.int st.op,.int st.b,.int n])
   have hq2:=s5 _ _ (s2 _ _ (s1 _ _ hq))
   show(tSl _ _ _ _) _ (upd H2 t5 (.tup [.int st.rm,.int st.tk,.int st.op,.int st.b,.int n])) _
   generalize upd H2 t5 (.tup [.int st.rm,.int st.tk,.int st.op,.int st.b,.int n])=H5 at s5 h5 hq2 ⊢
   walk_at "rd"
   refine⟨q,_,rfl,SqT.of hq2,fun e=>absurd (show(0:Nat)=5 from congrArg List.length e) (by decide),fun t3 ht3=>?_⟩
   have s3:=Same.upd (o:= .tup (cutV st.vs (some (((4:Nat):Int)+1)) none)) ht3
   have h3:(upd H5 t3 (.tup (cutV st.vs (some (((4:Nat):Int)+1)) none))) t3=some (.tup []):=qb
   generalize upd H5 t3 (.tup (cutV st.vs (some (((4:Nat):Int)+1)) none))=H3 at s3 h3 ⊢
   refine qbi (SqT.of (s3 _ _ h5)) (SqT.of h3) (by show 5<=sizeLine;omega) ?_
   exact k t5 _ (((s1.trans s2).trans s5).trans s3) (s3 _ _ h5)
theorem q9Q (T:Txt mg cs)(L:LaidC K mg "Deed" "__init__" "Deed.__init__" q1A ["self","word","number","part"]):CCal P w K mg base 1 "Deed" "__init__" ["self","word","number","part"] (q29 K):=by
 refine L.cc (k:=0) q5p (fun vs H Q E h=>?_) (fun f cdv A outer s H vs Q E hr h=>?_)
 ·obtain ⟨p,C,dx,z,n,t,rfl,_⟩:=h
  rfl
 ·obtain ⟨p,C,dx,z,n,t,rfl,hp,cl,nw,nn,np,k⟩:=h
  refine⟨_,(qc (q14 K (pv 0) (pv 1) rfl)
   (qc (q14 K (pv 0) (pv 2) rfl)
   (qf (q14 K (pv 0) (pv 3) rfl)))),?_⟩
  walk_at "rd"
  refine q23 hp cl nw (by decide) ?_
  walk_at "rd"
  refine q23 qb cl nn (by show 1<1000;decide) ?_
  walk_at "rd"
  refine q23 qb cl np (by show 2<1000;decide) ?_
  rw[q1F,q1F]
  exact k
theorem q5s {H:Hp}{Q:VK}{p dx:Addr}{d:Wd}{n:Int}(k:∀H',(∀b o,H b=some o->b≠p->H' b=some o)->DObj cs H' p d n->Q .non H'):Q .non (upd H p (.ins (dcls cs d) dx (putF "part" (.int d.part) (putF "number" (.int n) (putF "word" (.str d.str) []))))):=
 k _ (fun b o hb hbp=>by rw[qj hbp];exact hb) ⟨dx,qb⟩
theorem mk_go (T:Txt mg cs)(TC:Tcl K cs)(L:LaidI K mg "Go" cs.Go "Go.__init__" q2n ["self","number"])(C_Deed_init:CCal P w K mg base 1 "Deed" "__init__" ["self","word","number","part"] (q29 K)):Makes P w K mg base 2 "Go" cs.Go ["self","number"] (q0Q cs .go):=by
 obtain⟨t1,e_WAYS⟩:=T.e_WAYS
 have D:=q27 TC .go
 refine L.makes (k:=1) q74 (fun vs H Q E h=>?_) (fun f cdv A outer s H vs Q E hr h=>?_)
 ·obtain ⟨p,dx,n,rfl,_⟩:=h
  rfl
 ·obtain ⟨p,dx,n,rfl,hp,k⟩:=h
  refine⟨_,(qf (qI (q3p C_Deed_init hr (by decide) rfl (qa (pv 0) (qa qA (qa (pv 1) (qa (qh (v:= .int 3) rfl e_WAYS ⟨_,rfl⟩) qe))))))),?_⟩
  walk_at "rd"
  refine⟨p,_,dx,_,n,_,rfl,hp,D.cl,D.nw,D.nn,D.np,?_⟩
  walk_at "rd"
  exact q5s k
theorem qbK (T:Txt mg cs)(TC:Tcl K cs)(L:LaidI K mg "Pull" cs.Pull "Pull.__init__" q1s ["self","number"])(C_Deed_init:CCal P w K mg base 1 "Deed" "__init__" ["self","word","number","part"] (q29 K)):Makes P w K mg base 2 "Pull" cs.Pull ["self","number"] (q0Q cs .pull):=by
 obtain⟨t1,e_LEVERS⟩:=T.e_LEVERS
 have D:=q27 TC .pull
 refine L.makes (k:=1) q5g (fun vs H Q E h=>?_) (fun f cdv A outer s H vs Q E hr h=>?_)
 ·obtain ⟨p,dx,n,rfl,_⟩:=h
  rfl
 ·obtain ⟨p,dx,n,rfl,hp,k⟩:=h
  refine⟨_,(qf (qI (q3p C_Deed_init hr (by decide) rfl (qa (pv 0) (qa qA (qa (pv 1) (qa (qh (v:= .int 5) rfl e_LEVERS ⟨_,rfl⟩) qe))))))),?_⟩
  walk_at "rd"
  refine⟨p,_,dx,_,n,_,rfl,hp,D.cl,D.nw,D.nn,D.np,?_⟩
  walk_at "rd"
  exact q5s k
theorem qbJ (T:Txt mg cs)(TC:Tcl K cs)(L:LaidI K mg "Take" cs.Take "Take.__init__" q1p ["self","number"])(C_Deed_init:CCal P w K mg base 1 "Deed" "__init__" ["self","word","number","part"] (q29 K)):Makes P w K mg base 2 "Take" cs.Take ["self","number"] (q0Q cs .take):=by
 obtain⟨t1,e_THINGS⟩:=T.e_THINGS
 have D:=q27 TC .take
 refine L.makes (k:=1) q5d (fun vs H Q E h=>?_) (fun f cdv A outer s H vs Q E hr h=>?_)
 ·obtain ⟨p,dx,n,rfl,_⟩:=h
  rfl
 ·obtain ⟨p,dx,n,rfl,hp,k⟩:=h
  refine⟨_,(qf (qI (q3p C_Deed_init hr (by decide) rfl (qa (pv 0) (qa qA (qa (pv 1) (qa (qh (v:= .int 4) rfl e_THINGS ⟨_,rfl⟩) qe))))))),?_⟩
  walk_at "rd"
  refine⟨p,_,dx,_,n,_,rfl,hp,D.cl,D.nw,D.nn,D.np,?_⟩
  walk_at "rd"
  exact q5s k
theorem qbI (T:Txt mg cs)(TC:Tcl K cs)(L:LaidI K mg "Turn" cs.Turn "Turn.__init__" q1m ["self","number"])(C_Deed_init:CCal P w K mg base 1 "Deed" "__init__" ["self","word","number","part"] (q29 K)):Makes P w K mg base 2 "Turn" cs.Turn ["self","number"] (q0Q cs .turn):=by
 obtain⟨t1,e_WHEELS⟩:=T.e_WHEELS
 have D:=q27 TC .turn
 refine L.makes (k:=1) q5b (fun vs H Q E h=>?_) (fun f cdv A outer s H vs Q E hr h=>?_)
 ·obtain ⟨p,dx,n,rfl,_⟩:=h
  rfl
 ·obtain ⟨p,dx,n,rfl,hp,k⟩:=h
  refine⟨_,(qf (qI (q3p C_Deed_init hr (by decide) rfl (qa (pv 0) (qa qA (qa (pv 1) (qa (qh (v:= .int 6) rfl e_WHEELS ⟨_,rfl⟩) qe))))))),?_⟩
  walk_at "rd"
  refine⟨p,_,dx,_,n,_,rfl,hp,D.cl,D.nw,D.nn,D.np,?_⟩
  walk_at "rd"
  exact q5s k
theorem q8c (T:Txt mg cs)(TC:Tcl K cs)(L:LaidI K mg "Unlock" cs.Unlock "Unlock.__init__" q0D ["self","number"])(C_Deed_init:CCal P w K mg base 1 "Deed" "__init__" ["self","word","number","part"] (q29 K)):Makes P w K mg base 2 "Unlock" cs.Unlock ["self","number"] (q0Q cs .unlock):=by
 obtain⟨t1,e_WAYS⟩:=T.e_WAYS
 have D:=q27 TC .unlock
 refine L.makes (k:=1) q3L (fun vs H Q E h=>?_) (fun f cdv A outer s H vs Q E hr h=>?_)
 ·obtain ⟨p,dx,n,rfl,_⟩:=h
  rfl
 ·obtain ⟨p,dx,n,rfl,hp,k⟩:=h
  refine⟨_,(qf (qI (q3p C_Deed_init hr (by decide) rfl (qa (pv 0) (qa qA (qa (pv 1) (qa (qh (v:= .int 3) rfl e_WAYS ⟨_,rfl⟩) qe))))))),?_⟩
  walk_at "rd"
  refine⟨p,_,dx,_,n,_,rfl,hp,D.cl,D.nw,D.nn,D.np,?_⟩
  walk_at "rd"
  exact q5s k
theorem q1d {H:Hp}{Q:VK}{d:Wd}{n:Int}{x dx:Addr}(hx:H x=none)(hdx:H dx=none)(ne:dx≠x)(k:∀(x:Addr) (H':Hp),Same H H'->H x=none->DObj cs H' x d n->Q (.ref x) H'):q0Q cs d (.ref x::([.int n]++[])) (upd (upd H dx (.own x)) x (.ins (dcls cs d) dx [])) (fun v H2=>v= .non/\Q (.ref x) H2) E0:=by
 refine⟨x,dx,n,rfl,qb,fun H' hk ho=>⟨rfl,k x H' (fun b o hb=>?_) hx ho⟩⟩
 refine hk b o ?_ (ql hb hx)
 rw[qj (ql hb hx),qj (ql hb hdx)]
 exact hb
theorem q7e (T:Txt mg cs)(L:Laid K mg "deed_of" q2l ["deed"])(C_Go:Makes P w K mg base 2 "Go" cs.Go ["self","number"] (q0Q cs .go))(C_Pull:Makes P w K mg base 2 "Pull" cs.Pull ["self","number"] (q0Q cs .pull))(C_Take:Makes P w K mg base 2 "Take" cs.Take ["self","number"] (q0Q cs .take))
  (C_Turn:Makes P w K mg base 2 "Turn" cs.Turn ["self","number"] (q0Q cs .turn))(C_Unlock:Makes P w K mg base 2 "Unlock" cs.Unlock ["self","number"] (q0Q cs .unlock)):Cal P w K mg base 4 "deed_of" ["deed"] (qb8 cs):=by
 refine L.cal (k:=3) q3W (fun vs H Q E h=>?_) (fun f cdv A outer s H vs Q E hr h=>?_)
 ·obtain ⟨t,d,n,rfl,_⟩:=h
  rfl
 ·obtain ⟨t,d,n,rfl,ht,k⟩:=h
  refine⟨_,(qc (qz (i:=1) q3W.nd rfl (Or.inl rfl) (qu (qi K) (pv 0) qg (fun _ _=>rfl)))
   (qc (qN (qt q04 (pv 1) qA (qq _)) (qf (qk (q0M C_Go hr (by decide) rfl (qa (qu (qi K) (pv 0) qg (fun _ _=>rfl)) qe)))) qm)
   (qc (qN (qt q04 (pv 1) qA (qq _)) (qf (qk (q0M C_Pull hr (by decide) rfl (qa (qu (qi K) (pv 0) qg (fun _ _=>rfl)) qe)))) qm)
   (qc (qN (qt q04 (pv 1) qA (qq _)) (qf (qk (q0M C_Take hr (by decide) rfl (qa (qu (qi K) (pv 0) qg (fun _ _=>rfl)) qe)))) qm)
   (qc (qN (qt q04 (pv 1) qA (qq _)) (qf (qk (q0M C_Turn hr (by decide) rfl (qa (qu (qi K) (pv 0) qg (fun _ _=>rfl)) qe)))) qm)
   (qc (qN (qt q04 (pv 1) qA (qq _)) (qf (qk (q0M C_Unlock hr (by decide) rfl (qa (qu (qi K) (pv 0) qg (fun _ _=>rfl)) qe)))) qm)
   (qf q0s))))))),?_⟩
  walk_at "rd"
  refine ifd (fun h1=>?_) (fun h1=>?_)
  ·cases d<;>first|exact absurd h1 (by decide +kernel)|skip
   walk_at "rd"
   exact fun x dx hx hdx ne=>q1d hx hdx ne k
  walk_at "rd"
  refine ifd (fun h2=>?_) (fun h2=>?_)
  ·cases d<;>first|exact absurd h2 (by decide +kernel)|skip
   walk_at "rd"
   exact fun x dx hx hdx ne=>q1d hx hdx ne k
  walk_at "rd"
  refine ifd (fun h3=>?_) (fun h3=>?_)
  ·cases d<;>first|exact absurd h3 (by decide +kernel)|skip
   walk_at "rd"
   exact fun x dx hx hdx ne=>q1d hx hdx ne k
  walk_at "rd"
  refine ifd (fun h4=>?_) (fun h4=>?_)
  ·cases d<;>first|exact absurd h4 (by decide +kernel)|skip
   walk_at "rd"
   exact fun x dx hx hdx ne=>q1d hx hdx ne k
  walk_at "rd"
  refine ifd (fun h5=>?_) (fun h5=>?_)
  ·cases d<;>first|exact absurd h5 (by decide +kernel)|skip
   walk_at "rd"
   exact fun x dx hx hdx ne=>q1d hx hdx ne k
  cases d
  ·exact absurd rfl h1
  ·exact absurd rfl h2
  ·exact absurd rfl h3
  ·exact absurd rfl h4
  ·exact absurd rfl h5
theorem q4O {d:Wd}(L:LaidM K (dcls cs d) "own_part" "Deed.own_part" qx ["self","cellar"])(D:DCl K cs d):VMeth P w K mg base 1 (dcls cs d) "own_part" ["self","cellar"] (q3K cs d):=by
 refine L.vm (k:=0) D.cl q30 (fun vs H Q E h=>?_) (fun f cdv A outer s H vs Q E hr h=>?_)
 ·obtain ⟨p,c,C,i,rfl,_⟩:=h
  rfl
 ·obtain ⟨p,c,C,i,rfl,ho,hC,hi,k⟩:=h
  obtain⟨dx,hp⟩:=ho.ex
  obtain⟨pw,pt,pl,pv',h0,hw,ht,hl,hv⟩:=hC.ex
  refine⟨_,(qf (qk (qu (qi K) (qu (qi K) (pv 1) (q0b K (pv 0) rfl) (fun _ _=>rfl)) (q0b K (pv 0) rfl) (fun _ _=>rfl)))),?_⟩
  walk_at "rd"
  refine q18 hp D.cl D.np (q8J d i) ?_
  cases d
  ·obtain ⟨xs,hx,hxl,hxg⟩:=hw.get
   obtain⟨r,e,hr1⟩:=hxg i hi
   refine q31 (SqT.of h0) (v:= .ref pw) rfl ?_
   walk_at "rd"
   refine q18 hp D.cl D.nn (q01 _ i) ?_
   refine q31 (SqT.of hx) (q0P e) ?_
   exact k r ⟨_,List.getElem?_eq_getElem hi,hr1⟩
  ·obtain ⟨xs,hx,hxl,hxg⟩:=hl.get
   obtain⟨r,e,hr1⟩:=hxg i hi
   refine q31 (SqT.of h0) (v:= .ref pl) rfl ?_
   walk_at "rd"
   refine q18 hp D.cl D.nn (q01 _ i) ?_
   refine q31 (SqT.of hx) (q0P e) ?_
   exact k r ⟨_,List.getElem?_eq_getElem hi,hr1⟩
  ·obtain ⟨xs,hx,hxl,hxg⟩:=ht.get
   obtain⟨r,e,hr1⟩:=hxg i hi
   refine q31 (SqT.of h0) (v:= .ref pt) rfl ?_
   walk_at "rd"
   refine q18 hp D.cl D.nn (q01 _ i) ?_
   refine q31 (SqT.of hx) (q0P e) ?_
   exact k r ⟨_,List.getElem?_eq_getElem hi,hr1⟩
  ·obtain ⟨xs,hx,hxl,hxg⟩:=hv.get
   obtain⟨r,e,hr1⟩:=hxg i hi
   refine q31 (SqT.of h0) (v:= .ref pv') rfl ?_
   walk_at "rd"
   refine q18 hp D.cl D.nn (q01 _ i) ?_
   refine q31 (SqT.of hx) (q0P e) ?_
   exact k r ⟨_,List.getElem?_eq_getElem hi,hr1⟩
  ·obtain ⟨xs,hx,hxl,hxg⟩:=hw.get
   obtain⟨r,e,hr1⟩:=hxg i hi
   refine q31 (SqT.of h0) (v:= .ref pw) rfl ?_
   walk_at "rd"
   refine q18 hp D.cl D.nn (q01 _ i) ?_
   refine q31 (SqT.of hx) (q0P e) ?_
   exact k r ⟨_,List.getElem?_eq_getElem hi,hr1⟩
theorem num_at {H:Hp}{c:Addr}{C:Cl}(hC:ClAt H c C)(d:Wd):∃(vs:List V) (p:Addr) (xs:List V),H c=some (.tup vs)/\atI vs d.part=some (.ref p)/\H p=some (.tup xs)/\xs.length=C.num d/\atI vs 2=some (.int C.lst):=by
 obtain⟨pw,pt,pl,pv',h0,hw,ht,hl,hv⟩:=hC.ex
 cases d
 ·obtain ⟨xs,hx,hxl,_⟩:=hw.get
  exact⟨_,pw,xs,h0,rfl,hx,hxl,rfl⟩
 ·obtain ⟨xs,hx,hxl,_⟩:=hl.get
  exact⟨_,pl,xs,h0,rfl,hx,hxl,rfl⟩
 ·obtain ⟨xs,hx,hxl,_⟩:=ht.get
  exact⟨_,pt,xs,h0,rfl,hx,hxl,rfl⟩
 ·obtain ⟨xs,hx,hxl,_⟩:=hv.get
  exact⟨_,pv',xs,h0,rfl,hx,hxl,rfl⟩
 ·obtain ⟨xs,hx,hxl,_⟩:=hw.get
  exact⟨_,pw,xs,h0,rfl,hx,hxl,rfl⟩
theorem q4Y {d:Wd}(T:Txt mg cs)(L:LaidM K (dcls cs d) "can" "Deed.can" qP ["self","cellar","stand"])(D:DCl K cs d)(C_within:Cal P w K mg base 1 "within" ["number","least","most"] q2g)(vf:VMeth P w K mg base 5 (dcls cs d) "fits" ["self","cellar","stand"] (q3j cs d)):VMeth P w K mg base 6 (dcls cs d) "can" ["self","cellar","stand"] (q9k cs d):=by
 obtain⟨t1,e_ROOM⟩:=T.e_ROOM
 obtain⟨t2,e_LAST⟩:=T.e_LAST
 refine L.vm (k:=5) D.cl q5X (fun vs H Q E h=>?_) (fun f cdv A outer s H vs Q E hr h=>?_)
 ·obtain ⟨p,c,q,C,st,n,rfl,_⟩:=h
  rfl
 ·obtain ⟨p,c,q,C,st,n,rfl,ho,hC,ok,hq,sok,k⟩:=h
  obtain⟨dx,hp⟩:=ho.ex
  obtain⟨vs,pp,xs,h0,hpp,hx,hxl,hlast⟩:=num_at hC d
  have hq':H q=some (.tup [.int st.rm,.int st.tk,.int st.op,.int st.b,.int st.wt]):=hq
  refine⟨_,(qc (qN (PW.pt (q1W (qt q04 (qu (qi K) (pv 2) (qh (v:= .int 0) rfl e_ROOM ⟨_,rfl⟩) (fun _ _=>rfl)) (qu (qi K) (pv 1) (qh (v:= .int 2) rfl e_LAST ⟨_,rfl⟩) (fun _ _=>rfl)) (qq _)) (q19 (q1a (q0l (qp C_within hr (by decide) rfl (qa (q0b K (pv 0) rfl) (qa qg (qa (qw q3r (qB (lenK K) rfl T.n_len q0k (qa (qu (qi K) (pv 1) (q0b K (pv 0) rfl) (fun _ _=>rfl)) qe)) qg) qe))))))))) (qf (qk q1X)) qm)
   (qf (qk (q2G (k:=5) (hr.mono (by decide)) (pv 0) (qa (pv 1) (qa (pv 2) qe)))))),?_⟩
  walk_at "rd"
  refine ifd (fun h1=>?_) (fun h1=>?_)
  ·walk_at "rd"
   have:=k H (Same.refl _)
   rw[q8X h1] at this
   exact this
  walk_at "rd"
  refine q18 hp D.cl D.nn (q01 d n) ?_
  walk_at "rd"
  refine q18 hp D.cl D.np (q8J d n) ?_
  refine q31 (SqT.of h0) hpp ?_
  walk_at "rd"
  refine⟨n,0,_,rfl,?_⟩
  walk_at "rd"
  by_cases hin:0<=n/\n<(C.num d:Int)
  ·have e:(decide (0<=n)&&decide (n<=(xs.length:Int) - 1))=true:=by
    rw[decide_eq_true (p:=0<=n) hin.1,decide_eq_true (p:=n<=(xs.length:Int) - 1) (by rw[hxl];omega)]
    rfl
   rw[e]
   walk_at "rd"
   obtain⟨i,rfl⟩:∃i:Nat,n=(i:Int):=⟨n.toNat,by omega⟩
   refine r_vm hp vf (qc5 d _) ?_
   walk_at "rd"
   refine⟨p,c,q,C,st,i,rfl,ho,hC,ok,hq,sok,by omega,fun H' s'=>?_⟩
   have:=k H' s'
   rw[qcb h1] at this
   exact this
  ·have e:(decide (0<=n)&&decide (n<=(xs.length:Int) - 1))=false:=by
    rw[Bool.and_eq_false_iff]
    by_cases h3:0<=n
    ·right;rw[hxl];exact decide_eq_false (by omega)
    ·left;exact decide_eq_false h3
   rw[e]
   walk_at "rd"
   have:=k H (Same.refl _)
   rw[show canD C st d n=false from by
    by_cases h3:0<=n
    ·exact q6g (by omega)
    ·exact q6P (by omega)] at this
   exact this
theorem q2f {d:Wd}(L:LaidM K (dcls cs d) "told" "Deed.told" qH ["self"])(D:DCl K cs d):VMeth P w K mg base 1 (dcls cs d) "told" ["self"] (q4f cs d):=by
 refine L.vm (k:=0) D.cl q5o (fun vs H Q E h=>?_) (fun f cdv A outer s H vs Q E hr h=>?_)
 ·obtain ⟨p,n,rfl,_⟩:=h
  rfl
 ·obtain ⟨p,n,rfl,ho,k⟩:=h
  obtain⟨dx,hp⟩:=ho.ex
  refine⟨_,(qf (qk (qS (qa (q0b K (pv 0) rfl) (qa (q0b K (pv 0) rfl) qe))))),?_⟩
  walk_at "rd"
  refine q18 hp D.cl D.nw (qc4 d n) ?_
  walk_at "rd"
  refine q18 hp D.cl D.nn (q01 d n) ?_
  walk_at "rd"
  intro r hr1
  exact k r _ (Same.upd hr1) qb
theorem q6S (T:Txt mg cs)(D:DCl K cs .go)(L:LaidM K cs.Go "fits" "Go.fits" q2o ["self","cellar","stand"])(vo:VMeth P w K mg base 1 (dcls cs .go) "own_part" ["self","cellar"] (q3K cs .go))(C_can_enter:Cal P w K mg base 1 "can_enter" ["way","room"] q4e)(C_has_bit:Cal P w K mg base 1 "has_bit" ["bits","place"] q5T)
  (C_gate_of:Cal P w K mg base 4 "gate_of" ["gate"] (qb6 cs))(vl:∀g:Gt,VMeth P w K mg base 2 (q8U cs g) "lets" ["self","held","opened","bars","water"] (q2S cs g.word))(C_held:Cal P w K mg base 2 "held" ["cellar","stand"] q6o):VMeth P w K mg base 5 (dcls cs .go) "fits" ["self","cellar","stand"] (q3j cs .go):=by
 obtain⟨t1,e_ROOM⟩:=T.e_ROOM
 obtain⟨t2,e_OPENED⟩:=T.e_OPENED
 obtain⟨t3,e_WAY_GATE⟩:=T.e_WAY_GATE
 obtain⟨t4,e_BARS⟩:=T.e_BARS
 obtain⟨t5,e_WATER⟩:=T.e_WATER
 refine LaidM.vm (k:=4) L D.cl q2D (fun vs H Q E h=>?_) (fun f cdv A outer s H vs Q E hr h=>?_)
 ·obtain ⟨p,c,q,C,st,i,rfl,_⟩:=h
  rfl
 ·obtain ⟨p,c,q,C,st,i,rfl,ho,hC,ok,hq,sok,hi,k⟩:=h
  obtain⟨dx,hp⟩:=ho.ex
  replace hq:H q=some (.tup [.int st.rm,.int st.tk,.int st.op,.int st.b,.int st.wt]):=hq
  refine⟨_,(qc (qz (i:=3) q2D.nd rfl (Or.inl rfl) (q2G (k:=1) (hr.mono (by decide)) (pv 0) (qa (pv 1) qe)))
   (qc (qN (q1a (q0l (qp C_can_enter hr (by decide) rfl (qa (pv 3) (qa (qu (qi K) (pv 2) (qh (v:= .int 0) rfl e_ROOM ⟨_,rfl⟩) (fun _ _=>rfl)) qe))))) (qf (qk q1X)) qm)
   (qc (qz (i:=4) q2D.nd rfl (Or.inl rfl) (qp C_has_bit hr (by decide) rfl (qa (qu (qi K) (pv 2) (qh (v:= .int 2) rfl e_OPENED ⟨_,rfl⟩) (fun _ _=>rfl)) (qa (q0b K (pv 0) rfl) qe))))
   (qf (qk (q2G (k:=2) (hr.mono (by decide)) (qp C_gate_of hr (by decide) rfl (qa (qu (qi K) (pv 3) (qh (v:= .int 2) rfl e_WAY_GATE ⟨_,rfl⟩) (fun _ _=>rfl)) qe)) (qa (qp C_held hr (by decide) rfl (qa (pv 1) (qa (pv 2) qe))) (qa (pv 4) (qa (qu (qi K) (pv 2) (qh (v:= .int 3) rfl e_BARS ⟨_,rfl⟩) (fun _ _=>rfl)) (qa (qu (qi K) (pv 2) (qh (v:= .int 4) rfl e_WATER ⟨_,rfl⟩) (fun _ _=>rfl)) qe)))))))))),?_⟩
  walk_at "rd"
  refine r_vm hp vo (q2Y _ _) ?_
  walk_at "rd"
  refine⟨p,c,C,i,rfl,ho,hC,hi,fun r hrow=>?_⟩
  obtain⟨x,hx,hW⟩:=hrow
  have xok:=ok.w x (List.mem_of_getElem? hx)
  have ecan:canB C st i .go=(q2u x st.rm&&qa4 x.g (hold C st.tk st.op) (bit st.op i) st.b st.wt):=by simp[canB,hx]
  obtain⟨g,hr1,hg⟩:=id hW
  walk_at "rd"
  refine⟨r,x,st.rm,rfl,hW,?_⟩
  walk_at "rd"
  cases he:q2u x st.rm with
  |false=>
   walk_at "rd"
   have:=k H (Same.refl _)
   rw[ecan,he] at this
   exact this
  |true=>
   walk_at "rd"
   refine q18 hp D.cl D.nn (q01 _ _) ?_
   walk_at "rd"
   refine⟨st.op,i,rfl,by omega,?_⟩
   rw[Int.toNat_natCast]
   walk_at "rd"
   refine⟨g,x.g,rfl,hg,fun o H1 s1 ho0 hob=>?_⟩
   obtain⟨dxo,qo,hpo,hqo⟩:=hob.ex
   have hq1:=s1 _ _ hq
   refine r_vm hpo (vl x.g) (qbX qo x.g) ?_
   walk_at "rd"
   refine⟨c,q,C,st.rm,st.tk,st.op,st.b,st.wt,rfl,hC.mono s1.ts,ok,hq1,sok.dr,fun hl H2 s2 hl0 hl2=>?_⟩
   have hq2:=s2 _ _ hq1
   walk_at "rd"
   refine⟨o,hl,x.g,hold C st.tk st.op,_,_,_,rfl,rfl,hob.mono s2,xok.2.2.2,hl2,?_⟩
   have:=k H2 (s1.trans s2)
   rw[ecan,he,Bool.true_and] at this
   exact this
theorem q4U (T:Txt mg cs)(D:DCl K cs .pull)(L:LaidM K cs.Pull "fits" "Pull.fits" q1t ["self","cellar","stand"])(vo:VMeth P w K mg base 1 (dcls cs .pull) "own_part" ["self","cellar"] (q3K cs .pull)):VMeth P w K mg base 5 (dcls cs .pull) "fits" ["self","cellar","stand"] (q3j cs .pull):=by
 obtain⟨t1,e_ROOM⟩:=T.e_ROOM
 obtain⟨t2,e_PAIR_ROOM⟩:=T.e_PAIR_ROOM
 refine LaidM.vm (k:=4) L D.cl q5h (fun vs H Q E h=>?_) (fun f cdv A outer s H vs Q E hr h=>?_)
 ·obtain ⟨p,c,q,C,st,i,rfl,_⟩:=h
  rfl
 ·obtain ⟨p,c,q,C,st,i,rfl,ho,hC,ok,hq,sok,hi,k⟩:=h
  obtain⟨dx,hp⟩:=ho.ex
  replace hq:H q=some (.tup [.int st.rm,.int st.tk,.int st.op,.int st.b,.int st.wt]):=hq
  refine⟨_,(qf (qk (q07 q04 (qu (qi K) (pv 2) (qh (v:= .int 0) rfl e_ROOM ⟨_,rfl⟩) (fun _ _=>rfl)) (qu (qi K) (q2G (k:=1) (hr.mono (by decide)) (pv 0) (qa (pv 1) qe)) (qh (v:= .int 0) rfl e_PAIR_ROOM ⟨_,rfl⟩) (fun _ _=>rfl)) (qq _)))),?_⟩
  walk_at "rd"
  refine r_vm hp vo (q2Y _ _) ?_
  walk_at "rd"
  refine⟨p,c,C,i,rfl,ho,hC,hi,fun r hrow=>?_⟩
  obtain⟨x,hx,hP⟩:=hrow
  have ecan:canB C st i .pull=decide (st.rm=x.1):=by simp[canB,hx]
  replace hP:H r=some (.tup [.int x.1,.int x.2]):=hP
  walk_at "rd"
  have:=k H (Same.refl _)
  rw[ecan] at this
  exact this
theorem q4T (T:Txt mg cs)(D:DCl K cs .take)(L:LaidM K cs.Take "fits" "Take.fits" q1q ["self","cellar","stand"])(vo:VMeth P w K mg base 1 (dcls cs .take) "own_part" ["self","cellar"] (q3K cs .take))(C_has_bit:Cal P w K mg base 1 "has_bit" ["bits","place"] q5T):VMeth P w K mg base 5 (dcls cs .take) "fits" ["self","cellar","stand"] (q3j cs .take):=by
 obtain⟨t1,e_ROOM⟩:=T.e_ROOM
 obtain⟨t2,e_PAIR_ROOM⟩:=T.e_PAIR_ROOM
 obtain⟨t3,e_TAKEN⟩:=T.e_TAKEN
 refine LaidM.vm (k:=4) L D.cl q5e (fun vs H Q E h=>?_) (fun f cdv A outer s H vs Q E hr h=>?_)
 ·obtain ⟨p,c,q,C,st,i,rfl,_⟩:=h
  rfl
 ·obtain ⟨p,c,q,C,st,i,rfl,ho,hC,ok,hq,sok,hi,k⟩:=h
  obtain⟨dx,hp⟩:=ho.ex
  replace hq:H q=some (.tup [.int st.rm,.int st.tk,.int st.op,.int st.b,.int st.wt]):=hq
  refine⟨_,(qf (qk (q6y (q07 q04 (qu (qi K) (pv 2) (qh (v:= .int 0) rfl e_ROOM ⟨_,rfl⟩) (fun _ _=>rfl)) (qu (qi K) (q2G (k:=1) (hr.mono (by decide)) (pv 0) (qa (pv 1) qe)) (qh (v:= .int 0) rfl e_PAIR_ROOM ⟨_,rfl⟩) (fun _ _=>rfl)) (qq _)) (q3Y (pe_not (qp C_has_bit hr (by decide) rfl (qa (qu (qi K) (pv 2) (qh (v:= .int 1) rfl e_TAKEN ⟨_,rfl⟩) (fun _ _=>rfl)) (qa (q0b K (pv 0) rfl) qe)))))))),?_⟩
  walk_at "rd"
  refine r_vm hp vo (q2Y _ _) ?_
  walk_at "rd"
  refine⟨p,c,C,i,rfl,ho,hC,hi,fun r hrow=>?_⟩
  obtain⟨x,hx,hP⟩:=hrow
  have ecan:canB C st i .take=(decide (st.rm=x.1)&& !bit st.tk i):=by simp[canB,hx]
  replace hP:H r=some (.tup [.int x.1,.int x.2]):=hP
  have k':=k H (Same.refl _)
  rw[ecan] at k'
  walk_at "rd"
  refine ifd (fun h1=>?_) (fun h1=>?_)
  ·rw [decide_eq_true h1,Bool.true_and] at k'
   walk_at "rd"
   refine q18 hp D.cl D.nn (q01 _ _) ?_
   walk_at "rd"
   refine⟨st.tk,i,rfl,by omega,?_⟩
   rw[Int.toNat_natCast]
   walk_at "rd"
   exact k'
  ·rw [decide_eq_false h1,Bool.false_and] at k'
   exact k'
theorem q4S (T:Txt mg cs)(D:DCl K cs .turn)(L:LaidM K cs.Turn "fits" "Turn.fits" q1n ["self","cellar","stand"])(vo:VMeth P w K mg base 1 (dcls cs .turn) "own_part" ["self","cellar"] (q3K cs .turn)):VMeth P w K mg base 5 (dcls cs .turn) "fits" ["self","cellar","stand"] (q3j cs .turn):=by
 obtain⟨t1,e_ROOM⟩:=T.e_ROOM
 obtain⟨t2,e_PAIR_ROOM⟩:=T.e_PAIR_ROOM
 obtain⟨t3,e_WATER⟩:=T.e_WATER
 obtain⟨t4,e_PAIR_NUMBER⟩:=T.e_PAIR_NUMBER
 refine LaidM.vm (k:=4) L D.cl q2U (fun vs H Q E h=>?_) (fun f cdv A outer s H vs Q E hr h=>?_)
 ·obtain ⟨p,c,q,C,st,i,rfl,_⟩:=h
  rfl
 ·obtain ⟨p,c,q,C,st,i,rfl,ho,hC,ok,hq,sok,hi,k⟩:=h
  obtain⟨dx,hp⟩:=ho.ex
  replace hq:H q=some (.tup [.int st.rm,.int st.tk,.int st.op,.int st.b,.int st.wt]):=hq
  refine⟨_,(qc (qz (i:=3) q2U.nd rfl (Or.inl rfl) (q2G (k:=1) (hr.mono (by decide)) (pv 0) (qa (pv 1) qe)))
   (qf (qk (q6y (q07 q04 (qu (qi K) (pv 2) (qh (v:= .int 0) rfl e_ROOM ⟨_,rfl⟩) (fun _ _=>rfl)) (qu (qi K) (pv 3) (qh (v:= .int 0) rfl e_PAIR_ROOM ⟨_,rfl⟩) (fun _ _=>rfl)) (qq _)) (q3Y (q07 q78 (qu (qi K) (pv 2) (qh (v:= .int 4) rfl e_WATER ⟨_,rfl⟩) (fun _ _=>rfl)) (qu (qi K) (pv 3) (qh (v:= .int 1) rfl e_PAIR_NUMBER ⟨_,rfl⟩) (fun _ _=>rfl)) (qq _))))))),?_⟩
  walk_at "rd"
  refine r_vm hp vo (q2Y _ _) ?_
  walk_at "rd"
  refine⟨p,c,C,i,rfl,ho,hC,hi,fun r hrow=>?_⟩
  obtain⟨x,hx,hP⟩:=hrow
  have ecan:canB C st i .turn=(decide (st.rm=x.1)&& !decide (st.wt=x.2)):=by simp[canB,hx]
  replace hP:H r=some (.tup [.int x.1,.int x.2]):=hP
  have k':=k H (Same.refl _)
  rw[ecan] at k'
  walk_at "rd"
  refine ifd (fun h1=>?_) (fun h1=>?_)
  ·rw [decide_eq_true h1,Bool.true_and] at k'
   walk_at "rd"
   exact k'
  ·rw [decide_eq_false h1,Bool.false_and] at k'
   exact k'
theorem q3H (T:Txt mg cs)(D:DCl K cs .unlock)(L:LaidM K cs.Unlock "fits" "Unlock.fits" q0E ["self","cellar","stand"])(vo:VMeth P w K mg base 1 (dcls cs .unlock) "own_part" ["self","cellar"] (q3K cs .unlock))(C_can_enter:Cal P w K mg base 1 "can_enter" ["way","room"] q4e)(C_has_bit:Cal P w K mg base 1 "has_bit" ["bits","place"] q5T)
  (C_held:Cal P w K mg base 2 "held" ["cellar","stand"] q6o):VMeth P w K mg base 5 (dcls cs .unlock) "fits" ["self","cellar","stand"] (q3j cs .unlock):=by
 obtain⟨t1,e_ROOM⟩:=T.e_ROOM
 obtain⟨t2,e_OPENED⟩:=T.e_OPENED
 obtain⟨t3,e_WAY_GATE⟩:=T.e_WAY_GATE
 refine LaidM.vm (k:=4) L D.cl q13 (fun vs H Q E h=>?_) (fun f cdv A outer s H vs Q E hr h=>?_)
 ·obtain ⟨p,c,q,C,st,i,rfl,_⟩:=h
  rfl
 ·obtain ⟨p,c,q,C,st,i,rfl,ho,hC,ok,hq,sok,hi,k⟩:=h
  obtain⟨dx,hp⟩:=ho.ex
  replace hq:H q=some (.tup [.int st.rm,.int st.tk,.int st.op,.int st.b,.int st.wt]):=hq
  refine⟨_,(qc (qz (i:=3) q13.nd rfl (Or.inl rfl) (q2G (k:=1) (hr.mono (by decide)) (pv 0) (qa (pv 1) qe)))
   (qc (qz (i:=4) q13.nd rfl (Or.inl rfl) (qu (qi K) (pv 3) (qh (v:= .int 2) rfl e_WAY_GATE ⟨_,rfl⟩) (fun _ _=>rfl)))
   (qc (qN (PW.pt (q1W (qt q78 (qu (qi K) (pv 4) qg (fun _ _=>rfl)) qA (qq _)) (q1W (q1a (q0l (qp C_can_enter hr (by decide) rfl (qa (pv 3) (qa (qu (qi K) (pv 2) (qh (v:= .int 0) rfl e_ROOM ⟨_,rfl⟩) (fun _ _=>rfl)) qe))))) (q19 (q0l (qp C_has_bit hr (by decide) rfl (qa (qu (qi K) (pv 2) (qh (v:= .int 2) rfl e_OPENED ⟨_,rfl⟩) (fun _ _=>rfl)) (qa (q0b K (pv 0) rfl) qe)))))))) (qf (qk q1X)) qm)
   (qf (qk (q07 q3s (qu (qK K) (qp C_held hr (by decide) rfl (qa (pv 1) (qa (pv 2) qe))) (qu (qi K) (pv 4) qg (fun _ _=>rfl)) (fun _ _=>rfl)) qg (qq _))))))),?_⟩
  walk_at "rd"
  refine r_vm hp vo (q2Y _ _) ?_
  walk_at "rd"
  refine⟨p,c,C,i,rfl,ho,hC,hi,fun r hrow=>?_⟩
  obtain⟨x,hx,hW⟩:=hrow
  have xok:=ok.w x (List.mem_of_getElem? hx)
  obtain⟨g,hr1,hg⟩:=id hW
  have hg':=hg
  rw[Gt.vs_eq] at hg'
  walk_at "rd"
  refine ifn (fun hn=>?_) (fun hn=>?_)
  ·walk_at "rd"
   have hdk:x.g.dk=none:=by
    have:=q4L x.g
    rw[decide_eq_false hn] at this
    cases e:x.g.dk with
    |none=>rfl
    |some k=>rw[e] at this;cases this
   have:=k H (Same.refl _)
   rw[show canB C st i .unlock=false by simp[canB,hx,hdk]] at this
   exact this
  obtain⟨kd,ekd⟩:=q8F hn
  have hk:0<=kd/\kd<12:=by have:=xok.2.2.2;rw[ekd] at this;exact this
  have edk:x.g.dk=some kd:=by rw[ekd];rfl
  have ecan:canB C st i .unlock=((q2u x st.rm&& !bit st.op i)&&decide (0<hold C st.tk st.op kd)):=by simp[canB,hx,edk]
  have hg2:H g=some (.tup [.str "door",.int kd]):=by rw[ekd] at hg;exact hg
  walk_at "rd"
  refine⟨r,x,st.rm,rfl,hW,?_⟩
  walk_at "rd"
  cases he:q2u x st.rm with
  |false=>
   walk_at "rd"
   have:=k H (Same.refl _)
   rw[ecan,he] at this
   exact this
  |true=>
   walk_at "rd"
   refine q18 hp D.cl D.nn (q01 _ _) ?_
   walk_at "rd"
   refine⟨st.op,i,rfl,by omega,?_⟩
   rw[Int.toNat_natCast]
   walk_at "rd"
   cases hb:bit st.op i with
   |true=>
    walk_at "rd"
    have:=k H (Same.refl _)
    rw[ecan,he,hb] at this
    exact this
   |false=>
    walk_at "rd"
    refine⟨c,q,C,st.rm,st.tk,st.op,st.b,st.wt,rfl,hC,ok,hq,sok.dr,fun hl H2 s2 hl0 hl2=>?_⟩
    have hg3:=s2 _ _ hg2
    walk_at "rd"
    refine q60 (SqL.of hl2) (q8W hk.1 hk.2) ?_
    walk_at "rd"
    have:=k H2 s2
    rw[ecan,he,hb] at this
    exact this
theorem q6T (T:Txt mg cs)(D:DCl K cs .go)(L:LaidM K cs.Go "done" "Go.done" q2p ["self","cellar","stand"])(vo:VMeth P w K mg base 1 (dcls cs .go) "own_part" ["self","cellar"] (q3K cs .go))(C_changed:Cal P w K mg base 1 "changed" ["parts","place","part"] q5S):VMeth P w K mg base 2 (dcls cs .go) "done" ["self","cellar","stand"] (q2T cs .go):=by
 obtain⟨t1,e_ROOM⟩:=T.e_ROOM
 obtain⟨t2,e_WAY_A⟩:=T.e_WAY_A
 obtain⟨t3,e_WAY_B⟩:=T.e_WAY_B
 refine LaidM.vm (k:=1) L D.cl q2E (fun vs H Q E h=>?_) (fun f cdv A outer s H vs Q E hr h=>?_)
 ·obtain ⟨p,c,q,C,st,n,rfl,_⟩:=h
  rfl
 ·obtain ⟨p,c,q,C,st,n,rfl,ho,hC,ok,hq,sok,hcan,k⟩:=h
  obtain⟨hl,i,rfl,hi,hcb⟩:=q0p hcan
  obtain⟨dx,hp⟩:=ho.ex
  have hq':H q=some (.tup [.int st.rm,.int st.tk,.int st.op,.int st.b,.int st.wt]):=hq
  refine⟨_,(qc (qz (i:=3) q2E.nd rfl (Or.inl rfl) (q2G (k:=1) (hr.mono (by decide)) (pv 0) (qa (pv 1) qe)))
   (qc (qz (i:=4) q2E.nd rfl (Or.inl rfl) (q1Q (qt q04 (qu (qi K) (pv 2) (qh (v:= .int 0) rfl e_ROOM ⟨_,rfl⟩) (fun _ _=>rfl)) (qu (qi K) (pv 3) (qh (v:= .int 0) rfl e_WAY_A ⟨_,rfl⟩) (fun _ _=>rfl)) (qq _)) (qu (qi K) (pv 3) (qh (v:= .int 1) rfl e_WAY_B ⟨_,rfl⟩) (fun _ _=>rfl)) (qu (qi K) (pv 3) (qh (v:= .int 0) rfl e_WAY_A ⟨_,rfl⟩) (fun _ _=>rfl))))
   (qf (qk (qp C_changed hr (by decide) rfl (qa (pv 2) (qa (qh (v:= .int 0) rfl e_ROOM ⟨_,rfl⟩) (qa (pv 4) qe)))))))),?_⟩
  walk_at "rd"
  refine r_vm hp vo (q2Y _ _) ?_
  walk_at "rd"
  refine⟨p,c,C,i,rfl,ho,hC,hi,fun r hrow=>?_⟩
  obtain⟨x,hx,hW⟩:=hrow
  obtain⟨g,hr1,hg⟩:=id hW
  have edone:q0o C st .go (i:Int)={st with rm:=if st.rm=x.a then x.b else x.a}:=by
   show q2d C st ((i:Int)).toNat .go=_
   rw[Int.toNat_natCast];simp[q2d,hx]
  rw[edone] at k
  walk_at "rd"
  refine ifd (fun h1=>?_) (fun h1=>?_)
  ·rw [if_pos h1] at k
   walk_at "rd"
   exact⟨q,st,0,_,rfl,by decide,hq,fun r H' s' hr'=>k r H' s' hr'⟩
  ·rw [if_neg h1] at k
   walk_at "rd"
   exact⟨q,st,0,_,rfl,by decide,hq,fun r H' s' hr'=>k r H' s' hr'⟩
theorem q4X (T:Txt mg cs)(D:DCl K cs .pull)(L:LaidM K cs.Pull "done" "Pull.done" q1u ["self","cellar","stand"])(vo:VMeth P w K mg base 1 (dcls cs .pull) "own_part" ["self","cellar"] (q3K cs .pull))(C_changed:Cal P w K mg base 1 "changed" ["parts","place","part"] q5S):VMeth P w K mg base 2 (dcls cs .pull) "done" ["self","cellar","stand"] (q2T cs .pull):=by
 obtain⟨t1,e_BARS⟩:=T.e_BARS
 obtain⟨t2,e_PAIR_NUMBER⟩:=T.e_PAIR_NUMBER
 refine LaidM.vm (k:=1) L D.cl q5i (fun vs H Q E h=>?_) (fun f cdv A outer s H vs Q E hr h=>?_)
 ·obtain ⟨p,c,q,C,st,n,rfl,_⟩:=h
  rfl
 ·obtain ⟨p,c,q,C,st,n,rfl,ho,hC,ok,hq,sok,hcan,k⟩:=h
  obtain⟨hl,i,rfl,hi,hcb⟩:=q0p hcan
  obtain⟨dx,hp⟩:=ho.ex
  have hq':H q=some (.tup [.int st.rm,.int st.tk,.int st.op,.int st.b,.int st.wt]):=hq
  refine⟨_,(qf (qk (qp C_changed hr (by decide) rfl (qa (pv 2) (qa (qh (v:= .int 3) rfl e_BARS ⟨_,rfl⟩) (qa (qw op_xor (qu (qi K) (pv 2) (qh (v:= .int 3) rfl e_BARS ⟨_,rfl⟩) (fun _ _=>rfl)) (qu (qi K) (q2G (k:=1) (hr.mono (by decide)) (pv 0) (qa (pv 1) qe)) (qh (v:= .int 1) rfl e_PAIR_NUMBER ⟨_,rfl⟩) (fun _ _=>rfl))) qe)))))),?_⟩
  walk_at "rd"
  refine r_vm hp vo (q2Y _ _) ?_
  walk_at "rd"
  refine⟨p,c,C,i,rfl,ho,hC,hi,fun r hrow=>?_⟩
  obtain⟨x,hx,hP⟩:=hrow
  replace hP:H r=some (.tup [.int x.1,.int x.2]):=hP
  have edone:q0o C st .pull (i:Int)={st with b:=Builtin.bitXor st.b x.2}:=by
   show q2d C st ((i:Int)).toNat .pull=_
   rw[Int.toNat_natCast];simp[q2d,hx]
  rw[edone] at k
  walk_at "rd"
  exact⟨q,st,3,_,rfl,by decide,hq,fun r H' s' hr'=>k r H' s' hr'⟩
theorem q4W (T:Txt mg cs)(D:DCl K cs .take)(L:LaidM K cs.Take "done" "Take.done" q1r ["self","cellar","stand"])(C_changed:Cal P w K mg base 1 "changed" ["parts","place","part"] q5S):VMeth P w K mg base 2 (dcls cs .take) "done" ["self","cellar","stand"] (q2T cs .take):=by
 obtain⟨t1,e_TAKEN⟩:=T.e_TAKEN
 refine LaidM.vm (k:=1) L D.cl q5f (fun vs H Q E h=>?_) (fun f cdv A outer s H vs Q E hr h=>?_)
 ·obtain ⟨p,c,q,C,st,n,rfl,_⟩:=h
  rfl
 ·obtain ⟨p,c,q,C,st,n,rfl,ho,hC,ok,hq,sok,hcan,k⟩:=h
  obtain⟨hl,i,rfl,hi,hcb⟩:=q0p hcan
  obtain⟨dx,hp⟩:=ho.ex
  have hq':H q=some (.tup [.int st.rm,.int st.tk,.int st.op,.int st.b,.int st.wt]):=hq
  have hi8:(i:Int)<8:=by have h2:i<C.things.length:=hi;have:=ok.tl;omega
  have hb:bit st.tk i=false:=by
   have h2:i<C.things.length:=hi
   simp only[canB,List.getElem?_eq_getElem h2,Bool.and_eq_true,Bool.not_eq_true'] at hcb
   exact hcb.2
  have edone:q0o C st .take (i:Int)={st with tk:=st.tk+2 ^ i}:=by
   show q2d C st ((i:Int)).toNat .take=_
   rw[Int.toNat_natCast];rfl
  rw[edone] at k
  refine⟨_,(qf (qk (qp C_changed hr (by decide) rfl (qa (pv 2) (qa (qh (v:= .int 1) rfl e_TAKEN ⟨_,rfl⟩) (qa (qw op_or (qu (qi K) (pv 2) (qh (v:= .int 1) rfl e_TAKEN ⟨_,rfl⟩) (fun _ _=>rfl)) (qw qaH qg (q0b K (pv 0) rfl))) qe)))))),?_⟩
  walk_at "rd"
  refine q18 hp D.cl D.nn (q01 _ _) ?_
  walk_at "rd"
  rw[Int.toNat_natCast,Int.one_mul,q96 hb]
  exact⟨q,st,1,_,rfl,by decide,hq,fun r H' s' hr'=>k r H' s' hr'⟩
theorem q4V (T:Txt mg cs)(D:DCl K cs .turn)(L:LaidM K cs.Turn "done" "Turn.done" q1o ["self","cellar","stand"])(vo:VMeth P w K mg base 1 (dcls cs .turn) "own_part" ["self","cellar"] (q3K cs .turn))(C_changed:Cal P w K mg base 1 "changed" ["parts","place","part"] q5S):VMeth P w K mg base 2 (dcls cs .turn) "done" ["self","cellar","stand"] (q2T cs .turn):=by
 obtain⟨t1,e_WATER⟩:=T.e_WATER
 obtain⟨t2,e_PAIR_NUMBER⟩:=T.e_PAIR_NUMBER
 refine LaidM.vm (k:=1) L D.cl q5c (fun vs H Q E h=>?_) (fun f cdv A outer s H vs Q E hr h=>?_)
 ·obtain ⟨p,c,q,C,st,n,rfl,_⟩:=h
  rfl
 ·obtain ⟨p,c,q,C,st,n,rfl,ho,hC,ok,hq,sok,hcan,k⟩:=h
  obtain⟨hl,i,rfl,hi,hcb⟩:=q0p hcan
  obtain⟨dx,hp⟩:=ho.ex
  refine⟨_,(qf (qk (qp C_changed hr (by decide) rfl (qa (pv 2) (qa (qh (v:= .int 4) rfl e_WATER ⟨_,rfl⟩) (qa (qu (qi K) (q2G (k:=1) (hr.mono (by decide)) (pv 0) (qa (pv 1) qe)) (qh (v:= .int 1) rfl e_PAIR_NUMBER ⟨_,rfl⟩) (fun _ _=>rfl)) qe)))))),?_⟩
  walk_at "rd"
  refine r_vm hp vo (q2Y _ _) ?_
  walk_at "rd"
  refine⟨p,c,C,i,rfl,ho,hC,hi,fun r hrow=>?_⟩
  obtain⟨x,hx,hP⟩:=hrow
  replace hP:H r=some (.tup [.int x.1,.int x.2]):=hP
  have edone:q0o C st .turn (i:Int)={st with wt:=x.2}:=by
   show q2d C st ((i:Int)).toNat .turn=_
   rw[Int.toNat_natCast];simp[q2d,hx]
  rw[edone] at k
  walk_at "rd"
  exact⟨q,st,4,_,rfl,by decide,hq,fun r H' s' hr'=>k r H' s' hr'⟩
theorem q3I (T:Txt mg cs)(D:DCl K cs .unlock)(L:LaidM K cs.Unlock "done" "Unlock.done" q0F ["self","cellar","stand"])(C_changed:Cal P w K mg base 1 "changed" ["parts","place","part"] q5S):VMeth P w K mg base 2 (dcls cs .unlock) "done" ["self","cellar","stand"] (q2T cs .unlock):=by
 obtain⟨t1,e_OPENED⟩:=T.e_OPENED
 refine LaidM.vm (k:=1) L D.cl q3M (fun vs H Q E h=>?_) (fun f cdv A outer s H vs Q E hr h=>?_)
 ·obtain ⟨p,c,q,C,st,n,rfl,_⟩:=h
  rfl
 ·obtain ⟨p,c,q,C,st,n,rfl,ho,hC,ok,hq,sok,hcan,k⟩:=h
  obtain⟨hl,i,rfl,hi,hcb⟩:=q0p hcan
  obtain⟨dx,hp⟩:=ho.ex
  have hq':H q=some (.tup [.int st.rm,.int st.tk,.int st.op,.int st.b,.int st.wt]):=hq
  have hi20:(i:Int)<20:=by have h2:i<C.ways.length:=hi;have:=ok.wl;omega
  have hb:bit st.op i=false:=by
   have h2:i<C.ways.length:=hi
   cases hk:C.ways[i].g.dk with
   |none=>simp[canB,h2,hk] at hcb
   |some kd=>
    simp only[canB,List.getElem?_eq_getElem h2,hk,Bool.and_eq_true,Bool.not_eq_true'] at hcb
    exact hcb.1.2
  have edone:q0o C st .unlock (i:Int)={st with op:=st.op+2 ^ i}:=by
   show q2d C st ((i:Int)).toNat .unlock=_
   rw[Int.toNat_natCast];rfl
  rw[edone] at k
  refine⟨_,(qf (qk (qp C_changed hr (by decide) rfl (qa (pv 2) (qa (qh (v:= .int 2) rfl e_OPENED ⟨_,rfl⟩) (qa (qw op_or (qu (qi K) (pv 2) (qh (v:= .int 2) rfl e_OPENED ⟨_,rfl⟩) (fun _ _=>rfl)) (qw qaH qg (q0b K (pv 0) rfl))) qe)))))),?_⟩
  walk_at "rd"
  refine q18 hp D.cl D.nn (q01 _ _) ?_
  walk_at "rd"
  rw[Int.toNat_natCast,Int.one_mul,q96 hb]
  exact⟨q,st,2,_,rfl,by decide,hq,fun r H' s' hr'=>k r H' s' hr'⟩
end
def DAt (cs:Cs)(H:Hp)(p:Addr)(x:Wd×Nat):Prop:=DObj cs H p x.1 ((x.2:Nat):Int)
def TAt (H:Hp)(p:Addr)(x:Wd×Nat):Prop:=H p=some (.tup [.str x.1.str,.int ((x.2:Nat):Int)])
theorem DAt.mono {cs:Cs}{H H':Hp}(s:Same H H'){p:Addr}{x:Wd×Nat}(h:DAt cs H p x):DAt cs H' p x:=DObj.mono s h
theorem TAt.mono {H H':Hp}(s:q00 H H'){p:Addr}{x:Wd×Nat}(h:TAt H p x):TAt H' p x:=s _ _ h
theorem DAt.put {cs:Cs}{H:Hp}{D:Addr}{xs:List V}{o:HO}(hD:H D=some (.lst xs)){p:Addr}{x:Wd×Nat}(h:DAt cs H p x):DAt cs (upd H D o) p x:=by
 obtain⟨dx,hp⟩:=h.ex
 exact⟨dx,by rw[qj (q2H hp hD (by intro z;cases z))];exact hp⟩
theorem TAt.put {H:Hp}{D:Addr}{xs:List V}{o:HO}(hD:H D=some (.lst xs)){p:Addr}{x:Wd×Nat}(h:TAt H p x):TAt (upd H D o) p x:=q00.lst hD _ _ h
theorem q1C {α:Type}{At:Hp->Addr->α->Prop}{H:Hp}{D x:Addr}{ps:List Addr}{xs:List α}{y:α}(mo:∀q z,At H q z->At (upd H D (.lst (ps.map V.ref++[.ref x]))) q z)(hr:Rows At H ps xs)(hx:At H x y):qV At (upd H D (.lst (ps.map V.ref++[.ref x]))) D (xs++[y]):=
 ⟨ps++[x],by rw[qb,List.map_append];rfl,(hr.mono mo).snoc (mo _ _ hx)⟩
theorem q38 {α:Type}{At:Hp->Addr->α->Prop}{H:Hp}{ps qs:List Addr}{xs ys:List α}(a:Rows At H ps xs)(b:Rows At H qs ys):Rows At H (ps++qs) (xs++ys):=by
 refine⟨by rw[List.length_append,List.length_append,a.1,b.1],fun i p x h1 h2=>?_⟩
 by_cases hi:i<ps.length
 ·rw [List.getElem?_append_left hi] at h1
  rw[List.getElem?_append_left (by rw[<-a.1];exact hi)] at h2
  exact a.2 i p x h1 h2
 ·rw [List.getElem?_append_right (by omega)] at h1
  rw[List.getElem?_append_right (by rw[<-a.1];omega),<-a.1] at h2
  exact b.2 _ p x h1 h2
def q7I (cs:Cs):Sp:=fun vs H Q _=>∃(c:Addr) (C:Cl),vs=[.ref c]/\ClAt H c C/\ClOk C/\∀(l:Addr) (H':Hp),Same H H'->H l=none->qV (DAt cs) H' l (rowD .go C.ways.length)->Q (.ref l) H'
def q7L (cs:Cs):Sp:=fun vs H Q _=>∃(c:Addr) (C:Cl),vs=[.ref c]/\ClAt H c C/\ClOk C/\∀(l:Addr) (H':Hp),Same H H'->H l=none->qV (DAt cs) H' l (allD C)->Q (.ref l) H'
def q6p (cs:Cs):Sp:=fun vs H Q _=>∃(c q:Addr) (C:Cl) (s:Sd),vs=[.ref c,.ref q]/\ClAt H c C/\ClOk C/\H q=some (.tup s.vs)/\s.ok C/\∀(l:Addr) (H':Hp),Same H H'->H l=none->qV (DAt cs) H' l (fitD C s)->Q (.ref l) H'
def q3k:Sp:=fun vs H Q _=>∃(c q:Addr) (C:Cl) (s:Sd),vs=[.ref c,.ref q]/\ClAt H c C/\ClOk C/\H q=some (.tup s.vs)/\s.ok C/\∀(l:Addr) (H':Hp),Same H H'->H l=none->qV TAt H' l (fitD C s)->Q (.ref l) H'
def q4h:Sp:=fun vs H Q _=>∃(c q t:Addr) (C:Cl) (s:Sd) (d:Wd) (n:Int),vs=[.ref c,.ref q,.ref t]/\ClAt H c C/\ClOk C/\H q=some (.tup s.vs)/\s.ok C/\H t=some (.tup [.str d.str,.int n])/\canD C s d n=true/\
 ∀(r:Addr) (H':Hp),Same H H'->H' r=some (.tup (q0o C s d n).vs)->Q (.ref r) H'
section
variable {P:Program}{w:World}{K:W.Frag}{mg:Str->Option Value}{base:Heap}{cs:Cs}
theorem q2q {H0 H':Hp}{D:Addr}{d:Wd}{i:Nat}{v:Option V}{ps:List Addr}{x dx:Addr}(hD:H0 D=none)(s2:Same H0 H')(hi:i<100)(hps:H' D=some (.lst (ps.map V.ref)))(hrw:Rows (DAt cs) H' ps (rowD d i))(hx:H' x=none)(hdx:H' dx=none)(ne:dx≠x):
  q0Q cs d (.ref x::([.int (0+((i:Nat):Int))]++[])) (upd (upd H' dx (.own x)) x (.ins (dcls cs d) dx [])) (fun w H2=>w= .non/\∃ys,H2 D=some (.lst ys)/\ys.length<sizeLine/\∃v0,([v]:St)=[v0]/\Same H0 (upd H2 D (.lst (ys++[.ref x])))/\qV (DAt cs) (upd H2 D (.lst (ys++[.ref x]))) D (rowD d (i+1))) E0:=by
 have big:=qT
 rw[Int.zero_add]
 refine q1d (Q:=fun y H2=>∃ys,H2 D=some (.lst ys)/\ys.length<sizeLine/\∃v0,([v]:St)=[v0]/\Same H0 (upd H2 D (.lst (ys++[y])))/\qV (DAt cs) (upd H2 D (.lst (ys++[y]))) D (rowD d (i+1))) hx hdx ne fun x H3 s3 hx0 hob=>?_
 have hp3:=s3 _ _ hps
 refine⟨_,hp3,by rw[List.length_map,hrw.1,q4p];omega,_,rfl,(s2.trans s3).put hD,?_⟩
 rw[q7R]
 exact q1C (fun _ _=>DAt.put hp3) (hrw.mono fun _ _=>DAt.mono s3) hob
theorem qbC (T:Txt mg cs)(L:Laid K mg "all_goes" q17 ["cellar"])(C_Go:Makes P w K mg base 2 "Go" cs.Go ["self","number"] (q0Q cs .go)):Cal P w K mg base 4 "all_goes" ["cellar"] (q7I cs):=by
 obtain⟨t1,e_WAYS⟩:=T.e_WAYS
 refine L.cal (k:=3) q5W (fun vs H Q E h=>?_) (fun f cdv A outer s H vs Q E hr h=>?_)
 ·obtain ⟨c,C,rfl,_⟩:=h
  rfl
 ·obtain ⟨c,C,rfl,hC,ok,k⟩:=h
  obtain⟨pw,pt,pl,pv',h0,hw,ht,hl,hv⟩:=hC.ex
  obtain⟨wv,hwv,hwl,hwg⟩:=hw.get
  have okw:=ok.wl
  have hwl2:(wv.length:Int)<=20:=by omega
  refine⟨_,(qf (qk (q0N (q0m (N:=["number"]) (own:=1) (caps:=[]) ["cellar"] (qd q17) (by decide +kernel)) rfl (q06 rfl T.n_range (qa (qB (lenK K) rfl T.n_len q0k (qa (qu (qi K) (pv 0) (qh (v:= .int 3) rfl e_WAYS ⟨_,rfl⟩) (fun _ _=>rfl)) qe)) qe)) (fun _ _ _ _=>(qr (i:=0) (show List.Nodup (["number"]:List Str) by decide +kernel) rfl (Or.inl rfl))) (fun _ _ _ _=>q0w) (fun _ _ _ _=>(q0M C_Go hr (by decide) rfl (qa (pv 0) qe)))))),?_⟩
  walk_at "rd"
  intro D hD
  refine q0G (fun i σ H'=>∃v0,σ=[v0]/\Same H H'/\qV (DAt cs) H' D (rowD .go i)) ⟨none,rfl,Same.upd hD,⟨[],qb,Rows.nil⟩⟩ ?_ ?_
  ·rintro i σ H' hi ⟨v0,rfl,s2,ps,hps,hrw⟩
   walk_at "rd"
   exact fun x dx hx hdx ne => q2q hD s2 (by have:i<wv.length:=by simpa using hi
                                             omega) hps hrw hx hdx ne
  ·rintro σ H' ⟨v0,rfl,s2,hlst⟩
   rw[Int.toNat_natCast,hwl] at hlst
   exact k D H' s2 hD hlst
theorem qbF (T:Txt mg cs)(L:Laid K mg "all_deeds" q05 ["cellar"])(C_all_goes:Cal P w K mg base 4 "all_goes" ["cellar"] (q7I cs))(C_Pull:Makes P w K mg base 2 "Pull" cs.Pull ["self","number"] (q0Q cs .pull))(C_Take:Makes P w K mg base 2 "Take" cs.Take ["self","number"] (q0Q cs .take))
  (C_Turn:Makes P w K mg base 2 "Turn" cs.Turn ["self","number"] (q0Q cs .turn))(C_Unlock:Makes P w K mg base 2 "Unlock" cs.Unlock ["self","number"] (q0Q cs .unlock)):Cal P w K mg base 5 "all_deeds" ["cellar"] (q7L cs):=by
 obtain⟨t1,e_WAYS⟩:=T.e_WAYS
 obtain⟨t2,e_LEVERS⟩:=T.e_LEVERS
 obtain⟨t3,e_THINGS⟩:=T.e_THINGS
 obtain⟨t4,e_WHEELS⟩:=T.e_WHEELS
 refine L.cal (k:=4) q0u (fun vs H Q E h=>?_) (fun f cdv A outer s H vs Q E hr h=>?_)
 ·obtain ⟨c,C,rfl,_⟩:=h
  rfl
 ·obtain ⟨c,C,rfl,hC,ok,k⟩:=h
  have big:=qT
  obtain⟨pw,pt,pl,pv',h0,hw,ht,hl,hv⟩:=hC.ex
  obtain⟨wv,hwv,hwl,hwg⟩:=hw.get
  obtain⟨tv,htv,htl,htg⟩:=ht.get
  obtain⟨lv,hlv,hll,hlg⟩:=hl.get
  obtain⟨vv,hvv,hvl,hvg⟩:=hv.get
  have okw:=ok.wl
  have okt:=ok.tl
  have okl:=ok.ll
  have okv:=ok.vl
  have hwl2:(wv.length:Int)<=20:=by omega
  have htl2:(tv.length:Int)<=8:=by omega
  have hll2:(lv.length:Int)<=4:=by omega
  have hvl2:(vv.length:Int)<=4:=by omega
  refine⟨_,(qc (q2a (i:=1) q0u.nd rfl rfl (q0m (N:=["number"]) (own:=1) (caps:=[]) ["cellar","pulls","takes","turns","unlocks"] (qd q05) (by decide +kernel)) rfl (q06 rfl T.n_range (qa (qB (lenK K) rfl T.n_len q0k (qa (qu (qi K) (pv 0) (qh (v:= .int 5) rfl e_LEVERS ⟨_,rfl⟩) (fun _ _=>rfl)) qe)) qe)) (fun _ _ _ _=>(qr (i:=0) (show List.Nodup (["number"]:List Str) by decide +kernel) rfl (Or.inl rfl))) (fun _ _ _ _=>q0w) (fun _ _ _ _=>(q0M C_Pull hr (by decide) rfl (qa (pv 0) qe))))
   (qc (q2a (i:=2) q0u.nd rfl rfl (q0m (N:=["number"]) (own:=1) (caps:=[]) ["cellar","pulls","takes","turns","unlocks"] (qd q05) (by decide +kernel)) rfl (q06 rfl T.n_range (qa (qB (lenK K) rfl T.n_len q0k (qa (qu (qi K) (pv 0) (qh (v:= .int 4) rfl e_THINGS ⟨_,rfl⟩) (fun _ _=>rfl)) qe)) qe)) (fun _ _ _ _=>(qr (i:=0) (show List.Nodup (["number"]:List Str) by decide +kernel) rfl (Or.inl rfl))) (fun _ _ _ _=>q0w) (fun _ _ _ _=>(q0M C_Take hr (by decide) rfl (qa (pv 0) qe))))
   (qc (q2a (i:=3) q0u.nd rfl rfl (q0m (N:=["number"]) (own:=1) (caps:=[]) ["cellar","pulls","takes","turns","unlocks"] (qd q05) (by decide +kernel)) rfl (q06 rfl T.n_range (qa (qB (lenK K) rfl T.n_len q0k (qa (qu (qi K) (pv 0) (qh (v:= .int 6) rfl e_WHEELS ⟨_,rfl⟩) (fun _ _=>rfl)) qe)) qe)) (fun _ _ _ _=>(qr (i:=0) (show List.Nodup (["number"]:List Str) by decide +kernel) rfl (Or.inl rfl))) (fun _ _ _ _=>q0w) (fun _ _ _ _=>(q0M C_Turn hr (by decide) rfl (qa (pv 0) qe))))
   (qc (q2a (i:=4) q0u.nd rfl rfl (q0m (N:=["number"]) (own:=1) (caps:=[]) ["cellar","pulls","takes","turns","unlocks"] (qd q05) (by decide +kernel)) rfl (q06 rfl T.n_range (qa (qB (lenK K) rfl T.n_len q0k (qa (qu (qi K) (pv 0) (qh (v:= .int 3) rfl e_WAYS ⟨_,rfl⟩) (fun _ _=>rfl)) qe)) qe)) (fun _ _ _ _=>(qr (i:=0) (show List.Nodup (["number"]:List Str) by decide +kernel) rfl (Or.inl rfl))) (fun _ _ _ _=>q0w) (fun _ _ _ _=>(q0M C_Unlock hr (by decide) rfl (qa (pv 0) qe))))
   (qf (qk (qw q6A (qw q6A (qw q6A (qw q6A (qp C_all_goes hr (by decide) rfl (qa (pv 0) qe)) (pv 1)) (pv 2)) (pv 3)) (pv 4)))))))),?_⟩
  walk_at "rd"
  intro D1 hD1
  refine q0G (fun i σ H'=>∃v0,σ=[v0]/\Same H H'/\qV (DAt cs) H' D1 (rowD .pull i)) ⟨none,rfl,Same.upd hD1,⟨[],qb,Rows.nil⟩⟩ ?_ ?_
  ·rintro i σ H' hi ⟨v0,rfl,s2,ps,hps,hrw⟩
   walk_at "rd"
   exact fun x dx hx hdx ne => q2q hD1 s2 (by have:i<lv.length:=by simpa using hi
                                              omega) hps hrw hx hdx ne
  rintro σ H1 ⟨v0,rfl,s1,m1⟩
  rw[Int.toNat_natCast,hll] at m1
  have h01:=s1 _ _ h0
  have htv1:=s1 _ _ htv
  walk_at "rd"
  intro D2 hD2
  refine q0G (fun i σ H'=>∃v0,σ=[v0]/\Same H1 H'/\qV (DAt cs) H' D2 (rowD .take i)) ⟨none,rfl,Same.upd hD2,⟨[],qb,Rows.nil⟩⟩ ?_ ?_
  ·rintro i σ H' hi ⟨v0,rfl,s2,ps,hps,hrw⟩
   walk_at "rd"
   exact fun x dx hx hdx ne => q2q hD2 s2 (by have:i<tv.length:=by simpa using hi
                                              omega) hps hrw hx hdx ne
  rintro σ H2 ⟨v0,rfl,s2,m2⟩
  rw[Int.toNat_natCast,htl] at m2
  have s02:=s1.trans s2
  have h02:=s02 _ _ h0
  have hvv2:=s02 _ _ hvv
  walk_at "rd"
  intro D3 hD3
  refine q0G (fun i σ H'=>∃v0,σ=[v0]/\Same H2 H'/\qV (DAt cs) H' D3 (rowD .turn i)) ⟨none,rfl,Same.upd hD3,⟨[],qb,Rows.nil⟩⟩ ?_ ?_
  ·rintro i σ H' hi ⟨v0,rfl,s2,ps,hps,hrw⟩
   walk_at "rd"
   exact fun x dx hx hdx ne => q2q hD3 s2 (by have:i<vv.length:=by simpa using hi
                                              omega) hps hrw hx hdx ne
  rintro σ H3 ⟨v0,rfl,s3,m3⟩
  rw[Int.toNat_natCast,hvl] at m3
  have s03:=s02.trans s3
  have h03:=s03 _ _ h0
  have hwv3:=s03 _ _ hwv
  walk_at "rd"
  intro D4 hD4
  refine q0G (fun i σ H'=>∃v0,σ=[v0]/\Same H3 H'/\qV (DAt cs) H' D4 (rowD .unlock i)) ⟨none,rfl,Same.upd hD4,⟨[],qb,Rows.nil⟩⟩ ?_ ?_
  ·rintro i σ H' hi ⟨v0,rfl,s2,ps,hps,hrw⟩
   walk_at "rd"
   exact fun x dx hx hdx ne => q2q hD4 s2 (by have:i<wv.length:=by simpa using hi
                                              omega) hps hrw hx hdx ne
  rintro σ H4 ⟨v0,rfl,s4,m4⟩
  rw[Int.toNat_natCast,hwl] at m4
  have s04:=s03.trans s4
  walk_at "rd"
  refine⟨c,C,rfl,hC.mono s04.ts,ok,fun l5 H5 s5 hl5 m5=>?_⟩
  obtain⟨p1,e1,r1⟩:=m1
  obtain⟨p2,e2,r2⟩:=m2
  obtain⟨p3,e3,r3⟩:=m3
  obtain⟨p4,e4,r4⟩:=m4
  obtain⟨p5,e5,r5⟩:=m5
  have n1:=r1.1
  have n2:=r2.1
  have n3:=r3.1
  have n4:=r4.1
  have n5:=r5.1
  rw[q4p] at n1 n2 n3 n4 n5
  have s45:=s4.trans s5
  have s35:=s3.trans s45
  have s25:=s2.trans s35
  walk_at "rd"
  refine⟨l5,D1,_,_,rfl,rfl,e5,s25 _ _ e1,by simp;omega,fun l6 hl6=>?_⟩
  rw[<-List.map_append]
  have s6:=Same.upd (o:= .lst ((p5++p1).map V.ref)) hl6
  have e6:=qb (H:=H5) (a:=l6) (o:= .lst ((p5++p1).map V.ref))
  generalize upd H5 l6 (.lst ((p5++p1).map V.ref))=H6 at s6 e6 ⊢
  walk_at "rd"
  refine⟨l6,D2,_,_,rfl,rfl,e6,s6 _ _ (s35 _ _ e2),by simp;omega,fun l7 hl7=>?_⟩
  rw[<-List.map_append]
  have s7:=Same.upd (o:= .lst ((p5++p1++p2).map V.ref)) hl7
  have e7:=qb (H:=H6) (a:=l7) (o:= .lst ((p5++p1++p2).map V.ref))
  generalize upd H6 l7 (.lst ((p5++p1++p2).map V.ref))=H7 at s7 e7 ⊢
  have s67:=s6.trans s7
  walk_at "rd"
  refine⟨l7,D3,_,_,rfl,rfl,e7,s67 _ _ (s45 _ _ e3),by simp;omega,fun l8 hl8=>?_⟩
  rw[<-List.map_append]
  have s8:=Same.upd (o:= .lst ((p5++p1++p2++p3).map V.ref)) hl8
  have e8:=qb (H:=H7) (a:=l8) (o:= .lst ((p5++p1++p2++p3).map V.ref))
  generalize upd H7 l8 (.lst ((p5++p1++p2++p3).map V.ref))=H8 at s8 e8 ⊢
  have s68:=s67.trans s8
  walk_at "rd"
  refine⟨l8,D4,_,_,rfl,rfl,e8,s68 _ _ (s5 _ _ e4),by simp;omega,fun l9 hl9=>?_⟩
  rw[<-List.map_append]
  have s9:=Same.upd (o:= .lst ((p5++p1++p2++p3++p4).map V.ref)) hl9
  have e9:=qb (H:=H8) (a:=l9) (o:= .lst ((p5++p1++p2++p3++p4).map V.ref))
  generalize upd H8 l9 (.lst ((p5++p1++p2++p3++p4).map V.ref))=H9 at s9 e9 ⊢
  have s69:=s68.trans s9
  have s09:=(s04.trans s5).trans s69
  refine k l9 H9 s09 ?_ ⟨_,e9,?_⟩
  ·exact (((s04.trans s5).trans s68).free hl9)
  ·exact q38 (q38 (q38 (q38 (r5.mono fun _ _=>DAt.mono s69) (r1.mono fun _ _=>DAt.mono (s25.trans s69))) (r2.mono fun _ _=>DAt.mono (s35.trans s69))) (r3.mono fun _ _=>DAt.mono (s45.trans s69))) (r4.mono fun _ _=>DAt.mono (s5.trans s69))
theorem qbD (T:Txt mg cs)(L:Laid K mg "fit_deeds" q0J ["cellar","stand"])(C_all_deeds:Cal P w K mg base 5 "all_deeds" ["cellar"] (q7L cs))(vc:∀d,VMeth P w K mg base 6 (dcls cs d) "can" ["self","cellar","stand"] (q9k cs d)):Cal P w K mg base 7 "fit_deeds" ["cellar","stand"] (q6p cs):=by
 refine L.cal (k:=6) q55 (fun vs H Q E h=>?_) (fun f cdv A outer s H vs Q E hr h=>?_)
 ·obtain ⟨c,q,C,st,rfl,_⟩:=h
  rfl
 ·obtain ⟨c,q,C,st,rfl,hC,ok,hq,sok,k⟩:=h
  have big:=qT
  have hal:=q6Q ok
  refine⟨_,(qf (qk (q0N (q0m (N:=["deed","cellar","stand"]) (own:=1) (caps:=[0,1]) ["cellar","stand"] (qd q0J) (by decide +kernel)) rfl (q0f K (qp C_all_deeds hr (by decide) rfl (qa (pv 0) qe))) (fun _ _ _ _=>(qr (i:=0) (show List.Nodup (["deed","cellar","stand"]:List Str) by decide +kernel) rfl (Or.inl rfl))) (fun _ _ _ _=>(pf_one (q0l (qaF (k:=6) P w K mg base hr (by decide) (pv 0) (qa (pv 1) (qa (pv 2) qe)))))) (fun _ _ _ _=>(pv 0))))),?_⟩
  walk_at "rd"
  refine⟨c,C,rfl,hC,ok,fun l H1 s1 hl0 m1=>?_⟩
  obtain⟨ps,e1,r1⟩:=m1
  walk_at "rd"
  intro D hD
  refine q2v (ps.map V.ref) (fun i σ H'=>∃v0,σ=[v0,some (.ref c),some (.ref q)]/\Same H1 H'/\qV (DAt cs) H' D (((allD C).take i).filter fun x=>canD C st x.1 (x.2:Int))) ⟨none,rfl,Same.upd hD,⟨[],qb,Rows.nil⟩⟩ ?_ ?_ ?_
  ·rintro i σ H' ⟨_,rfl,s2,_⟩
   exact SqL.of (s2 _ _ e1)
  ·rintro i x σ H' hx ⟨v0,rfl,s2,qs,hqs,hrw⟩
   have hi:i<(allD C).length:=by have:=(List.getElem?_eq_some_iff.mp hx).1;rw[List.length_map,r1.1] at this;exact this
   obtain⟨p,ep,hob⟩:=r1.get hi
   rw[hx] at ep
   cases ep
   have hob2:=DAt.mono s2 hob
   obtain⟨dx,hp⟩:=hob2.ex
   have s12:=s1.trans s2
   have hqlen:qs.length<=100:=by
    rw[hrw.1]
    refine Nat.le_trans (List.length_filter_le _ _) ?_
    rw[List.length_take];omega
   walk_at "rd"
   refine r_vm hp (vc _) (qaM _ _) ?_
   walk_at "rd"
   refine⟨p,c,q,C,st,_,rfl,hob2,hC.mono s12.ts,ok,s12 _ _ hq,sok,fun H3 s3=>?_⟩
   have hq3:=s3 _ _ hqs
   walk_at "rd"
   rw[List.take_succ_eq_append_getElem hi,List.filter_append]
   refine ite2 (fun hc=>?_) (fun hc=>?_)
   ·walk_at "rd"
    refine⟨_,hq3,by rw[List.length_map];omega,_,rfl,(s2.trans s3).put hD,?_⟩
    rw[show([(allD C)[i]].filter fun x=>canD C st x.1 (x.2:Int))=[(allD C)[i]] by simp[hc]]
    exact q1C (fun _ _=>DAt.put hq3) (hrw.mono fun _ _=>DAt.mono s3) (DAt.mono s3 hob2)
   ·refine ⟨_,rfl,s2.trans s3,qs,hq3,?_⟩
    rw[show([(allD C)[i]].filter fun x=>canD C st x.1 (x.2:Int))=[] by simp[hc],List.append_nil]
    exact hrw.mono fun _ _=>DAt.mono s3
  ·rintro σ H' ⟨v0,rfl,s2,m2⟩
   rw[List.length_map,r1.1,List.take_length] at m2
   exact k D H' (s1.trans s2) (s1.free hD) m2
theorem q7d (T:Txt mg cs)(L:Laid K mg "deeds_at" q16 ["cellar","stand"])(C_fit_deeds:Cal P w K mg base 7 "fit_deeds" ["cellar","stand"] (q6p cs))(vt:∀d,VMeth P w K mg base 1 (dcls cs d) "told" ["self"] (q4f cs d)):Cal P w K mg base 8 "deeds_at" ["cellar","stand"] q3k:=by
 refine L.cal (k:=7) q5U (fun vs H Q E h=>?_) (fun f cdv A outer s H vs Q E hr h=>?_)
 ·obtain ⟨c,q,C,st,rfl,_⟩:=h
  rfl
 ·obtain ⟨c,q,C,st,rfl,hC,ok,hq,sok,k⟩:=h
  have big:=qT
  have hal:=q3d ok st
  refine⟨_,(qf (qk (q0N (q0m (N:=["deed"]) (own:=1) (caps:=[]) ["cellar","stand"] (qd q16) (by decide +kernel)) rfl (q0f K (qp C_fit_deeds hr (by decide) rfl (qa (pv 0) (qa (pv 1) qe)))) (fun _ _ _ _=>(qr (i:=0) (show List.Nodup (["deed"]:List Str) by decide +kernel) rfl (Or.inl rfl))) (fun _ _ _ _=>q0w) (fun _ _ _ _=>(q82 (k:=1) P w K mg base hr (by decide) (pv 0)))))),?_⟩
  walk_at "rd"
  refine⟨c,q,C,st,rfl,hC,ok,hq,sok,fun l H1 s1 hl0 m1=>?_⟩
  obtain⟨ps,e1,r1⟩:=m1
  walk_at "rd"
  intro D hD
  refine q2v (ps.map V.ref) (fun i σ H'=>∃v0,σ=[v0]/\Same H1 H'/\qV TAt H' D ((fitD C st).take i)) ⟨none,rfl,Same.upd hD,⟨[],qb,Rows.nil⟩⟩ ?_ ?_ ?_
  ·rintro i σ H' ⟨_,rfl,s2,_⟩
   exact SqL.of (s2 _ _ e1)
  ·rintro i x σ H' hx ⟨v0,rfl,s2,qs,hqs,hrw⟩
   have hi:i<(fitD C st).length:=by have:=(List.getElem?_eq_some_iff.mp hx).1;rw[List.length_map,r1.1] at this;exact this
   obtain⟨p,ep,hob⟩:=r1.get hi
   rw[hx] at ep
   cases ep
   have hob2:=DAt.mono s2 hob
   obtain⟨dx,hp⟩:=hob2.ex
   have hqlen:qs.length<=100:=by
    rw[hrw.1,List.length_take];omega
   walk_at "rd"
   refine r_vm hp (vt _) (q8I _ _) ?_
   refine⟨p,_,rfl,hob2,fun t H3 s3 ht3=>?_⟩
   have hq3:=s3 _ _ hqs
   refine⟨_,hq3,by rw[List.length_map];omega,_,rfl,(s2.trans s3).put hD,?_⟩
   rw[List.take_succ_eq_append_getElem hi]
   exact q1C (fun _ _=>TAt.put hq3) (hrw.mono fun _ _=>TAt.mono s3.ts) ht3
  ·rintro σ H' ⟨v0,rfl,s2,m2⟩
   rw[List.length_map,r1.1,List.take_length] at m2
   exact k D H' (s1.trans s2) (s1.free hD) m2
theorem q89 (T:Txt mg cs)(L:Laid K mg "behind" q37 ["cellar","stand","deed"])(C_deed_of:Cal P w K mg base 4 "deed_of" ["deed"] (qb8 cs))(vc:∀d,VMeth P w K mg base 6 (dcls cs d) "can" ["self","cellar","stand"] (q9k cs d))(vd:∀d,VMeth P w K mg base 2 (dcls cs d) "done" ["self","cellar","stand"] (q2T cs d)):Cal P w K mg base 7 "behind" ["cellar","stand","deed"] q4h:=by
 refine L.cal (k:=6) q58 (fun vs H Q E h=>?_) (fun f cdv A outer s H vs Q E hr h=>?_)
 ·obtain ⟨c,q,t,C,st,d,n,rfl,_⟩:=h
  rfl
 ·obtain ⟨c,q,t,C,st,d,n,rfl,hC,ok,hq,sok,ht,hc,k⟩:=h
  refine⟨_,(qc (qz (i:=3) q58.nd rfl (Or.inl rfl) (qp C_deed_of hr (by decide) rfl (qa (pv 2) qe)))
   (qc (qN (q1a (q0l (q2G (k:=6) (hr.mono (by decide)) (pv 3) (qa (pv 0) (qa (pv 1) qe))))) (qf q0s) qm)
   (qf (qk (q2G (k:=2) (hr.mono (by decide)) (pv 3) (qa (pv 0) (qa (pv 1) qe))))))),?_⟩
  walk_at "rd"
  refine⟨t,d,n,rfl,ht,fun x H1 s1 hx0 hob=>?_⟩
  obtain⟨dx,hp⟩:=hob.ex
  walk_at "rd"
  refine r_vm hp (vc _) (qaM _ _) ?_
  walk_at "rd"
  refine⟨x,c,q,C,st,n,rfl,hob,hC.mono s1.ts,ok,s1 _ _ hq,sok,fun H2 s2=>?_⟩
  rw[hc]
  have s12:=s1.trans s2
  walk_at "rd"
  refine r_vm (s2 _ _ hp) (vd _) (q8K _ _) ?_
  walk_at "rd"
  exact⟨x,c,q,C,st,n,rfl,hob.mono s2,hC.mono s12.ts,ok,s12 _ _ hq,sok,hc,fun r H3 s3 hr3=>k r H3 (s12.trans s3) hr3⟩
end
seal L2.PA L2.PE L2.PI L2.PS L2.PSs L2.PG L2.PT
def q0H (z:Str):Option (List Int):=
 if z="plain" then some [] else if z="door" then some [11] else if z="need" then some [11] else if z="bar" then some [7] else if z="wade" then some [9,11] else if z="float" then some [9] else none
theorem q2Q:q0H "plain"=some []:=by decide +kernel
theorem q3h:q0H "door"=some [11]:=by decide +kernel
theorem q3g:q0H "need"=some [11]:=by decide +kernel
theorem q3T:q0H "bar"=some [7]:=by decide +kernel
theorem q3f:q0H "wade"=some [9,11]:=by decide +kernel
theorem q2R:q0H "float"=some [9]:=by decide +kernel
theorem q5R {z:Str}(h1:¬z="plain")(h2:¬z="door")(h3:¬z="need")(h4:¬z="bar")(h5:¬z="wade")(h6:¬z="float"):q0H z=none:=by
 unfold q0H
 rw[if_neg h1,if_neg h2,if_neg h3,if_neg h4,if_neg h5,if_neg h6]
def chk (n t:Int):Bool:=decide (0<=n)&&decide (n<=t)
def q2X (z:Str)(ns:List Int):Bool:=match q0H z with
 |none=>false
 |some ts=>decide (ns.length=ts.length)&&(List.zipWith chk ns ts).all id
theorem q69 {z:Str}{ns:List Int}(h:q0H z=none):q2X z ns=false:=by unfold q2X;rw[h]
theorem q7n {z:Str}{ns ts:List Int}(h:q0H z=some ts)(hl:¬ns.length=ts.length):q2X z ns=false:=by unfold q2X;rw[h];simp[hl]
theorem q0n {z:Str}{ns ts:List Int}(h:q0H z=some ts)(hl:ns.length=ts.length):q2X z ns=(List.zipWith chk ns ts).all id:=by unfold q2X;rw[h];simp[hl]
theorem qb3:subS "tuple" "tuple"=true:=by decide +kernel
theorem q5E (x:V)(l:List V):cutV (x::l) (some 1) none=l:=by
 unfold cutV
 have e1:HT.sIx (x::l).length 0 (some 1)=1:=by rw[show(1:Int)=((1:Nat):Int) from rfl,HT.qbc];simp
 have e2:HT.sIx (x::l).length (x::l).length none=l.length+1:=by rw[HT.q9o];rfl
 rw[e1,e2]
 simp
theorem q8w {g:Gt}(h:g.ok):q2X g.word g.ns=true:=by
 cases g with
 |plain=>rw[q0n (z:=Gt.plain.word) (ns:=Gt.plain.ns) q2Q rfl];rfl
 |door k=>have h':0<=k/\k<12:=h;rw[q0n (z:=(Gt.door k).word) (ns:=(Gt.door k).ns) q3h rfl];simp[Gt.ns,chk];omega
 |need k=>have h':0<=k/\k<12:=h;rw[q0n (z:=(Gt.need k).word) (ns:=(Gt.need k).ns) q3g rfl];simp[Gt.ns,chk];omega
 |bar k=>have h':0<=k/\k<8:=h;rw[q0n (z:=(Gt.bar k).word) (ns:=(Gt.bar k).ns) q3T rfl];simp[Gt.ns,chk];omega
 |wade a k=>have h':(0<=a/\a<10)/\0<=k/\k<12:=h;rw[q0n (z:=(Gt.wade a k).word) (ns:=(Gt.wade a k).ns) q3f rfl];simp[Gt.ns,chk];omega
 |float k=>have h':0<=k/\k<10:=h;rw[q0n (z:=(Gt.float k).word) (ns:=(Gt.float k).ns) q2R rfl];simp[Gt.ns,chk];omega
def q3R (H:Hp)(v:V)(xs:List V):Prop:=(v= .non/\xs=[])\/(∃p,v= .ref p/\H p=some (.lst xs))\/∃p,v= .ref p/\H p=some (.tup xs)
theorem q3R.mono {H H':Hp}{v:V}{xs:List V}(s:Same H H')(h:q3R H v xs):q3R H' v xs:=by
 rcases h with h|⟨p,e,h⟩|⟨p,e,h⟩
 ·exact .inl h
 ·exact .inr (.inl ⟨p,e,s _ _ h⟩)
 ·exact .inr (.inr ⟨p,e,s _ _ h⟩)
def qcg (H:Hp)(x:V):Prop:=∃p ys,x= .ref p/\H p=some (.tup ys)
def q2y (r:Int)(H:Hp)(x:V):Prop:=∃(p g:Addr) (a b:Int) (bk:Bool) (gt:Gt),x= .ref p/\H p=some (.tup [.int a,.int b,.ref g,.bl bk])/\H g=some (.tup gt.vs)/\gt.ok/\(0<=a/\a<r)/\(0<=b/\b<r)/\a≠b
def qX (r lo hi:Int)(H:Hp)(x:V):Prop:=∃(p:Addr) (a n:Int),x= .ref p/\H p=some (.tup [.int a,.int n])/\(0<=a/\a<r)/\lo<=n/\n<=hi
theorem q2y.mono {r:Int}{H H':Hp}{x:V}(s:q00 H H')(h:q2y r H x):q2y r H' x:=by
 obtain⟨p,g,a,b,bk,gt,e,h1,h2,h3⟩:=h
 exact⟨p,g,a,b,bk,gt,e,s _ _ h1,s _ _ h2,h3⟩
theorem qX.mono {r lo hi:Int}{H H':Hp}{x:V}(s:q00 H H')(h:qX r lo hi H x):qX r lo hi H' x:=by
 obtain⟨p,a,n,e,h1,h3⟩:=h
 exact⟨p,a,n,e,s _ _ h1,h3⟩
theorem q2y.row {r:Int}{H:Hp}{x:V}(h:q2y r H x):qcg H x:=by
 obtain⟨p,g,a,b,bk,gt,e,h1,h2,h3⟩:=h
 exact⟨p,_,e,h1⟩
theorem qX.row {r lo hi:Int}{H:Hp}{x:V}(h:qX r lo hi H x):qcg H x:=by
 obtain⟨p,a,n,e,h1,h3⟩:=h
 exact⟨p,_,e,h1⟩
def TupO (H:Hp)(v:V):Option (List Int)->Prop
 |none=>v= .non
 |some l=>∃p,v= .ref p/\H p=some (.tup (l.map V.int))
def qay:Sp:=fun vs H Q _=>∃z,vs=[.str z]/\∀v H',Same H H'->TupO H' v (q0H z)->Q v H'
def q6n:Sp:=fun vs H Q _=>∃(p:Addr) (z:Str) (ns:List Int),vs=[.ref p]/\H p=some (.tup (.str z::ns.map V.int))/\ns.length<=10/\∀H',Same H H'->Q (.bl (q2X z ns)) H'
def q4g:Sp:=fun vs H Q _=>∃(z:Str) (n a b:Int),vs=[.str z,.int n,.int a,.int b]/\a<=n/\n<=b/\Q .non H
def q7G:Sp:=fun vs H Q _=>∃(z:Str) (v:V) (m:Int) (xs:List V),vs=[.str z,v,.int m]/\q3R H v xs/\(∀x∈xs,qcg H x)/\xs.length<=m/\m<=20/\∀(p:Addr) (H':Hp),Same H H'->H' p=some (.tup xs)->Q (.ref p) H'
def spMW:Sp:=fun vs H Q _=>∃(r:Int) (v:V) (xs:List V),vs=[.int r,v]/\q3R H v xs/\(∀x∈xs,q2y r H x)/\xs.length<=20/\∀(p:Addr) (H':Hp),Same H H'->H' p=some (.tup xs)->Q (.ref p) H'
def spMP:Sp:=fun vs H Q _=>∃(z:Str) (r:Int) (v:V) (m lo hi:Int) (xs:List V),vs=[.str z,.int r,v,.int m,.int lo,.int hi]/\z.length<=100/\q3R H v xs/\(∀x∈xs,qX r lo hi H x)/\xs.length<=m/\m<=20/\∀(p:Addr) (H':Hp),Same H H'->H' p=some (.tup xs)->Q (.ref p) H'
def qb7:Sp:=fun vs H Q _=>∃(r f l b wt:Int) (v1 v2 v3 v4:V) (x1 x2 x3 x4:List V),vs=[.int r,.int f,.int l,v1,v2,v3,v4,.int b,.int wt]/\(1<=r/\r<=14)/\(0<=f/\f<r)/\(0<=l/\l<r)/\(0<=b/\b<256)/\(0<=wt/\wt<10)/\
 q3R H v1 x1/\q3R H v2 x2/\q3R H v3 x3/\q3R H v4 x4/\(∀x∈x1,q2y r H x)/\(∀x∈x2,qX r 0 11 H x)/\(∀x∈x3,qX r 1 255 H x)/\(∀x∈x4,qX r 0 9 H x)/\x1.length<=20/\x2.length<=8/\x3.length<=4/\x4.length<=4/\
 ∀(p p1 p2 p3 p4:Addr) (H':Hp),Same H H'->H' p=some (.tup [.int r,.int f,.int l,.ref p1,.ref p2,.ref p3,.ref p4,.int b,.int wt])->H' p1=some (.tup x1)->H' p2=some (.tup x2)->H' p3=some (.tup x3)->H' p4=some (.tup x4)->Q (.ref p) H'
def q7J (K:W.Frag):Sp:=fun vs H Q _=>∃(a:Addr) (ns:List Int) (i:Int),vs=[.ref a,.int i]/\SqL K H a (ns.map V.int)/\ns.length<=63/\0<=i/\Q (.int (ns.getD i.toNat 0)) H
section
variable {P:Program}{w:World}{K:W.Frag}{mg:Str->Option Value}{base:Heap}{cs:Cs}
theorem q79 (T:Txt mg cs)(L:Laid K mg "tops_of" q2i ["word"]):Cal P w K mg base 1 "tops_of" ["word"] qay:=by
 obtain⟨t1,e_LAST_KIND⟩:=T.e_LAST_KIND
 obtain⟨t2,e_LAST_BAR⟩:=T.e_LAST_BAR
 obtain⟨t3,e_TOP_HEIGHT⟩:=T.e_TOP_HEIGHT
 refine L.cal (k:=0) q71 (fun vs H Q E h=>?_) (fun f cdv A outer s H vs Q E hr h=>?_)
 ·obtain ⟨z,rfl,_⟩:=h
  rfl
 ·obtain ⟨z,rfl,k⟩:=h
  refine⟨_,(qc (qN (qt q04 (pv 0) qA (qq _)) (qf (qk (qS qe))) qm)
   (qc (qN (PW.pt (q1W (qt q04 (pv 0) qA (qq _)) (q19 (qt q04 (pv 0) qA (qq _))))) (qf (qk (qS (qa (qh (v:= .int 11) rfl e_LAST_KIND ⟨_,rfl⟩) qe)))) qm)
   (qc (qN (qt q04 (pv 0) qA (qq _)) (qf (qk (qS (qa (qh (v:= .int 7) rfl e_LAST_BAR ⟨_,rfl⟩) qe)))) qm)
   (qc (qN (qt q04 (pv 0) qA (qq _)) (qf (qk (qS (qa (qh (v:= .int 9) rfl e_TOP_HEIGHT ⟨_,rfl⟩) (qa (qh (v:= .int 11) rfl e_LAST_KIND ⟨_,rfl⟩) qe))))) qm)
   (qc (qN (qt q04 (pv 0) qA (qq _)) (qf (qk (qS (qa (qh (v:= .int 9) rfl e_TOP_HEIGHT ⟨_,rfl⟩) qe)))) qm)
   (qf (qk q6x))))))),?_⟩
  have fin:∀l:List Int,q0H z=some l->∀p,H p=none->Q (.ref p) (upd H p (.tup (l.map V.int))):=fun l e p hp=>k _ _ (Same.upd hp) (by rw[e];exact⟨p,rfl,qb⟩)
  have S:∀{y:Str},decide (V.str z=V.str y)=true->z=y:=fun h=>by have:=of_decide_eq_true h;cases this;rfl
  have N:∀{y:Str},¬decide (V.str z=V.str y)=true->¬z=y:=fun h e=>h (by rw[e];exact decide_eq_true rfl)
  refine⟨_,rfl,rfl,_,rfl,ite2 (fun h1=>?_) (fun h1=>?_)⟩
  ·exact ⟨by decide,fun p hp=>fin [] (by rw[S h1];exact q2Q) p hp⟩
  refine⟨_,rfl,rfl,_,rfl,?_⟩
  refine ite2 (fun h2=>?_) (fun h2=>?_)
  ·refine iteT ?_
   exact⟨by decide,fun p hp=>fin [11] (by rw[S h2];exact q3h) p hp⟩
  refine⟨_,rfl,rfl,_,rfl,ite2 (fun h3=>?_) (fun h3=>?_)⟩
  ·exact ⟨by decide,fun p hp=>fin [11] (by rw[S h3];exact q3g) p hp⟩
  refine⟨_,rfl,rfl,_,rfl,ite2 (fun h4=>?_) (fun h4=>?_)⟩
  ·exact ⟨by decide,fun p hp=>fin [7] (by rw[S h4];exact q3T) p hp⟩
  refine⟨_,rfl,rfl,_,rfl,ite2 (fun h5=>?_) (fun h5=>?_)⟩
  ·exact ⟨by decide,fun p hp=>fin [9,11] (by rw[S h5];exact q3f) p hp⟩
  refine⟨_,rfl,rfl,_,rfl,ite2 (fun h6=>?_) (fun h6=>?_)⟩
  ·exact ⟨by decide,fun p hp=>fin [9] (by rw[S h6];exact q2R) p hp⟩
  exact k _ _ (Same.refl _) (by rw[q5R (N h1) (N h2) (N h3) (N h4) (N h5) (N h6)];rfl)
theorem q7a (T:Txt mg cs)(L:Laid K mg "is_gate" q1J ["thing"])(C_tops_of:Cal P w K mg base 1 "tops_of" ["word"] qay)(C_within:Cal P w K mg base 1 "within" ["number","least","most"] q2g):Cal P w K mg base 2 "is_gate" ["thing"] q6n:=by
 refine L.cal (k:=1) q2B (fun vs H Q E h=>?_) (fun f cdv A outer s H vs Q E hr h=>?_)
 ·obtain ⟨p,z,ns,rfl,_⟩:=h
  rfl
 ·obtain ⟨p,z,ns,rfl,hp,hl,k⟩:=h
  refine⟨_,(qc (qN (PW.pt (q1W (q1a (q0l (qB q0O rfl T.n_isinstance qZ (qa (pv 0) (qa (q2b (v:= .ty "tuple") rfl T.n_tuple q12 rfl) qe))))) (q19 (qt q04 (qB (lenK K) rfl T.n_len q0k (qa (pv 0) qe)) qg (qq _))))) (qf (qk q1X)) qm)
   (qc (qz (i:=1) q2B.nd rfl (Or.inl rfl) (qp C_tops_of hr (by decide) rfl (qa (qu (qi K) (pv 0) qg (fun _ _=>rfl)) qe)))
   (qc (qz (i:=2) q2B.nd rfl (Or.inl rfl) (q4r (q4i K) (pv 0) (q61 qg) q62))
   (qc (qN (PW.pt (q1W (q24 (q2s (pv 1))) (q19 (qt q78 (qB (lenK K) rfl T.n_len q0k (qa (pv 2) qe)) (qB (lenK K) rfl T.n_len q0k (qa (pv 1) qe)) (qq _))))) (qf (qk q1X)) qm)
   (qf (qk (qB (q92 K rfl) rfl T.n_all bt_all (qa (q0N (q0m (N:=["number","top"]) (own:=2) (caps:=[]) ["thing","tops","numbers"] (qd q1J) (by decide +kernel)) rfl (q9z K rfl T.n_zip (qa (pv 2) (qa (pv 1) qe))) (fun _ _ _ _=>(q0L (n:=2) K rfl (qD (qr (i:=0) (show List.Nodup (["number","top"]:List Str) by decide +kernel) rfl (Or.inl rfl)) (qD (qr (i:=1) (show List.Nodup (["number","top"]:List Str) by decide +kernel) rfl (Or.inl rfl)) q0K)))) (fun _ _ _ _=>q0w) (fun _ _ _ _=>(qp C_within hr (by decide) rfl (qa (pv 0) (qa qg (qa (pv 1) qe)))))) qe)))))))),?_⟩
  refine⟨_,rfl,_,"tuple","tuple",rfl,q7w hp,by decide,_,rfl,?_⟩
  rw[qb3]
  refine iteF ?_
  refine⟨_,rfl,p,_,rfl,.inr (SqT.of hp),rfl,_,rfl,ite2 (fun h1=>?_) (fun _=>?_)⟩
  ·have:=of_decide_eq_true h1
   simp at this
   omega
  refine⟨_,rfl,p,_,_,_,rfl,rfl,SqT.of hp,q0P (j:=0) rfl,z,rfl,fun v H1 s1 tv=>?_⟩
  have hp1:=s1 _ _ hp
  refine⟨_,rfl,_,rfl,p,_,rfl,SqT.of hp1,fun e=>?_,fun q hq=>?_⟩
  ·rw [q5E] at e
   have:=congrArg List.length e
   simp at this
  rw[q5E]
  have s2:Same H (upd H1 q (.tup (ns.map V.int))):=s1.trans (Same.upd hq)
  cases ht:q0H z with
  |none=>
   rw[ht] at tv
   obtain rfl:v= .non:=tv
   refine⟨_,rfl,_,rfl,iteT (iteT ?_)⟩
   have:=k _ s2
   rw[q69 ht] at this
   exact this
  |some ts=>
   rw[ht] at tv
   obtain⟨r,rfl,hr0⟩:=tv
   have hr1:(upd H1 q (.tup (ns.map V.int))) r=some (.tup (ts.map V.int)):=by rw[qj (ql hr0 hq)];exact hr0
   refine⟨_,rfl,_,rfl,iteF ?_⟩
   refine⟨_,rfl,q,_,rfl,.inr (SqT.of qb),_,rfl,r,_,rfl,.inr (SqT.of hr1),rfl,_,rfl,ite2 (fun h1=>?_) (fun h1=>?_)⟩
   ·have hne:¬ns.length=ts.length:=fun e=>by simp[e] at h1
    have:=k _ s2
    rw[q7n ht hne] at this
    exact this
   ·have hlen:ns.length=ts.length:=by
     simp at h1
     omega
    refine⟨_,rfl,_,rfl,q,r,rfl,⟨_,SqT.of qb⟩,⟨_,SqT.of hr1⟩,fun D hD=>?_⟩
    refine q4C ns.length (fun i σ H'=>∃v0 v1,σ=[v0,v1]/\Same (upd H1 q (.tup (ns.map V.int))) H'/\H' D=some (.lst (((List.zipWith chk ns ts).take i).map V.bl))) ⟨none,none,rfl,Same.upd hD,qb⟩ ?_ ?_
    ·rintro i σ H' hi ⟨v0,v1,rfl,s3,hD3⟩
     have hq3:=s3 _ _ (qb (H:=H1) (a:=q) (o:= .tup (ns.map V.int)))
     have hr3:=s3 _ _ hr1
     refine⟨⟨_,_,V.int (ns.getD i 0),V.int (ts.getD i 0),SqT.of hq3,SqT.of hr3,by simp[List.getD,hi],by simp[List.getD,show i<ts.length by omega]⟩,?_⟩
     rintro x H4 ⟨t,ht0,rfl,hy⟩
     have e4:=hy _ _ (V.int (ns.getD i 0)) (V.int (ts.getD i 0)) (SqT.of hq3) (SqT.of hr3) (by simp[List.getD,hi]) (by simp[List.getD,show i<ts.length by omega])
     subst e4
     refine⟨t,_,rfl,SqT.of qb,rfl,_,_,rfl,_,_,rfl,rfl,?_⟩
     have nD:D≠t:=ql hD3 ht0
     refine⟨_,rfl,_,rfl,_,_,_,rfl,_,(by rw[qj nD];exact hD3),?_,_,_,rfl,?_,?_⟩
     ·rw [List.length_map,List.length_take]
      exact Nat.lt_of_le_of_lt (Nat.min_le_left _ _) (Nat.lt_trans hi (Nat.lt_of_le_of_lt hl (by decide)))
     ·intro b o e
      have nb:b≠D:=ql e hD
      rw[qj nb,qj (ql (s3 b o e) ht0)]
      exact s3 b o e
     ·rw [qb,List.take_add_one]
      have e5:(List.zipWith chk ns ts)[i]? =some (chk (ns.getD i 0) (ts.getD i 0)):=by
       rw[List.getElem?_zipWith]
       simp[List.getD,hi,show i<ts.length by omega]
      rw[e5]
      simp[chk]
    ·rintro σ H' ⟨v0,v1,rfl,s3,hD3⟩
     have hq3:=s3 _ _ (qb (H:=H1) (a:=q) (o:= .tup (ns.map V.int)))
     have hr3:=s3 _ _ hr1
     refine⟨⟨_,_,SqT.of hq3,SqT.of hr3,.inl (by simp)⟩,D,List.zipWith chk ns ts,rfl,SqL.of ?_,?_⟩
     ·rw [hD3,List.take_of_length_le (by rw[List.length_zipWith];omega)]
     ·have:=k _ (s2.trans s3)
      rw[q0n ht hlen] at this
      exact this
theorem q9T (T:Txt mg cs)(L:Laid K mg "_law_cell_at" q0r ["_law_script","_law_k"]):Cal P w K mg base 1 "_law_cell_at" ["_law_script","_law_k"] (q7J K):=by
 refine L.cal (k:=0) q3n (fun vs H Q E h=>?_) (fun f cdv A outer s H vs Q E hr h=>?_)
 ·obtain ⟨a,ns,i,rfl,_⟩:=h
  rfl
 ·obtain ⟨a,ns,i,rfl,hS,hl,h0,k⟩:=h
  refine⟨_,(qc (qN (qt q9I (pv 1) (qB (lenK K) rfl T.n_len q0k (qa (pv 0) qe)) (qq _)) (qf (qk (qu (qK K) (pv 0) (pv 1) (fun _ _=>rfl)))) qm)
   (qf (qk qg))),?_⟩
  walk_at "rd"
  refine ifd (fun h=>?_) (fun h=>?_)
  ·rw [List.length_map] at h
   obtain⟨j,rfl⟩:∃j:Nat,i=(j:Int):=⟨i.toNat,by omega⟩
   walk_at "rd"
   refine q60 hS (qaq (by omega)) ?_
   rw[Int.toNat_natCast] at k
   exact k
  ·rw [List.length_map] at h
   walk_at "rd"
   rw[show ns.getD i.toNat 0=0 by simp[List.getD,show ns.length<=i.toNat by omega]] at k
   exact k
theorem q9R (T:Txt mg cs)(L:Laid K mg "check_number" q0q ["name","number","least","most"])(C_within:Cal P w K mg base 1 "within" ["number","least","most"] q2g):Cal P w K mg base 2 "check_number" ["name","number","least","most"] q4g:=by
 refine L.cal (k:=1) q3m (fun vs H Q E h=>?_) (fun f cdv A outer s H vs Q E hr h=>?_)
 ·obtain ⟨z,n,a,b,rfl,_⟩:=h
  rfl
 ·obtain ⟨z,n,a,b,rfl,h1,h2,k⟩:=h
  refine⟨_,(qf (qN (q1a (q0l (qp C_within hr (by decide) rfl (qa (pv 1) (qa (pv 2) (qa (pv 3) qe)))))) (qf q0s) qm)),?_⟩
  walk_at "rd"
  refine⟨n,a,b,rfl,?_⟩
  rw[show(decide (a<=n)&&decide (n<=b))=true by simp[h1,h2]]
  walk_at "rd"
  exact k
theorem qbA (T:Txt mg cs)(L:Laid K mg "made_rows" q0h ["name","rows","most"]):Cal P w K mg base 1 "made_rows" ["name","rows","most"] q7G:=by
 refine L.cal (k:=0) q0R (fun vs H Q E h=>?_) (fun f cdv A outer s H vs Q E hr h=>?_)
 ·obtain ⟨z,v,m,xs,rfl,_⟩:=h
  rfl
 ·obtain ⟨z,v,m,xs,rfl,hv,ok,h1,h2,k⟩:=h
  have big:=qT
  have step:∀(D:Addr) (H':Hp) (i:Nat) (x:V),H D=none->xs[i]? =some x->Same H H'->H' D=some (.lst (xs.take i))->∃ys,H' D=some (.lst ys)/\ys.length<sizeLine/\∃v0,([some x]:St)=[v0]/\Same H (upd H' D (.lst (ys++[x])))/\(upd H' D (.lst (ys++[x]))) D=some (.lst (xs.take (i+1))):=by
   intro D H' i x hD hx s1 hd
   refine⟨_,hd,by rw[List.length_take];omega,_,rfl,s1.put hD,?_⟩
   rw[qb,List.take_add_one,hx]
   rfl
  have gt:∀n:Nat,n=xs.length->((n:Int)>m)->False:=fun n e h=>by omega
  rcases hv with⟨rfl,rfl⟩|⟨p,rfl,hp⟩|⟨p,rfl,hp⟩
  ·refine ⟨_,(qc (qz (i:=3) q0R.nd rfl (Or.inl rfl) (q1Q (q24 (q2s (pv 1))) (qS qe) (q0c (q3S K) rfl T.n_tuple q12 (qa (q0N (q0m (N:=["row"]) (own:=1) (caps:=[]) ["name","rows","most","made"] (qd q0h) (by decide +kernel)) rfl (q0f K (pv 1)) (fun _ _ _ _=>(qr (i:=0) (show List.Nodup (["row"]:List Str) by decide +kernel) rfl (Or.inl rfl))) (fun _ _ _ _=>q0w) (fun _ _ _ _=>(q0c (q3S K) rfl T.n_tuple q12 (qa (pv 0) qe)))) qe))))
   (qc (qN (qt q3s (qB (lenK K) rfl T.n_len q0k (qa (pv 3) qe)) (pv 2) (qq _)) (qf q0s) qm)
   (qf (qk (pv 3))))),?_⟩
   walk_at "rd"
   walk_at "eq"
   walk_at "rd"
   intro q hq
   walk_at "rd"
   refine ifd (fun h=>(gt 0 rfl h).elim) (fun _=>?_)
   walk_at "rd"
   exact k q _ (Same.upd hq) qb
  ·refine ⟨_,(qc (qz (i:=3) q0R.nd rfl (Or.inl rfl) (q1Q (q24 (q2s (pv 1))) (qS qe) (q0c (q3S K) rfl T.n_tuple q12 (qa (q0N (q0m (N:=["row"]) (own:=1) (caps:=[]) ["name","rows","most","made"] (qd q0h) (by decide +kernel)) rfl (q0f K (pv 1)) (fun _ _ _ _=>(qr (i:=0) (show List.Nodup (["row"]:List Str) by decide +kernel) rfl (Or.inl rfl))) (fun _ _ _ _=>q0w) (fun _ _ _ _=>(q0c (q3S K) rfl T.n_tuple q12 (qa (pv 0) qe)))) qe))))
   (qc (qN (qt q3s (qB (lenK K) rfl T.n_len q0k (qa (pv 3) qe)) (pv 2) (qq _)) (qf q0s) qm)
   (qf (qk (pv 3))))),?_⟩
   walk_at "rd"
   refine ifd (fun h=>nomatch h) (fun _=>?_)
   walk_at "rd"
   intro D hD
   refine q2v xs (fun i σ H'=>∃v0,σ=[v0]/\Same H H'/\H' D=some (.lst (xs.take i))) ⟨none,rfl,Same.upd hD,by rw[qb];rfl⟩ ?_ ?_ ?_
   ·rintro i σ H' ⟨_,rfl,s1,_⟩
    exact SqL.of (s1 _ _ hp)
   ·rintro i x σ H' hx ⟨v0,rfl,s1,hd⟩
    obtain⟨a,ys,rfl,ha⟩:=ok x (List.mem_of_getElem? hx)
    have ha1:=s1 _ _ ha
    walk_at "rd"
    exact r_tot (SqT.of ha1) (step D H' i _ hD hx s1 hd)
   ·rintro σ H' ⟨v0,rfl,s1,hd⟩
    rw[List.take_length] at hd
    walk_at "rd"
    refine r_tol (SqL.of hd) fun q hq=>?_
    walk_at "rd"
    refine ifd (fun h=>(gt _ rfl h).elim) (fun _=>?_)
    walk_at "rd"
    exact k q _ (s1.trans (Same.upd hq)) qb
  ·refine ⟨_,(qc (qz (i:=3) q0R.nd rfl (Or.inl rfl) (q1Q (q24 (q2s (pv 1))) (qS qe) (q0c (q3S K) rfl T.n_tuple q12 (qa (q0N (q0m (N:=["row"]) (own:=1) (caps:=[]) ["name","rows","most","made"] (qd q0h) (by decide +kernel)) rfl (q4q K (pv 1)) (fun _ _ _ _=>(qr (i:=0) (show List.Nodup (["row"]:List Str) by decide +kernel) rfl (Or.inl rfl))) (fun _ _ _ _=>q0w) (fun _ _ _ _=>(q0c (q3S K) rfl T.n_tuple q12 (qa (pv 0) qe)))) qe))))
   (qc (qN (qt q3s (qB (lenK K) rfl T.n_len q0k (qa (pv 3) qe)) (pv 2) (qq _)) (qf q0s) qm)
   (qf (qk (pv 3))))),?_⟩
   walk_at "rd"
   refine ifd (fun h=>nomatch h) (fun _=>?_)
   walk_at "rd"
   intro D hD
   refine q6J xs (fun i σ H'=>∃v0,σ=[v0]/\Same H H'/\H' D=some (.lst (xs.take i))) ⟨none,rfl,Same.upd hD,by rw[qb];rfl⟩ ?_ ?_ ?_
   ·rintro i σ H' ⟨_,rfl,s1,_⟩
    exact SqT.of (s1 _ _ hp)
   ·rintro i x σ H' hx ⟨v0,rfl,s1,hd⟩
    obtain⟨a,ys,rfl,ha⟩:=ok x (List.mem_of_getElem? hx)
    have ha1:=s1 _ _ ha
    walk_at "rd"
    exact r_tot (SqT.of ha1) (step D H' i _ hD hx s1 hd)
   ·rintro σ H' ⟨v0,rfl,s1,hd⟩
    rw[List.take_length] at hd
    walk_at "rd"
    refine r_tol (SqL.of hd) fun q hq=>?_
    walk_at "rd"
    refine ifd (fun h=>(gt _ rfl h).elim) (fun _=>?_)
    walk_at "rd"
    exact k q _ (s1.trans (Same.upd hq)) qb
theorem ok_mw (T:Txt mg cs)(L:Laid K mg "made_ways" q1h ["rooms","ways"])(C_check_number:Cal P w K mg base 2 "check_number" ["name","number","least","most"] q4g)(C_made_rows:Cal P w K mg base 1 "made_rows" ["name","rows","most"] q7G)(C_is_gate:Cal P w K mg base 2 "is_gate" ["thing"] q6n):Cal P w K mg base 3 "made_ways" ["rooms","ways"] spMW:=by
 obtain⟨t1,e_MOST_WAYS⟩:=T.e_MOST_WAYS
 refine L.cal (k:=2) q0i (fun vs H Q E h=>?_) (fun f cdv A outer s H vs Q E hr h=>?_)
 ·obtain ⟨r,v,xs,rfl,_⟩:=h
  rfl
 ·obtain ⟨r,v,xs,rfl,hv,ok,h1,k⟩:=h
  refine⟨_,(qc (qz (i:=2) q0i.nd rfl (Or.inl rfl) (qp C_made_rows hr (by decide) rfl (qa qA (qa (pv 1) (qa (qh (v:= .int 20) rfl e_MOST_WAYS ⟨_,rfl⟩) qe)))))
   (qc (q1b PassesOwn.never rfl (q4q K (pv 2)) (q0L (n:=4) K rfl (qD (qr (i:=3) q0i.nd rfl (Or.inl rfl)) (qD (qr (i:=4) q0i.nd rfl (Or.inl rfl)) (qD (qr (i:=5) q0i.nd rfl (Or.inl rfl)) (qD (qr (i:=6) q0i.nd rfl (Or.inl rfl)) q0K))))) (qc (qI (qp C_check_number hr (by decide) rfl (qa qA (qa (pv 3) (qa qg (qa (qw q3r (pv 0) qg) qe))))))
   (qc (qI (qp C_check_number hr (by decide) rfl (qa qA (qa (pv 4) (qa qg (qa (qw q3r (pv 0) qg) qe))))))
   (qc (qN (qt q04 (pv 3) (pv 4) (qq _)) (qf q0s) qm)
   (qf (qN (q1a (q0l (qp C_is_gate hr (by decide) rfl (qa (pv 5) qe)))) (qf q0s) qm))))))
   (qf (qk (pv 2))))),?_⟩
  walk_at "rd"
  refine⟨_,v,20,xs,rfl,hv,fun x hx=>(ok x hx).row,by omega,by omega,fun p H1 s1 hp=>?_⟩
  walk_at "rd"
  refine q8x xs (fun i σ H'=>∃v3 v4 v5 v6,σ=[some (.int r),some v,some (.ref p),v3,v4,v5,v6]/\Same H1 H') ⟨none,none,none,none,rfl,Same.refl _⟩ ?_ ?_ ?_
  ·rintro i σ H' ⟨_,_,_,_,rfl,s2⟩
   exact SqT.of (s2 _ _ hp)
  ·rintro i x σ H' hx ⟨v3,v4,v5,v6,rfl,s2⟩
   obtain⟨p1,g,a,b,bk,gt,rfl,hp1,hg,gok,ha,hb,hab⟩:=(ok x (List.mem_of_getElem? hx)).mono (s1.trans s2).ts
   walk_at "rd"
   refine⟨_,a,0,r - 1,rfl,by omega,by omega,?_⟩
   walk_at "rd"
   refine⟨_,b,0,r - 1,rfl,by omega,by omega,?_⟩
   walk_at "rd"
   refine ifd (fun h=>absurd h hab) (fun _=>?_)
   walk_at "rd"
   refine⟨g,gt.word,gt.ns,rfl,by rw[<-Gt.vs_eq];exact hg,by have:=gt.ns_len;omega,fun H2 s3=>?_⟩
   rw[q8w gok]
   walk_at "rd"
   exact⟨_,_,_,_,rfl,s2.trans s3⟩
  ·rintro σ H' ⟨v3,v4,v5,v6,rfl,s2⟩
   walk_at "rd"
   exact k p H' (s1.trans s2) (s2 _ _ hp)
theorem ok_mp (T:Txt mg cs)(L:Laid K mg "made_pairs" q0S ["name","rooms","pairs","most_pairs","least","most"])(C_check_number:Cal P w K mg base 2 "check_number" ["name","number","least","most"] q4g)(C_made_rows:Cal P w K mg base 1 "made_rows" ["name","rows","most"] q7G):Cal P w K mg base 3 "made_pairs" ["name","rooms","pairs","most_pairs","least","most"] spMP:=by
 refine L.cal (k:=2) q0z (fun vs H Q E h=>?_) (fun f cdv A outer s H vs Q E hr h=>?_)
 ·obtain ⟨z,r,v,m,lo,hi,xs,rfl,_⟩:=h
  rfl
 ·obtain ⟨z,r,v,m,lo,hi,xs,rfl,hz,hv,ok,h1,h2,k⟩:=h
  have big:=qT
  have l1:(", a room":Str).length=8:=by decide +kernel
  have l2:(", a number":Str).length=10:=by decide +kernel
  have lz:z.length<=sizeLine:=by omega
  refine⟨_,(qc (qz (i:=6) q0z.nd rfl (Or.inl rfl) (qp C_made_rows hr (by decide) rfl (qa (pv 0) (qa (pv 2) (qa (pv 3) qe)))))
   (qc (q1b PassesOwn.never rfl (q4q K (pv 6)) (q0L (n:=2) K rfl (qD (qr (i:=7) q0z.nd rfl (Or.inl rfl)) (qD (qr (i:=8) q0z.nd rfl (Or.inl rfl)) q0K))) (qc (qI (qp C_check_number hr (by decide) rfl (qa (pe_fs (pe_fv (pv 0)) qA) (qa (pv 7) (qa qg (qa (qw q3r (pv 1) qg) qe))))))
   (qf (qI (qp C_check_number hr (by decide) rfl (qa (pe_fs (pe_fv (pv 0)) qA) (qa (pv 8) (qa (pv 4) (qa (pv 5) qe)))))))))
   (qf (qk (pv 6))))),?_⟩
  walk_at "rd"
  refine⟨z,v,m,xs,rfl,hv,fun x hx=>(ok x hx).row,by omega,by omega,fun p H1 s1 hp=>?_⟩
  walk_at "rd"
  refine q8x xs (fun i σ H'=>∃v7 v8,σ=[some (.str z),some (.int r),some v,some (.int m),some (.int lo),some (.int hi),some (.ref p),v7,v8]/\Same H1 H') ⟨none,none,rfl,Same.refl _⟩ ?_ ?_ ?_
  ·rintro i σ H' ⟨_,_,rfl,s2⟩
   exact SqT.of (s2 _ _ hp)
  ·rintro i x σ H' hx ⟨v7,v8,rfl,s2⟩
   obtain⟨p1,a,n,rfl,hp1,ha,hn⟩:=(ok x (List.mem_of_getElem? hx)).mono (s1.trans s2).ts
   walk_at "rd"
   refine⟨z,rfl,lz,z,rfl,lz,?_⟩
   walk_at "rd"
   refine⟨_,rfl,by rw[l1];omega,fun z1 _=>?_⟩
   walk_at "rd"
   refine⟨z1,a,0,r - 1,rfl,by omega,by omega,?_⟩
   walk_at "rd"
   refine⟨z,rfl,lz,z,rfl,lz,?_⟩
   walk_at "rd"
   refine⟨_,rfl,by rw[l2];omega,fun z2 _=>?_⟩
   walk_at "rd"
   refine⟨z2,n,lo,hi,rfl,by omega,by omega,?_⟩
   walk_at "rd"
   exact⟨_,_,rfl,s2⟩
  ·rintro σ H' ⟨v7,v8,rfl,s2⟩
   walk_at "rd"
   exact k p H' (s1.trans s2) (s2 _ _ hp)
theorem ok_mkc {d1 d2:Tok}(T:Txt mg cs)(L:LaidD K mg "cellar" q0T [.none,.none,.none,.int 0 d1,.int 0 d2])(C_check_number:Cal P w K mg base 2 "check_number" ["name","number","least","most"] q4g)(C_made_ways:Cal P w K mg base 3 "made_ways" ["rooms","ways"] spMW)
  (C_made_pairs:Cal P w K mg base 3 "made_pairs" ["name","rooms","pairs","most_pairs","least","most"] spMP):CalD P w K mg base 4 "cellar" ["rooms","first","last","ways","things","levers","wheels","bars","water"] qb7 q0T [.none,.none,.none,.int 0 d1,.int 0 d2]:=by
 obtain⟨t1,e_MOST_ROOMS⟩:=T.e_MOST_ROOMS
 obtain⟨t2,e_ALL_BARS⟩:=T.e_ALL_BARS
 obtain⟨t3,e_TOP_HEIGHT⟩:=T.e_TOP_HEIGHT
 obtain⟨t4,e_MOST_THINGS⟩:=T.e_MOST_THINGS
 obtain⟨t5,e_MOST_LEVERS⟩:=T.e_MOST_LEVERS
 obtain⟨t6,e_MOST_WHEELS⟩:=T.e_MOST_WHEELS
 obtain⟨t7,e_LAST_KIND⟩:=T.e_LAST_KIND
 refine L.cal (k:=3) q7P (fun vs H Q E h=>?_) (fun f cdv A outer s H vs Q E hr h=>?_)
 ·obtain ⟨r,f,l,b,wt,v1,v2,v3,v4,x1,x2,x3,x4,rfl,_⟩:=h
  rfl
 ·obtain ⟨r,f,l,b,wt,v1,v2,v3,v4,x1,x2,x3,x4,rfl,hr0,hf,hl,hb,hw,i1,i2,i3,i4,o1,o2,o3,o4,l1,l2,l3,l4,k⟩:=h
  have n1:("things":Str).length<=100:=by decide +kernel
  have n2:("levers":Str).length<=100:=by decide +kernel
  have n3:("wheels":Str).length<=100:=by decide +kernel
  refine⟨_,(qc (qI (qp C_check_number hr (by decide) rfl (qa qA (qa (pv 0) (qa qg (qa (qh (v:= .int 14) rfl e_MOST_ROOMS ⟨_,rfl⟩) qe))))))
   (qc (qI (qp C_check_number hr (by decide) rfl (qa qA (qa (pv 1) (qa qg (qa (qw q3r (pv 0) qg) qe))))))
   (qc (qI (qp C_check_number hr (by decide) rfl (qa qA (qa (pv 2) (qa qg (qa (qw q3r (pv 0) qg) qe))))))
   (qc (qI (qp C_check_number hr (by decide) rfl (qa qA (qa (pv 7) (qa qg (qa (qh (v:= .int 255) rfl e_ALL_BARS ⟨_,rfl⟩) qe))))))
   (qc (qI (qp C_check_number hr (by decide) rfl (qa qA (qa (pv 8) (qa qg (qa (qh (v:= .int 9) rfl e_TOP_HEIGHT ⟨_,rfl⟩) qe))))))
   (qf (qk (qS (qa (pv 0) (qa (pv 1) (qa (pv 2) (qa (qp C_made_ways hr (by decide) rfl (qa (pv 0) (qa (pv 3) qe))) (qa (qp C_made_pairs hr (by decide) rfl (qa qA (qa (pv 0) (qa (pv 4) (qa (qh (v:= .int 8) rfl e_MOST_THINGS ⟨_,rfl⟩) (qa qg (qa (qh (v:= .int 11) rfl e_LAST_KIND ⟨_,rfl⟩) qe))))))) (qa (qp C_made_pairs hr (by decide) rfl (qa qA (qa (pv 0) (qa (pv 5) (qa (qh (v:= .int 4) rfl e_MOST_LEVERS ⟨_,rfl⟩) (qa qg (qa (qh (v:= .int 255) rfl e_ALL_BARS ⟨_,rfl⟩) qe))))))) (qa (qp C_made_pairs hr (by decide) rfl (qa qA (qa (pv 0) (qa (pv 6) (qa (qh (v:= .int 4) rfl e_MOST_WHEELS ⟨_,rfl⟩) (qa qg (qa (qh (v:= .int 9) rfl e_TOP_HEIGHT ⟨_,rfl⟩) qe))))))) (qa (pv 7) (qa (pv 8) qe))))))))))))))))),?_⟩
  walk_at "rd"
  refine⟨_,r,1,14,rfl,by omega,by omega,?_⟩
  walk_at "rd"
  refine⟨_,f,0,r - 1,rfl,by omega,by omega,?_⟩
  walk_at "rd"
  refine⟨_,l,0,r - 1,rfl,by omega,by omega,?_⟩
  walk_at "rd"
  refine⟨_,b,0,255,rfl,by omega,by omega,?_⟩
  walk_at "rd"
  refine⟨_,wt,0,9,rfl,by omega,by omega,?_⟩
  walk_at "rd"
  refine⟨r,v1,x1,rfl,i1,o1,l1,fun p1 H1 s1 h1=>?_⟩
  walk_at "rd"
  refine⟨_,r,v2,8,0,11,x2,rfl,n1,i2.mono s1,fun x hx=>(o2 x hx).mono s1.ts,by omega,by omega,fun p2 H2 s2 h2=>?_⟩
  have s12:=s1.trans s2
  walk_at "rd"
  refine⟨_,r,v3,4,1,255,x3,rfl,n2,i3.mono s12,fun x hx=>(o3 x hx).mono s12.ts,by omega,by omega,fun p3 H3 s3 h3=>?_⟩
  have s13:=s12.trans s3
  walk_at "rd"
  refine⟨_,r,v4,4,0,9,x4,rfl,n3,i4.mono s13,fun x hx=>(o4 x hx).mono s13.ts,by omega,by omega,fun p4 H4 s4 h4=>?_⟩
  have s14:=s13.trans s4
  walk_at "rd"
  intro p hp
  have s5:=Same.upd (o:= .tup [.int r,.int f,.int l,.ref p1,.ref p2,.ref p3,.ref p4,.int b,.int wt]) hp
  exact k p p1 p2 p3 p4 _ (s14.trans s5) qb (s5 _ _ (s4 _ _ (s3 _ _ (s2 _ _ h1)))) (s5 _ _ (s4 _ _ (s3 _ _ h2))) (s5 _ _ (s4 _ _ h3)) (s5 _ _ h4)
abbrev psC:List Str:=["rooms","first","last","ways","things","levers","wheels","bars","water"]
abbrev dsC (d1 d2:Tok):List Value:=[.none,.none,.none,.int 0 d1,.int 0 d2]
theorem q6i (d1 d2:Tok)(us:List Value)(hl:(us++[]).length=psC.length):BnD "cellar" q0T (dsC d1 d2) ⟨us,[]⟩ (psC.zip (us++[])):=by
 have hl2:us.length=9:=by simpa using hl
 clear hl;revert us;exact blS fun _=>blS fun _=>blS fun _=>blS fun _=>blS fun _=>blS fun _=>blS fun _=>blS fun _=>blS fun _=>bl0 (fun _ _ _ _ _ _ _=>⟨_,rfl,rfl⟩)
theorem q6a (d1 d2:Tok):Vals [] []:= .nil
theorem off_ne {a d r:Int}(h0:0<=a)(h1:a<r)(d0:1<=d)(d1:d<r):(a+d) % r≠a:=by
 by_cases h:a+d<r
 ·rw [Int.emod_eq_of_lt (by omega) h];omega
 ·have e:a+d=(a+d - r)+r*1:=by omega
  rw[e,Int.add_mul_emod_self_left,Int.emod_eq_of_lt (by omega) (by omega)]
  omega
end
theorem hu5_of {A:Around}{k:Nat}(hr:Room k A):A.units+4<cLine:=by have:=hr.un;omega
theorem qaJ {A:Around}{k:Nat}(hr:Room k A):A.units+3<cLine:=by have:=hr.un;omega
def LAt (f:Sd->List Sd)(H:Hp)(p:Addr)(x:Sd):Prop:=qV SAt H p (f x)
theorem LAt.mono {f:Sd->List Sd}{H H':Hp}(s:Same H H'){p:Addr}{x:Sd}(h:LAt f H p x):LAt f H' p x:=by
 obtain⟨ps,h1,h2⟩:=h
 exact⟨ps,s _ _ h1,h2.mono fun _ _=>SAt.mono s.ts⟩
theorem q5D {H:Hp}{D:Addr}{kvs:List (List Key×V)}{o:HO}(hD:H D=some (.dT kvs)):q00 H (upd H D o):=fun p xs h=>by rw[qj (q2H h hD (by intro z;cases z))];exact h
theorem LAt.dput {f:Sd->List Sd}{H:Hp}{D:Addr}{kvs:List (List Key×V)}{o:HO}(hD:H D=some (.dT kvs)){p:Addr}{x:Sd}(h:LAt f H p x):LAt f (upd H D o) p x:=by
 obtain⟨ps,h1,h2⟩:=h
 exact⟨ps,by rw[qj (q2H h1 hD (by intro z;cases z))];exact h1,h2.mono fun _ _=>SAt.mono (q5D hD)⟩
def lkD (ss:List Sd)(ls:List Addr):Dk:=List.zipWith (fun s l=>(s,V.ref l)) ss ls
theorem q0Y:∀{ss:List Sd} {ls:List Addr},ls.length=ss.length->(lkD ss ls).map (·.1)=ss
 |[],[],_=>rfl
 |[],_::_,h=>by simp at h
 |_::_,[],h=>by simp at h
 |s::ss,l::ls,h=>by
  show s::(lkD ss ls).map (·.1)=_
  rw[q0Y (by simpa using h)]
theorem q3v {ss:List Sd}{ls:List Addr}(h:ls.length=ss.length):(lkD ss ls).length=ss.length:=by have:=congrArg List.length (q0Y h);simpa using this
theorem q6D {ss:List Sd}{ls:List Addr}{s:Sd}{l:Addr}(h:ls.length=ss.length):lkD (ss++[s]) (ls++[l])=lkD ss ls++[(s,.ref l)]:=by
 unfold lkD
 rw[List.zipWith_append h.symm]
 rfl
theorem lkD_at {ss:List Sd}{ls:List Addr}{i:Nat}{s:Sd}{l:Addr}(h:ls.length=ss.length)(hn:ss.Nodup)(hs:ss[i]? =some s)(hl:ls[i]? =some l):dat (lkD ss ls) s=some (.ref l):=by
 refine q6I (by rw[q0Y h];exact hn) ?_
 have:(lkD ss ls)[i]? =some (s,.ref l):=by unfold lkD;rw[List.getElem?_zipWith,hs,hl]
 exact List.mem_of_getElem? this
theorem q4b:∀{l m:List Sd},l.Nodup->(∀x∈l,x∈m)->l.length<=m.length
 |[],_,_,_=>Nat.zero_le _
 |x::l,m,hn,h=>by
  rw[List.nodup_cons] at hn
  have hx:=h x (.head _)
  have:=q4b (m:=m.erase x) hn.2 fun y hy=>(List.mem_erase_of_ne fun e=>hn.1 (by rw[<-e];exact hy)).mpr (h y (List.mem_cons_of_mem _ hy))
  rw[List.length_erase_of_mem hx] at this
  have:0<m.length:=List.length_pos_of_mem hx
  rw[List.length_cons]
  omega
theorem DAtS.lput {H:Hp}{R D:Addr}{l:Dk}{xs:List V}{o:HO}(hR:H R=some (.lst xs))(h:DAtS H D l):DAtS (upd H R o) D l:=by
 show upd H R o D=_
 rw[qj (q2H h hR (by intro z;cases z))]
 exact h
theorem Rd.same {H H':Hp}(s:Same H H'){a:Addr}{u:HO}(h:Rd H a u):Rd H' a u:=by
 rcases h with h|⟨o,h⟩
 ·exact .inl (s _ _ h)
 ·exact .inr ⟨o,s _ _ h⟩
theorem qc3 {ss:List Sd}{ls:List Addr}{i:Nat}{p:List Key×V}(hl:ls.length=ss.length)(h:(dkv (lkD ss ls))[i]? =some p):∃s l,ss[i]? =some s/\ls[i]? =some l/\p=(s.key,.ref l):=by
 have hi:i<ss.length:=by
  have:=(List.getElem?_eq_some_iff.mp h).1
  rw[show(dkv (lkD ss ls)).length=(lkD ss ls).length by simp[dkv],q3v hl] at this
  exact this
 refine⟨ss[i],ls[i]'(by omega),List.getElem?_eq_getElem hi,List.getElem?_eq_getElem (by omega),?_⟩
 have e:(lkD ss ls)[i]? =some (ss[i],.ref (ls[i]'(by omega))):=by unfold lkD;rw[List.getElem?_zipWith,List.getElem?_eq_getElem hi,List.getElem?_eq_getElem (by omega)]
 rw[dkv,List.getElem?_map,e] at h
 exact(Option.some.inj h).symm
theorem q6Z {H:Hp}{ps:List Addr}{R:List Sd}{l l':List (Addr×List Int)}(h2:l.map (·.2)=R.map Sd.ns)(h3:∀x∈l,H x.1=some (.tup (x.2.map V.int))/\x.2.length=5)(hp:l'.Perm l)(hs:l'.Pairwise fun a b=>¬b.2<a.2):
  ∃R',R'.Perm R/\Ord R'/\Rows SAt H (l'.map (·.1)) R':=by
 have ex:∀x∈l',∃s:Sd,x.2=s.ns:=fun x hx=>by
  have:x.2∈l.map (·.2):=List.mem_map.mpr ⟨x,hp.mem_iff.mp hx,rfl⟩
  rw[h2] at this
  obtain⟨s,_,e⟩:=List.mem_map.mp this
  exact⟨s,e.symm⟩
 obtain⟨R',hR⟩:∃R':List Sd,l'.map (·.2)=R'.map Sd.ns:=by
  clear hp hs
  induction l' with
  |nil=>exact⟨[],rfl⟩
  |cons x l' ih=>
   obtain⟨R',e⟩:=ih fun y hy=>ex y (List.mem_cons_of_mem _ hy)
   obtain⟨s,es⟩:=ex x (.head _)
   exact⟨s::R',by simp[e,es]⟩
 have pm:(R'.map Sd.ns).Perm (R.map Sd.ns):=by rw[<-hR,<-h2];exact hp.map _
 refine⟨R',?_,?_,?_⟩
 ·have inv:∀l:List Sd,(l.map Sd.ns).map (fun k:List Int=>(⟨k.getD 0 0,k.getD 1 0,k.getD 2 0,k.getD 3 0,k.getD 4 0⟩:Sd))=l:=fun l=>by
   rw[List.map_map]
   exact(List.map_congr_left fun a _=>rfl).trans (List.map_id l)
  have:=pm.map fun k:List Int=>(⟨k.getD 0 0,k.getD 1 0,k.getD 2 0,k.getD 3 0,k.getD 4 0⟩:Sd)
  rwa [inv,inv] at this
 ·have:(l'.map (·.2)).Pairwise fun a b=>¬b<a:=List.pairwise_map.mpr hs
  rw[hR] at this
  exact List.pairwise_map.mp this
 ·have hl:l'.length=R'.length:=by have:=congrArg List.length hR;simpa using this
  refine⟨by simpa using hl,fun i p x hp' hx=>?_⟩
  have hi:i<R'.length:=(List.getElem?_eq_some_iff.mp hx).1
  have e1:l'[i]'(by omega)∈l':=List.getElem_mem _
  have e2:=(h3 _ (hp.mem_iff.mp e1)).1
  have e3:(l'[i]'(by omega)).1=p:=by simpa[show i<l'.length by omega] using hp'
  have e4:(l'[i]'(by omega)).2=x.ns:=by
   have:=congrArg (fun z=>z[i]?) hR
   simp only[List.getElem?_map,hx,List.getElem?_eq_getElem (show i<l'.length by omega),Option.map_some] at this
   exact Option.some.inj this
  rw[e3,e4] at e2
  exact e2
theorem q7s {r:Int}{H:Hp}:∀{xs:List V},(∀x∈xs,q2y r H x)->∃(ps:List Addr) (ws:List Way),xs=ps.map V.ref/\Rows q4H H ps ws/\∀x∈ws,(0<=x.a/\x.a<r)/\(0<=x.b/\x.b<r)/\x.a≠x.b/\x.g.ok
 |[],_=>⟨[],[],rfl,Rows.nil,fun x h=>nomatch h⟩
 |x::xs,h=>by
  obtain⟨ps,ws,e,hr,hw⟩:=q7s fun y hy=>h y (List.mem_cons_of_mem _ hy)
  obtain⟨p,g,a,b,bk,gt,ex,h1,h2,h3,h4,h5,h6⟩:=h x (.head _)
  refine⟨p::ps,⟨a,b,gt,bk⟩::ws,by rw[ex,e];rfl,⟨by simp[hr.1],fun i q y hq hy=>?_⟩,fun y hy=>?_⟩
  ·cases i with
   |zero=>cases hq;cases hy;exact⟨g,h1,h2⟩
   |succ i=>exact hr.2 i q y hq hy
  ·rcases List.mem_cons.mp hy with rfl|hy
   ·exact ⟨h4,h5,h6,h3⟩
   ·exact hw y hy
theorem q39 {r lo hi:Int}{H:Hp}:∀{xs:List V},(∀x∈xs,qX r lo hi H x)->∃(ps:List Addr) (ws:List (Int×Int)),xs=ps.map V.ref/\Rows q1e H ps ws/\∀x∈ws,(0<=x.1/\x.1<r)/\lo<=x.2/\x.2<=hi
 |[],_=>⟨[],[],rfl,Rows.nil,fun x h=>nomatch h⟩
 |x::xs,h=>by
  obtain⟨ps,ws,e,hr,hw⟩:=q39 fun y hy=>h y (List.mem_cons_of_mem _ hy)
  obtain⟨p,a,n,ex,h1,h2,h3⟩:=h x (.head _)
  refine⟨p::ps,(a,n)::ws,by rw[ex,e];rfl,⟨by simp[hr.1],fun i q y hq hy=>?_⟩,fun y hy=>?_⟩
  ·cases i with
   |zero=>cases hq;cases hy;exact h1
   |succ i=>exact hr.2 i q y hq hy
  ·rcases List.mem_cons.mp hy with rfl|hy
   ·exact ⟨h2,h3⟩
   ·exact hw y hy
theorem qc9 {H:Hp}{p p1 p2 p3 p4:Addr}{r f l b wt:Int}{x1 x2 x3 x4:List V}(h0:1<=r/\r<=14)(hf:0<=f/\f<r)(hl:0<=l/\l<r)(hb:0<=b/\b<256)(hw:0<=wt/\wt<10)(hp:H p=some (.tup [.int r,.int f,.int l,.ref p1,.ref p2,.ref p3,.ref p4,.int b,.int wt]))(e1:H p1=some (.tup x1))(e2:H p2=some (.tup x2))(e3:H p3=some (.tup x3))(e4:H p4=some (.tup x4))
  (w1:∀x∈x1,q2y r H x)(w2:∀x∈x2,qX r 0 11 H x)(w3:∀x∈x3,qX r 1 255 H x)(w4:∀x∈x4,qX r 0 9 H x)(l1:x1.length<=20)(l2:x2.length<=8)(l3:x3.length<=4)(l4:x4.length<=4):∃C,ClAt H p C/\ClOk C/\C.rooms=r/\C.ways.length=x1.length/\C.things.length=x2.length/\C.levers.length=x3.length/\C.wheels.length=x4.length:=by
 obtain⟨q1,ws,rfl,r1,k1⟩:=q7s w1
 obtain⟨q2,ts,rfl,r2,k2⟩:=q39 w2
 obtain⟨q3,vs,rfl,r3,k3⟩:=q39 w3
 obtain⟨q4,us,rfl,r4,k4⟩:=q39 w4
 rw[List.length_map] at l1 l2 l3 l4
 have n1:=r1.1
 have n2:=r2.1
 have n3:=r3.1
 have n4:=r4.1
 exact⟨⟨r,f,l,ws,ts,vs,us,b,wt⟩,⟨p1,p2,p3,p4,hp,⟨q1,e1,r1⟩,⟨q2,e2,r2⟩,⟨q3,e3,r3⟩,⟨q4,e4,r4⟩⟩,
  {r1:=h0.1,r2:=h0.2,f:=hf,l:=hl,wl:=by show ws.length<=20;omega,tl:=by show ts.length<=8;omega,ll:=by show vs.length<=4;omega,vl:=by show us.length<=4;omega,w:=k1,t:=fun x hx=>⟨(k2 x hx).1,by have:=(k2 x hx).2;omega,by have:=(k2 x hx).2;omega⟩,lv:=fun x hx=>⟨(k3 x hx).1,by have:=(k3 x hx).2;omega,by have:=(k3 x hx).2;omega⟩,wh:=fun x hx=>⟨(k4 x hx).1,by have:=(k4 x hx).2;omega,by have:=(k4 x hx).2;omega⟩,b:=by show 0<=b/\b<=255;omega,wa:=by show 0<=wt/\wt<=9;omega},rfl,by rw[List.length_map];exact n1.symm,by rw[List.length_map];exact n2.symm,by rw[List.length_map];exact n3.symm,by rw[List.length_map];exact n4.symm⟩
theorem qV.same {H H':Hp}(s:Same H H'){p:Addr}{R:List Sd}(h:qV SAt H p R):qV SAt H' p R:=LAt.mono (f:=fun _=>R) (x:=⟨0,0,0,0,0⟩) s h
def q9j (K:W.Frag):Sp:=fun vs H Q _=>∃(a:Addr) (ns:List Int),vs=[.ref a]/\SqL K H a (ns.map V.int)/\ns.length<=63/\∀H',Q (.bl true) H'
theorem qaA (x y:Sd):(!eqVs x.vs y.vs)= !decide (x=y):=by
 congr 1
 have e3:decide (x=y)=(decide (x.rm=y.rm)&&(decide (x.tk=y.tk)&&(decide (x.op=y.op)&&(decide (x.b=y.b)&&decide (x.wt=y.wt))))):=by
  cases x;cases y;simp[Bool.decide_and]
 rw[e3]
 simp[eqVs,Sd.vs,eqV]
 rfl
section
variable {α:Type}[DecidableEq α]{At:Hp->Addr->α->Prop}{K:W.Frag}{H:Hp}{Q:VK}{p q:Addr}{R1 R2:List α}{n:Nat}
theorem all_of (hl:R1.length=R2.length){m:Nat}(hm:m=R1.length):((List.range m).all fun j=>decide (R1[j]? =R2[j]?))=decide (R1=R2):=by
 subst hm
 rw[Bool.eq_iff_iff,List.all_eq_true,decide_eq_true_eq]
 constructor
 ·intro h
  refine List.ext_getElem? fun i=>?_
  by_cases hi:i<R1.length
  ·exact of_decide_eq_true (h i (List.mem_range.mpr hi))
  ·rw [List.getElem?_eq_none (by omega),List.getElem?_eq_none (by omega)]
 ·rintro rfl j _
  exact decide_eq_true rfl
theorem deq_of (dq:∀a b x y,At H a x->At H b y->Deq K H n (.ref a) (.ref b) (decide (x=y))){ps qs:List Addr}(r1:Rows At H ps R1)(r2:Rows At H qs R2){j:Nat}(h1:j<R1.length)(h2:j<R2.length):Deq K H n ((ps.map V.ref).getD j .non) ((qs.map V.ref).getD j .non) (decide (R1[j]? =R2[j]?)):=by
 obtain⟨a,ea,ha⟩:=r1.get h1
 obtain⟨b,eb,hb⟩:=r2.get h2
 rw[List.getD_eq_getElem?_getD,List.getD_eq_getElem?_getD,ea,eb,List.getElem?_eq_getElem h1,List.getElem?_eq_getElem h2]
 have:=dq a b _ _ ha hb
 simpa using this
theorem r_eqG (dq:∀a b x y,At H a x->At H b y->Deq K H n (.ref a) (.ref b) (decide (x=y)))(h1:qV At H p R1)(h2:qV At H q R2)(k:Q (.bl (decide (R1=R2))) H):rEqD K n (.ref p) (.ref q) H Q:=by
 obtain⟨ps,e1,r1⟩:=h1
 obtain⟨qs,e2,r2⟩:=h2
 by_cases hl:R1.length=R2.length
 ·refine .inr (.inl ⟨p,q,_,_,fun j=>decide (R1[j]? =R2[j]?),rfl,rfl,SqL.of e1,SqL.of e2,by rw[List.length_map,List.length_map,r1.1,r2.1,hl],fun j h1 h2=>?_,?_⟩)
  ·rw [List.length_map,r1.1] at h1
   rw[List.length_map,r2.1] at h2
   exact deq_of dq r1 r2 h1 h2
  ·rw [all_of hl (by rw[List.length_map,r1.1])]
   exact k
 ·refine .inr (.inr ⟨p,q,_,_,rfl,rfl,SqL.of e1,SqL.of e2,by rw[List.length_map,List.length_map,r1.1,r2.1];exact hl,?_⟩)
  rw[decide_eq_false (fun e=>hl (by rw[e]))] at k
  exact k
end
section
variable {P:Program}{w:World}{K:W.Frag}{mg:Str->Option Value}{base:Heap}{cs:Cs}
theorem q9O (T:Txt mg cs)(L:Laid K mg "_law_gate" q1j ["_law_cell"]):Cal P w K mg base 1 "_law_gate" ["_law_cell"] qaz:=by
 refine L.cal (k:=0) q1I (fun vs H Q E h=>?_) (fun f cdv A outer s H vs Q E hr h=>?_)
 ·obtain ⟨c,rfl,_⟩:=h
  rfl
 ·obtain ⟨c,rfl,k⟩:=h
  have a2:=q0d (c / 10) (n:=2) (by decide)
  have a2':=q0e (c / 10) (n:=2) (by decide)
  have a3:=q0d (c / 10) (n:=3) (by decide)
  have a3':=q0e (c / 10) (n:=3) (by decide)
  have b2:=q0d (c / 10 / 3) (n:=2) (by decide)
  have b2':=q0e (c / 10 / 3) (n:=2) (by decide)
  have door:∀p,H p=none->Q (.ref p) (upd H p (.tup [.str "door",.int (c / 10 % 2)])):=fun p hp=>k p (.door (c / 10 % 2)) _ (Same.upd hp) (show 0<=c / 10 % 2/\c / 10 % 2<12 by omega) qb
  refine⟨_,(qc (qz (i:=1) q1I.nd rfl (Or.inl rfl) (qw qW (pv 0) qg))
   (qc (qz (i:=0) q1I.nd rfl (Or.inl rfl) (qw q08 (pv 0) qg))
   (qc (qN (PW.pt (q1W (qt q04 (pv 1) qg (qq _)) (q19 (qt q04 (pv 1) qg (qq _))))) (qf (qk (qS (qa qA (qa (qw qW (pv 0) qg) qe))))) qm)
   (qc (qN (qt q04 (pv 1) qg (qq _)) (qf (qk (qS (qa qA (qa (qw qW (pv 0) qg) qe))))) qm)
   (qc (qN (qt q04 (pv 1) qg (qq _)) (qf (qk (qS (qa qA (qa (qw qW (pv 0) qg) qe))))) qm)
   (qc (qN (qt q04 (pv 1) qg (qq _)) (qf (qk (qS (qa qA (qa (qw q1c (qw qW (pv 0) qg) qg) (qa (qw qW (qw q08 (pv 0) qg) qg) qe)))))) qm)
   (qc (qN (qt q04 (pv 1) qg (qq _)) (qf (qk (qS (qa qA (qa (qw q1c (qw qW (pv 0) qg) qg) qe))))) qm)
   (qf (qk (qS (qa qA qe))))))))))),?_⟩
  walk_at "rd"
  refine ifd (fun h1=>?_) (fun h1=>?_)
  ·walk_at "rd"
   exact door
  walk_at "rd"
  refine ifd (fun h2=>?_) (fun h2=>?_)
  ·walk_at "rd"
   exact door
  walk_at "rd"
  refine ifd (fun h3=>?_) (fun h3=>?_)
  ·walk_at "rd"
   exact fun p hp=>k p (.need (c / 10 % 2)) _ (Same.upd hp) (show 0<=c / 10 % 2/\c / 10 % 2<12 by omega) qb
  walk_at "rd"
  refine ifd (fun h4=>?_) (fun h4=>?_)
  ·walk_at "rd"
   exact fun p hp=>k p (.bar (c / 10 % 2)) _ (Same.upd hp) (show 0<=c / 10 % 2/\c / 10 % 2<8 by omega) qb
  walk_at "rd"
  refine ifd (fun h5=>?_) (fun h5=>?_)
  ·walk_at "rd"
   exact fun p hp=>k p (.wade (c / 10 % 3+2) (c / 10 / 3 % 2)) _ (Same.upd hp) (show(0<=c / 10 % 3+2/\c / 10 % 3+2<10)/\0<=c / 10 / 3 % 2/\c / 10 / 3 % 2<12 by omega) qb
  walk_at "rd"
  refine ifd (fun h6=>?_) (fun h6=>?_)
  ·walk_at "rd"
   exact fun p hp=>k p (.float (c / 10 % 3+2)) _ (Same.upd hp) (show 0<=c / 10 % 3+2/\c / 10 % 3+2<10 by omega) qb
  walk_at "rd"
  exact fun p hp=>k p .plain _ (Same.upd hp) trivial qb
def spCelL (K:W.Frag):Sp:=fun vs H Q _=>∃(a:Addr) (ns:List Int),vs=[.ref a]/\SqL K H a (ns.map V.int)/\ns.length<=63/\∀(p:Addr) (C:Cl) (H':Hp),Same H H'->ClAt H' p C->ClOk C->Small C->Q (.ref p) H'
theorem qbE {d1 d2:Tok}(T:Txt mg cs)(L:Laid K mg "_law_cellar" qR ["_law_script"])(C__law_cell_at:Cal P w K mg base 1 "_law_cell_at" ["_law_script","_law_k"] (q7J K))(C__law_gate:Cal P w K mg base 1 "_law_gate" ["_law_cell"] qaz)(C_cellar:CalD P w K mg base 4 "cellar" ["rooms","first","last","ways","things","levers","wheels","bars","water"] qb7 q0T [.none,.none,.none,.int 0 d1,.int 0 d2]):Cal P w K mg base 5 "_law_cellar" ["_law_script"] (spCelL K):=by
 refine L.cal (k:=4) qv (fun vs H Q E h=>?_) (fun f cdv A outer s H vs Q E hr h=>?_)
 ·obtain ⟨a,ns,rfl,_⟩:=h
  rfl
 ·obtain ⟨a,ns,rfl,hS,hl,k⟩:=h
  have big:=qT
  refine⟨_,(qc (qz (i:=1) qv.nd rfl (Or.inl rfl) (qp C__law_cell_at hr (by decide) rfl (qa (pv 0) (qa qg qe))))
   (qc (qz (i:=2) qv.nd rfl (Or.inr rfl) (qw q1c qg (qw qW (pv 1) qg)))
   (qc (qz (i:=3) qv.nd rfl (Or.inl rfl) (q3Z qe))
   (qc (q1b PassesOwn.never rfl (q06 rfl T.n_range (qa (qw op_mul (qw qW (qw q08 (pv 1) qg) qg) (q0c int1 rfl T.n_int q94 (qa (q07 q3s (pv 2) qg (qq _)) qe))) qe)) (qr (i:=4) qv.nd rfl (Or.inl rfl)) (qc (qz (i:=5) qv.nd rfl (Or.inl rfl) (qp C__law_cell_at hr (by decide) rfl (qa (pv 0) (qa (qw q1c qg (pv 4)) qe))))
   (qc (qz (i:=6) qv.nd rfl (Or.inl rfl) (qw qW (pv 5) (pv 2)))
   (qc (qz (i:=7) qv.nd rfl (Or.inl rfl) (qw qW (qw q1c (qw q1c (pv 6) qg) (qw qW (qw q08 (pv 5) qg) (qw q3r (pv 2) qg))) (pv 2)))
   (qf (qI (q9H PySem.F.plainAttrs_list PySem.F.slot_list_append PySem.F.type_list_append q1L (pv 3) (qa (qS (qa (pv 6) (qa (pv 7) (qa (qp C__law_gate hr (by decide) rfl (qa (qw q08 (pv 5) qg) qe)) (qa (q07 q3s (qw qW (qw q08 (pv 5) qg) qg) qg (qq _)) qe))))) qe))))))))
   (qc (qz (i:=8) qv.nd rfl (Or.inr rfl) (q0N (q0m (N:=["_law_k","_law_script"]) (own:=1) (caps:=[0]) ["_law_script","_law_first","_law_rooms","_law_ways","_law_k","_law_cell","_law_a","_law_b","_law_some","_law_things","_law_levers","_law_wheels","_law_last","_law_more"] (qd qR) (by decide +kernel)) rfl (q06 rfl T.n_range (qa qg qe)) (fun _ _ _ _=>(qr (i:=0) (show List.Nodup (["_law_k","_law_script"]:List Str) by decide +kernel) rfl (Or.inl rfl))) (fun _ _ _ _=>q0w) (fun _ _ _ _=>(qp C__law_cell_at hr (by decide) rfl (qa (pv 1) (qa (qw q1c qg (pv 0)) qe))))))
   (qc (q2a (i:=9) qv.nd rfl rfl (q0m (N:=["_law_k","_law_some","_law_rooms"]) (own:=1) (caps:=[8,2]) ["_law_script","_law_first","_law_rooms","_law_ways","_law_k","_law_cell","_law_a","_law_b","_law_some","_law_things","_law_levers","_law_wheels","_law_last","_law_more"] (qd qR) (by decide +kernel)) rfl (q06 rfl T.n_range (qa (qw qW (qw q08 (pv 1) qg) qg) qe)) (fun _ _ _ _=>(qr (i:=0) (show List.Nodup (["_law_k","_law_some","_law_rooms"]:List Str) by decide +kernel) rfl (Or.inl rfl))) (fun _ _ _ _=>q0w) (fun _ _ _ _=>(qS (qa (qw qW (qu (qK K) (pv 1) (pv 0) (fun _ _=>rfl)) (pv 2)) (qa (qw qW (qw q08 (qu (qK K) (pv 1) (pv 0) (fun _ _=>rfl)) qg) qg) qe)))))
   (qc (q2a (i:=10) qv.nd rfl rfl (q0m (N:=["_law_k","_law_some","_law_rooms"]) (own:=1) (caps:=[8,2]) ["_law_script","_law_first","_law_rooms","_law_ways","_law_k","_law_cell","_law_a","_law_b","_law_some","_law_things","_law_levers","_law_wheels","_law_last","_law_more"] (qd qR) (by decide +kernel)) rfl (q06 rfl T.n_range (qa (qw qW (qw q08 (pv 1) qg) qg) qe)) (fun _ _ _ _=>(qr (i:=0) (show List.Nodup (["_law_k","_law_some","_law_rooms"]:List Str) by decide +kernel) rfl (Or.inl rfl))) (fun _ _ _ _=>q0w) (fun _ _ _ _=>(qS (qa (qw qW (qw q08 (qu (qK K) (pv 1) (pv 0) (fun _ _=>rfl)) qg) (pv 2)) (qa (qw q1c qg (qw qW (qw q08 (qu (qK K) (pv 1) (pv 0) (fun _ _=>rfl)) qg) qg)) qe)))))
   (qc (q2a (i:=11) qv.nd rfl rfl (q0m (N:=["_law_k","_law_some","_law_rooms"]) (own:=1) (caps:=[8,2]) ["_law_script","_law_first","_law_rooms","_law_ways","_law_k","_law_cell","_law_a","_law_b","_law_some","_law_things","_law_levers","_law_wheels","_law_last","_law_more"] (qd qR) (by decide +kernel)) rfl (q06 rfl T.n_range (qa (qw q08 (qw qW (qw q08 (pv 1) qg) qg) qg) qe)) (fun _ _ _ _=>(qr (i:=0) (show List.Nodup (["_law_k","_law_some","_law_rooms"]:List Str) by decide +kernel) rfl (Or.inl rfl))) (fun _ _ _ _=>q0w) (fun _ _ _ _=>(qS (qa (qw qW (qw q08 (qu (qK K) (pv 1) (pv 0) (fun _ _=>rfl)) qg) (pv 2)) (qa (qw qW (qw q08 (qu (qK K) (pv 1) (pv 0) (fun _ _=>rfl)) qg) qg) qe)))))
   (qc (qz (i:=12) qv.nd rfl (Or.inl rfl) (qw qW (qp C__law_cell_at hr (by decide) rfl (qa (pv 0) (qa qg qe))) (pv 2)))
   (qc (qz (i:=13) qv.nd rfl (Or.inl rfl) (qp C__law_cell_at hr (by decide) rfl (qa (pv 0) (qa qg qe))))
   (qf (qk (q84 C_cellar (q6i d1 d2) (q6a d1 d2) hr (by decide) rfl (qa (pv 2) (qa (qw qW (pv 13) (pv 2)) (qa (pv 12) (qa (pv 3) (qa (pv 9) (qa (pv 10) (qa (pv 11) (qa (qw qW (qw q08 (pv 13) qg) qg) (qa (qw qW (qw q08 (pv 13) qg) qg) qe)))))))))))))))))))))),?_⟩
  walk_at "rd"
  refine⟨a,ns,0,rfl,hS,hl,by decide,?_⟩
  generalize ns.getD (0:Int).toNat 0=n0
  have r0:=q0d n0 (n:=5) (by decide)
  have r1:=q0e n0 (n:=5) (by decide)
  have m0:=q0d (n0 / 5) (n:=5) (by decide)
  have m1:=q0e (n0 / 5) (n:=5) (by decide)
  walk_at "rd"
  intro W hW
  generalize hR:1+n0 % 5=R
  have hSW:=(Same.upd (o:= .lst []) hW).seq hS
  walk_at "rd"
  obtain⟨N,eN,hN4,hN1⟩:∃N:Nat,(n0 / 5 % 5*if decide (1<R)=true then 1 else 0)=(N:Int)/\N<=4/\(0<N->1<R):=by
   by_cases h:1<R
   ·rw [decide_eq_true h,if_pos rfl,Int.mul_one]
    exact⟨(n0 / 5 % 5).toNat,by omega,by omega,fun _=>h⟩
   ·rw [decide_eq_false h,if_neg (by decide),Int.mul_zero]
    exact⟨0,rfl,by omega,fun h=>absurd h (by decide)⟩
  rw[eN]
  refine r_rg (by omega) ?_
  have hR1:1<=R:=by omega
  have hR5:R<=5:=by omega
  have hR0:0<R:=by omega
  refine q8y (fun i σ H'=>∃v4 v5 v6 v7,σ=[some (.ref a),some (.int n0),some (.int R),some (.ref W),v4,v5,v6,v7,none,none,none,none,none,none]/\Same H H'/\∃xs,H' W=some (.lst xs)/\xs.length<=i/\∀x∈xs,q2y R H' x) ⟨none,none,none,none,rfl,Same.upd hW,[],qb,Nat.le_refl _,fun x hx=>by cases hx⟩ ?_ ?_
  ·rintro i σ H' hi ⟨v4,v5,v6,v7,rfl,s1,xs,hx1,hxl,hok⟩
   have hi':i<N:=by simpa using hi
   have hR2:=hN1 (by omega)
   walk_at "rd"
   refine⟨a,ns,_,rfl,s1.seq hS,hl,by omega,?_⟩
   generalize ns.getD _ 0=m
   have a0:=q0d m (n:=R) hR0
   have a1:=q0e m (n:=R) hR0
   have d0:=q0d (m / 5) (n:=R - 1) (by omega)
   have d1:=q0e (m / 5) (n:=R - 1) (by omega)
   have b0:=q0d (m % R+1+m / 5 % (R - 1)) (n:=R) hR0
   have b1:=q0e (m % R+1+m / 5 % (R - 1)) (n:=R) hR0
   have hab:m % R≠(m % R+1+m / 5 % (R - 1)) % R:=by
    rw[Int.add_assoc]
    exact fun z=>off_ne a0 a1 (by omega) (by omega) z.symm
   walk_at "rd"
   refine⟨_,rfl,fun g gt H2 s2 gok hg=>?_⟩
   walk_at "rd"
   intro p hp
   have hD2:=q0g (o:= .tup [.int (m % R),.int ((m % R+1+m / 5 % (R - 1)) % R),.ref g,.bl (decide (0<m / 7 % 4))]) (s2 _ _ hx1) hp
   walk_at "rd"
   refine r_app hD2 (by omega) ?_
   have ts2:=(s2.ts.trans (q00.new (o:= .tup [.int (m % R),.int ((m % R+1+m / 5 % (R - 1)) % R),.ref g,.bl (decide (0<m / 7 % 4))]) hp)).trans (q00.lst (o:= .lst (xs++[.ref p])) hD2)
   refine⟨_,_,_,_,rfl,((s1.trans s2).trans (Same.upd hp)).put hW,_,qb,by rw[List.length_append];simp only[List.length_singleton];omega,fun x hx=>?_⟩
   rcases List.mem_append.mp hx with hx|hx
   ·exact q2y.mono ts2 (hok x hx)
   ·obtain rfl:=List.mem_singleton.mp hx
    exact⟨p,g,_,_,_,_,rfl,q00.lst (o:= .lst (xs++[.ref p])) hD2 _ _ qb,(q00.lst (o:= .lst (xs++[.ref p])) hD2) _ _ (q0g hg hp),gok,⟨a0,a1⟩,⟨b0,b1⟩,hab⟩
  ·rintro σ H1 ⟨v4,v5,v6,v7,rfl,s1,xw,hxw,hwl,hwok⟩
   have hwl':xw.length<=N:=by simpa using hwl
   walk_at "rd"
   intro S hS0
   refine q0G (fun i σ H'=>∃v0,σ=[v0,some (.ref a)]/\Same H1 H'/\∃ms:List Int,H' S=some (.lst (ms.map V.int))/\ms.length=i) ⟨none,rfl,Same.upd hS0,[],qb,rfl⟩ ?_ ?_
   ·rintro i σ H' hi ⟨v0,rfl,s2,ms,hms,hml⟩
    have hi':i<5:=by simpa using hi
    walk_at "rd"
    refine⟨a,ns,_,rfl,(s1.trans s2).seq hS,hl,by omega,?_⟩
    generalize ns.getD _ 0=m
    refine⟨_,hms,by rw[List.length_map];omega,_,rfl,s2.put hS0,ms++[m],?_,by simp[hml]⟩
    rw[qb,List.map_append]
    rfl
   rintro σ H2 ⟨v0,rfl,s2,ms,hms,hml⟩
   have hml':ms.length=5:=by simpa using hml
   have s02:=s1.trans s2
   have t0:=q0d (n0 / 35) (n:=3) (by decide)
   have t1:=q0e (n0 / 35) (n:=3) (by decide)
   have u0:=q0d (n0 / 105) (n:=2) (by decide)
   have u1:=q0e (n0 / 105) (n:=2) (by decide)
   have q0:=q0d (n0 / 210) (n:=3) (by decide)
   have q1:=q0e (n0 / 210) (n:=3) (by decide)
   walk_at "rd"
   intro D1 hD1
   refine q0G (fun i σ H'=>∃v0,σ=[v0,some (.ref S),some (.int R)]/\Same H2 H'/\∃xs,H' D1=some (.lst xs)/\xs.length=i/\∀x∈xs,qX R 0 11 H' x) ⟨none,rfl,Same.upd hD1,[],qb,rfl,fun x hx=>by cases hx⟩ ?_ ?_
   ·rintro i σ H' hi ⟨v0,rfl,s3,xs,hx1,hxl,hok⟩
    have hi':i<3:=by omega
    have hat:(ms.map V.int)[i]? =some (.int (ms.getD i 0)):=by simp[List.getD_eq_getElem?_getD,show i<ms.length by omega]
    generalize ms.getD i 0=m at hat
    have hms3:=s3 _ _ hms
    have a0:=q0d m (n:=R) hR0
    have a1:=q0e m (n:=R) hR0
    have b0:=q0d (m / 5) (n:=2) (by decide)
    have b1:=q0e (m / 5) (n:=2) (by decide)
    walk_at "rd"
    intro p hp
    have hD2:=q0g (o:= .tup [.int (m % R),.int (m / 5 % 2)]) hx1 hp
    have ts2:=(q00.new (o:= .tup [.int (m % R),.int (m / 5 % 2)]) hp).trans (q00.lst (o:= .lst (xs++[.ref p])) hD2)
    refine⟨_,hD2,by omega,_,rfl,(s3.trans (Same.upd hp)).put hD1,_,qb,by rw[List.length_append];simp only[List.length_singleton];omega,fun x hx=>?_⟩
    rcases List.mem_append.mp hx with hx|hx
    ·exact qX.mono ts2 (hok x hx)
    ·obtain rfl:=List.mem_singleton.mp hx
     exact⟨p,_,_,rfl,q00.lst (o:= .lst (xs++[.ref p])) hD2 _ _ qb,⟨a0,a1⟩,by omega,by omega⟩
   rintro σ H3 ⟨v0,rfl,s3,x2,hx2,hl2,hok2⟩
   have hms3:=s3 _ _ hms
   walk_at "rd"
   intro D2 hD2'
   refine q0G (fun i σ H'=>∃v0,σ=[v0,some (.ref S),some (.int R)]/\Same H3 H'/\∃xs,H' D2=some (.lst xs)/\xs.length=i/\∀x∈xs,qX R 1 255 H' x) ⟨none,rfl,Same.upd hD2',[],qb,rfl,fun x hx=>by cases hx⟩ ?_ ?_
   ·rintro i σ H' hi ⟨v0,rfl,s4,xs,hx1,hxl,hok⟩
    have hi':i<3:=by omega
    have hat:(ms.map V.int)[i]? =some (.int (ms.getD i 0)):=by simp[List.getD_eq_getElem?_getD,show i<ms.length by omega]
    generalize ms.getD i 0=m at hat
    have hms4:=s4 _ _ hms3
    have a0:=q0d (m / 11) (n:=R) hR0
    have a1:=q0e (m / 11) (n:=R) hR0
    have b0:=q0d (m / 55) (n:=3) (by decide)
    have b1:=q0e (m / 55) (n:=3) (by decide)
    walk_at "rd"
    intro p hp
    have hD2:=q0g (o:= .tup [.int (m / 11 % R),.int (1+m / 55 % 3)]) hx1 hp
    have ts2:=(q00.new (o:= .tup [.int (m / 11 % R),.int (1+m / 55 % 3)]) hp).trans (q00.lst (o:= .lst (xs++[.ref p])) hD2)
    refine⟨_,hD2,by omega,_,rfl,(s4.trans (Same.upd hp)).put hD2',_,qb,by rw[List.length_append];simp only[List.length_singleton];omega,fun x hx=>?_⟩
    rcases List.mem_append.mp hx with hx|hx
    ·exact qX.mono ts2 (hok x hx)
    ·obtain rfl:=List.mem_singleton.mp hx
     exact⟨p,_,_,rfl,q00.lst (o:= .lst (xs++[.ref p])) hD2 _ _ qb,⟨a0,a1⟩,by omega,by omega⟩
   rintro σ H4 ⟨v0,rfl,s4,x3,hx3,hl3,hok3⟩
   have hms4:=s4 _ _ hms3
   walk_at "rd"
   intro D3 hD3
   refine q0G (fun i σ H'=>∃v0,σ=[v0,some (.ref S),some (.int R)]/\Same H4 H'/\∃xs,H' D3=some (.lst xs)/\xs.length=i/\∀x∈xs,qX R 0 9 H' x) ⟨none,rfl,Same.upd hD3,[],qb,rfl,fun x hx=>by cases hx⟩ ?_ ?_
   ·rintro i σ H' hi ⟨v0,rfl,s5,xs,hx1,hxl,hok⟩
    have hi':i<3:=by omega
    have hat:(ms.map V.int)[i]? =some (.int (ms.getD i 0)):=by simp[List.getD_eq_getElem?_getD,show i<ms.length by omega]
    generalize ms.getD i 0=m at hat
    have hms5:=s5 _ _ hms4
    have a0:=q0d (m / 13) (n:=R) hR0
    have a1:=q0e (m / 13) (n:=R) hR0
    have b0:=q0d (m / 65) (n:=6) (by decide)
    have b1:=q0e (m / 65) (n:=6) (by decide)
    walk_at "rd"
    intro p hp
    have hD2:=q0g (o:= .tup [.int (m / 13 % R),.int (m / 65 % 6)]) hx1 hp
    have ts2:=(q00.new (o:= .tup [.int (m / 13 % R),.int (m / 65 % 6)]) hp).trans (q00.lst (o:= .lst (xs++[.ref p])) hD2)
    refine⟨_,hD2,by omega,_,rfl,(s5.trans (Same.upd hp)).put hD3,_,qb,by rw[List.length_append];simp only[List.length_singleton];omega,fun x hx=>?_⟩
    rcases List.mem_append.mp hx with hx|hx
    ·exact qX.mono ts2 (hok x hx)
    ·obtain rfl:=List.mem_singleton.mp hx
     exact⟨p,_,_,rfl,q00.lst (o:= .lst (xs++[.ref p])) hD2 _ _ qb,⟨a0,a1⟩,by omega,by omega⟩
   rintro σ H5 ⟨v0,rfl,s5,x4,hx4,hl4,hok4⟩
   have s25:=s3.trans (s4.trans s5)
   have s15:=s2.trans s25
   have s05:=s1.trans s15
   walk_at "rd"
   refine⟨a,ns,1,rfl,s05.seq hS,hl,by decide,?_⟩
   generalize ns.getD (1:Int).toNat 0=n1
   have la:=q0d n1 (n:=R) hR0
   have lb:=q0e n1 (n:=R) hR0
   walk_at "rd"
   refine⟨a,ns,2,rfl,s05.seq hS,hl,by decide,?_⟩
   generalize ns.getD (2:Int).toNat 0=n2
   have fa:=q0d n2 (n:=R) hR0
   have fb:=q0e n2 (n:=R) hR0
   have ba:=q0d (n2 / 5) (n:=4) (by decide)
   have bb:=q0e (n2 / 5) (n:=4) (by decide)
   have wa:=q0d (n2 / 20) (n:=6) (by decide)
   have wb:=q0e (n2 / 20) (n:=6) (by decide)
   walk_at "rd"
   have w1:∀x∈xw,q2y R H5 x:=fun x hx=>q2y.mono s15.ts (hwok x hx)
   have w2:∀x∈x2,qX R 0 11 H5 x:=fun x hx=>qX.mono (s4.trans s5).ts (hok2 x hx)
   have w3:∀x∈x3,qX R 1 255 H5 x:=fun x hx=>qX.mono s5.ts (hok3 x hx)
   have g0:1<=R/\R<=14:=⟨hR1,by omega⟩
   have g3:0<=n2 / 5 % 4/\n2 / 5 % 4<256:=⟨ba,by omega⟩
   have g4:0<=n2 / 20 % 6/\n2 / 20 % 6<10:=⟨wa,by omega⟩
   have g5:xw.length<=20:=by omega
   have g6:x2.length<=8:=by omega
   have g7:x3.length<=4:=by omega
   have g8:x4.length<=4:=by omega
   refine⟨R,n2 % R,n1 % R,n2 / 5 % 4,n2 / 20 % 6,.ref W,.ref D1,.ref D2,.ref D3,xw,x2,x3,x4,rfl,g0,⟨fa,fb⟩,⟨la,lb⟩,g3,g4,.inr (.inl ⟨W,rfl,s15 _ _ hxw⟩),.inr (.inl ⟨D1,rfl,(s4.trans s5) _ _ hx2⟩),.inr (.inl ⟨D2,rfl,s5 _ _ hx3⟩),.inr (.inl ⟨D3,rfl,hx4⟩),w1,w2,w3,hok4,g5,g6,g7,g8,fun p p1 p2 p3 p4 H6 s6 hp e1 e2 e3 e4=>?_⟩
   obtain⟨C,hC,ok,c1,c2,c3,c4,c5⟩:=qc9 g0 ⟨fa,fb⟩ ⟨la,lb⟩ g3 g4 hp e1 e2 e3 e4 (fun x hx=>q2y.mono s6.ts (w1 x hx)) (fun x hx=>qX.mono s6.ts (w2 x hx)) (fun x hx=>qX.mono s6.ts (w3 x hx)) (fun x hx=>qX.mono s6.ts (hok4 x hx)) g5 g6 g7 g8
   exact k p C H6 (s05.trans s6) hC ok ⟨by omega,by omega,by omega,by omega,by omega⟩
end
def PrAt (C:Cl)(s:Sd)(H:Hp)(p:Addr)(x:Wd×Nat):Prop:=∃t r,H p=some (.tup [.ref t,.ref r])/\TAt H t x/\SAt H r (q0o C s x.1 (x.2:Int))
theorem PrAt.mono {C:Cl}{s:Sd}{H H':Hp}(ts:q00 H H'){p:Addr}{x:Wd×Nat}(h:PrAt C s H p x):PrAt C s H' p x:=let ⟨t,r,a,b,c⟩:=h;⟨t,r,ts _ _ a,ts _ _ b,ts _ _ c⟩
def q7H:Sp:=fun vs H Q _=>∃(c q:Addr) (C:Cl) (s:Sd),vs=[.ref c,.ref q]/\ClAt H c C/\ClOk C/\SAt H q s/\s.ok C/\∀(l:Addr) (H':Hp),Same H H'->H l=none->qV (PrAt C s) H' l (fitD C s)->Q (.ref l) H'
section
variable {P:Program}{w:World}{K:W.Frag}{mg:Str->Option Value}{base:Heap}{cs:Cs}
theorem q9M (T:Txt mg cs)(L:Laid K mg "leads" q3o ["cellar","stand"])(C_fit_deeds:Cal P w K mg base 7 "fit_deeds" ["cellar","stand"] (q6p cs))(vt:∀d,VMeth P w K mg base 1 (dcls cs d) "told" ["self"] (q4f cs d))(vd:∀d,VMeth P w K mg base 2 (dcls cs d) "done" ["self","cellar","stand"] (q2T cs d)):Cal P w K mg base 8 "leads" ["cellar","stand"] q7H:=by
 refine L.cal (k:=7) q9n (fun vs H Q E h=>?_) (fun f cdv A outer s H vs Q E hr h=>?_)
 ·obtain ⟨c,q,C,st,rfl,_⟩:=h
  rfl
 ·obtain ⟨c,q,C,st,rfl,hC,ok,hq,sok,k⟩:=h
  have big:=qT
  have hal:=q3d ok st
  refine⟨_,(qf (qk (q0N (q0m (N:=["deed","cellar","stand"]) (own:=1) (caps:=[0,1]) ["cellar","stand"] (qd q3o) (by decide +kernel)) rfl (q0f K (qp C_fit_deeds hr (by decide) rfl (qa (pv 0) (qa (pv 1) qe)))) (fun _ _ _ _=>(qr (i:=0) (show List.Nodup (["deed","cellar","stand"]:List Str) by decide +kernel) rfl (Or.inl rfl))) (fun _ _ _ _=>q0w) (fun _ _ _ _=>(qS (qa (q82 (k:=1) P w K mg base hr (by decide) (pv 0)) (qa (qaF (k:=2) P w K mg base hr (by decide) (pv 0) (qa (pv 1) (qa (pv 2) qe))) qe))))))),?_⟩
  walk_at "rd"
  refine⟨c,q,C,st,rfl,hC,ok,hq,sok,fun l H1 s1 hl0 m1=>?_⟩
  obtain⟨ps,e1,r1⟩:=m1
  walk_at "rd"
  intro D hD
  refine q2v (ps.map V.ref) (fun i σ H'=>∃v0,σ=[v0,some (.ref c),some (.ref q)]/\Same H1 H'/\qV (PrAt C st) H' D ((fitD C st).take i)) ⟨none,rfl,Same.upd hD,⟨[],qb,Rows.nil⟩⟩ ?_ ?_ ?_
  ·rintro i σ H' ⟨_,rfl,s2,_⟩
   exact SqL.of (s2 _ _ e1)
  ·rintro i x σ H' hx ⟨v0,rfl,s2,qs,hqs,hrw⟩
   have hi:i<(fitD C st).length:=by have:=(List.getElem?_eq_some_iff.mp hx).1;rw[List.length_map,r1.1] at this;exact this
   obtain⟨p,ep,hob⟩:=r1.get hi
   rw[hx] at ep
   cases ep
   have hc:canD C st (fitD C st)[i].1 ((fitD C st)[i].2:Int)=true:=q4v.mp (List.getElem_mem hi)
   have hob2:=DAt.mono s2 hob
   obtain⟨dx,hp⟩:=hob2.ex
   have hqlen:qs.length<=100:=by
    rw[hrw.1,List.length_take];omega
   have s12:=s1.trans s2
   walk_at "rd"
   refine r_vm hp (vt _) (q8I _ _) ?_
   refine⟨p,_,rfl,hob2,fun t H3 s3 ht3=>?_⟩
   have hq3:=s3 _ _ hqs
   have hob3:=DAt.mono s3 hob2
   obtain⟨dx3,hp3⟩:=hob3.ex
   have s13:=s12.trans s3
   walk_at "rd"
   refine r_vm hp3 (vd _) (q8K _ _) ?_
   walk_at "rd"
   refine⟨p,c,q,C,st,_,rfl,hob3,hC.mono s13.ts,ok,s13 _ _ hq,sok,hc,fun r H4 s4 hr4=>?_⟩
   have hq4:=s4 _ _ hq3
   walk_at "rd"
   intro z hz
   have s5:=Same.upd (o:= .tup [.ref t,.ref r]) hz
   have hq5:=s5 _ _ hq4
   have hz5:=qb (H:=H4) (a:=z) (o:= .tup [.ref t,.ref r])
   generalize upd H4 z (.tup [.ref t,.ref r])=H5 at s5 hq5 hz5 ⊢
   refine⟨_,hq5,by rw[List.length_map];omega,_,rfl,(((s2.trans s3).trans s4).trans s5).put hD,?_⟩
   rw[List.take_succ_eq_append_getElem hi]
   exact q1C (fun _ _ h=>PrAt.mono (q00.lst hq5) h) (hrw.mono fun _ _=>PrAt.mono ((s3.trans s4).trans s5).ts) ⟨t,r,hz5,(s4.trans s5) _ _ ht3,s5 _ _ hr4⟩
  ·rintro σ H' ⟨v0,rfl,s2,m2⟩
   rw[List.length_map,r1.1,List.take_length] at m2
   exact k D H' (s1.trans s2) (s1.free hD) m2
end
def setD (l:Dk)(s:Sd)(v:V):Dk:=l.map fun x=>if x.1=s then(x.1,v) else x
theorem q54 (l:Dk)(s:Sd)(v:V):(setD l s v).map (·.1)=l.map (·.1):=by
 unfold setD
 rw[List.map_map]
 refine List.map_congr_left fun x _=>?_
 show(if x.1=s then(x.1,v) else x).1=x.1
 split<;>rfl
theorem qc1 {l:Dk}{s:Sd}{v:V}(h:s∈l.map (·.1)):putK (dkv l) s.key v=dkv (setD l s v):=by
 unfold putK
 rw[q34,q4A,q1V,decide_eq_true h,if_pos rfl]
 unfold dkv setD
 rw[List.map_map,List.map_map]
 refine List.map_congr_left fun x _=>?_
 show(if x.1.key=s.key then(x.1.key,v) else(x.1.key,x.2))=((if x.1=s then(x.1,v) else x).1.key,(if x.1=s then(x.1,v) else x).2)
 by_cases e:x.1=s
 ·rw [if_pos e,if_pos (by rw[e])]
 ·rw [if_neg e,if_neg fun z=>e (Sd.key_inj z)]
theorem qaL {H:Hp}{a b:Addr}{l:Dk}{s:Sd}{v:V}(h:DAtS H a l)(hb:SAt H b s)(hl:l.length<sizeLine)(hn:s∈l.map (·.1)):DPut H a (.ref b) v (upd H a (.dT (dkv (setD l s v)))):=by
 have:=DPut.t (k:=s.key) (v:=v) h hb (by simpa[dkv] using hl)
 rwa [qc1 hn] at this
def PrL (C:Cl)(H:Hp)(l:Addr)(x:Sd):Prop:=qV (PrAt C x) H l (fitD C x)
theorem PrL.same {C:Cl}{H H':Hp}{l:Addr}{x:Sd}(s:Same H H')(h:PrL C H l x):PrL C H' l x:=let ⟨ps,h1,h2⟩:=h;⟨ps,s _ _ h1,h2.mono fun _ _=>PrAt.mono s.ts⟩
theorem PrL.dput {C:Cl}{H:Hp}{l D:Addr}{x:Sd}{kvs:List (List Key×V)}{o:HO}(hD:H D=some (.dT kvs))(h:PrL C H l x):PrL C (upd H D o) l x:=let ⟨ps,h1,h2⟩:=h;⟨ps,by rw[qj (q2H h1 hD (by intro z;cases z))];exact h1,h2.mono fun _ _=>PrAt.mono (q5D hD)⟩
theorem PrL.put {C:Cl}{H:Hp}{l R:Addr}{x:Sd}{xs:List V}{o:HO}(hR:H R=some (.lst xs))(n:l≠R)(h:PrL C H l x):PrL C (upd H R o) l x:=let ⟨ps,h1,h2⟩:=h;⟨ps,by rw[qj n];exact h1,h2.mono fun _ _ z=>PrAt.mono (q00.lst hR) z⟩
def WkD (C:Cl)(R:Addr)(H:Hp)(row:List Sd)(ls:List Addr)(n:Nat):Prop:=ls.length=row.length/\∀i,i<n->∀p x,ls[i]? =some p->row[i]? =some x->p≠R/\PrL C H p x
section
variable {C:Cl}{R:Addr}{H H':Hp}{row:List Sd}{ls:List Addr}{n:Nat}
theorem WkD.mono (h:WkD C R H row ls n)(f:∀p x,p≠R->PrL C H p x->PrL C H' p x):WkD C R H' row ls n:=⟨h.1,fun i hi p x h1 h2=>let ⟨a,b⟩:=h.2 i hi p x h1 h2;⟨a,f p x a b⟩⟩
theorem WkD.snoc {y:Sd}{e:Addr}(h:WkD C R H row ls n)(hn:n<=row.length):WkD C R H (row++[y]) (ls++[e]) n:=⟨by rw[List.length_append,List.length_append,h.1];rfl,fun i hi p x h1 h2=>h.2 i hi p x (by rwa [List.getElem?_append_left (by rw[h.1];omega)] at h1) (by rwa [List.getElem?_append_left (by omega)] at h2)⟩
theorem WkD.set {x:Sd}{lp:Addr}(h:WkD C R H row ls n)(hx:row[n]? =some x)(ne:lp≠R)(hp:PrL C H lp x):WkD C R H row (ls.set n lp) (n+1):=⟨by rw[List.length_set];exact h.1,fun i hi p y h1 h2=>by
 rw[List.getElem?_set] at h1
 by_cases e:n=i
 ·subst e
  rw[if_pos rfl] at h1
  split at h1
  ·cases h1;rw[hx] at h2;cases h2;exact⟨ne,hp⟩
  ·cases h1
 ·rw [if_neg e] at h1
  exact h.2 i (by omega) p y h1 h2⟩
theorem qbN {x:Sd}{lp:Addr}(h:ls.length=row.length)(nd:row.Nodup)(hx:row[n]? =some x):setD (lkD row ls) x (.ref lp)=lkD row (ls.set n lp):=by
 refine List.ext_getElem? fun i=>?_
 unfold setD lkD
 rw[List.getElem?_map,List.getElem?_zipWith,List.getElem?_zipWith,List.getElem?_set]
 obtain⟨hn,en⟩:=List.getElem?_eq_some_iff.mp hx
 by_cases hi:i<row.length
 ·rw [List.getElem?_eq_getElem hi,List.getElem?_eq_getElem (by omega)]
  by_cases e:n=i
  ·subst e
   rw[if_pos rfl,if_pos (by omega)]
   simp[en]
  ·have:row[i]≠x:=fun z=>by
    rw[<-en] at z
    exact e ((List.getElem_inj nd).mp z).symm
   rw[if_neg e]
   simp[this]
 ·rw [List.getElem?_eq_none (by omega)]
  simp
end
def spWF:Sp:=fun vs H Q _=>∃(c q:Addr) (C:Cl) (s:Sd),vs=[.ref c,.ref q]/\ClAt H c C/\ClOk C/\Small C/\SAt H q s/\s.ok C/\∀(d:Addr) (row:List Sd) (ls:List Addr) (H':Hp),Same H H'->H d=none->DAtS H' d (lkD row ls)->Rows (PrL C) H' ls row->row.Nodup->(∀x,x∈row↔Rch (NxR C) s x)->Q (.ref d) H'
section
variable {P:Program}{w:World}{K:W.Frag}{mg:Str->Option Value}{base:Heap}{cs:Cs}
theorem qbz (T:Txt mg cs)(L:Laid K mg "walk_from" q1g ["cellar","begin"])(C_leads:Cal P w K mg base 8 "leads" ["cellar","stand"] q7H):Cal P w K mg base 9 "walk_from" ["cellar","begin"] spWF:=by
 obtain⟨t1,e_MOST_STANDS⟩:=T.e_MOST_STANDS
 refine L.cal (k:=8) qQ (fun vs H Q E h=>?_) (fun f cdv A outer s H vs Q E hr h=>?_)
 ·obtain ⟨c,q,C,st,rfl,_⟩:=h
  rfl
 ·obtain ⟨c,q,C,st,rfl,hC,ok,sm,hq,sok,k⟩:=h
  have big:=qT
  refine⟨_,(qc (qz (i:=2) qQ.nd rfl (Or.inl rfl) (q9F (q0Z hr) (pv 1) (q3Z qe)))
   (qc (qz (i:=3) qQ.nd rfl (Or.inl rfl) (q3Z (qa (pv 1) qe)))
   (qc (qz (i:=4) qQ.nd rfl (Or.inl rfl) qg)
   (qc (q6w PassesOwn.never (qt q9I (pv 4) (qB (lenK K) rfl T.n_len q0k (qa (pv 3) qe)) (qq _)) (qc (qz (i:=5) qQ.nd rfl (Or.inl rfl) (qu (qK K) (pv 3) (pv 4) (fun _ _=>rfl)))
   (qc (qaE (i:=4) qQ.nd rfl (Or.inl rfl) qg q8n)
   (qc (qz (i:=6) qQ.nd rfl (Or.inl rfl) (qp C_leads hr (by decide) rfl (qa (pv 0) (qa (pv 5) qe))))
   (qc (q2F (q0Z hr) (pv 2) (pv 5) (pv 6) rfl)
   (qc (q1b PassesOwn.never rfl (q0f K (pv 6)) (q0L (n:=2) K rfl (qD (qr (i:=7) qQ.nd rfl (Or.inl rfl)) (qD (qr (i:=8) qQ.nd rfl (Or.inl rfl)) q0K))) (qf (qN (q24 (q3q (q0Z hr) (pv 8) (pv 2))) (qc (q2F (q0Z hr) (pv 2) (pv 8) (q3Z qe) rfl)
   (qf (qI (q9H PySem.F.plainAttrs_list PySem.F.slot_list_append PySem.F.type_list_append q1L (pv 3) (qa (pv 8) qe))))) qm)))
   (qf (qN (qt q3s (qB (lenK K) rfl T.n_len q0k (qa (pv 3) qe)) (qh (v:= .int 300) rfl e_MOST_STANDS ⟨_,rfl⟩) (qq _)) (qf q0s) qm))))))))
   (qf (qk (pv 2))))))),?_⟩
  walk_at "rd"
  intro D hD
  have s1:=Same.upd (o:= .dT []) hD
  have h1:=qb (H:=H) (a:=D) (o:= .dT [])
  generalize upd H D (.dT [])=H1 at s1 h1 ⊢
  walk_at "rd"
  intro e0 he0
  have s2:=s1.trans (Same.upd (o:= .lst []) he0)
  have h2:=(Same.upd (o:= .lst []) he0) _ _ h1
  generalize upd H1 e0 (.lst [])=H2 at s2 h2 ⊢
  refine⟨q,st.key,rfl,h2,s2 _ _ hq,?_⟩
  have s3:Same H (upd H2 D (.dT [(st.key,V.ref e0)])):=s2.put hD
  have d3:DAtS (upd H2 D (.dT [(st.key,V.ref e0)])) D [(st,V.ref e0)]:=qb
  generalize upd H2 D (.dT [(st.key,V.ref e0)])=H3 at s3 d3 ⊢
  walk_at "rd"
  intro R hR3
  have hR:H R=none:=s3.free hR3
  have s4:=s3.trans (Same.upd (o:= .lst [.ref q]) hR3)
  have d4:DAtS (upd H3 R (.lst [.ref q])) D [(st,V.ref e0)]:=(Same.upd (o:= .lst [.ref q]) hR3) _ _ d3
  have hR4:=qb (H:=H3) (a:=R) (o:= .lst [.ref q])
  generalize upd H3 R (.lst [.ref q])=H4 at s4 d4 hR4 ⊢
  walk_at "rd"
  refine q7S (fun m σ H'=>∃(row:List Sd) (ls:List Addr) (pl:Nat) (v5 v6 v7 v8:Option V),σ=[some (.ref c),some (.ref q),some (.ref D),some (.ref R),some (.int pl),v5,v6,v7,v8]/\Same H H'/\qV SAt H' R row/\DAtS H' D (lkD row ls)/\WkD C R H' row ls pl/\Srch (NxR C) st row pl/\pl<=row.length/\m=2000 - pl) (2000 - 0)
   ⟨[st],[e0],0,none,none,none,none,rfl,s4,⟨[q],hR4,Rows.nil.snoc (s4 _ _ hq)⟩,d4,⟨rfl,fun i z=>absurd z (Nat.not_lt_zero i)⟩,Srch.start,by simp,rfl⟩ ?_
  rintro m σ H5 ⟨row,ls,pl,v5,v6,v7,v8,rfl,s5,⟨qs,hqs,rqs⟩,hd5,hk,sr,hpl,hm⟩
  have hql:qs.length=row.length:=rqs.1
  have hrl:row.length<=288:=few ok sm sok sr.nd sr.rch
  walk_at "rd"
  rw[List.length_map,hql]
  refine ifd (fun hlt=>?_) (fun hge=>?_)
  ·have hlt':pl<row.length:=by omega
   obtain⟨p,ep,hp5⟩:=rqs.get hlt'
   generalize hx:row[pl]=x at hp5
   have hrx:row[pl]? =some x:=by rw[List.getElem?_eq_getElem hlt',hx]
   have hxr:x∈row:=List.mem_of_getElem? hrx
   have hp5:SAt H5 p x:=hp5
   have xok:x.ok C:=q8S ok sok (sr.rch x hxr)
   have hfl:=q3d ok x
   refine⟨fun σ' H'=>∃(row:List Sd) (ls:List Addr) (v6 v7 v8:Option V),σ'=[some (.ref c),some (.ref q),some (.ref D),some (.ref R),some (.int ((pl:Int)+1)),some (.ref p),v6,v7,v8]/\Same H H'/\qV SAt H' R row/\DAtS H' D (lkD row ls)/\WkD C R H' row ls (pl+1)/\Srch (NxR C) st row (pl+1)/\pl+1<=row.length,?_,?_⟩
   ·rintro σ' H' ⟨row,ls,v6,v7,v8,rfl,z1,z2,z3,z4,z5,z6⟩
    exact⟨2000 - (pl+1),by omega,row,ls,pl+1,some (.ref p),v6,v7,v8,rfl,z1,z2,z3,z4,z5,z6,rfl⟩
   ·walk_at "rd"
    refine⟨c,p,C,x,rfl,hC.mono s5.ts,ok,hp5,xok,fun lp H6 s6 hl0 m6=>?_⟩
    obtain⟨ps,hps,rps⟩:=m6
    have s06:=s5.trans s6
    have hd6:DAtS H6 D (lkD row ls):=s6 _ _ hd5
    have neR:lp≠R:=fun z=>by subst z;rw[hl0] at hqs;cases hqs
    have neD:lp≠D:=fun z=>by rw[z,show H5 D=some _ from hd5] at hl0;cases hl0
    have hll:=q3v hk.1
    walk_at "rd"
    refine⟨D,_,rfl,qaL hd6 (s6 _ _ hp5) (by omega) (by rw[q0Y hk.1];exact hxr),?_⟩
    rw[qbN hk.1 sr.nd hrx]
    have ts7:=q5D (o:= .dT (dkv (lkD row (ls.set pl lp)))) hd6
    have s07:Same H (upd H6 D (.dT (dkv (lkD row (ls.set pl lp))))):=s06.put hD
    have d7:DAtS (upd H6 D (.dT (dkv (lkD row (ls.set pl lp))))) D (lkD row (ls.set pl lp)):=qb
    have l7:upd H6 D (.dT (dkv (lkD row (ls.set pl lp)))) lp=some (.lst (ps.map V.ref)):=by rw[qj neD];exact hps
    have R7:upd H6 D (.dT (dkv (lkD row (ls.set pl lp)))) R=some (.lst (qs.map V.ref)):=by rw[qj (q2H (s6 _ _ hqs) hd6 (by intro z;cases z))];exact s6 _ _ hqs
    have k7:=((hk.mono fun _ _ _ z=>PrL.dput (o:= .dT (dkv (lkD row (ls.set pl lp)))) hd6 (PrL.same s6 z)).set hrx neR ⟨ps,l7,rps.mono fun _ _=>PrAt.mono ts7⟩)
    generalize upd H6 D (.dT (dkv (lkD row (ls.set pl lp))))=H7 at ts7 s07 d7 l7 R7 k7 ⊢
    have ts67:=s6.ts.trans ts7
    walk_at "rd"
    refine q2N (ps.map V.ref) (fun i σ' H'=>∃(row:List Sd) (ls:List Addr) (v7 v8:Option V),σ'=[some (.ref c),some (.ref q),some (.ref D),some (.ref R),some (.int ((pl:Int)+1)),some (.ref p),some (.ref lp),v7,v8]/\Same H H'/\H' lp=some (.lst (ps.map V.ref))/\Rows (PrAt C x) H' ps (fitD C x)/\qV SAt H' R row/\DAtS H' D (lkD row ls)/\WkD C R H' row ls (pl+1)/\Mid (NxR C) st x row pl ((nx C x).take i))
     ⟨row,ls.set pl lp,v7,v8,rfl,s07,l7,rps.mono fun _ _=>PrAt.mono ts7,⟨qs,R7,rqs.mono fun _ _=>SAt.mono ts67⟩,d7,k7,sr.mid hrx⟩ ?_ ?_ ?_
    ·rintro i σ' H' ⟨_,_,_,_,rfl,_,e,_⟩
     exact SqL.of e
    ·rintro i z σ' H8 hz ⟨row,ls,v7,v8,rfl,s8,l8,rps8,⟨qs,hqs,rqs⟩,hd8,hk,md⟩
     have hi:i<(fitD C x).length:=by have:=(List.getElem?_eq_some_iff.mp hz).1;rw[List.length_map,rps.1] at this;exact this
     obtain⟨p',ep',hp8⟩:=rps8.get hi
     rw[hz] at ep'
     cases ep'
     obtain⟨t,r,e8,_,hr8⟩:=hp8
     have hi':i<(nx C x).length:=by unfold nx;rw[List.length_map];exact hi
     have ey:q0o C x (fitD C x)[i].1 ((fitD C x)[i].2:Int)=(nx C x)[i]:=by simp[nx]
     rw[ey] at hr8
     have hy:NxR C x (nx C x)[i]:=List.getElem_mem hi'
     rw[List.take_succ_eq_append_getElem hi']
     generalize (nx C x)[i]=y at hr8 hy ⊢
     have hr8:SAt H8 r y:=hr8
     have hrl:row.length<=288:=few ok sm sok md.nd md.rch
     have hll:=q3v hk.1
     walk_at "rd"
     refine⟨D,_,rfl,q45 (.inl hd8) hr8,?_⟩
     rw[q1V,q0Y hk.1]
     walk_at "rd"
     by_cases hin:y∈row
     ·rw [decide_eq_true hin]
      walk_at "rd"
      exact⟨row,ls,_,_,rfl,s8,l8,rps8,⟨qs,hqs,rqs⟩,hd8,hk,md.old hin⟩
     ·rw [decide_eq_false hin]
      walk_at "rd"
      intro e1 he1
      have s9:=Same.upd (o:= .lst []) he1
      generalize upd H8 e1 (.lst [])=H9 at s9 ⊢
      have hd9:DAtS H9 D (lkD row ls):=s9 _ _ hd8
      have hqs9:=s9 _ _ hqs
      have neRD:R≠D:=q2H hqs9 hd9 (by intro z;cases z)
      walk_at "rd"
      refine⟨D,_,rfl,q5C hd9 (s9 _ _ hr8) (by omega) (by rw[q0Y hk.1];exact hin),?_⟩
      rw[<-q6D hk.1]
      have ts10:=q5D (o:= .dT (dkv (lkD (row++[y]) (ls++[e1])))) hd9
      have s10:Same H (upd H9 D (.dT (dkv (lkD (row++[y]) (ls++[e1]))))):=(s8.trans s9).put hD
      have d10:DAtS (upd H9 D (.dT (dkv (lkD (row++[y]) (ls++[e1]))))) D (lkD (row++[y]) (ls++[e1])):=qb
      have l10:upd H9 D (.dT (dkv (lkD (row++[y]) (ls++[e1])))) lp=some (.lst (ps.map V.ref)):=by rw[qj neD];exact s9 _ _ l8
      have k10:=hk.mono fun _ _ _ z=>PrL.dput (o:= .dT (dkv (lkD (row++[y]) (ls++[e1])))) hd9 (PrL.same s9 z)
      have R10:upd H9 D (.dT (dkv (lkD (row++[y]) (ls++[e1])))) R=some (.lst (qs.map V.ref)):=by rw[qj neRD];exact hqs9
      generalize upd H9 D (.dT (dkv (lkD (row++[y]) (ls++[e1]))))=H10 at ts10 s10 d10 l10 R10 k10 ⊢
      have ts810:=s9.ts.trans ts10
      walk_at "rd"
      refine r_app R10 (by rw[List.length_map,rqs.1];omega) ?_
      exact⟨row++[y],ls++[e1],_,_,rfl,s10.put hR,by rw[qj neR];exact l10,rps8.mono fun _ _ h=>PrAt.mono (ts810.trans (q00.lst R10)) h,q1C (fun _ _=>SAt.put R10) (rqs.mono fun _ _=>SAt.mono ts810) (SAt.mono ts810 hr8),DAtS.lput R10 d10,(k10.mono fun _ _ n z=>PrL.put R10 n z).snoc (List.getElem?_eq_some_iff.mp md.at').1,md.new hin hy⟩
    ·rintro σ' H8 ⟨row,ls,v7,v8,rfl,s8,l8,rps8,⟨qs,hqs,rqs⟩,hd8,hk,md⟩
     have hrl:row.length<=288:=few ok sm sok md.nd md.rch
     have hql:qs.length=row.length:=rqs.1
     rw[List.length_map,rps.1,show(fitD C x).length=(nx C x).length by simp[nx],List.take_length] at md
     walk_at "rd"
     rw[List.length_map,hql]
     refine ifd (fun hgt=>absurd hgt (by omega)) (fun _=>?_)
     walk_at "rd"
     exact⟨row,ls,_,_,_,rfl,s8,⟨qs,hqs,rqs⟩,hd8,hk,md.next fun y hy=>hy,(List.getElem?_eq_some_iff.mp md.at').1⟩
  ·walk_at "rd"
   exact k D row ls H5 s5 hD hd5 ⟨hk.1,fun i p x h1 h2=>(hk.2 i (by have:=(List.getElem?_eq_some_iff.mp h2).1;omega) p x h1 h2).2⟩ sr.nd (sr.end (by omega))
end
def st0 (C:Cl):Sd:=⟨C.fst,0,0,C.bars,C.water⟩
def q7K:Sp:=fun vs H Q _=>∃(c:Addr) (v:V) (C:Cl),vs=[.ref c,v]/\ClAt H c C/\((v= .non/\∀(p:Addr) (H':Hp),Same H H'->SAt H' p (st0 C)->Q (.ref p) H')\/∃q,v= .ref q/\Q (.ref q) H)
def IsC (C:Cl)(s:Sd)(R:List Sd):Prop:=R.Nodup/\Ord R/\∀x,x∈R↔Rch (NxR C) s x
def spCm:Sp:=fun vs H Q _=>∃(c:Addr) (v:V) (C:Cl) (s:Sd),vs=[.ref c,v]/\ClAt H c C/\ClOk C/\Small C/\((v= .non/\s=st0 C)\/∃q,v= .ref q/\SAt H q s)/\s.ok C/\∀(l:Addr) (R:List Sd) (H':Hp),Same H H'->H l=none->qV SAt H' l R->IsC C s R->Q (.ref l) H'
theorem dkv_ns (l:Dk):(dkv l).map (·.1)=((l.map (·.1)).map Sd.ns).map fun n=>n.map Sum.inl:=by
 unfold dkv
 rw[List.map_map,List.map_map,List.map_map]
 rfl
section
variable {P:Program}{w:World}{K:W.Frag}{mg:Str->Option Value}{base:Heap}{cs:Cs}
theorem q9U (T:Txt mg cs)(L:Laid K mg "begin_of" q1M ["cellar","stand"])(C_start:Cal P w K mg base 1 "start" ["cellar"] q3i):Cal P w K mg base 2 "begin_of" ["cellar","stand"] q7K:=by
 refine L.cal (k:=1) q5V (fun vs H Q E h=>?_) (fun f cdv A outer s H vs Q E hr h=>?_)
 ·obtain ⟨c,v,C,rfl,_⟩:=h
  rfl
 ·obtain ⟨c,v,C,rfl,hC,h⟩:=h
  refine⟨_,(qf (qk (q1Q (q24 (q2s (pv 1))) (qp C_start hr (by decide) rfl (qa (pv 0) qe)) (pv 1)))),?_⟩
  rcases h with⟨rfl,k⟩|⟨q,rfl,k⟩
  ·walk_at "rd"
   refine ifd (fun _=>?_) (fun z=>absurd rfl z)
   walk_at "rd"
   exact⟨c,C,rfl,hC,fun p H' s' hp=>k p H' s' hp⟩
  ·walk_at "rd"
   refine ifd (fun z=>nomatch z) (fun _=>?_)
   walk_at "rd"
   exact k
theorem ok_cm (T:Txt mg cs)(L:LaidD K mg "come" q3X [.none])(C_begin_of:Cal P w K mg base 2 "begin_of" ["cellar","stand"] q7K)(C_walk_from:Cal P w K mg base 9 "walk_from" ["cellar","begin"] spWF):CalD P w K mg base 10 "come" ["cellar","stand"] spCm q3X [.none]:=by
 refine L.cal (k:=9) qba (fun vs H Q E h=>?_) (fun f cdv A outer s H vs Q E hr h=>?_)
 ·obtain ⟨c,v,C,st,rfl,_⟩:=h
  rfl
 ·obtain ⟨c,v,C,st,rfl,hC,ok,sm,hv,sok,k⟩:=h
  have fin:∀(q:Addr) (H1:Hp),Same H H1->SAt H1 q st->spWF [.ref c,.ref q] H1 (fun x H'=>qaC [x] H' fun v H''=>Q v H'') E:=by
   intro q H1 s1 hq1
   refine⟨c,q,C,st,rfl,hC.mono s1.ts,ok,sm,hq1,sok,fun d row ls H2 s2 hd0 hd2 rls nd mem=>?_⟩
   obtain⟨l,el⟩:∃l,l=lkD row ls:=⟨_,rfl⟩
   have hlk:l.map (·.1)=row:=by rw[el];exact q0Y rls.1
   rw[<-hlk] at nd mem
   rw[<-el] at hd2
   refine⟨d,_,_,5,rfl,hd2,dkv_ns l,by decide,fun n hn=>?_,fun r l' hr0 hp hs hm=>?_⟩
   ·obtain ⟨x,_,rfl⟩:=List.mem_map.mp hn
    rfl
   ·obtain ⟨R',pm,od,rr⟩:=q6Z (H:=H2) (ps:=[]) (R:=l'.map fun x=>(⟨x.2.getD 0 0,x.2.getD 1 0,x.2.getD 2 0,x.2.getD 3 0,x.2.getD 4 0⟩:Sd)) (l:=l') (l':=l') (by
      rw[List.map_map]
      refine List.map_congr_left fun x hx=>?_
      have:x.2∈(l.map (·.1)).map Sd.ns:=hp.mem_iff.mp (List.mem_map_of_mem hx)
      obtain⟨y,_,e⟩:=List.mem_map.mp this
      show x.2=[x.2.getD 0 0,x.2.getD 1 0,x.2.getD 2 0,x.2.getD 3 0,x.2.getD 4 0]
      rw[<-e]
      rfl) (fun x hx=>⟨hm x hx,by
      have:x.2∈(l.map (·.1)).map Sd.ns:=hp.mem_iff.mp (List.mem_map_of_mem hx)
      obtain⟨y,_,e⟩:=List.mem_map.mp this
      rw[<-e]
      rfl⟩) (List.Perm.refl _) hs
    have pm2:R'.Perm (l.map (·.1)):=by
     have inv:∀l:List Sd,(l.map Sd.ns).map (fun k:List Int=>(⟨k.getD 0 0,k.getD 1 0,k.getD 2 0,k.getD 3 0,k.getD 4 0⟩:Sd))=l:=fun l=>by
      rw[List.map_map]
      exact(List.map_congr_left fun a _=>rfl).trans (List.map_id l)
     have:=hp.map fun k:List Int=>(⟨k.getD 0 0,k.getD 1 0,k.getD 2 0,k.getD 3 0,k.getD 4 0⟩:Sd)
     rw[inv,List.map_map] at this
     exact pm.trans this
    have s02:=s1.trans s2
    have s3:=Same.upd (o:= .lst (l'.map fun x=>V.ref x.1)) hr0
    exact k r R' _ (s02.trans s3) (s02.free hr0) ⟨l'.map (·.1),by rw[qb,List.map_map];rfl,rr.mono fun _ _=>SAt.mono s3.ts⟩ ⟨pm2.nodup_iff.mpr nd,od,fun x=>by rw[pm2.mem_iff];exact mem x⟩
  refine⟨_,(qf (qk (qB sortDW rfl T.n_sorted q5K (qa (qp C_walk_from hr (by decide) rfl (qa (pv 0) (qa (qp C_begin_of hr (by decide) rfl (qa (pv 0) (qa (pv 1) qe))) qe))) qe)))),?_⟩
  walk_at "rd"
  refine⟨c,v,C,rfl,hC,?_⟩
  rcases hv with⟨rfl,rfl⟩|⟨q,rfl,hq⟩
  ·refine .inl ⟨rfl,fun p H1 s1 hp=>?_⟩
   walk_at "rd"
   exact fin p H1 s1 hp
  ·refine .inr ⟨q,rfl,?_⟩
   walk_at "rd"
   exact fin q H (Same.refl H) hq
end
theorem q98 (us:List Value)(hl:(us++[Value.none]).length=(["cellar","stand"]:List Str).length):BnD "come" q3X [Value.none] ⟨us,[]⟩ ((["cellar","stand"]:List Str).zip (us++[Value.none])):=by
 have hl2:us.length=1:=by simpa using hl
 clear hl;revert us;exact blS fun _=>bl0 (fun _ _ _ _ _ _ _=>⟨_,rfl,rfl⟩)
theorem q8D:Vals [.non] [Value.none]:= .cons rfl .nil
def spLk:Sp:=fun vs H Q _=>∃(a:Addr) (C:Cl) (ss:List Sd) (ls:List Addr),vs=[.ref a]/\ClOk C/\DAtS H a (lkD ss ls)/\Rows (PrL C) H ls ss/\ss.Nodup/\ss.length<=1000/\
 ∀(o:Obj) (t:Addr) (ls':List Addr) (H':Hp),Same (upd H a (.frz o (.dT (dkv (lkD ss ls))))) H'->H t=none->DAtS H' t (lkD ss ls')->Rows (LAt (nx C)) H' ls' ss->Q (.ref t) H'
section
variable {P:Program}{w:World}{K:W.Frag}{mg:Str->Option Value}{base:Heap}{cs:Cs}
theorem q9L (T:Txt mg cs)(L:Laid K mg "links_of" q15 ["walk"]):Cal P w K mg base 1 "links_of" ["walk"] spLk:=by
 refine L.cal (k:=0) q1f (fun vs H Q E h=>?_) (fun f cdv A outer s H vs Q E hr h=>?_)
 ·obtain ⟨a,C,ss,ls,rfl,_⟩:=h
  rfl
 ·obtain ⟨a,C,ss,ls,rfl,ok,ha,hrw,nd,hln,k⟩:=h
  have big:=qT
  have hll:ls.length=ss.length:=hrw.1
  have hkl:(dkv (lkD ss ls)).length=ss.length:=by rw[show(dkv (lkD ss ls)).length=(lkD ss ls).length by simp[dkv],q3v hll]
  refine⟨_,(qc (qz (i:=1) q1f.nd rfl (Or.inl rfl) q4s)
   (qc (qbo (q1b PassesOwn.never rfl (pi_dpK K (pv 0)) (q0L (n:=2) K rfl (qD (qr (i:=2) q1f.nd rfl (Or.inl rfl)) (qD (qr (i:=3) q1f.nd rfl (Or.inl rfl)) q0K))) (qf (q2F (q0Z hr) (pv 1) (pv 2) (q0N (q0m (N:=["deed","other"]) (own:=2) (caps:=[]) ["walk","links","stand","pairs"] (qd q15) (by decide +kernel)) rfl (q0f K (pv 3)) (fun _ _ _ _=>(q0L (n:=2) K rfl (qD (qr (i:=0) (show List.Nodup (["deed","other"]:List Str) by decide +kernel) rfl (Or.inl rfl)) (qD (qr (i:=1) (show List.Nodup (["deed","other"]:List Str) by decide +kernel) rfl (Or.inl rfl)) q0K)))) (fun _ _ _ _=>q0w) (fun _ _ _ _=>(pv 1))) rfl))))
   (qf (qk (pv 1))))),?_⟩
  walk_at "rd"
  intro D hD
  have neD:D≠a:=fun z=>by rw[z,show H a=some _ from ha] at hD;cases hD
  have h1:DAtS (upd H D (.dT [])) a (lkD ss ls):=(Same.upd (o:= .dT []) hD) _ _ ha
  have d1:DAtS (upd H D (.dT [])) D []:=qb
  have s1:=Same.upd (o:= .dT []) hD
  generalize upd H D (.dT [])=H1 at h1 d1 s1 ⊢
  walk_at "rd"
  refine⟨a,_,h1,fun o=>?_⟩
  have s2:Same (upd H a (.frz o (.dT (dkv (lkD ss ls))))) (upd H1 a (.frz o (.dT (dkv (lkD ss ls))))):=fun b u e=>by
   by_cases z:b=a
   ·subst z;rw[qb] at e ⊢;exact e
   ·rw [qj z] at e ⊢;exact s1 _ _ e
  have d2:DAtS (upd H1 a (.frz o (.dT (dkv (lkD ss ls))))) D []:=by
   show upd H1 a _ D=_
   rw[qj neD];exact d1
  have ha2:=qb (H:=H) (a:=a) (o:= .frz o (.dT (dkv (lkD ss ls))))
  have hrw2:Rows (PrL C) (upd H a (.frz o (.dT (dkv (lkD ss ls))))) ls ss:=hrw.mono fun _ _=>PrL.dput ha
  have hD2:upd H a (.frz o (.dT (dkv (lkD ss ls)))) D=none:=by rw[qj neD];exact hD
  have k:=k o
  generalize upd H1 a (.frz o (.dT (dkv (lkD ss ls))))=H2 at s2 d2 ⊢
  generalize upd H a (.frz o (.dT (dkv (lkD ss ls))))=Hf at s2 ha2 hrw2 k hD2
  walk_at "rd"
  refine⟨a,o,_,rfl,s2 _ _ ha2,?_⟩
  refine for_dp (fun i σ H'=>∃v2 v3 ls',σ=[some (.ref a),some (.ref D),v2,v3]/\Same Hf H'/\DAtS H' D (lkD (ss.take i) ls')/\Rows (LAt (nx C)) H' ls' (ss.take i)) ⟨none,none,[],rfl,s2,d2,Rows.nil⟩ ?_ ?_ ?_
  ·rintro i σ H' ⟨_,_,_,rfl,s3,_⟩
   exact s3 _ _ ha2
  ·rintro i b T' p σ H' hp hb hT ⟨v2,v3,ls',rfl,s3,hd,hr3⟩
   obtain⟨x,l,hx,hl,rfl⟩:=qc3 hll hp
   have hi:i<ss.length:=(List.getElem?_eq_some_iff.mp hx).1
   have ex:ss[i]=x:=(List.getElem?_eq_some_iff.mp hx).2
   have hb':SAt H' b x:=hb
   have s4:=Same.upd (o:= .tup [.ref b,.ref l]) hT
   have h4:=qb (H:=H') (a:=T') (o:= .tup [.ref b,.ref l])
   show _
   generalize upd H' T' (.tup [.ref b,.ref l])=H4 at s4 h4 ⊢
   have s34:=s3.trans s4
   obtain⟨ps,hps,rps⟩:=PrL.same s34 (hrw2.2 i l x hl hx)
   have hfl:=q3d ok x
   have et:ss.take (i+1)=ss.take i++[x]:=by rw[List.take_succ_eq_append_getElem hi,ex]
   have hnx:x∉ss.take i:=fun h=>by
    have:=nd.sublist (List.take_sublist (i+1) ss)
    rw[et,List.nodup_append] at this
    exact this.2.2 _ h _ (by simp) rfl
   walk_at "rd"
   intro D2 hD2'
   refine q2v (ps.map V.ref) (fun j σ H''=>∃v0 v1,σ=[v0,v1]/\Same H4 H''/\qV SAt H'' D2 ((nx C x).take j)) ⟨none,none,rfl,Same.upd hD2',[],qb,Rows.nil⟩ ?_ ?_ ?_
   ·rintro j σ H'' ⟨_,_,rfl,s5,_⟩
    exact SqL.of (s5 _ _ hps)
   ·rintro j z σ H5 hz ⟨v0,v1,rfl,s5,qs,hqs,rqs⟩
    have hj:j<(fitD C x).length:=by have:=(List.getElem?_eq_some_iff.mp hz).1;rw[List.length_map,rps.1] at this;exact this
    obtain⟨p,ep,hp⟩:=rps.get hj
    rw[hz] at ep
    cases ep
    obtain⟨t,r,e5,_,hr5⟩:=PrAt.mono s5.ts hp
    have hj':j<(nx C x).length:=by unfold nx;rw[List.length_map];exact hj
    have ey:q0o C x (fitD C x)[j].1 ((fitD C x)[j].2:Int)=(nx C x)[j]:=by simp[nx]
    rw[ey] at hr5
    walk_at "rd"
    refine⟨_,hqs,by rw[List.length_map,rqs.1,List.length_take];omega,_,_,rfl,s5.put hD2',?_⟩
    rw[List.take_succ_eq_append_getElem hj']
    exact q1C (fun _ _=>SAt.put hqs) rqs hr5
   ·rintro σ H5 ⟨v0,v1,rfl,s5,m5⟩
    rw[List.length_map,rps.1,show(fitD C x).length=(nx C x).length by simp[nx],List.take_length] at m5
    have s35:=s34.trans s5
    have hd5:DAtS H5 D _:=(s4.trans s5) _ _ hd
    have hlen:ls'.length=(ss.take i).length:=hr3.1
    walk_at "rd"
    refine⟨D,_,rfl,q5C hd5 ((s4.trans s5) _ _ hb') (by rw[q3v hlen,List.length_take];omega) (by rw[q0Y hlen];exact hnx),?_⟩
    refine⟨_,_,ls'++[D2],rfl,s35.put hD2,?_,?_⟩
    ·rw [et,q6D hlen]
     exact qb
    ·rw [et]
     exact(hr3.mono fun _ _ z=>LAt.dput hd5 (LAt.mono (s4.trans s5) z)).snoc (LAt.dput hd5 m5)
  ·rintro σ H3 ⟨v2,v3,ls',rfl,s3,hd3,hr3⟩
   rw[hkl,List.take_length] at hd3 hr3
   walk_at "rd"
   exact k D ls' H3 s3 hD hd3 hr3
end
structure Lv (f:Sd->List Sd)(s0:Sd)(L:List (Sd×Int))(pl:Nat):Prop where
 st:(s0,0)∈L
 ge:∀x∈L,0<=x.2
 mono:L.Pairwise fun a b=>a.2<=b.2
 top:∀p,L[pl]? =some p->∀x∈L,x.2<=p.2+1
 up:∀x∈L,x=(s0,0)\/∃p∈L,x.1∈f p.1/\x.2=p.2+1
 cl:∀i,i<pl->∀p,L[i]? =some p->∀y∈f p.1,∃b,(y,b)∈L/\b<=p.2+1
structure Dep (f:Sd->List Sd)(s0:Sd)(L:List (Sd×Int)):Prop where
 nd:(L.map (·.1)).Nodup
 st:(s0,0)∈L
 ge:∀x∈L,0<=x.2
 up:∀x∈L,x=(s0,0)\/∃p∈L,x.1∈f p.1/\x.2=p.2+1
 cl:∀p∈L,∀y∈f p.1,∃b,(y,b)∈L/\b<=p.2+1
section
variable {f:Sd->List Sd}{s0 y:Sd}{L M:List (Sd×Int)}{p:Sd×Int}{pl:Nat}
theorem Lv.start:Lv f s0 [(s0,0)] 0:=⟨.head _,fun x hx=>by rw[List.mem_singleton.mp hx];exact Int.le_refl 0,List.pairwise_singleton _ _,fun p e x hx=>by rw[List.mem_singleton.mp hx];cases e;show(0:Int)<=0+1;decide,fun x hx=> .inl (List.mem_singleton.mp hx),fun i h=>absurd h (Nat.not_lt_zero i)⟩
theorem Lv.snoc (h:Lv f s0 L pl)(hp:L[pl]? =some p)(hy:y∈f p.1):Lv f s0 (L++[(y,p.2+1)]) pl:=by
 have hpl:=(List.getElem?_eq_some_iff.mp hp).1
 have hm:=List.mem_of_getElem? hp
 have g:=h.ge p hm
 refine⟨List.mem_append_left _ h.st,fun x hx=>?_,?_,fun q e x hx=>?_,fun x hx=>?_,fun i hi q e z hz=>?_⟩
 ·rcases List.mem_append.mp hx with z|z
  ·exact h.ge x z
  ·rw [List.mem_singleton.mp z];show 0<=p.2+1;omega
 ·refine List.pairwise_append.mpr ⟨h.mono,List.pairwise_singleton _ _,fun a ha b hb=>?_⟩
  rw[List.mem_singleton.mp hb]
  exact h.top p hp a ha
 ·rw [List.getElem?_append_left hpl,hp] at e
  cases e
  rcases List.mem_append.mp hx with z|z
  ·exact h.top p hp x z
  ·rw [List.mem_singleton.mp z];exact Int.le_refl _
 ·rcases List.mem_append.mp hx with z|z
  ·exact (h.up x z).imp id fun⟨q,a,b⟩=>⟨q,List.mem_append_left _ a,b⟩
  ·rw [List.mem_singleton.mp z];exact .inr ⟨p,List.mem_append_left _ hm,hy,rfl⟩
 ·rw [List.getElem?_append_left (Nat.lt_trans hi hpl)] at e
  obtain⟨b,a,c⟩:=h.cl i hi q e z hz
  exact⟨b,List.mem_append_left _ a,c⟩
theorem Lv.next (h:Lv f s0 L pl)(hp:L[pl]? =some p)(ha:∀y∈f p.1,y∈L.map (·.1)):Lv f s0 L (pl+1):=by
 refine⟨h.st,h.ge,h.mono,fun q e x hx=>?_,h.up,fun i hi q e z hz=>?_⟩
 ·have h1:=h.top p hp x hx
  obtain⟨h2,rfl⟩:=List.getElem?_eq_some_iff.mp hp
  obtain⟨h3,rfl⟩:=List.getElem?_eq_some_iff.mp e
  have:=List.pairwise_iff_getElem.mp h.mono pl (pl+1) h2 h3 (Nat.lt_succ_self pl)
  omega
 ·by_cases ei:i=pl
  ·subst ei
   rw[hp] at e
   cases e
   obtain⟨⟨z',b⟩,hm,rfl⟩:=List.mem_map.mp (ha z hz)
   exact⟨b,hm,h.top p hp _ hm⟩
  ·exact h.cl i (by omega) q e z hz
theorem Lv.end (h:Lv f s0 L pl)(nd:(L.map (·.1)).Nodup)(hp:L.length<=pl):Dep f s0 L:=⟨nd,h.st,h.ge,h.up,fun p hm y hy=>by
 obtain⟨i,hi,e⟩:=List.getElem_of_mem hm
 exact h.cl i (by omega) p (by rw[List.getElem?_eq_getElem hi,e]) y hy⟩
theorem Dep.perm (h:Dep f s0 L)(e:M.Perm L):Dep f s0 M:=⟨(e.map _).nodup_iff.mpr h.nd,e.mem_iff.mpr h.st,fun x hx=>h.ge x (e.mem_iff.mp hx),fun x hx=>(h.up x (e.mem_iff.mp hx)).imp id fun⟨q,a,b⟩=>⟨q,e.mem_iff.mpr a,b⟩,fun p hm y hy=>let ⟨b,a,c⟩:=h.cl p (e.mem_iff.mp hm) y hy;⟨b,e.mem_iff.mpr a,c⟩⟩
theorem Dep.one (h:Dep f s0 L){a b:Int}(h1:(y,a)∈L)(h2:(y,b)∈L):a=b:=by
 have:=q8p h.nd h1 h2 rfl
 cases this
 rfl
theorem Dep.le (h:Dep f s0 L)(g:Dep f s0 M):∀(n:Nat) (x:Sd×Int),x∈L->x.2=n->∃b,(x.1,b)∈M/\b<=x.2:=fun n=>by
 induction n with
 |zero=>
  intro x hx e
  rcases h.up x hx with rfl|⟨p,hp,_,e2⟩
  ·exact ⟨0,g.st,Int.le_refl 0⟩
  ·have:=h.ge p hp;omega
 |succ n ih=>
  intro x hx e
  rcases h.up x hx with rfl|⟨p,hp,e1,e2⟩
  ·exact ⟨0,g.st,Int.le_refl 0⟩
  ·obtain ⟨b,hb,le⟩:=ih p hp (by omega)
   obtain⟨c,hc,le2⟩:=g.cl _ hb _ e1
   exact⟨c,hc,by dsimp only at le2;omega⟩
theorem Dep.sub (h:Dep f s0 L)(g:Dep f s0 M){x:Sd×Int}(hx:x∈L):x∈M:=by
 obtain⟨b,hb,le⟩:=h.le g x.2.toNat x hx (by have:=h.ge x hx;omega)
 obtain⟨c,hc,le2⟩:=g.le h b.toNat (x.1,b) hb (by have:=g.ge _ hb;dsimp only at this ⊢;omega)
 have e:=h.one (y:=x.1) hx hc
 have:b=x.2:=by dsimp only at le2;omega
 rw[this] at hb
 exact hb
theorem Dep.eq (h:Dep f s0 L)(g:Dep f s0 M)(e:L.map (·.1)=M.map (·.1)):L=M:=by
 have hl:L.length=M.length:=by have:=congrArg List.length e;simpa using this
 refine List.ext_getElem hl fun i h1 h2=>?_
 have e1:L[i].1=M[i].1:=by
  have:=congrArg (·[i]?) e
  simpa[h1,h2] using this
 refine Prod.ext e1 (g.one (y:=L[i].1) (h.sub g (List.getElem_mem h1)) ?_)
 rw[e1]
 exact List.getElem_mem h2
theorem Dep.zero (h:Dep f s0 L){x:Sd×Int}(hx:x∈L):x.2=0↔x.1=s0:=by
 constructor
 ·intro e
  rcases h.up x hx with rfl|⟨p,hp,_,e2⟩
  ·rfl
  ·have:=h.ge p hp;omega
 ·rintro rfl
  exact h.one (y:=x.1) hx h.st
end
def cnL (L:List (Sd×Int)):Dk:=L.map fun x=>(x.1,V.int x.2)
theorem q4D {L:List (Sd×Int)}:(cnL L).map (·.1)=L.map (·.1):=by unfold cnL;rw[List.map_map];rfl
theorem qc8 {L:List (Sd×Int)}:(cnL L).length=L.length:=List.length_map _
theorem qan {L:List (Sd×Int)}{s:Sd}{n:Int}:cnL (L++[(s,n)])=cnL L++[(s,.int n)]:=by unfold cnL;rw[List.map_append];rfl
theorem qaQ {L:List (Sd×Int)}{s:Sd}{n:Int}(nd:(L.map (·.1)).Nodup)(h:(s,n)∈L):dat (cnL L) s=some (.int n):=q6I (by rw[q4D];exact nd) (List.mem_map.mpr ⟨_,h,rfl⟩)
def spCF:Sp:=fun vs H Q _=>∃(b a:Addr) (s0:Sd) (ss:List Sd) (f:Sd->List Sd) (ls:List Addr),vs=[.ref b,.ref a]/\qV SAt H b [s0]/\Rd H a (.dT (dkv (lkD ss ls)))/\Rows (LAt f) H ls ss/\ss.Nodup/\s0∈ss/\(∀x∈ss,∀y∈f x,y∈ss)/\ss.length<=1000/\
 ∀(d:Addr) (L:List (Sd×Int)) (H':Hp),Same H H'->H d=none->DAtS H' d (cnL L)->Dep f s0 L->(∀x,x∈L.map (·.1)↔Rch (fun x y=>y∈f x) s0 x)->Q (.ref d) H'
section
variable {P:Program}{w:World}{K:W.Frag}{mg:Str->Option Value}{base:Heap}{cs:Cs}
theorem q9S (T:Txt mg cs)(L:Laid K mg "counts_from" q0A ["begins","links"]):Cal P w K mg base 1 "counts_from" ["begins","links"] spCF:=by
 refine L.cal (k:=0) qM (fun vs H Q E h=>?_) (fun f cdv A outer s H vs Q E hr h=>?_)
 ·obtain ⟨b,a,s0,ss,f,ls,rfl,_⟩:=h
  rfl
 ·obtain ⟨b,a,s0,ss,g,ls,rfl,⟨bs,hb,rb⟩,ha,hrw,nd,hs0,hcl,hln,k⟩:=h
  have big:=qT
  obtain⟨p0,rfl⟩:∃p0,bs=[p0]:=List.length_eq_one_iff.mp rb.1
  have hp0:SAt H p0 s0:=rb.2 0 p0 s0 rfl rfl
  refine⟨_,(qc (qz (i:=2) qM.nd rfl (Or.inl rfl) (q0c (qaI K) rfl T.n_list q6h (qa (pv 0) qe)))
   (qc (qz (i:=3) qM.nd rfl (Or.inl rfl) q4s)
   (qc (q1b PassesOwn.never rfl (q0f K (pv 0)) (qr (i:=4) qM.nd rfl (Or.inl rfl)) (qf (q2F (q0Z hr) (pv 3) (pv 4) qg rfl)))
   (qc (qz (i:=5) qM.nd rfl (Or.inl rfl) qg)
   (qc (q6w PassesOwn.never (qt q9I (pv 5) (qB (lenK K) rfl T.n_len q0k (qa (pv 2) qe)) (qq _)) (qc (qz (i:=6) qM.nd rfl (Or.inl rfl) (qu (qK K) (pv 2) (pv 5) (fun _ _=>rfl)))
   (qc (qaE (i:=5) qM.nd rfl (Or.inl rfl) qg q8n)
   (qf (q1b PassesOwn.never rfl (q0f K (q4t (q0Z hr) (pv 1) (pv 6) (fun _ _=>rfl))) (qr (i:=7) qM.nd rfl (Or.inl rfl)) (qf (qN (q24 (q3q (q0Z hr) (pv 7) (pv 3))) (qc (q2F (q0Z hr) (pv 3) (pv 7) (qw q1c (q4t (q0Z hr) (pv 3) (pv 6) (fun _ _=>rfl)) qg) rfl)
   (qf (qI (q9H PySem.F.plainAttrs_list PySem.F.slot_list_append PySem.F.type_list_append q1L (pv 2) (qa (pv 7) qe))))) qm)))))))
   (qf (qk (pv 3)))))))),?_⟩
  walk_at "rd"
  refine⟨b,_,rfl,.inl (SqL.of hb),fun R hR=>?_⟩
  have s1:=Same.upd (o:= .lst ([p0].map V.ref)) hR
  have h1:=qb (H:=H) (a:=R) (o:= .lst ([p0].map V.ref))
  generalize upd H R (.lst ([p0].map V.ref))=H1 at s1 h1 ⊢
  have hb1:=s1 _ _ hb
  walk_at "rd"
  intro D hD1
  have hD:H D=none:=s1.free hD1
  have s2:=s1.trans (Same.upd (o:= .dT []) hD1)
  have h2:=(Same.upd (o:= .dT []) hD1) _ _ h1
  have hb2:=(Same.upd (o:= .dT []) hD1) _ _ hb1
  have d2:DAtS (upd H1 D (.dT [])) D []:=qb
  generalize upd H1 D (.dT [])=H2 at s2 h2 hb2 d2 ⊢
  walk_at "rd"
  refine q2N ([p0].map V.ref) (fun i σ H'=>∃v4,σ=[some (.ref b),some (.ref a),some (.ref R),some (.ref D),v4,none,none,none]/\Same H H'/\H' R=some (.lst ([p0].map V.ref))/\H' b=some (.lst ([p0].map V.ref))/\(i=0->DAtS H' D [])/\(i=1->DAtS H' D (cnL [(s0,0)]))) ⟨none,rfl,s2,h2,hb2,fun _=>d2,fun z=>absurd z (by decide)⟩ ?_ ?_ ?_
  ·rintro i σ H' ⟨v4,rfl,_,_,e,_⟩
   exact SqL.of e
  ·rintro i x σ H' hx ⟨v4,rfl,s3,hR3,hb3,hz,_⟩
   have hi:i=0:=by have:=(List.getElem?_eq_some_iff.mp hx).1;simpa using this
   subst hi
   cases hx
   have hd:=hz rfl
   walk_at "rd"
   refine⟨D,_,rfl,q5C hd (s3 _ _ hp0) (by show 0<sizeLine;omega) (by simp),?_⟩
   have ne1:R≠D:=q2H hR3 hd (by intro z;cases z)
   have ne2:b≠D:=q2H hb3 hd (by intro z;cases z)
   exact⟨_,rfl,s3.put hD,by rw[qj ne1];exact hR3,by rw[qj ne2];exact hb3,fun z=>absurd z (by decide),fun _=>qb⟩
  ·rintro σ H3 ⟨v4,rfl,s3,hR3,hb3,_,hd3⟩
   have hd3:=hd3 rfl
   walk_at "rd"
   refine q7S (fun m σ H'=>∃(L:List (Sd×Int)) (pl:Nat) (v6 v7:Option V),σ=[some (.ref b),some (.ref a),some (.ref R),some (.ref D),v4,some (.int pl),v6,v7]/\Same H H'/\qV SAt H' R (L.map (·.1))/\DAtS H' D (cnL L)/\Lv g s0 L pl/\Srch (fun x y=>y∈g x) s0 (L.map (·.1)) pl/\(∀x∈L.map (·.1),x∈ss)/\pl<=(L.map (·.1)).length/\m=2000 - pl) (2000 - 0)
    ⟨[(s0,0)],0,none,none,rfl,s3,⟨[p0],hR3,Rows.nil.snoc (s3 _ _ hp0)⟩,hd3,Lv.start,Srch.start,fun x hx=>by rw[List.mem_singleton.mp hx];exact hs0,Nat.zero_le _,rfl⟩ ?_
   rintro m σ H4 ⟨L,pl,v6,v7,rfl,s4,⟨qs,hqs,rqs⟩,hd4,lv,sr,hsub,hpl,hm⟩
   obtain⟨row,hrow⟩:∃row,row=L.map (·.1):=⟨_,rfl⟩
   rw[<-hrow] at rqs sr hsub hpl
   have hql:qs.length=row.length:=rqs.1
   have hrl:row.length<=ss.length:=q4b sr.nd hsub
   walk_at "rd"
   rw[List.length_map,hql]
   refine ifd (fun hlt=>?_) (fun hge=>?_)
   ·have hlt':pl<row.length:=by omega
    obtain⟨q,eq,hq4⟩:=rqs.get hlt'
    generalize hx:row[pl]=x at hq4
    have hrx:row[pl]? =some x:=by rw[List.getElem?_eq_getElem hlt',hx]
    have hxr:x∈row:=List.mem_of_getElem? hrx
    have hq4:SAt H4 q x:=hq4
    have hxs:=hsub x hxr
    refine⟨fun σ' H'=>∃(L:List (Sd×Int)) (v7:Option V),σ'=[some (.ref b),some (.ref a),some (.ref R),some (.ref D),v4,some (.int ((pl:Int)+1)),some (.ref q),v7]/\Same H H'/\qV SAt H' R (L.map (·.1))/\DAtS H' D (cnL L)/\Lv g s0 L (pl+1)/\Srch (fun x y=>y∈g x) s0 (L.map (·.1)) (pl+1)/\(∀x∈L.map (·.1),x∈ss)/\pl+1<=(L.map (·.1)).length,?_,?_⟩
    ·rintro σ' H' ⟨L,v7,rfl,z1,z2,z3,z4,z5,z6,z7⟩
     exact⟨2000 - (pl+1),by omega,L,pl+1,some (.ref q),v7,rfl,z1,z2,z3,z4,z5,z6,z7,rfl⟩
    ·walk_at "rd"
     obtain⟨j,hj,ej⟩:=List.getElem_of_mem (hsub x hxr)
     have hll:ls.length=ss.length:=hrw.1
     have hsj:ss[j]? =some x:=by rw[List.getElem?_eq_getElem hj,ej]
     have hlj:ls[j]? =some (ls[j]'(by omega)):=List.getElem?_eq_getElem _
     generalize ls[j]'(by omega)=l at hlj
     obtain⟨os,hos,ros⟩:=hrw.2 j l x hlj hsj
     have dg:=q45 (Rd.same s4 ha) hq4
     rw[lkD_at hll nd hsj hlj] at dg
     refine⟨a,.ref l,rfl,dg,?_⟩
     have hos4:=s4 _ _ hos
     walk_at "rd"
     refine q2N (os.map V.ref) (fun i σ' H'=>∃(L:List (Sd×Int)) (v7:Option V),σ'=[some (.ref b),some (.ref a),some (.ref R),some (.ref D),v4,some (.int ((pl:Int)+1)),some (.ref q),v7]/\Same H H'/\qV SAt H' R (L.map (·.1))/\DAtS H' D (cnL L)/\Lv g s0 L pl/\Mid (fun x y=>y∈g x) s0 x (L.map (·.1)) pl ((g x).take i)/\(∀x∈L.map (·.1),x∈ss)/\SAt H' q x)
      ⟨L,v7,rfl,s4,⟨qs,hqs,hrow▸rqs⟩,hd4,lv,hrow▸sr.mid hrx,hrow▸hsub,hq4⟩ ?_ ?_ ?_
     ·rintro i σ' H' ⟨_,_,rfl,s5,_⟩
      exact SqL.of (s5 _ _ hos)
     ·rintro i z σ' H5 hz ⟨L,v7,rfl,s5,⟨qs,hqs,rqs⟩,hd5,lv,md,hsub,hx5⟩
      clear hrow
      obtain⟨row,hrow⟩:∃row,row=L.map (·.1):=⟨_,rfl⟩
      rw[<-hrow] at rqs md hsub
      have hi:i<(g x).length:=by have:=(List.getElem?_eq_some_iff.mp hz).1;rw[List.length_map,ros.1] at this;exact this
      obtain⟨p,ep,hp⟩:=ros.get hi
      rw[hz] at ep
      cases ep
      have hp5:SAt H5 p (g x)[i]:=SAt.mono s5.ts hp
      have hy:(g x)[i]∈g x:=List.getElem_mem hi
      rw[List.take_succ_eq_append_getElem hi]
      generalize (g x)[i]=y at hp5 hy ⊢
      have hrl:row.length<=ss.length:=q4b md.nd hsub
      walk_at "rd"
      refine⟨D,_,rfl,q45 (.inl hd5) hp5,?_⟩
      rw[q1V,q4D,<-hrow]
      walk_at "rd"
      by_cases hin:y∈row
      ·rw [decide_eq_true hin]
       walk_at "rd"
       exact⟨L,_,rfl,s5,⟨qs,hqs,hrow▸rqs⟩,hd5,lv,hrow▸md.old hin,hrow▸hsub,hx5⟩
      ·rw [decide_eq_false hin]
       walk_at "rd"
       obtain⟨p',hLp,ex'⟩:∃p,L[pl]? =some p/\p.1=x:=by
        have:=md.at'
        rw[hrow,List.getElem?_map] at this
        exact Option.map_eq_some_iff.mp this
       obtain⟨x',n⟩:=p'
       obtain rfl:x=x':=ex'.symm
       have hn:=qaQ (hrow▸md.nd) (List.mem_of_getElem? hLp)
       have dg5:=q45 (.inl hd5) hx5
       rw[hn] at dg5
       refine⟨D,_,rfl,dg5,?_⟩
       walk_at "rd"
       have ne1:R≠D:=q2H hqs hd5 (by intro z;cases z)
       refine⟨D,_,rfl,q5C hd5 hp5 (by rw[qc8,<-List.length_map (f:=(·.1)),<-hrow];omega) (by rw[q4D,<-hrow];exact hin),?_⟩
       rw[<-qan]
       have e6:(L++[(y,n+1)]).map (·.1)=row++[y]:=by rw[List.map_append,<-hrow];rfl
       have hR6:upd H5 D (.dT (dkv (cnL (L++[(y,n+1)])))) R=some (.lst (qs.map V.ref)):=by rw[qj ne1];exact hqs
       have hd6:DAtS (upd H5 D (.dT (dkv (cnL (L++[(y,n+1)]))))) D (cnL (L++[(y,n+1)])):=qb
       walk_at "rd"
       refine⟨R,_,_,rfl,rfl,hR6,by rw[List.length_map,rqs.1];omega,?_⟩
       refine⟨L++[(y,n+1)],_,rfl,(s5.put hD).put hR,?_,DAtS.lput hR6 hd6,lv.snoc hLp hy,by rw[e6];exact md.new hin hy,?_,SAt.put hR6 (SAt.mono (q5D hd5) hx5)⟩
       ·rw [e6]
        exact q1C (fun _ _=>SAt.put hR6) (rqs.mono fun _ _=>SAt.mono (q5D hd5)) (SAt.mono (q5D hd5) hp5)
       ·rw [e6]
        intro z hz'
        rcases List.mem_append.mp hz' with z1|z1
        ·exact hsub z z1
        ·rw [List.mem_singleton.mp z1];exact hcl x hxs y hy
     ·rintro σ' H5 ⟨L,v7,rfl,s5,hR5,hd5,lv,md,hsub,_⟩
      rw[List.length_map,ros.1,List.take_length] at md
      obtain⟨p',hLp,ex'⟩:∃p,L[pl]? =some p/\p.1=x:=by
       have:=md.at'
       rw[List.getElem?_map] at this
       exact Option.map_eq_some_iff.mp this
      exact⟨L,v7,rfl,s5,hR5,hd5,lv.next hLp fun y hy=>md.dn y (by rw[<-ex'];exact hy),md.next fun y hy=>hy,hsub,(List.getElem?_eq_some_iff.mp md.at').1⟩
   ·walk_at "rd"
    exact k D L H4 s4 hD hd4 (lv.end (hrow▸sr.nd) (by rw[hrow,List.length_map] at hge hpl;omega)) (fun x=>by rw[<-hrow];exact sr.end (by omega) x)
end
def IsD (C:Cl)(L:List (Sd×Int)):Prop:=Dep (nx C) (st0 C) L/\IsC C (st0 C) (L.map (·.1))
theorem IsC.eq {C:Cl}{s:Sd}{R S:List Sd}(h:IsC C s R)(g:IsC C s S):R=S:=q9C ((List.perm_ext_iff_of_nodup h.1 g.1).mpr fun x=>by rw[h.2.2,g.2.2]) h.2.1 g.2.1
theorem IsD.eq {C:Cl}{L M:List (Sd×Int)}(h:IsD C L)(g:IsD C M):L=M:=h.1.eq g.1 (h.2.eq g.2)
theorem q8H (L:List (Sd×Int)):dkv (cnL L)=L.map fun x=>(x.1.key,V.int x.2):=by
 unfold dkv cnL
 rw[List.map_map]
 rfl
theorem SnAt.same {H H':Hp}(s:Same H H'){p:Addr}{L:List (Sd×Int)}(h:qV SnAt H p L):qV SnAt H' p L:=let ⟨ps,h1,h2⟩:=h;⟨ps,s _ _ h1,h2.mono fun _ _=>SnAt.mono s.ts⟩
theorem deq_sn {K:W.Frag}{H:Hp}{a b:Addr}{x y:Sd×Int}(ha:SnAt H a x)(hb:SnAt H b y):Deq K H 2 (.ref a) (.ref b) (decide (x=y)):=by
 by_cases e:a=b
 ·subst e
  rw[decide_eq_true (ha.uniq hb)]
  exact .same a
 ·obtain ⟨q,h1,h3⟩:=ha
  obtain⟨q',g1,g3⟩:=hb
  have h:=Deq.tup (K:=K) (n:=1) (e:=fun j=>if j=0 then decide (x.1=y.1) else eqV (.int x.2) (.int y.2)) e (SqT.of h1) (SqT.of g1) fun j z1 z2=>by
   have:j<2:=z1
   obtain rfl|rfl:j=0\/j=1:=by omega
   ·exact deq_sd h3 g3
   ·exact .flat rfl rfl
  have e2:((List.range (min [V.ref q,.int x.2].length [V.ref q',.int y.2].length)).all (fun j=>if j=0 then decide (x.1=y.1) else eqV (.int x.2) (.int y.2))&&[V.ref q,.int x.2].length==[V.ref q',.int y.2].length)=decide (x=y):=by
   show((decide (x.1=y.1)&&((x.2==y.2)&&true))&&true)=_
   by_cases ee:x=y
   ·subst ee;simp
   ·rw [decide_eq_false ee]
    by_cases e3:x.1=y.1
    ·simp [show¬x.2=y.2 from fun z=>ee (Prod.ext e3 z)]
    ·simp [e3]
  rw[e2] at h
  exact h
def spDep:Sp:=fun vs H Q _=>∃(c:Addr) (C:Cl),vs=[.ref c]/\ClAt H c C/\ClOk C/\Small C/\∀(q:Addr) (L:List (Sd×Int)) (H':Hp),Same H H'->H q=none->qV SnAt H' q L->IsD C L->Q (.ref q) H'
section
variable {P:Program}{w:World}{K:W.Frag}{mg:Str->Option Value}{base:Heap}{cs:Cs}
theorem q88 (T:Txt mg cs)(L:Laid K mg "depths" q36 ["cellar"])(C_start:Cal P w K mg base 1 "start" ["cellar"] q3i)(C_walk_from:Cal P w K mg base 9 "walk_from" ["cellar","begin"] spWF)(C_links_of:Cal P w K mg base 1 "links_of" ["walk"] spLk)(C_counts_from:Cal P w K mg base 1 "counts_from" ["begins","links"] spCF):Cal P w K mg base 10 "depths" ["cellar"] spDep:=by
 refine L.cal (k:=9) q56 (fun vs H Q E h=>?_) (fun f cdv A outer s H vs Q E hr h=>?_)
 ·obtain ⟨c,C,rfl,_⟩:=h
  rfl
 ·obtain ⟨c,C,rfl,hC,ok,sm,k⟩:=h
  have ok0:(st0 C).ok C:=q4d ok
  refine⟨_,(qc (qz (i:=1) q56.nd rfl (Or.inl rfl) (qp C_start hr (by decide) rfl (qa (pv 0) qe)))
   (qf (qk (q9D (hu5_of hr) rfl T.n_sorted (qp C_counts_from hr (by decide) rfl (qa (q3Z (qa (pv 1) qe)) (qa (qp C_links_of hr (by decide) rfl (qa (qp C_walk_from hr (by decide) rfl (qa (pv 0) (qa (pv 1) qe))) qe)) qe))))))),?_⟩
  walk_at "rd"
  refine⟨c,C,rfl,hC,fun p0 H1 s1 hp0=>?_⟩
  have hp0':SAt H1 p0 (st0 C):=hp0
  walk_at "rd"
  unfold qas
  walk_at "rd"
  intro b hb
  have s2:=s1.trans (Same.upd (o:= .lst [.ref p0]) hb)
  have b2:=qb (H:=H1) (a:=b) (o:= .lst [.ref p0])
  have p2:=(Same.upd (o:= .lst [.ref p0]) hb) _ _ hp0'
  generalize upd H1 b (.lst [.ref p0])=H2 at s2 b2 p2 ⊢
  walk_at "rd"
  refine⟨c,p0,C,st0 C,rfl,hC.mono s2.ts,ok,sm,p2,ok0,fun d row ls H3 s3 hd0 hd rls nd mem=>?_⟩
  have hrl:row.length<=288:=few ok sm ok0 nd fun x hx=>(mem x).mp hx
  walk_at "rd"
  refine⟨d,C,row,ls,rfl,ok,hd,rls,nd,by omega,fun o t ls' H4 s4 ht0 ht rls'=>?_⟩
  have s24:Same H2 H4:=(s3.put hd0).trans s4
  walk_at "rd"
  refine⟨b,t,st0 C,row,nx C,ls',rfl,⟨[p0],s24 _ _ b2,Rows.nil.snoc (s24 _ _ p2)⟩,.inl ht,rls',nd,(mem _).mpr .refl,fun x hx y hy=>(mem y).mpr (((mem x).mp hx).step hy),by omega,fun D L H5 s5 hD0 hD dep mem5=>?_⟩
  have s05:=(s2.trans s24).trans s5
  refine⟨D,L,rfl,(by rw[<-q8H];exact hD),dep.nd,fun q L' H6 s6 hq0 hq pm so=>?_⟩
  have e:(L'.map (·.1)).Perm (L.map (·.1)):=pm.map _
  exact k q L' H6 (s05.trans s6) (s05.free hq0) hq ⟨dep.perm pm,e.nodup_iff.mpr dep.nd,List.pairwise_map.mpr so,fun x=>by rw[e.mem_iff];exact mem5 x⟩
end
theorem sd_eqV (x y:Sd):eqVs x.vs y.vs=decide (x=y):=by have:=qaA x y;simpa using this
theorem q9W {H:Hp}{N p:Addr}{l:Dk}{y:Sd}(h:DAtS H N l)(hb:SAt H p y)(hl:l.length<sizeLine):∃l',DPut H N (.ref p) (.bl true) (upd H N (.dT (dkv l')))/\(∀z,z∈l'.map (·.1)↔z∈l.map (·.1)\/z=y)/\((l.map (·.1)).Nodup->(l'.map (·.1)).Nodup):=by
 by_cases hin:y∈l.map (·.1)
 ·refine ⟨_,qaL h hb hl hin,fun z=>?_,fun n=>by rw[q54];exact n⟩
  rw[q54]
  exact⟨.inl,fun e=>e.elim id fun e=>by rw[e];exact hin⟩
 ·refine ⟨_,q5C h hb hl hin,fun z=>?_,fun n=>?_⟩
  ·rw [List.map_append,List.mem_append]
   exact or_congr Iff.rfl List.mem_singleton
  ·rw [List.map_append]
   exact List.nodup_append.mpr ⟨n,List.pairwise_singleton _ _,fun a ha b hb'=>by rw[List.mem_singleton.mp hb'];rintro rfl;exact hin ha⟩
structure Nr (L:List (Sd×Int))(l:Dk)(D:Sd->Prop):Prop where
 nd:(l.map (·.1)).Nodup
 sub:∀y∈l.map (·.1),y∈L.map (·.1)
 all:∀y,D y->y∈l.map (·.1)
def Ner (C:Cl)(L M:List (Sd×Int))(y:Sd):Prop:=∃x∈M,y∈nx C x.1/\(y,x.2+1)∈L
def spSh:Sp:=fun vs H Q _=>∃(q r:Addr) (L:List (Sd×Int)) (R:List Sd),vs=[.ref q,.ref r]/\qV SnAt H q L/\qV SAt H r R/\R=L.map (·.1)/\(∀x∈L,0<=x.2)/\R.length<=288/\∀(H':Hp),Same H H'->Q (.bl true) H'
def spLW:Sp:=fun vs H Q _=>∃(c q:Addr) (C:Cl) (L:List (Sd×Int)),vs=[.ref c,.ref q]/\ClAt H c C/\ClOk C/\Small C/\qV SnAt H q L/\IsD C L/\∀(H':Hp),Same H H'->Q (.bl true) H'
section
variable {P:Program}{w:World}{K:W.Frag}{mg:Str->Option Value}{base:Heap}{cs:Cs}
theorem q87 (T:Txt mg cs)(L:Laid K mg "_law_shaped" q0C ["_law_told","_law_some"]):Cal P w K mg base 1 "_law_shaped" ["_law_told","_law_some"] spSh:=by
 refine L.cal (k:=0) q21 (fun vs H Q E h=>?_) (fun f cdv A outer s H vs Q E hr h=>?_)
 ·obtain ⟨q,r,L,R,rfl,_⟩:=h
  rfl
 ·obtain ⟨q,r,L,R,rfl,⟨qs,hqs,rqs⟩,⟨rs,hrs,rrs⟩,eR,ge,hrl,k⟩:=h
  have big:=qT
  have hu:=Nat.lt_of_succ_lt (hu_of hr)
  have hql:qs.length=L.length:=rqs.1
  have hrl':rs.length=R.length:=rrs.1
  have hRL:R.length=L.length:=by rw[eR,List.length_map]
  refine⟨_,(qc (qN (PW.pt (q1W (q1a (q0l (qB q0O rfl T.n_isinstance qZ (qa (pv 0) (qa (q2b (v:= .ty "list") rfl T.n_list q6h rfl) qe))))) (q19 (qt q78 (qB (lenK K) rfl T.n_len q0k (qa (pv 0) qe)) (qB (lenK K) rfl T.n_len q0k (qa (pv 1) qe)) (qq _))))) (qf (qk q1X)) qm)
   (qc (q1b PassesOwn.never rfl (q06 rfl T.n_range (qa (qB (lenK K) rfl T.n_len q0k (qa (pv 1) qe)) qe)) (qr (i:=2) q21.nd rfl (Or.inl rfl)) (qc (qN (PW.pt (q1W (q1a (q0l (qB q0O rfl T.n_isinstance qZ (qa (qu (qK K) (pv 0) (pv 2) (fun _ _=>rfl)) (qa (q2b (v:= .ty "tuple") rfl T.n_tuple q12 rfl) qe))))) (q1W (qt q78 (qB (lenK K) rfl T.n_len q0k (qa (qu (qK K) (pv 0) (pv 2) (fun _ _=>rfl)) qe)) qg (qq _)) (q19 (qt (qbv K hu) (qu (qi K) (qu (qK K) (pv 0) (pv 2) (fun _ _=>rfl)) qg (fun _ _=>rfl)) (qu (qK K) (pv 1) (pv 2) (fun _ _=>rfl)) (qq _)))))) (qf (qk q1X)) qm)
   (qf (qN (PW.pt (q1W (q1a (q0l (qB q0O rfl T.n_isinstance qZ (qa (qu (qi K) (qu (qK K) (pv 0) (pv 2) (fun _ _=>rfl)) qg (fun _ _=>rfl)) (qa (q2b (v:= .ty "int") rfl T.n_int q94 rfl) qe))))) (q1W (q0l (qB q0O rfl T.n_isinstance qZ (qa (qu (qi K) (qu (qK K) (pv 0) (pv 2) (fun _ _=>rfl)) qg (fun _ _=>rfl)) (qa (q2b (v:= .ty "bool") rfl T.n_bool q95 rfl) qe)))) (q19 (qt q9I (qu (qi K) (qu (qK K) (pv 0) (pv 2) (fun _ _=>rfl)) qg (fun _ _=>rfl)) qg (qq _)))))) (qf (qk q1X)) qm))))
   (qf (qk q1X)))),?_⟩
  walk_at "rd"
  rw[List.length_map,List.length_map,hql,hrl',hRL]
  rw[if_neg (by simp)]
  walk_at "rd"
  rw[List.length_map,hrl',hRL]
  walk_at "rd"
  refine q8y (fun i σ H'=>∃v2,σ=[some (.ref q),some (.ref r),v2]/\H'=H) ⟨none,rfl,rfl⟩ ?_ ?_
  ·rintro i σ H' hi ⟨v2,rfl,rfl⟩
   obtain⟨p,ep,hp⟩:=rqs.get hi
   obtain⟨t,et,ht⟩:=rrs.get (show i<R.length by omega)
   have ex:R[i]'(by omega)=L[i].1:=by simp[eR]
   rw[ex] at ht
   have g:=ge _ (List.getElem_mem hi)
   obtain⟨b,h1,h2⟩:=hp
   generalize L[i]=x at h1 h2 ht g
   walk_at "rd"
   rw[if_neg (by simp)]
   walk_at "rd"
   refine r_neT (SqT.of h2) (SqT.of ht) rfl rfl ?_
   rw[qaA]
   rw[decide_eq_true rfl]
   walk_at "rd"
   refine ifd (fun z=>absurd z (by omega)) (fun _=>?_)
   walk_at "rd"
   exact⟨_,rfl,rfl⟩
  ·rintro σ H' ⟨v2,rfl,rfl⟩
   walk_at "rd"
   exact k _ (Same.refl _)
theorem q9K (T:Txt mg cs)(L:Laid K mg "_law_walked" q0B ["_law_place","_law_told"])(C_start:Cal P w K mg base 1 "start" ["cellar"] q3i)(C_deeds_at:Cal P w K mg base 8 "deeds_at" ["cellar","stand"] q3k)(C_behind:Cal P w K mg base 7 "behind" ["cellar","stand","deed"] q4h):Cal P w K mg base 9 "_law_walked" ["_law_place","_law_told"] spLW:=by
 refine L.cal (k:=8) qF (fun vs H Q E h=>?_) (fun f cdv A outer s H vs Q E hr h=>?_)
 ·obtain ⟨c,q,C,L,rfl,_⟩:=h
  rfl
 ·obtain ⟨c,q,C,L,rfl,hC,ok,sm,⟨qs,hqs,rqs⟩,⟨dep,hR⟩,k⟩:=h
  have big:=qT
  have hu:=Nat.lt_of_succ_lt (hu_of hr)
  have ok0:(st0 C).ok C:=q4d ok
  have hql:qs.length=L.length:=rqs.1
  have hLl:L.length<=288:=by have:=few ok sm ok0 hR.1 fun x hx=>(hR.2.2 x).mp hx;rwa [List.length_map] at this
  refine⟨_,(qc (qz (i:=2) qF.nd rfl (Or.inl rfl) (q0c (q7o (qaJ hr)) rfl T.n_dict qcc (qa (pv 1) qe)))
   (qc (qz (i:=3) qF.nd rfl (Or.inl rfl) q4s)
   (qc (q1b PassesOwn.never rfl (q0f K (pv 1)) (q0L (n:=2) K rfl (qD (qr (i:=4) qF.nd rfl (Or.inl rfl)) (qD (qr (i:=5) qF.nd rfl (Or.inl rfl)) q0K))) (qf (q1b PassesOwn.never rfl (q0f K (qp C_deeds_at hr (by decide) rfl (qa (pv 0) (qa (pv 4) qe)))) (qr (i:=6) qF.nd rfl (Or.inl rfl)) (qc (qz (i:=7) qF.nd rfl (Or.inl rfl) (qp C_behind hr (by decide) rfl (qa (pv 0) (qa (pv 4) (qa (pv 6) qe)))))
   (qc (qN (qt q3s (q4t (q0Z hr) (pv 2) (pv 7) (fun _ _=>rfl)) (qw q1c (pv 5) qg) (qq _)) (qf (qk q1X)) qm)
   (qf (qN (qt q04 (q4t (q0Z hr) (pv 2) (pv 7) (fun _ _=>rfl)) (qw q1c (pv 5) qg) (qq _)) (qf (q2F (q0Z hr) (pv 3) (pv 7) q1X rfl)) qm)))))))
   (qc (q1b PassesOwn.never rfl (q0f K (pv 1)) (q0L (n:=2) K rfl (qD (qr (i:=4) qF.nd rfl (Or.inl rfl)) (qD (qr (i:=5) qF.nd rfl (Or.inl rfl)) q0K))) (qf (qN (PW.pt (q1W (qt q78 (q07 q04 (pv 5) qg (qq _)) (q07 (qbx K hu) (pv 4) (qp C_start hr (by decide) rfl (qa (pv 0) qe)) (qq _)) (qq _)) (q19 (PW.pt (pw_and (qt q3s (pv 5) qg (qq _)) (qbm (q24 (q3q (q0Z hr) (pv 4) (pv 3))))))))) (qf (qk q1X)) qm)))
   (qf (qk q1X)))))),?_⟩
  walk_at "rd"
  refine⟨q,qs,L,rfl,hqs,rqs,dep.nd,fun d hd0=>?_⟩
  rw[<-q8H]
  have s1:=Same.upd (o:= .dT (dkv (cnL L))) hd0
  have d1:DAtS (upd H d (.dT (dkv (cnL L)))) d (cnL L):=qb
  generalize upd H d (.dT (dkv (cnL L)))=H1 at s1 d1 ⊢
  walk_at "rd"
  intro N hN
  have hq1:=s1 _ _ hqs
  have rq1:=rqs.mono fun _ _=>SnAt.mono s1.ts
  have hC1:=hC.mono s1.ts
  have s2:=Same.upd (o:= .dT []) hN
  have n2:DAtS (upd H1 N (.dT [])) N []:=qb
  generalize upd H1 N (.dT [])=H2 at s2 n2 ⊢
  have hq2:=s2 _ _ hq1
  walk_at "rd"
  refine q2N (qs.map V.ref) (fun i σ H'=>∃v4 v5 v6 v7 l,σ=[some (.ref c),some (.ref q),some (.ref d),some (.ref N),v4,v5,v6,v7]/\Same H1 H'/\DAtS H' N l/\Nr L l (Ner C L (L.take i))) ⟨none,none,none,none,[],rfl,s2,n2,List.Pairwise.nil,(fun y hy=>nomatch hy),fun y ⟨x,hx,_⟩=>by simp at hx⟩ ?_ ?_ ?_
  ·rintro i σ H' ⟨_,_,_,_,_,rfl,s3,_⟩
   exact SqL.of (s3 _ _ hq1)
  ·rintro i z σ H3 hz ⟨v4,v5,v6,v7,l,rfl,s3,n3,nr⟩
   have hi:i<L.length:=by have:=(List.getElem?_eq_some_iff.mp hz).1;rw[List.length_map,hql] at this;exact this
   obtain⟨p,ep,hp⟩:=rq1.get hi
   rw[hz] at ep
   cases ep
   have hx:L[i]∈L:=List.getElem_mem hi
   rw[List.take_succ_eq_append_getElem hi]
   obtain⟨b,h1,h2⟩:=SnAt.mono s3.ts hp
   generalize L[i]=x at h1 h2 hx ⊢
   have xok:x.1.ok C:=q8S ok ok0 ((hR.2.2 x.1).mp (List.mem_map_of_mem hx))
   walk_at "rd"
   refine⟨c,b,C,x.1,rfl,hC1.mono s3.ts,ok,h2,xok,fun ld H4 s4 hld0 m4=>?_⟩
   obtain⟨ds,hds,rds⟩:=m4
   have neN:ld≠N:=fun z=>by rw[z,show H3 N=some _ from n3] at hld0;cases hld0
   walk_at "rd"
   refine q2N (ds.map V.ref) (fun j σ H'=>∃v6 v7 l,σ=[some (.ref c),some (.ref q),some (.ref d),some (.ref N),some (.ref b),some (.int x.2),v6,v7]/\Same H1 H'/\H' ld=some (.lst (ds.map V.ref))/\Rows TAt H' ds (fitD C x.1)/\SAt H' b x.1/\DAtS H' N l/\Nr L l fun y=>Ner C L (L.take i) y\/y∈(nx C x.1).take j/\(y,x.2+1)∈L) ⟨v6,v7,l,rfl,s3.trans s4,hds,rds,s4 _ _ h2,s4 _ _ n3,nr.nd,nr.sub,fun y hy=>hy.elim (nr.all y) fun e=>nomatch e.1⟩ ?_ ?_ ?_
   ·rintro j σ H' ⟨_,_,_,rfl,_,e,_⟩
    exact SqL.of e
   ·rintro j z σ H5 hz ⟨v6,v7,l,rfl,s5,hds5,rds5,hb5,n5,nr⟩
    have hj:j<(fitD C x.1).length:=by have:=(List.getElem?_eq_some_iff.mp hz).1;rw[List.length_map,rds.1] at this;exact this
    obtain⟨t,et,ht⟩:=rds5.get hj
    rw[hz] at et
    cases et
    have hc:canD C x.1 (fitD C x.1)[j].1 ((fitD C x.1)[j].2:Int)=true:=q4v.mp (List.getElem_mem hj)
    have hj':j<(nx C x.1).length:=by unfold nx;rw[List.length_map];exact hj
    have ey:(nx C x.1)[j]=q0o C x.1 (fitD C x.1)[j].1 ((fitD C x.1)[j].2:Int):=by simp[nx]
    have hy:(nx C x.1)[j]∈nx C x.1:=List.getElem_mem hj'
    rw[List.take_succ_eq_append_getElem hj']
    rw[ey] at hy ⊢
    generalize (fitD C x.1)[j]=dn at ht hc hy ⊢
    obtain⟨w,i'⟩:=dn
    have ht':H5 t=some (.tup [.str w.str,.int (i':Int)]):=ht
    walk_at "rd"
    refine⟨c,b,t,C,x.1,w,_,rfl,hC1.mono s5.ts,ok,hb5,xok,ht',hc,fun r H6 s6 hr6=>?_⟩
    have hr6':SAt H6 r (q0o C x.1 w (i':Int)):=hr6
    dsimp only at hy ⊢
    generalize q0o C x.1 w (i':Int)=y at hr6' hy ⊢
    have s16:=s5.trans s6
    have d6:DAtS H6 d (cnL L):=s16 _ _ d1
    have n6:DAtS H6 N l:=s6 _ _ n5
    obtain⟨m,hm,hle⟩:=dep.cl x hx y hy
    have dg:=q45 (.inl d6) hr6'
    rw[qaQ dep.nd hm] at dg
    walk_at "rd"
    refine⟨d,_,rfl,dg,?_⟩
    walk_at "rd"
    refine ifd (fun z=>absurd z (by omega)) (fun _=>?_)
    walk_at "rd"
    refine⟨d,_,rfl,dg,?_⟩
    walk_at "rd"
    refine ifd (fun e=>?_) (fun e=>?_)
    ·have hll:l.length<=L.length:=by have:=q4b nr.nd nr.sub;rwa [List.length_map,List.length_map] at this
     obtain⟨l',hput,hk,hnd⟩:=q9W n6 hr6' (by omega)
     walk_at "rd"
     refine⟨N,_,rfl,hput,?_⟩
     have ts7:=q5D (o:= .dT (dkv l')) n6
     refine⟨_,_,l',rfl,s16.put hN,by rw[qj neN];exact s6 _ _ hds5,rds5.mono fun _ _=>TAt.mono (s6.ts.trans ts7),SAt.mono (s6.ts.trans ts7) hb5,qb,hnd nr.nd,fun z hz'=>?_,fun z hz'=>?_⟩
     ·rcases (hk z).mp hz' with e'|rfl
      ·exact nr.sub z e'
      ·exact List.mem_map_of_mem hm
     ·rcases hz' with e'|⟨e',e2⟩
      ·exact (hk z).mpr (.inl (nr.all z (.inl e')))
      ·rcases List.mem_append.mp e' with e3|e3
       ·exact (hk z).mpr (.inl (nr.all z (.inr ⟨e3,e2⟩)))
       ·exact (hk z).mpr (.inr (List.mem_singleton.mp e3))
    ·walk_at "rd"
     refine⟨_,_,l,rfl,s16,s6 _ _ hds5,rds5.mono fun _ _=>TAt.mono s6.ts,SAt.mono s6.ts hb5,n6,nr.nd,nr.sub,fun z hz'=>?_⟩
     rcases hz' with e'|⟨e',e2⟩
     ·exact nr.all z (.inl e')
     ·rcases List.mem_append.mp e' with e3|e3
      ·exact nr.all z (.inr ⟨e3,e2⟩)
      ·rw [List.mem_singleton.mp e3] at e2
       exact absurd (dep.one hm e2) e
   ·rintro σ H5 ⟨v6,v7,l,rfl,s5,_,_,_,n5,nr⟩
    rw[List.length_map,rds.1,show(fitD C x.1).length=(nx C x.1).length by simp[nx],List.take_length] at nr
    refine⟨_,_,v6,v7,l,rfl,s5,n5,nr.nd,nr.sub,fun y ⟨x',hx',h1,h2⟩=>?_⟩
    rcases List.mem_append.mp hx' with e|e
    ·exact nr.all y (.inl ⟨x',e,h1,h2⟩)
    ·rw [List.mem_singleton.mp e] at h1 h2
     exact nr.all y (.inr ⟨h1,h2⟩)
  ·rintro σ H3 ⟨v4,v5,v6,v7,l,rfl,s3,n3,nr⟩
   rw[List.length_map,hql,List.take_length] at nr
   have hq3:=s3 _ _ hq1
   walk_at "rd"
   refine q2N (qs.map V.ref) (fun i σ H'=>∃v4 v5,σ=[some (.ref c),some (.ref q),some (.ref d),some (.ref N),v4,v5,v6,v7]/\Same H3 H') ⟨v4,v5,rfl,Same.refl _⟩ ?_ ?_ ?_
   ·rintro i σ H' ⟨_,_,rfl,s4⟩
    exact SqL.of (s4 _ _ (s3 _ _ hq1))
   ·rintro i z σ H4 hz ⟨v4,v5,rfl,s4⟩
    have hi:i<L.length:=by have:=(List.getElem?_eq_some_iff.mp hz).1;rw[List.length_map,hql] at this;exact this
    obtain⟨p,ep,hp⟩:=rq1.get hi
    rw[hz] at ep
    cases ep
    have hx:L[i]∈L:=List.getElem_mem hi
    obtain⟨b,h1,h2⟩:=SnAt.mono (s3.trans s4).ts hp
    generalize L[i]=x at h1 h2 hx
    walk_at "rd"
    refine⟨c,C,rfl,hC1.mono (s3.trans s4).ts,fun p0 H5 s5 hp0=>?_⟩
    have hp0':SAt H5 p0 (st0 C):=hp0
    walk_at "rd"
    refine r_eqT (SqT.of (s5 _ _ h2)) (SqT.of hp0') rfl rfl ?_
    rw[sd_eqV,show decide (x.1=st0 C)=decide (x.2=0) from decide_eq_decide.mpr (dep.zero hx).symm]
    walk_at "rd"
    rw[if_neg (by simp)]
    walk_at "rd"
    refine ifd (fun hpos=>?_) (fun _=>?_)
    ·have hin:x.1∈l.map (·.1):=by
      rcases dep.up x hx with e|⟨x',hx',e1,e2⟩
      ·rw [e] at hpos;exact absurd hpos (show¬(0:Int)<0 by decide)
      ·exact nr.all _ ⟨x',hx',e1,by rw[<-e2];exact hx⟩
     have n5:DAtS H5 N l:=s5 _ _ (s4 _ _ n3)
     walk_at "rd"
     refine⟨N,_,rfl,q45 (.inl n5) (s5 _ _ h2),?_⟩
     rw[q1V,decide_eq_true hin]
     walk_at "rd"
     exact⟨_,_,rfl,s4.trans s5⟩
    ·walk_at "rd"
     exact⟨_,_,rfl,s4.trans s5⟩
   ·rintro σ H4 ⟨v4,v5,rfl,s4⟩
    walk_at "rd"
    exact k _ ((s1.trans s3).trans s4)
end
section
variable {P:Program}{w:World}{K:W.Frag}{mg:Str->Option Value}{base:Heap}{cs:Cs}
theorem ok_law {f:Addr}{fd:FuncData}(F:Fun K "law" "law" qbb f fd)(T:Txt mg cs)(TC:Tcl K cs)(L__wall:Laid K mg "_wall" q7Q ["k"])(L_within:Laid K mg "within" q35 ["number","least","most"])(L_has_bit:Laid K mg "has_bit" q2j ["bits","place"])(L_changed:Laid K mg "changed" q2m ["parts","place","part"])(L_gate_of:Laid K mg "gate_of" q2k ["gate"])(L_is_gate:Laid K mg "is_gate" q1J ["thing"])(L_tops_of:Laid K mg "tops_of" q2i ["word"])(L_cellar:∃d1 d2,LaidD K mg "cellar" q0T [.none,.none,.none,.int 0 d1,.int 0 d2])(L_check_number:Laid K mg "check_number" q0q ["name","number","least","most"])(L_made_ways:Laid K mg "made_ways" q1h ["rooms","ways"])(L_made_pairs:Laid K mg "made_pairs" q0S ["name","rooms","pairs","most_pairs","least","most"])(L_made_rows:Laid K mg "made_rows" q0h ["name","rows","most"])(L_start:Laid K mg "start" q4o ["cellar"])(L_held:Laid K mg "held" q6s ["cellar","stand"])(L_door_kinds:Laid K mg "door_kinds" q0v ["cellar"])(L_can_enter:Laid K mg "can_enter" q1i ["way","room"])(L_deed_of:Laid K mg "deed_of" q2l ["deed"])(L_deeds_at:Laid K mg "deeds_at" q16 ["cellar","stand"])(L_behind:Laid K mg "behind" q37 ["cellar","stand","deed"])(L_leads:Laid K mg "leads" q3o ["cellar","stand"])(L_fit_deeds:Laid K mg "fit_deeds" q0J ["cellar","stand"])(L_all_goes:Laid K mg "all_goes" q17 ["cellar"])(L_all_deeds:Laid K mg "all_deeds" q05 ["cellar"])(L_come:LaidD K mg "come" q3X [.none])(L_depths:Laid K mg "depths" q36 ["cellar"])(L_begin_of:Laid K mg "begin_of" q1M ["cellar","stand"])(L_walk_from:Laid K mg "walk_from" q1g ["cellar","begin"])(L_links_of:Laid K mg "links_of" q15 ["walk"])(L_counts_from:Laid K mg "counts_from" q0A ["begins","links"])(L__law_cell_at:Laid K mg "_law_cell_at" q0r ["_law_script","_law_k"])(L__law_gate:Laid K mg "_law_gate" q1j ["_law_cell"])(L__law_cellar:Laid K mg "_law_cellar" qR ["_law_script"])(L__law_shaped:Laid K mg "_law_shaped" q0C ["_law_told","_law_some"])(L__law_walked:Laid K mg "_law_walked" q0B ["_law_place","_law_told"])(LM_Plain_lets:LaidM K cs.Plain "lets" "Plain.lets" q0U ["self","held","opened","bars","water"])(LM_Plain_told:LaidM K cs.Plain "told" "Gate.told" qG ["self"])(LI_Plain:LaidI K mg "Plain" cs.Plain "Plain.__init__" q0V ["self"])(LM_Door_lets:LaidM K cs.Door "lets" "Door.lets" q1y ["self","held","opened","bars","water"])(LM_Door_told:LaidM K cs.Door "told" "Gate.told" qG ["self"])(LI_Door:LaidI K mg "Door" cs.Door "Door.__init__" q1z ["self","kind"])(LM_Need_lets:LaidM K cs.Need "lets" "Need.lets" q1v ["self","held","opened","bars","water"])(LM_Need_told:LaidM K cs.Need "told" "Gate.told" qG ["self"])(LI_Need:LaidI K mg "Need" cs.Need "Need.__init__" q1w ["self","kind"])(LM_Bar_lets:LaidM K cs.Bar "lets" "Bar.lets" q1N ["self","held","opened","bars","water"])(LM_Bar_told:LaidM K cs.Bar "told" "Gate.told" qG ["self"])(LI_Bar:LaidI K mg "Bar" cs.Bar "Bar.__init__" q1O ["self","bar"])(LM_Wade_lets:LaidM K cs.Wade "lets" "Wade.lets" q1k ["self","held","opened","bars","water"])(LM_Wade_told:LaidM K cs.Wade "told" "Gate.told" qG ["self"])(LI_Wade:LaidI K mg "Wade" cs.Wade "Wade.__init__" q1l ["self","height","kind"])(LM_Float_lets:LaidM K cs.Float "lets" "Float.lets" q0W ["self","held","opened","bars","water"])(LM_Float_told:LaidM K cs.Float "told" "Gate.told" qG ["self"])(LI_Float:LaidI K mg "Float" cs.Float "Float.__init__" q0X ["self","height"])(LM_Go_can:LaidM K cs.Go "can" "Deed.can" qP ["self","cellar","stand"])(LM_Go_done:LaidM K cs.Go "done" "Go.done" q2p ["self","cellar","stand"])(LM_Go_fits:LaidM K cs.Go "fits" "Go.fits" q2o ["self","cellar","stand"])(LM_Go_own_part:LaidM K cs.Go "own_part" "Deed.own_part" qx ["self","cellar"])(LM_Go_told:LaidM K cs.Go "told" "Deed.told" qH ["self"])(LI_Go:LaidI K mg "Go" cs.Go "Go.__init__" q2n ["self","number"])(LM_Pull_can:LaidM K cs.Pull "can" "Deed.can" qP ["self","cellar","stand"])(LM_Pull_done:LaidM K cs.Pull "done" "Pull.done" q1u ["self","cellar","stand"])(LM_Pull_fits:LaidM K cs.Pull "fits" "Pull.fits" q1t ["self","cellar","stand"])(LM_Pull_own_part:LaidM K cs.Pull "own_part" "Deed.own_part" qx ["self","cellar"])(LM_Pull_told:LaidM K cs.Pull "told" "Deed.told" qH ["self"])(LI_Pull:LaidI K mg "Pull" cs.Pull "Pull.__init__" q1s ["self","number"])(LM_Take_can:LaidM K cs.Take "can" "Deed.can" qP ["self","cellar","stand"])(LM_Take_done:LaidM K cs.Take "done" "Take.done" q1r ["self","cellar","stand"])(LM_Take_fits:LaidM K cs.Take "fits" "Take.fits" q1q ["self","cellar","stand"])(LM_Take_own_part:LaidM K cs.Take "own_part" "Deed.own_part" qx ["self","cellar"])(LM_Take_told:LaidM K cs.Take "told" "Deed.told" qH ["self"])(LI_Take:LaidI K mg "Take" cs.Take "Take.__init__" q1p ["self","number"])(LM_Turn_can:LaidM K cs.Turn "can" "Deed.can" qP ["self","cellar","stand"])(LM_Turn_done:LaidM K cs.Turn "done" "Turn.done" q1o ["self","cellar","stand"])(LM_Turn_fits:LaidM K cs.Turn "fits" "Turn.fits" q1n ["self","cellar","stand"])(LM_Turn_own_part:LaidM K cs.Turn "own_part" "Deed.own_part" qx ["self","cellar"])(LM_Turn_told:LaidM K cs.Turn "told" "Deed.told" qH ["self"])(LI_Turn:LaidI K mg "Turn" cs.Turn "Turn.__init__" q1m ["self","number"])(LM_Unlock_can:LaidM K cs.Unlock "can" "Deed.can" qP ["self","cellar","stand"])(LM_Unlock_done:LaidM K cs.Unlock "done" "Unlock.done" q0F ["self","cellar","stand"])(LM_Unlock_fits:LaidM K cs.Unlock "fits" "Unlock.fits" q0E ["self","cellar","stand"])(LM_Unlock_own_part:LaidM K cs.Unlock "own_part" "Deed.own_part" qx ["self","cellar"])(LM_Unlock_told:LaidM K cs.Unlock "told" "Deed.told" qH ["self"])(LI_Unlock:LaidI K mg "Unlock" cs.Unlock "Unlock.__init__" q0D ["self","number"])(LC_Deed_init:LaidC K mg "Deed" "__init__" "Deed.__init__" q1A ["self","word","number","part"])(LC_Gate_init:LaidC K mg "Gate" "__init__" "Gate.__init__" q1x ["self","word","numbers"]):FnOk P w K mg base CX0 13 f fd ["_law_script"] (q9j K):=by
 obtain⟨d1,d2,L_cellar⟩:=L_cellar
 have C_has_bit:Cal P w K mg base 1 "has_bit" ["bits","place"] q5T:=q7b T L_has_bit
 have C_within:Cal P w K mg base 1 "within" ["number","least","most"] q2g:=q86 T L_within
 have C_can_enter:Cal P w K mg base 1 "can_enter" ["way","room"] q4e:=q9P T L_can_enter
 have C_changed:Cal P w K mg base 1 "changed" ["parts","place","part"] q5S:=q7f T L_changed
 have C_door_kinds:Cal P w K mg base 1 "door_kinds" ["cellar"] spDk:=ok_dk T L_door_kinds
 have C_held:Cal P w K mg base 2 "held" ["cellar","stand"] q6o:=qbB T L_held C_has_bit C_door_kinds
 have C_Gate_init:CCal P w K mg base 1 "Gate" "__init__" ["self","word","numbers"] (q1H K):=q9N T LC_Gate_init
 have C_Plain:Makes P w K mg base 2 "Plain" cs.Plain ["self"] (spMk cs "plain"):=q9X T TC LI_Plain C_Gate_init
 have C_Door:Makes P w K mg base 2 "Door" cs.Door ["self","kind"] (spMk cs "door"):=qbM T TC LI_Door C_Gate_init
 have C_Need:Makes P w K mg base 2 "Need" cs.Need ["self","kind"] (spMk cs "need"):=qbL T TC LI_Need C_Gate_init
 have C_Bar:Makes P w K mg base 2 "Bar" cs.Bar ["self","bar"] (spMk cs "bar"):=mk_bar T TC LI_Bar C_Gate_init
 have C_Wade:Makes P w K mg base 2 "Wade" cs.Wade ["self","height","kind"] (spMk cs "wade"):=qbH T TC LI_Wade C_Gate_init
 have C_Float:Makes P w K mg base 2 "Float" cs.Float ["self","height"] (spMk cs "float"):=q9Y T TC LI_Float C_Gate_init
 have C_gate_of:Cal P w K mg base 4 "gate_of" ["gate"] (qb6 cs):=q7c T L_gate_of C_Plain C_Door C_Need C_Bar C_Wade C_Float
 have vl:∀g:Gt,VMeth P w K mg base 2 (q8U cs g) "lets" ["self","held","opened","bars","water"] (q2S cs g.word):=fun g=>by
  cases g
  ·exact q47 T TC LM_Plain_lets
  ·exact q4R T TC LM_Door_lets
  ·exact q4Q T TC LM_Need_lets
  ·exact q5Q T TC LM_Bar_lets C_has_bit
  ·exact q4P T TC LM_Wade_lets
  ·exact q48 T TC LM_Float_lets
 have C_Deed_init:CCal P w K mg base 1 "Deed" "__init__" ["self","word","number","part"] (q29 K):=q9Q T LC_Deed_init
 have C_Go:Makes P w K mg base 2 "Go" cs.Go ["self","number"] (q0Q cs .go):=mk_go T TC LI_Go C_Deed_init
 have C_Pull:Makes P w K mg base 2 "Pull" cs.Pull ["self","number"] (q0Q cs .pull):=qbK T TC LI_Pull C_Deed_init
 have C_Take:Makes P w K mg base 2 "Take" cs.Take ["self","number"] (q0Q cs .take):=qbJ T TC LI_Take C_Deed_init
 have C_Turn:Makes P w K mg base 2 "Turn" cs.Turn ["self","number"] (q0Q cs .turn):=qbI T TC LI_Turn C_Deed_init
 have C_Unlock:Makes P w K mg base 2 "Unlock" cs.Unlock ["self","number"] (q0Q cs .unlock):=q8c T TC LI_Unlock C_Deed_init
 have C_deed_of:Cal P w K mg base 4 "deed_of" ["deed"] (qb8 cs):=q7e T L_deed_of C_Go C_Pull C_Take C_Turn C_Unlock
 have vo:∀d,VMeth P w K mg base 1 (dcls cs d) "own_part" ["self","cellar"] (q3K cs d):=fun d=>by
  have D:=q27 TC d
  cases d
  ·exact q4O LM_Go_own_part D
  ·exact q4O LM_Pull_own_part D
  ·exact q4O LM_Take_own_part D
  ·exact q4O LM_Turn_own_part D
  ·exact q4O LM_Unlock_own_part D
 have vf:∀d,VMeth P w K mg base 5 (dcls cs d) "fits" ["self","cellar","stand"] (q3j cs d):=fun d=>by
  have D:=q27 TC d
  have v:=vo d
  cases d
  ·exact q6S T D LM_Go_fits v C_can_enter C_has_bit C_gate_of vl C_held
  ·exact q4U T D LM_Pull_fits v
  ·exact q4T T D LM_Take_fits v C_has_bit
  ·exact q4S T D LM_Turn_fits v
  ·exact q3H T D LM_Unlock_fits v C_can_enter C_has_bit C_held
 have vc:∀d,VMeth P w K mg base 6 (dcls cs d) "can" ["self","cellar","stand"] (q9k cs d):=fun d=>by
  have D:=q27 TC d
  have v:=vf d
  cases d
  ·exact q4Y T LM_Go_can D C_within v
  ·exact q4Y T LM_Pull_can D C_within v
  ·exact q4Y T LM_Take_can D C_within v
  ·exact q4Y T LM_Turn_can D C_within v
  ·exact q4Y T LM_Unlock_can D C_within v
 have vd:∀d,VMeth P w K mg base 2 (dcls cs d) "done" ["self","cellar","stand"] (q2T cs d):=fun d=>by
  have D:=q27 TC d
  have v:=vo d
  cases d
  ·exact q6T T D LM_Go_done v C_changed
  ·exact q4X T D LM_Pull_done v C_changed
  ·exact q4W T D LM_Take_done C_changed
  ·exact q4V T D LM_Turn_done v C_changed
  ·exact q3I T D LM_Unlock_done C_changed
 have vt:∀d,VMeth P w K mg base 1 (dcls cs d) "told" ["self"] (q4f cs d):=fun d=>by
  have D:=q27 TC d
  cases d
  ·exact q2f LM_Go_told D
  ·exact q2f LM_Pull_told D
  ·exact q2f LM_Take_told D
  ·exact q2f LM_Turn_told D
  ·exact q2f LM_Unlock_told D
 have C_start:Cal P w K mg base 1 "start" ["cellar"] q3i:=q9J T L_start
 have C_all_goes:Cal P w K mg base 4 "all_goes" ["cellar"] (q7I cs):=qbC T L_all_goes C_Go
 have C_all_deeds:Cal P w K mg base 5 "all_deeds" ["cellar"] (q7L cs):=qbF T L_all_deeds C_all_goes C_Pull C_Take C_Turn C_Unlock
 have C_fit_deeds:Cal P w K mg base 7 "fit_deeds" ["cellar","stand"] (q6p cs):=qbD T L_fit_deeds C_all_deeds vc
 have C_deeds_at:Cal P w K mg base 8 "deeds_at" ["cellar","stand"] q3k:=q7d T L_deeds_at C_fit_deeds vt
 have C_behind:Cal P w K mg base 7 "behind" ["cellar","stand","deed"] q4h:=q89 T L_behind C_deed_of vc vd
 have C_tops_of:=q79 (P:=P) (w:=w) (base:=base) T L_tops_of
 have C_is_gate:=q7a (P:=P) (w:=w) (base:=base) T L_is_gate C_tops_of C_within
 have C_check_number:=q9R (P:=P) (w:=w) (base:=base) T L_check_number C_within
 have C_made_rows:=qbA (P:=P) (w:=w) (base:=base) T L_made_rows
 have C_made_ways:=ok_mw (P:=P) (w:=w) (base:=base) T L_made_ways C_check_number C_made_rows C_is_gate
 have C_made_pairs:=ok_mp (P:=P) (w:=w) (base:=base) T L_made_pairs C_check_number C_made_rows
 have C_cellar:CalD P w K mg base 4 "cellar" psC qb7 q0T (dsC d1 d2):=ok_mkc (P:=P) (w:=w) (base:=base) T L_cellar C_check_number C_made_ways C_made_pairs
 have C_leads:=q9M T L_leads C_fit_deeds vt vd
 have C_walk_from:=qbz T L_walk_from C_leads
 have C_begin_of:=q9U T L_begin_of C_start
 have C_come:=ok_cm T L_come C_begin_of C_walk_from
 have C__law_cell_at:=q9T (P:=P) (w:=w) (base:=base) T L__law_cell_at
 have C__law_gate:=q9O (P:=P) (w:=w) (base:=base) T L__law_gate
 have C__law_cellar:=qbE T L__law_cellar C__law_cell_at C__law_gate C_cellar
 have C_links_of:=q9L (P:=P) (w:=w) (base:=base) T L_links_of
 have C_counts_from:=q9S (P:=P) (w:=w) (base:=base) T L_counts_from
 have C_depths:=q88 T L_depths C_start C_walk_from C_links_of C_counts_from
 have C__law_shaped:=q87 (P:=P) (w:=w) (base:=base) T L__law_shaped
 have C__law_walked:=q9K T L__law_walked C_start C_deeds_at C_behind
 refine F.ok (k:=12) q3l (fun vs H Q E h=>?_) (fun cdv A outer s H vs Q E hr h=>?_)
 ·obtain ⟨a,ns,rfl,_⟩:=h
  rfl
 ·obtain ⟨a,ns,rfl,hS,hl,k⟩:=h
  have big:=qT
  refine⟨_,(qc (qz (i:=1) q3l.nd rfl (Or.inl rfl) (qp C__law_cellar hr (by decide) rfl (qa (pv 0) qe)))
   (qc (qz (i:=2) q3l.nd rfl (Or.inl rfl) q6x)
   (qc (qz (i:=3) q3l.nd rfl (Or.inl rfl) q6x)
   (qc (q7W (qf (qz (i:=2) q3l.nd rfl (Or.inl rfl) (q84 C_come q98 q8D hr (by decide) rfl (qa (pv 1) qe)))))
   (qc (q7W (qf (qz (i:=3) q3l.nd rfl (Or.inl rfl) (qp C_depths hr (by decide) rfl (qa (pv 1) qe)))))
   (qc (qN (PW.pt (q1W (q24 (q2s (pv 2))) (q19 (q24 (q2s (pv 3)))))) (qf (qk (q6y (qaG (q2s (pv 2))) (q3Y (qaG (q2s (pv 3))))))) qm)
   (qc (qN (PW.pt (q1W (q1a (q0l (qp C__law_shaped hr (by decide) rfl (qa (pv 3) (qa (pv 2) qe))))) (q19 (q1a (q0l (qp C__law_walked hr (by decide) rfl (qa (pv 1) (qa (pv 3) qe)))))))) (qf (qk q1X)) qm)
   (qc (qz (i:=4) q3l.nd rfl (Or.inl rfl) (q0c (qaI K) rfl T.n_list q6h (qa (pv 3) qe)))
   (qc (qI (q9H PySem.F.plainAttrs_list PySem.F.slot_list_append PySem.F.type_list_append q1L (pv 3) (qa qg qe)))
   (qf (qk (q07 (op_eqD K 2 (qaJ hr)) (qp C_depths hr (by decide) rfl (qa (pv 1) qe)) (pv 4) (qq _))))))))))))),?_⟩
  walk_at "rd"
  refine⟨a,ns,rfl,hS,hl,fun c C H1 s1 hC ok sm=>?_⟩
  have ok0:(st0 C).ok C:=q4d ok
  walk_at "rd"
  refine⟨c,.non,C,_,rfl,hC,ok,sm,.inl ⟨rfl,rfl⟩,ok0,fun r R H2 s2 hr0 hr2 hR=>?_⟩
  walk_at "rd"
  refine⟨c,C,rfl,hC.mono s2.ts,ok,sm,fun q L H3 s3 hq0 hq hL=>?_⟩
  have hC3:=hC.mono (s2.trans s3).ts
  walk_at "rd"
  refine ifd (fun z=>nomatch z) (fun _=>?_)
  walk_at "rd"
  refine ifd (fun z=>nomatch z) (fun _=>?_)
  walk_at "rd"
  have hrl:R.length<=288:=few ok sm ok0 hR.1 fun x hx=>(hR.2.2 x).mp hx
  refine⟨q,r,L,R,rfl,hq,qV.same s3 hr2,hR.eq hL.2,hL.1.ge,hrl,fun H4 s4=>?_⟩
  walk_at "rd"
  refine⟨c,q,C,L,rfl,hC3.mono s4.ts,ok,sm,SnAt.same s4 hq,hL,fun H5 s5=>?_⟩
  obtain⟨qs,hqs,rqs⟩:=SnAt.same (s4.trans s5) hq
  have hC5:=hC3.mono (s4.trans s5).ts
  walk_at "rd"
  refine r_lof (.inl (SqL.of hqs)) fun kp hkp=>?_
  have s6:=Same.upd (o:= .lst (qs.map V.ref)) hkp
  have k6:=qb (H:=H5) (a:=kp) (o:= .lst (qs.map V.ref))
  have ne:kp≠q:=fun z=>by rw[z,hqs] at hkp;cases hkp
  generalize upd H5 kp (.lst (qs.map V.ref))=H6 at s6 k6 ⊢
  have q6:=s6 _ _ hqs
  have hLl:R.length=L.length:=by rw[hR.eq hL.2,List.length_map]
  walk_at "rd"
  refine⟨q,_,_,rfl,rfl,q6,by rw[List.length_map,rqs.1];omega,?_⟩
  have ts7:=s6.ts.trans (q00.lst (o:= .lst (qs.map V.ref++[.int 0])) q6)
  have k7:upd H6 q (.lst (qs.map V.ref++[.int 0])) kp=some (.lst (qs.map V.ref)):=by rw[qj ne];exact k6
  show _
  generalize upd H6 q (.lst (qs.map V.ref++[.int 0]))=H7 at ts7 k7 ⊢
  walk_at "rd"
  refine⟨c,C,rfl,hC5.mono ts7,ok,sm,fun q2 L2 H8 s8 hq20 hq2 hL2=>?_⟩
  walk_at "rd"
  refine r_eqG (fun _ _ _ _=>deq_sn) hq2 ⟨qs,s8 _ _ k7,rqs.mono fun _ _=>SnAt.mono (ts7.trans s8.ts)⟩ ?_
  rw[decide_eq_true (hL2.eq hL)]
  walk_at "rd"
  exact k _
end
section
variable {K:W.Frag}{h:Heap}{mg:Str->Option Value}{x m q:Str}{C:Addr}{st:Stmt}{ps:List Str}{ds:List Value}
inductive GA (K:W.Frag)(x:Str)(st:Stmt):Prop
 |mk {f:Addr} {od an:Option Addr} {sl:Array (Option Value)} {oc kV dc pm cd ct:Value}:W.nsIn K mainGlobals x=some (some (.ref f))->K.lookup f=some ⟨oc,od,.func (W.fnOf x x (q02 st) (qL st) (qd st) .none kV dc pm an cd ct),sl⟩->W.codeIn K cd x=true->W.keepIn K (.ref f)=true->GA K x st
theorem GA.laid (X:K.In h)(G:h.Ns mainGlobals mg)(g:GA K x st)(hb:∀(kV doc pm:Value) (an:Option Addr) (cdv ct:Value) (us:List Value),us.length=ps.length->bindArgs (W.fnOf x x (q02 st) (qL st) (qd st) .none kV doc pm an cdv ct) ⟨us,[]⟩=pure (ps.zip us)):Laid K mg x st ps:=let ⟨a,l,c,k⟩:=g;qbP X G a l c k hb
inductive DA (K:W.Frag)(x:Str)(st:Stmt)(ds:List Value):Prop
 |mk {f:Addr} {od an:Option Addr} {sl:Array (Option Value)} {oc kV dc pm cd ct:Value} {T:Addr} {oT:Value} {odT:Option Addr} {nT:Nat} {slT:Array (Option Value)}:W.nsIn K mainGlobals x=some (some (.ref f))->K.lookup f=some ⟨oc,od,.func (W.fnOf x x (q02 st) (qL st) (qd st) (.ref T) kV dc pm an cd ct),sl⟩->W.codeIn K cd x=true->W.keepIn K (.ref f)=true->K.lookup T=some ⟨oT,odT,.seq ds.toArray nT,slT⟩->DA K x st ds
theorem DA.laid (X:K.In h)(G:h.Ns mainGlobals mg)(g:DA K x st ds):LaidD K mg x st ds:=let ⟨a,l,c,k,d⟩:=g;qa6 X G a l c k d rfl
inductive MA (K:W.Frag)(C:Addr)(m q:Str)(st:Stmt):Prop
 |mk {f:Addr} {od an:Option Addr} {sl:Array (Option Value)} {oc kV dc pm cd ct:Value}:W.findIn K (.ref C) m=some (some (.ref f))->W.isFn K (.ref f)=true->K.lookup f=some ⟨oc,od,.func (W.fnOf m q (q02 st) (qL st) (qd st) .none kV dc pm an cd ct),sl⟩->W.codeIn K cd q=true->W.keepIn K (.ref f)=true->MA K C m q st
theorem MA.laid (g:MA K C m q st)(hb:∀(kV doc pm:Value) (an:Option Addr) (cdv ct:Value) (us:List Value),us.length=ps.length->bindArgs (W.fnOf m q (q02 st) (qL st) (qd st) .none kV doc pm an cdv ct) ⟨us,[]⟩=pure (ps.zip us)):LaidM K C m q st ps:=let ⟨a,i,l,c,k⟩:=g;⟨_,_,q2t l c k,⟨a,i,k⟩,(q2t l c k).binds hb⟩
inductive IA (K:W.Frag)(C:Addr)(q:Str)(st:Stmt):Prop
 |mk {f:Addr} {od an:Option Addr} {sl:Array (Option Value)} {oc kV dc pm cd ct:Value}:W.makesIn K C=true->W.keepIn K (.ref C)=true->W.findIn K (.ref C) "__init__"=some (some (.ref f))->W.isFn K (.ref f)=true->K.lookup f=some ⟨oc,od,.func (W.fnOf "__init__" q (q02 st) (qL st) (qd st) .none kV dc pm an cd ct),sl⟩->W.codeIn K cd q=true->W.keepIn K (.ref f)=true->IA K C q st
theorem IA.laid (g:IA K C q st)(hx:mg x=some (.ref C))(hb:∀(kV doc pm:Value) (an:Option Addr) (cdv ct:Value) (us:List Value),us.length=ps.length->bindArgs (W.fnOf "__init__" q (q02 st) (qL st) (qd st) .none kV doc pm an cdv ct) ⟨us,[]⟩=pure (ps.zip us)):LaidI K mg x C q st ps:=let ⟨z,y,a,i,l,c,k⟩:=g;⟨⟨_,_,q2t l c k,⟨z,a,i,y⟩,(q2t l c k).binds hb⟩,hx⟩
inductive CA (K:W.Frag)(C:Addr)(m q:Str)(st:Stmt):Prop
 |mk {f:Addr} {od an:Option Addr} {sl:Array (Option Value)} {oc kV dc pm cd ct:Value}:W.readsIn K C (.type "type")=true->W.findCls K (.ref C) (.type "type") m=some (.val (.ref f))->W.specialIn K (.ref C) "__getattribute__"=some (some (.builtin "type.__getattribute__"))->K.lookup f=some ⟨oc,od,.func (W.fnOf m q (q02 st) (qL st) (qd st) .none kV dc pm an cd ct),sl⟩->W.codeIn K cd q=true->W.keepIn K (.ref f)=true->CA K C m q st
theorem CA.laid (g:CA K C m q st)(hx:mg x=some (.ref C))(hb:∀(kV doc pm:Value) (an:Option Addr) (cdv ct:Value) (us:List Value),us.length=ps.length->bindArgs (W.fnOf m q (q02 st) (qL st) (qd st) .none kV doc pm an cdv ct) ⟨us,[]⟩=pure (ps.zip us)):LaidC K mg x m q st ps:=let ⟨r,y,z,l,c,k⟩:=g;⟨C,_,_,hx,q2t l c k,⟨r,y,z,k⟩,(q2t l c k).binds hb⟩
end
local macro_rules| `(tactic| walk_at "b1")=> `(tactic| exact fun _ _ _ _ _ _=>blS fun _=>bl0 rfl)
local macro_rules| `(tactic| walk_at "b2")=> `(tactic| exact fun _ _ _ _ _ _=>blS fun _=>blS fun _=>bl0 rfl)
local macro_rules| `(tactic| walk_at "b3")=> `(tactic| exact fun _ _ _ _ _ _=>blS fun _=>blS fun _=>blS fun _=>bl0 rfl)
local macro_rules| `(tactic| walk_at "b4")=> `(tactic| exact fun _ _ _ _ _ _=>blS fun _=>blS fun _=>blS fun _=>blS fun _=>bl0 rfl)
local macro_rules| `(tactic| walk_at "b5")=> `(tactic| exact fun _ _ _ _ _ _=>blS fun _=>blS fun _=>blS fun _=>blS fun _=>blS fun _=>bl0 rfl)
local macro_rules| `(tactic| walk_at "b6")=> `(tactic| exact fun _ _ _ _ _ _=>blS fun _=>blS fun _=>blS fun _=>blS fun _=>blS fun _=>blS fun _=>bl0 rfl)
local macro_rules| `(tactic| walk_at "b9")=> `(tactic| exact fun _ _ _ _ _ _=>blS fun _=>blS fun _=>blS fun _=>blS fun _=>blS fun _=>blS fun _=>blS fun _=>blS fun _=>blS fun _=>bl0 rfl)
theorem all_mk {l:W.OpenLaw}{w:World}{K:W.Frag}{h:Heap}{mg:Str->Option Value}{fa C_Gate C_Plain C_Door C_Need C_Bar C_Wade C_Float C_Deed C_Go C_Pull C_Take C_Turn C_Unlock:Addr}(X:K.In h)(G:h.Ns mainGlobals mg)(hfa:mg "law"=some (.ref fa))
  (T0:TxtR (fun x v=>W.nsIn K mainGlobals x=some (some v)) (fun x=>W.nsIn K mainGlobals x=some none) (Cs.mk C_Gate C_Plain C_Door C_Need C_Bar C_Wade C_Float C_Deed C_Go C_Pull C_Take C_Turn C_Unlock))
  (TC:Tcl K (Cs.mk C_Gate C_Plain C_Door C_Need C_Bar C_Wade C_Float C_Deed C_Go C_Pull C_Take C_Turn C_Unlock))
  (h1:GA K "_wall" q7Q)
  (h2:GA K "within" q35)
  (h3:GA K "has_bit" q2j)
  (h4:GA K "changed" q2m)
  (h5:GA K "gate_of" q2k)
  (h6:GA K "is_gate" q1J)
  (h7:GA K "tops_of" q2i)
  (h8:∃d1 d2,DA K "cellar" q0T [.none,.none,.none,.int 0 d1,.int 0 d2])
  (h9:GA K "check_number" q0q)
  (h10:GA K "made_ways" q1h)
  (h11:GA K "made_pairs" q0S)
  (h12:GA K "made_rows" q0h)
  (h13:GA K "start" q4o)
  (h14:GA K "held" q6s)
  (h15:GA K "door_kinds" q0v)
  (h16:GA K "can_enter" q1i)
  (h17:GA K "deed_of" q2l)
  (h18:GA K "deeds_at" q16)
  (h19:GA K "behind" q37)
  (h20:GA K "leads" q3o)
  (h21:GA K "fit_deeds" q0J)
  (h22:GA K "all_goes" q17)
  (h23:GA K "all_deeds" q05)
  (h24:DA K "come" q3X [.none])
  (h25:GA K "depths" q36)
  (h26:GA K "begin_of" q1M)
  (h27:GA K "walk_from" q1g)
  (h28:GA K "links_of" q15)
  (h29:GA K "counts_from" q0A)
  (h30:GA K "_law_cell_at" q0r)
  (h31:GA K "_law_gate" q1j)
  (h32:GA K "_law_cellar" qR)
  (h33:GA K "_law_shaped" q0C)
  (h34:GA K "_law_walked" q0B)
  (h35:GA K "law" qbb)
  (h36:MA K C_Plain "lets" "Plain.lets" q0U)
  (h37:MA K C_Plain "told" "Gate.told" qG)
  (h38:IA K C_Plain "Plain.__init__" q0V)
  (h39:MA K C_Door "lets" "Door.lets" q1y)
  (h40:MA K C_Door "told" "Gate.told" qG)
  (h41:IA K C_Door "Door.__init__" q1z)
  (h42:MA K C_Need "lets" "Need.lets" q1v)
  (h43:MA K C_Need "told" "Gate.told" qG)
  (h44:IA K C_Need "Need.__init__" q1w)
  (h45:MA K C_Bar "lets" "Bar.lets" q1N)
  (h46:MA K C_Bar "told" "Gate.told" qG)
  (h47:IA K C_Bar "Bar.__init__" q1O)
  (h48:MA K C_Wade "lets" "Wade.lets" q1k)
  (h49:MA K C_Wade "told" "Gate.told" qG)
  (h50:IA K C_Wade "Wade.__init__" q1l)
  (h51:MA K C_Float "lets" "Float.lets" q0W)
  (h52:MA K C_Float "told" "Gate.told" qG)
  (h53:IA K C_Float "Float.__init__" q0X)
  (h54:MA K C_Go "can" "Deed.can" qP)
  (h55:MA K C_Go "done" "Go.done" q2p)
  (h56:MA K C_Go "fits" "Go.fits" q2o)
  (h57:MA K C_Go "own_part" "Deed.own_part" qx)
  (h58:MA K C_Go "told" "Deed.told" qH)
  (h59:IA K C_Go "Go.__init__" q2n)
  (h60:MA K C_Pull "can" "Deed.can" qP)
  (h61:MA K C_Pull "done" "Pull.done" q1u)
  (h62:MA K C_Pull "fits" "Pull.fits" q1t)
  (h63:MA K C_Pull "own_part" "Deed.own_part" qx)
  (h64:MA K C_Pull "told" "Deed.told" qH)
  (h65:IA K C_Pull "Pull.__init__" q1s)
  (h66:MA K C_Take "can" "Deed.can" qP)
  (h67:MA K C_Take "done" "Take.done" q1r)
  (h68:MA K C_Take "fits" "Take.fits" q1q)
  (h69:MA K C_Take "own_part" "Deed.own_part" qx)
  (h70:MA K C_Take "told" "Deed.told" qH)
  (h71:IA K C_Take "Take.__init__" q1p)
  (h72:MA K C_Turn "can" "Deed.can" qP)
  (h73:MA K C_Turn "done" "Turn.done" q1o)
  (h74:MA K C_Turn "fits" "Turn.fits" q1n)
  (h75:MA K C_Turn "own_part" "Deed.own_part" qx)
  (h76:MA K C_Turn "told" "Deed.told" qH)
  (h77:IA K C_Turn "Turn.__init__" q1m)
  (h78:MA K C_Unlock "can" "Deed.can" qP)
  (h79:MA K C_Unlock "done" "Unlock.done" q0F)
  (h80:MA K C_Unlock "fits" "Unlock.fits" q0E)
  (h81:MA K C_Unlock "own_part" "Deed.own_part" qx)
  (h82:MA K C_Unlock "told" "Deed.told" qH)
  (h83:IA K C_Unlock "Unlock.__init__" q0D)
  (h84:CA K C_Deed "__init__" "Deed.__init__" q1A)
  (h85:CA K C_Gate "__init__" "Gate.__init__" q1x):
  ∃fd:FuncData,(∀(s:Shared) (v:Value),BindsTo s fd ⟨[v],[]⟩ [("_law_script",v)])/\∀base:Heap,K.In base->base.Ns mainGlobals mg->FnOk l.prog w K mg base CX0 13 fa fd ["_law_script"] (q9j K):=by
 obtain⟨al,ll,cl,kl⟩:=h35
 have e:=hfa.symm.trans (W.mg_of X G al)
 cases e
 have T:Txt mg (Cs.mk C_Gate C_Plain C_Door C_Need C_Bar C_Wade C_Float C_Deed C_Go C_Pull C_Take C_Turn C_Unlock):=T0.up (fun _ _ z=>W.mg_of X G z) fun _ z=>W.mg_none_of X G z
 exact⟨_,fun s v=> .of_eq rfl,fun base _ _=>ok_law (q2t ll cl kl) T TC (h1.laid X G (by walk_at "b1")) (h2.laid X G (by walk_at "b3")) (h3.laid X G (by walk_at "b2")) (h4.laid X G (by walk_at "b3")) (h5.laid X G (by walk_at "b1")) (h6.laid X G (by walk_at "b1")) (h7.laid X G (by walk_at "b1")) (let ⟨d1,d2,z⟩:=h8;⟨d1,d2,z.laid X G⟩) (h9.laid X G (by walk_at "b4")) (h10.laid X G (by walk_at "b2")) (h11.laid X G (by walk_at "b6")) (h12.laid X G (by walk_at "b3")) (h13.laid X G (by walk_at "b1")) (h14.laid X G (by walk_at "b2")) (h15.laid X G (by walk_at "b1")) (h16.laid X G (by walk_at "b2")) (h17.laid X G (by walk_at "b1")) (h18.laid X G (by walk_at "b2")) (h19.laid X G (by walk_at "b3")) (h20.laid X G (by walk_at "b2")) (h21.laid X G (by walk_at "b2")) (h22.laid X G (by walk_at "b1")) (h23.laid X G (by walk_at "b1")) (h24.laid X G) (h25.laid X G (by walk_at "b1")) (h26.laid X G (by walk_at "b2")) (h27.laid X G (by walk_at "b2")) (h28.laid X G (by walk_at "b1")) (h29.laid X G (by walk_at "b2")) (h30.laid X G (by walk_at "b2")) (h31.laid X G (by walk_at "b1")) (h32.laid X G (by walk_at "b1")) (h33.laid X G (by walk_at "b2")) (h34.laid X G (by walk_at "b2")) (h36.laid (by walk_at "b5")) (h37.laid (by walk_at "b1")) (h38.laid T.c_Plain (by walk_at "b1")) (h39.laid (by walk_at "b5")) (h40.laid (by walk_at "b1")) (h41.laid T.c_Door (by walk_at "b2")) (h42.laid (by walk_at "b5")) (h43.laid (by walk_at "b1")) (h44.laid T.c_Need (by walk_at "b2")) (h45.laid (by walk_at "b5")) (h46.laid (by walk_at "b1")) (h47.laid T.c_Bar (by walk_at "b2")) (h48.laid (by walk_at "b5")) (h49.laid (by walk_at "b1")) (h50.laid T.c_Wade (by walk_at "b3")) (h51.laid (by walk_at "b5")) (h52.laid (by walk_at "b1")) (h53.laid T.c_Float (by walk_at "b2")) (h54.laid (by walk_at "b3")) (h55.laid (by walk_at "b3")) (h56.laid (by walk_at "b3")) (h57.laid (by walk_at "b2")) (h58.laid (by walk_at "b1")) (h59.laid T.c_Go (by walk_at "b2")) (h60.laid (by walk_at "b3")) (h61.laid (by walk_at "b3")) (h62.laid (by walk_at "b3")) (h63.laid (by walk_at "b2")) (h64.laid (by walk_at "b1")) (h65.laid T.c_Pull (by walk_at "b2")) (h66.laid (by walk_at "b3")) (h67.laid (by walk_at "b3")) (h68.laid (by walk_at "b3")) (h69.laid (by walk_at "b2")) (h70.laid (by walk_at "b1")) (h71.laid T.c_Take (by walk_at "b2")) (h72.laid (by walk_at "b3")) (h73.laid (by walk_at "b3")) (h74.laid (by walk_at "b3")) (h75.laid (by walk_at "b2")) (h76.laid (by walk_at "b1")) (h77.laid T.c_Turn (by walk_at "b2")) (h78.laid (by walk_at "b3")) (h79.laid (by walk_at "b3")) (h80.laid (by walk_at "b3")) (h81.laid (by walk_at "b2")) (h82.laid (by walk_at "b1")) (h83.laid T.c_Unlock (by walk_at "b2")) (h84.laid T.c_Deed (by walk_at "b4")) (h85.laid T.c_Gate (by walk_at "b3"))⟩
theorem walk {l:W.OpenLaw}{q:Program}{loose:List Str}{XP:(Str->Option Value)->Heap->Prop}{YP:World->Heap->Prop}{d:DefRec}{K:Params->W.Frag}(hn:l.most=some 63)(hdf:d.params.defaults=[])
  (hY:∀(w:World) (h:Heap),YP w h->(K w.params).In h)
  (F:∀(w:World) (mg:Str->Option Value) (fa:Addr) (h:Heap),(K w.params).In h->h.Ns mainGlobals mg->mg d.name=some (.ref fa)->
   ∃fd:FuncData,(∀(s:Shared) (u:Value),BindsTo s fd ⟨[u],[]⟩ [("_law_script",u)])/\∀base:Heap,(K w.params).In base->base.Ns mainGlobals mg->FnOk l.prog w (K w.params) mg base CX0 13 fa fd ["_law_script"] (q9j (K w.params))):
  W.WalkO q loose XP YP l.row.toRowW d [] (fun f vs=>PySem.call f vs):=
 L2.qaU (n:=63) (k:=13) (x:="_law_script") (CX:=fun _=>CX0) (sp:=fun w=>q9j (K w.params)) hn (by decide) hdf ⟨rfl,by decide,by decide,rfl⟩ hY F (fun _ _ a ns hl _ hS=>⟨a,ns,rfl,hS,hl,fun _=>rfl⟩) fun _ _ _ _ _ z=>z
end Mine
open PySem PySem.W PyProof.Rows
set_option maxRecDepth 100000 in
set_option maxHeartbeats 0 in
theorem PySem.Challenge.cw_delve_k22_depths_holds : PySem.Challenge.rw_delve_k22_depths.Holds := by
 w_on;o_law;k_head;(case hw=>w_witness2)
 k_fill
 refine Mine.walk (l:=PySem.Challenge.rw_delve_k22_depths) rfl rfl (fun w h Y=>PySem.W.kIn_of Y) ?F
 case F=>
  intro w mg fa h KX G hmg
  refine' Mine.all_mk KX G hmg ?T ?C ?_ ?_ ?_ ?_ ?_ ?_ ?_ ?_ ?_ ?_ ?_ ?_ ?_ ?_ ?_ ?_ ?_ ?_ ?_ ?_ ?_ ?_ ?_ ?_ ?_ ?_ ?_ ?_ ?_ ?_ ?_ ?_ ?_ ?_ ?_ ?_ ?_ ?_ ?_ ?_ ?_ ?_ ?_ ?_ ?_ ?_ ?_ ?_ ?_ ?_ ?_ ?_ ?_ ?_ ?_ ?_ ?_ ?_ ?_ ?_ ?_ ?_ ?_ ?_ ?_ ?_ ?_ ?_ ?_ ?_ ?_ ?_ ?_ ?_ ?_ ?_ ?_ ?_ ?_ ?_ ?_ ?_ ?_ ?_ ?_
  case T=>constructor<;>(try dsimp only)<;>first|k_is|exact⟨_,by k_is⟩
  case C=>constructor<;>(try dsimp only)<;>first|exact⟨by k_is,by k_is,by k_is,by k_is⟩|(unfold L2.qy;k_is)
  all_goals try dsimp only
  all_goals first|exact Mine.GA.mk (by k_is) (by k_is) (by k_is) (by k_is)|exact Mine.MA.mk (by k_is) (by k_is) (by k_is) (by k_is) (by k_is)|exact Mine.IA.mk (by k_is) (by k_is) (by k_is) (by k_is) (by k_is) (by k_is) (by k_is)|exact Mine.CA.mk (by k_is) (by k_is) (by k_is) (by k_is) (by k_is) (by k_is)|exact Mine.DA.mk (by k_is) (by k_is) (by k_is) (by k_is) (by k_is)|exact⟨_,Mine.DA.mk (by k_is) (by k_is) (by k_is) (by k_is) (by k_is)⟩|exact⟨_,_,Mine.DA.mk (by k_is) (by k_is) (by k_is) (by k_is) (by k_is)⟩
