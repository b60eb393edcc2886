import PyProof.Rows.All
import Wide.All
import OpenK.AllK
import Wide.FinOn
import Lean
import PyProof.EqAt
import PyProof.EqKinds
import PyProof.TupleCall
import PyProof.NeKinds
import PySem.Challenge.RW_delve_k81_cellars_written
def PySem.W.Fast.tw6391986926101198895 := 0
def PySem.W.Fast.tw10961171206663735761 := 0
def PySem.W.Fast.tw6478344566805416620 := 0
def PySem.W.Fast.tw11103925113276391018 := 0
def PySem.W.Fast.tw12389383276441254088 := 0
def PySem.W.Fast.tw11446901747841768524 := 0
def PySem.W.Fast.tw14536272218046965281 := 0
def PySem.W.Fast.tw14226092134615160586 := 0
def PySem.W.Fast.tw5677801399465976969 := 0
def PySem.W.Fast.tw2772280805845562369 := 0
def PySem.W.Fast.tw10307400271724322504 := 0
def PySem.W.Fast.tw6987289073294365759 := 0
def PySem.W.Fast.tw9921169914597604155 := 0
def PySem.W.Fast.tw6642003208789890746 := 0
def PySem.W.Fast.tw8253785611732120960 := 0
def PySem.W.Fast.tw6228086665316898825 := 0
def PySem.W.Fast.tw4354285113342033769 := 0
def PySem.W.Fast.tw15490017264527813594 := 0
def PySem.W.Fast.tw15277184202683146769 := 0
def PySem.W.Fast.tw1568027059389439741 := 0
def PySem.W.Fast.tw15691064762509072118 := 0
def PySem.W.Fast.tw8140750751857622218 := 0
def PySem.W.Fast.tw6548194223248339303 := 0
def PySem.W.Fast.tw12664418690368732949 := 0
def PySem.W.Fast.tw4446427553841745075 := 0
def PySem.W.Fast.tw5317315746401821313 := 0
def PySem.W.Fast.tw10119703386019443261 := 0
def PySem.W.Fast.tw6887691186852662257 := 0
def PySem.W.Fast.tw5533506406757027901 := 0
def PySem.W.Fast.tw7340275215361575440 := 0
def PySem.W.Fast.tw644937994483038292 := 0
def PySem.W.Fast.tw11797523292580051069 := 0
def PySem.W.Fast.tw10238255055707119476 := 0
def PySem.W.Fast.tw13579433152601877770 := 0
def PySem.W.Fast.tw5636412230203663726 := 0
def PySem.W.Fast.tw16930330845248100629 := 0
def PySem.W.Fast.tw9591725369324769146 := 0
def PySem.W.Fast.tw6840293285545338994 := 0
def PySem.W.Fast.tw3148427509014104116 := 0
def PySem.W.Fast.tw4911544166248023972 := 0
def PySem.W.Fast.tw13455880759640836182 := 0
def PySem.W.Fast.tw14232039615856038728 := 0
def PySem.W.Fast.tw8173490970588554676 := 0
def PySem.W.Fast.tw15294726765316878102 := 0
def PySem.W.Fast.tw10066180710348934891 := 0
def PySem.W.Fast.tw839245948573415087 := 0
def PySem.W.Fast.tw11810928544683603657 := 0
def PySem.W.Fast.tw3357064084302061241 := 0
def PySem.W.Fast.tw10654188805022271663 := 0
def PySem.W.Fast.tw14998535948410794508 := 0
def PySem.W.Fast.tw7314517393027024328 := 0
def PySem.W.Fast.tw1546627055012968974 := 0
def PySem.W.Fast.tw17009893166869246134 := 0
def PySem.W.Fast.tw3672230502717995082 := 0
def PySem.W.Fast.tw3434110497727087148 := 0
def PySem.W.Fast.tw17780191316712066800 := 0
def PySem.W.Fast.tw3088090352138678865 := 0
def PySem.W.Fast.tw741723070493724271 := 0
def PySem.W.Fast.tw14851896980879740515 := 0
def PySem.W.Fast.tw2363158723728305196 := 0
def PySem.W.Fast.tw9818268373315581121 := 0
def PySem.W.Fast.tw8014359345786743690 := 0
def PySem.W.Fast.tw10811587680471983714 := 0
def PySem.W.Fast.tw133319716442806484 := 0
def PySem.W.Fast.tw13068755310205754401 := 0
def PySem.W.Fast.tw5148339677248076643 := 0
def PySem.W.Fast.tw12885055683968218272 := 0
def PySem.W.Fast.tw3861676881186231908 := 0
def PySem.W.Fast.tw13209533276645900471 := 0
def PySem.W.Fast.tw5758405483600005833 := 0
def PySem.W.Fast.tw1687517090553388508 := 0
def PySem.W.Fast.tw17929989307731236930 := 0
def PySem.W.Fast.tw18208427524502490671 := 0
def PySem.W.Fast.tw13067580284724127775 := 0
def PySem.W.Fast.tw4687643478695412020 := 0
def PySem.W.Fast.tw11632720840603257364 := 0
def PySem.W.Fast.tw9221595263432588653 := 0
def PySem.W.Fast.tw17606678769668609526 := 0
def PySem.W.Fast.tw3226420441628043814 := 0
def PySem.W.Fast.tw12271010923978793364 := 0
def PySem.W.Fast.tw18294170460379987217 := 0
def PySem.W.Fast.tw11459042441287606450 := 0
def PySem.W.Fast.tw11066701047128402054 := 0
def PySem.W.Fast.tw4131252674721316990 := 0
def PySem.W.Fast.tw15151081249890428894 := 0
def PySem.W.Fast.tw17596919585148390813 := 0
def PySem.W.Fast.tw5050125053827145323 := 0
def PySem.W.Fast.tw3882626121422492354 := 0
def PySem.W.Fast.tw9943684016980363020 := 0
def PySem.W.Fast.tw2707342308156974217 := 0
def PySem.W.Fast.tw11810247067308206454 := 0
def PySem.W.Fast.tw12632434183306144937 := 0
def PySem.W.Fast.tw3596969315062687396 := 0
def PySem.W.Fast.tw2269175164511415419 := 0
def PySem.W.Fast.tw16845694990938792517 := 0
def PySem.W.Fast.tw2558764405040003951 := 0
def PySem.W.Fast.tw661009600022051240 := 0
def PySem.W.Fast.tw2819216291154178159 := 0
def PySem.W.Fast.tw5696517773865300095 := 0
def PySem.W.Fast.tw8201914885616668782 := 0
def PySem.W.Fast.tw12420592569263685169 := 0
def PySem.W.Fast.tw3312110623109206110 := 0
def PySem.W.Fast.tw8752670162634076714 := 0
def PySem.W.Fast.tw16496394786450615478 := 0
def PySem.W.Fast.tw4565834339439032422 := 0
def PySem.W.Fast.tw10532643977437417736 := 0
def PySem.W.Fast.tw12424790299536299273 := 0
def PySem.W.Fast.tw18070149382865346499 := 0
def PySem.W.Fast.tw1139544241517323177 := 0
def PySem.W.Fast.tw16732870202322227115 := 0
def PySem.W.Fast.tw11308732940069078482 := 0
def PySem.W.Fast.tw2457825216607079210 := 0
def PySem.W.Fast.tw8832316706560088952 := 0
def PySem.W.Fast.tw1600898320877252199 := 0
def PySem.W.Fast.tw656887962691813465 := 0
def PySem.W.Fast.tw2452628136781779678 := 0
def PySem.W.Fast.tw16254408189971437671 := 0
def PySem.W.Fast.tw7982936534507599125 := 0
def PySem.W.Fast.tw11109680746323973738 := 0
def PySem.W.Fast.tw12643974768461451201 := 0
def PySem.W.Fast.tw11204018886830564120 := 0
def PySem.W.Fast.tw5910420222355234452 := 0
def PySem.W.Fast.tw10240436788889916223 := 0
def PySem.W.Fast.tw16519161576601111932 := 0
def PySem.W.Fast.tw17511293723219662373 := 0
def PySem.W.Fast.tw7487917969417610742 := 0
def PySem.W.Fast.tw3113478592417231911 := 0
def PySem.W.Fast.tw962394111405187787 := 0
def PySem.W.Fast.tw17989161865956413037 := 0
def PySem.W.Fast.tw2902940965246351826 := 0
def PySem.W.Fast.tw4477687901456653528 := 0
def PySem.W.Fast.tw10974451009091330696 := 0
def PySem.W.Fast.tw14591326260106454865 := 0
def PySem.W.Fast.tw17626930131576605103 := 0
def PySem.W.Fast.tw5298341342263102884 := 0
def PySem.W.Fast.tw10379585354544196434 := 0
def PySem.W.Fast.tw5504898848472263500 := 0
def PySem.W.Fast.tw1565700497183072579 := 0
def PySem.W.Fast.tw2004860304884315284 := 0
def PySem.W.Fast.tw5766650475038860194 := 0
def PySem.W.Fast.tw4033016400994244664 := 0
def PySem.W.Fast.tw1901981069970141168 := 0
def PySem.W.Fast.tw7730759479525294570 := 0
def PySem.W.Fast.tw18211306842861571233 := 0
def PySem.W.Fast.tw2940909916764878543 := 0
def PySem.W.Fast.tw6949100582573667607 := 0
def PySem.W.Fast.tw10834636161218782492 := 0
def PySem.W.Fast.tw1405779470385445044 := 0
def PySem.W.Fast.tw17523156853895811888 := 0
def PySem.W.Fast.tw3912343658191920133 := 0
def PySem.W.Fast.tw17191577369561385457 := 0
def PySem.W.Fast.tw4439244438478618256 := 0
def PySem.W.Fast.tw6434214508488859792 := 0
def PySem.W.Fast.tw1788664981201053463 := 0
def PySem.W.Fast.tw2531990593447288712 := 0
def PySem.W.Fast.tw6079609344103824704 := 0
def PySem.W.Fast.tw13213381259962272823 := 0
def PySem.W.Fast.tw3186878212581192152 := 0
def PySem.W.Fast.tw1383751402949820249 := 0
def PySem.W.Fast.tw5668644351811356342 := 0
def PySem.W.Fast.tw9534597207112197749 := 0
def PySem.W.Fast.tw16796334575811214714 := 0
def PySem.W.Fast.tw3553905043558666787 := 0
def PySem.W.Fast.tw15906310563945449806 := 0
def PySem.W.Fast.tw12056241320234913995 := 0
def PySem.W.Fast.tw5813885663139430353 := 0
def PySem.W.Fast.tw9048232510693480825 := 0
def PySem.W.Fast.tw10026790134518590465 := 0
def PySem.W.Fast.tw7231702315654205417 := 0
def PySem.W.Fast.tw2872697117256346719 := 0
def PySem.W.Fast.tw8066851526958691235 := 0
def PySem.W.Fast.tw8313892883469527080 := 0
def PySem.W.Fast.tw15410223923118063960 := 0
def PySem.W.Fast.tw7915356313482518020 := 0
def PySem.W.Fast.tw8583058673846804679 := 0
def PySem.W.Fast.tw10080492085025627640 := 0
def PySem.W.Fast.tw9749177813088965251 := 0
def PySem.W.Fast.tw6423544148580168405 := 0
def PySem.W.Fast.tw6188198932666908553 := 0
def PySem.W.Fast.tw2536507591266711401 := 0
def PySem.W.Fast.tw13950625904718240553 := 0
def PySem.W.Fast.tw91423591540092276 := 0
def PySem.W.Fast.tw17781567972658349387 := 0
def PySem.W.Fast.tw210929219441376240 := 0
def PySem.W.Fast.tw13937530861929077024 := 0
def PySem.W.Fast.tw15767424318173988070 := 0
def PySem.W.Fast.tw6751521322954316168 := 0
def PySem.W.Fast.tw13037423916065926280 := 0
def PySem.W.Fast.tw18185180589803098415 := 0
def PySem.W.Fast.tw7754149089674015885 := 0
def PySem.W.Fast.tw12777725824732252765 := 0
def PySem.W.Fast.tw9877401527690390718 := 0
def PySem.W.Fast.tw6857215917932319835 := 0
def PySem.W.Fast.tw6141309656598167267 := 0
def PySem.W.Fast.tw12014442231765394156 := 0
def PySem.W.Fast.tw14819690147868075479 := 0
def PySem.W.Fast.tw8667414025019537947 := 0
def PySem.W.Fast.tw16070535461769268435 := 0
def PySem.W.Fast.tw8613163142481780996 := 0
def PySem.W.Fast.tw1595311415163714980 := 0
def PySem.W.Fast.tw678079070564682085 := 0
def PySem.W.Fast.tw7128006503718202126 := 0
def PySem.W.Fast.tw1028355505795061945 := 0
def PySem.W.Fast.tw9446718709602371853 := 0
def PySem.W.Fast.tw16770416568796205904 := 0
def PySem.W.Fast.tw6235041081508492751 := 0
def PySem.W.Fast.tw1228560544110510326 := 0
def PySem.W.Fast.tw8418947705261034747 := 0
def PySem.W.Fast.tw5318673856032326074 := 0
def PySem.W.Fast.tw7031417916019077964 := 0
def PySem.W.Fast.tw16919680740577131659 := 0
def PySem.W.Fast.tw4408140435405974474 := 0
def PySem.W.Fast.tw6245873286942974082 := 0
def PySem.W.Fast.tw16735637548668619147 := 0
def PySem.W.Fast.tw2799126261584670576 := 0
def PySem.W.Fast.tw11257139098313338236 := 0
def PySem.W.Fast.tw1278375440869105576 := 0
def PySem.W.Fast.tw11904457080971392751 := 0
def PySem.W.Fast.tw8704492344939958231 := 0
def PySem.W.Fast.tw723912583318832367 := 0
def PySem.W.Fast.tw5754270419242593263 := 0
def PySem.W.Fast.tw9260146100743819142 := 0
def PySem.W.Fast.tw4143064629752576063 := 0
def PySem.W.Fast.tw11486344322933229833 := 0
def PySem.W.Fast.tw13224570681952070175 := 0
def PySem.W.Fast.tw3148819733054974513 := 0
def PySem.W.Fast.tw7324981494559553732 := 0
def PySem.W.Fast.tw9258076379430367513 := 0
def PySem.W.Fast.tw1830644310206704334 := 0
def PySem.W.Fast.tw863179490716318697 := 0
def PySem.W.Fast.tw3095696704808133156 := 0
def PySem.W.Fast.tw16146565676439562911 := 0
def PySem.W.Fast.tw10571913551474203624 := 0
def PySem.W.Fast.tw3972818452233848277 := 0
def PySem.W.Fast.tw17762838613246178323 := 0
def PySem.W.Fast.tw7753505772739853959 := 0
def PySem.W.Fast.tw2369340457356612110 := 0
def PySem.W.Fast.tw9211027569951290432 := 0
def PySem.W.Fast.tw13632636642150547633 := 0
def PySem.W.Fast.tw13224705986351296580 := 0
def PySem.W.Fast.tw11759734189238271354 := 0
def PySem.W.Fast.tw10918726583562294027 := 0
def PySem.W.Fast.tw12572933428526029737 := 0
def PySem.W.Fast.tw2006390911474615292 := 0
def PySem.W.Fast.tw3247754961370493490 := 0
def PySem.W.Fast.tw11293949794947157460 := 0
def PySem.W.Fast.tw9574616064635112308 := 0
def PySem.W.Fast.tw690510145433647541 := 0
def PySem.W.Fast.tw10890495233999475563 := 0
def PySem.W.Fast.tw485693483214077961 := 0
def PySem.W.Fast.tw8420822943947807489 := 0
def PySem.W.Fast.tw12532992578749728681 := 0
def PySem.W.Fast.tw6011327776562461289 := 0
def PySem.W.Fast.tw12117979869364721650 := 0
def PySem.W.Fast.tw6254129239516090320 := 0
def PySem.W.Fast.tw15953336668184619008 := 0
def PySem.W.Fast.tw3609479017226943580 := 0
def PySem.W.Fast.tw10925097796640749385 := 0
def PySem.W.Fast.tw10341928525192331170 := 0
def PySem.W.Fast.tw12559936550773727036 := 0
def PySem.W.Fast.tw15349550848205577448 := 0
def PySem.W.Fast.tw11740233180719195141 := 0
def PySem.W.Fast.tw5589933383103504730 := 0
def PySem.W.Fast.tw16330930844399201398 := 0
def PySem.W.Fast.tw7518413966867389889 := 0
def PySem.W.Fast.tw11159828637931433795 := 0
def PySem.W.Fast.tw5558916441179102932 := 0
def PySem.W.Fast.tw817008487692613099 := 0
def PySem.W.Fast.tw2252036582054364554 := 0
def PySem.W.Fast.tw4134852121099603737 := 0
def PySem.W.Fast.tw4957073920090913288 := 0
def PySem.W.Fast.tw10546862095353938618 := 0
def PySem.W.Fast.tw17392862923863400795 := 0
def PySem.W.Fast.tw12518378720384987815 := 0
def PySem.W.Fast.tw7050475571496765742 := 0
def PySem.W.Fast.tw6296458768286825972 := 0
def PySem.W.Fast.tw14665737064429178589 := 0
def PySem.W.Fast.tw7892710359079587435 := 0
def PySem.W.Fast.tw13659832410732681401 := 0
def PySem.W.Fast.tw13496844932291903648 := 0
def PySem.W.Fast.tw7103828226256508408 := 0
def PySem.W.Fast.tw4750048287302102602 := 0
def PySem.W.Fast.tw17485929422247089537 := 0
def PySem.W.Fast.tw6052326906945291361 := 0
def PySem.W.Fast.tw3976865977704508716 := 0
def PySem.W.Fast.tw14928660130113565336 := 0
def PySem.W.Fast.tw9632361331996900983 := 0
def PySem.W.Fast.tw4377098997665540896 := 0
def PySem.W.Fast.tw6224183678007221198 := 0
def PySem.W.Fast.tw3327205057725778778 := 0
def PySem.W.Fast.tw4715340829035796772 := 0
def PySem.W.Fast.tw16176948400492663087 := 0
def PySem.W.Fast.tw3031570827755489520 := 0
def PySem.W.Fast.tw3395171002338685049 := 0
def PySem.W.Fast.tw2709273015520609279 := 0
def PySem.W.Fast.tw17103592410134636065 := 0
def PySem.W.Fast.tw14831270517416516179 := 0
def PySem.W.Fast.tw7399306333190838578 := 0
def PySem.W.Fast.tw8420393727819959004 := 0
def PySem.W.Fast.tw11996100101375921397 := 0
def PySem.W.Fast.tw9792548146392359071 := 0
def PySem.W.Fast.tw11372519663202760150 := 0
def PySem.W.Fast.tw9364582400851138249 := 0
def PySem.W.Fast.tw15271373366948596686 := 0
def PySem.W.Fast.tw1125036029480268534 := 0
def PySem.W.Fast.tw6194168415580915012 := 0
def PySem.W.Fast.tw4165068934734489336 := 0
def PySem.W.Fast.tw13596589908328359784 := 0
def PySem.W.Fast.tw14601839168466997079 := 0
def PySem.W.Fast.tw4450434538940880409 := 0
def PySem.W.Fast.tw16320545236793313325 := 0
def PySem.W.Fast.tw1982541038953067502 := 0
def PySem.W.Fast.tw4580930407830610359 := 0
def PySem.W.Fast.tw2946764003852009583 := 0
def PySem.W.Fast.tw5786947318825332015 := 0
def PySem.W.Fast.tw10270078613805590500 := 0
def PySem.W.Fast.tw6923134983249953812 := 0
def PySem.W.Fast.tw17505557275960009639 := 0
def PySem.W.Fast.tw10800838479003696106 := 0
def PySem.W.Fast.tw10964689173007814411 := 0
def PySem.W.Fast.tw15004640290134292085 := 0
def PySem.W.Fast.tw6634319459232215669 := 0
def PySem.W.Fast.tw16151272883102054776 := 0
def PySem.W.Fast.tw3346701272302220256 := 0
def PySem.W.Fast.tw15027364745096188539 := 0
def PySem.W.Fast.tw13128160698004865162 := 0
def PySem.W.Fast.tw16393203695607699279 := 0
def PySem.W.Fast.tw9045691054506995341 := 0
def PySem.W.Fast.tw1500159455107637680 := 0
def PySem.W.Fast.tw9370130674297487453 := 0
def PySem.W.Fast.tw1035867705874546306 := 0
def PySem.W.Fast.tw6182746989770023332 := 0
def PySem.W.Fast.tw7651520976611503680 := 0
def PySem.W.Fast.tw17242959760462483046 := 0
def PySem.W.Fast.tw7695899652352772402 := 0
def PySem.W.Fast.tw4162299595279191192 := 0
def PySem.W.Fast.tw2137772375543339657 := 0
def PySem.W.Fast.tw150173294386385119 := 0
def PySem.W.Fast.tw3228762095157010103 := 0
def PySem.W.Fast.tw6119485946016485888 := 0
def PySem.W.Fast.tw4458667289452891914 := 0
def PySem.W.Fast.tw2428402938669618080 := 0
def PySem.W.Fast.tw9540923344843011004 := 0
def PySem.W.Fast.tw1882581455972939922 := 0
def PySem.W.Fast.tw4057512112149043957 := 0
def PySem.W.Fast.tw8600730405594383424 := 0
def PySem.W.Fast.tw6430427697971751814 := 0
def PySem.W.Fast.tw4202531470643932846 := 0
def PySem.W.Fast.tw776659470424532887 := 0
def PySem.W.Fast.tw9178807857209734908 := 0
def PySem.W.Fast.tw4282487892715942364 := 0
def PySem.W.Fast.tw5886202138724214509 := 0
def PySem.W.Fast.tw5315320222600303404 := 0
def PySem.W.Fast.tw11418865300160962034 := 0
def PySem.W.Fast.tw560293831461887600 := 0
def PySem.W.Fast.tw12130082433483227401 := 0
def PySem.W.Fast.tw9117301843373323615 := 0
def PySem.W.Fast.tw14963107854279776376 := 0
def PySem.W.Fast.tw9985232376283998050 := 0
def PySem.W.Fast.tw13824607101348989970 := 0
def PySem.W.Fast.tw2934437309372611290 := 0
def PySem.W.Fast.tw4755518177008623947 := 0
def PySem.W.Fast.tw8477753543101527409 := 0
def PySem.W.Fast.tw11485787384281970339 := 0
def PySem.W.Fast.tw16241970964574045585 := 0
def PySem.W.Fast.tw10414350492037349939 := 0
def PySem.W.Fast.tw4555116063963396059 := 0
def PySem.W.Fast.tw16356238112455991721 := 0
def PySem.W.Fast.tw3272521979661369273 := 0
def PySem.W.Fast.tw3213376824931947991 := 0
def PySem.W.Fast.tw2685308903599898067 := 0
def PySem.W.Fast.tw7797204970693133681 := 0
def PySem.W.Fast.tw3284508825681332481 := 0
def PySem.W.Fast.tw3320958398714952284 := 0
def PySem.W.Fast.tw4230401788742604128 := 0
def PySem.W.Fast.tw10386061502386350047 := 0
def PySem.W.Fast.tw16328079543249477956 := 0
def PySem.W.Fast.tw8639661562178066768 := 0
def PySem.W.Fast.tw14585512642705224383 := 0
def PySem.W.Fast.tw11689137443215904106 := 0
def PySem.W.Fast.tw7310124331933628652 := 0
def PySem.W.Fast.tw3575548069099596450 := 0
def PySem.W.Fast.tw6848052725192110765 := 0
def PySem.W.Fast.tw17003820255416422329 := 0
def PySem.W.Fast.tw5125703726354481022 := 0
def PySem.W.Fast.tw4976976943098215157 := 0
def PySem.W.Fast.tw3700694519778573300 := 0
def PySem.W.Fast.tw13658850737673359827 := 0
def PySem.W.Fast.tw4587973961269794472 := 0
def PySem.W.Fast.tw1691334912008402936 := 0
def PySem.W.Fast.tw8768946386490842695 := 0
def PySem.W.Fast.tw8868956452715221800 := 0
def PySem.W.Fast.tw10912924565648598997 := 0
def PySem.W.Fast.tw14907440453592969024 := 0
def PySem.W.Fast.tw1142197358804089093 := 0
def PySem.W.Fast.tw7439860867935610101 := 0
def PySem.W.Fast.tw8926673383859492760 := 0
def PySem.W.Fast.tw7252167706777549316 := 0
def PySem.W.Fast.tw18403820560887084085 := 0
def PySem.W.Fast.tw7700243845131374657 := 0
def PySem.W.Fast.tw9121897845161015433 := 0
def PySem.W.Fast.tw50927001468011178 := 0
def PySem.W.Fast.tw2452884060517091520 := 0
def PySem.W.Fast.tw14050399623100156787 := 0
def PySem.W.Fast.tw10533180339727311238 := 0
def PySem.W.Fast.tw9782219591355421281 := 0
def PySem.W.Fast.tw9392511114833705779 := 0
def PySem.W.Fast.tw2214917721609422266 := 0
def PySem.W.Fast.tw9718468907007222249 := 0
def PySem.W.Fast.tw3868520909916848342 := 0
set_option Elab.async false
set_option linter.all false
set_option maxRecDepth 100000
namespace L2
open PySem PySem.Spec PyProof.Rows

abbrev Key := Sum Int Str
def keyIs : Key → Value → Bool
  | .inl k, v => Value.isInt k v
  | .inr x, v => Value.isStrOf x v
def keyH (w : World) : Key → Int
  | .inl k => hashInt k
  | .inr x => hashStr w x
theorem keyIs_shape : ∀ {k : Key} {v : Value}, keyIs k v = true → (∃ i t, k = Sum.inl i ∧ v = Value.int i t) ∨ (∃ x t, k = Sum.inr x ∧ v = Value.str x t)
  | .inl i, v, h => by
    obtain ⟨t, e⟩ := Value.isInt_shape (k := i) (v := v) h
    exact .inl ⟨i, t, rfl, e⟩
  | .inr x, v, h => by
    obtain ⟨t, e⟩ := Value.isStrOf_shape (x := x) (v := v) h
    exact .inr ⟨x, t, rfl, e⟩
theorem key_ll (a b : Int) : decide ((Sum.inl a : Key) = Sum.inl b) = (a == b) := by
  by_cases e : a = b
  · subst e; simp
  · have h : ¬ (Sum.inl a : Key) = Sum.inl b := fun q => e (Sum.inl.inj q)
    rw [decide_eq_false h]
    exact (beq_eq_false_iff_ne.mpr e).symm
theorem key_rr (a b : Str) : decide ((Sum.inr a : Key) = Sum.inr b) = decide (a = b) := by
  by_cases e : a = b
  · subst e; simp
  · have h : ¬ (Sum.inr a : Key) = Sum.inr b := fun q => e (Sum.inr.inj q)
    rw [decide_eq_false h, decide_eq_false e]
theorem key_lr (a : Int) (b : Str) : decide ((Sum.inl a : Key) = Sum.inr b) = false := decide_eq_false (fun q => nomatch q)
theorem key_rl (a : Str) (b : Int) : decide ((Sum.inr a : Key) = Sum.inl b) = false := decide_eq_false (fun q => nomatch q)

def mixKind (prog : Program) (w : World) : PySem.KeyKind prog w Key where
  is := keyIs
  hash := keyH w
  inj := fun v a b ha hb => by
    rcases keyIs_shape ha with ⟨i, t, rfl, rfl⟩ | ⟨x, t, rfl, rfl⟩
    · rcases keyIs_shape hb with ⟨j, u, rfl, e⟩ | ⟨y, u, rfl, e⟩
      · injection e with e1 _; rw [e1]
      · exact nomatch e
    · rcases keyIs_shape hb with ⟨j, u, rfl, e⟩ | ⟨y, u, rfl, e⟩
      · exact nomatch e
      · injection e with e1 _; rw [e1]
  byValue := fun k v h => by
    rcases keyIs_shape h with ⟨i, t, rfl, rfl⟩ | ⟨x, t, rfl, rfl⟩ <;> rfl
  pyHash := fun hv h => by
    rcases keyIs_shape hv with ⟨i, t, rfl, rfl⟩ | ⟨x, t, rfl, rfl⟩
    · exact wpAny_pyHash_int h
    · exact wpAny_pyHash_str h
  eqBool := fun hu hv h => by
    rcases keyIs_shape hu with ⟨i, t, rfl, rfl⟩ | ⟨x, t, rfl, rfl⟩
    · rcases keyIs_shape hv with ⟨j, u, rfl, rfl⟩ | ⟨y, u, rfl, rfl⟩
      · rw [key_ll] at h; exact wpAny_eqBool_int h
      · rw [key_lr] at h; exact SeqAt.EqAt.int_str i t y u _ _ _ _ h
    · rcases keyIs_shape hv with ⟨j, u, rfl, rfl⟩ | ⟨y, u, rfl, rfl⟩
      · rw [key_rl] at h; exact SeqAt.EqAt.str_int x t j u _ _ _ _ h
      · rw [key_rr] at h; exact wpAny_eqBool_str h
  «strs» := fun k x t v h => by
    rcases keyIs_shape h with ⟨i, u, rfl, e⟩ | ⟨y, u, rfl, e⟩
    · exact nomatch e
    · injection e with e1 _
      subst e1
      cases v <;> rfl

end L2

namespace L2
open PySem PySem.Spec PyProof.Rows

inductive V where
  | non | bl (b : Bool) | int (i : Int) | str (x : Str) | byt (b : Array UInt8) | flt (b : UInt64) | ref (a : Addr) | ty (n : String)
  deriving DecidableEq

def RelV : V → Value → Prop
  | .non, u => u = Value.none
  | .bl b, u => u = Value.bool b
  | .int i, u => ∃ t, u = Value.int i t
  | .str x, u => ∃ t, u = Value.str x t
  | .byt b, u => ∃ t, u = Value.bytes b t
  | .flt b, u => ∃ t, u = Value.float b t
  | .ref a, u => u = Value.ref a
  | .ty n, u => u = Value.type n

abbrev Vals : List V → List Value → Prop := Paired RelV
theorem Vals.length {xs : List V} {us : List Value} (r : Vals xs us) : xs.length = us.length := Paired.length r
theorem Vals.get : ∀ {xs : List V} {us : List Value} {i : Nat} {x : V}, Vals xs us → xs[i]? = some x → ∃ u, us[i]? = some u ∧ RelV x u
  | _, _, _, _, .nil, e => by simp at e
  | _, _, 0, _, .cons r _, e => by simp at e; subst e; exact ⟨_, rfl, r⟩
  | _, _, i + 1, x, .cons _ t, e => by
    obtain ⟨u, h1, h2⟩ := Vals.get (i := i) (x := x) t (by simpa using e)
    exact ⟨u, by simpa using h1, h2⟩
theorem Vals.set {x : V} {u : Value} (r : RelV x u) : ∀ {xs : List V} {us : List Value} (i : Nat), Vals xs us → Vals (xs.set i x) (us.set i u)
  | _, _, _, .nil => .nil
  | _, _, 0, .cons _ t => .cons r t
  | _, _, i + 1, .cons q t => .cons q (Vals.set r i t)
theorem Vals.append : ∀ {xs ys : List V} {us ws : List Value}, Vals xs us → Vals ys ws → Vals (xs ++ ys) (us ++ ws)
  | _, _, _, _, .nil, s => s
  | _, _, _, _, .cons r t, s => .cons r (Vals.append t s)
theorem Vals.take : ∀ {xs : List V} {us : List Value} (n : Nat), Vals xs us → Vals (xs.take n) (us.take n)
  | _, _, 0, _ => .nil
  | _, _, _ + 1, .nil => .nil
  | _, _, n + 1, .cons r t => .cons r (Vals.take n t)
theorem Vals.drop : ∀ {xs : List V} {us : List Value} (n : Nat), Vals xs us → Vals (xs.drop n) (us.drop n)
  | _, _, 0, r => r
  | _, _, _ + 1, .nil => .nil
  | _, _, n + 1, .cons _ t => Vals.drop n t
theorem Vals.none_of : ∀ {xs : List V} {us : List Value} {i : Nat}, Vals xs us → xs[i]? = none → us[i]? = none := fun {xs us i} r e => by
  have h1 := r.length
  have h2 : xs.length ≤ i := List.getElem?_eq_none_iff.mp e
  exact List.getElem?_eq_none_iff.mpr (by omega)

def RelO : Option V → Option Value → Prop
  | some v, some u => RelV v u
  | none, none => True
  | _, _ => False
def KV {κ : Type} : List (κ × V) → List (κ × Value) → Prop := Paired fun (p : κ × V) (q : κ × Value) => p.1 = q.1 ∧ RelV p.2 q.2

def kV : Key → V
  | .inl i => .int i
  | .inr x => .str x

inductive HO where
  /-- a list -/
  | lst (xs : List V)
  /-- a tuple (never changes) -/
  | tup (xs : List V)
  /-- a dict whose keys are ints and texts; one whose keys are tuples of ints and texts (the empty one is both) -/
  | dK (kvs : List (Key × V)) | dT (kvs : List (List Key × V))
  /-- a set of ints: its members, its size -/
  | set (S : Int → Bool) (n : Nat)
  /-- an instance of the class at C, its dict at dx, its attributes -/
  | ins (C dx : Addr) (fs : List (Str × V))
  /-- the dict of the instance at x -/
  | own (x : Addr)
  /-- the dict of an exception -/
  | xd (fs : List (Str × V))
  /-- a bound method, f of x -/
  | met (f x : Addr)
  /-- a range object lo, lo + 1, .. below hi -/
  | rng (lo hi : Int)
  /-- a thing that is known to the object (the script; a dict while a loop walks it): read, never written while it is so -/
  | frz (o : Obj) (u : HO)
  /-- a code object's table -/
  | tbl (ps : Array Value)
  /-- any other thing, by what is true of its one object (a def of one's own: SetO a S n := HO.ext fun h => ..) -/
  | ext (φ : Heap → Prop)

abbrev Hp := Addr → Option HO
def upd (H : Hp) (a : Addr) (o : HO) : Hp := fun b => if b = a then some o else H b
theorem upd_same {H : Hp} {a : Addr} {o : HO} : upd H a o a = some o := by unfold upd; rw [if_pos rfl]
theorem upd_ne {H : Hp} {a b : Addr} {o : HO} (h : b ≠ a) : upd H a o b = H b := by unfold upd; rw [if_neg h]
theorem upd_upd {H : Hp} {a : Addr} {o u : HO} : upd (upd H a o) a u = upd H a u := by
  funext b; unfold upd; split <;> rfl
theorem ne_of {H : Hp} {a b : Addr} {o u : HO} (h : H a = some o) (h' : H b = some u) (d : o ≠ u) : a ≠ b := by
  intro e; subst e; rw [h] at h'; exact d (Option.some.inj h')
theorem ne_of_none {H : Hp} {a b : Addr} {o : HO} (h : H a = some o) (h' : H b = none) : a ≠ b := by
  intro e; subst e; rw [h] at h'; cases h'

section
variable (P : Program) (w : World)
def ObjOk (H : Hp) (h : Heap) (a : Addr) : HO → Prop
  | .lst xs => xs.length ≤ sizeLine ∧ ∃ (its : List Value) (n : Nat), Vals xs its ∧ h.get? a = some { cls := .type "list", data := .seq its.toArray n }
  | .tup xs => xs.length ≤ sizeLine ∧ ∃ its : List Value, Vals xs its ∧ IsTup h a its.toArray
  | .dK kvs => kvs.length ≤ sizeLine ∧ (a == sysModules) = false ∧ ∃ vs, KV kvs vs ∧ h.DictOf (mixKind P w) a vs
  | .dT kvs => kvs.length ≤ sizeLine ∧ (a == sysModules) = false ∧ ∃ xs : List (List Key × Addr × Value),
      Paired (fun (p : List Key × V) (q : List Key × Addr × Value) => p.1 = q.1 ∧ H q.2.1 = some (.tup (p.1.map kV)) ∧ RelV p.2 q.2.2) kvs xs ∧
      ∃ o es ep, h.get? a = some o ∧ o.ExactDict ∧ o.data = .dict es ep ∧ es.toList = xs.map (entryOfKey (tupleKind (mixKind P w))) ∧ (xs.map (·.1)).Nodup
  | .set S n => h.SetOf (intKind P w) a S n
  | .ins C dx fs => H dx = some (.own a) ∧ fs.length ≤ 1000 ∧ dx ≠ a ∧ h.get? a = some (PySem.W.instObj C dx) ∧
      ∃ mA, h.Ns1 dx mA ∧ (∀ f, RelO (fs.lookup f) (mA f)) ∧ PySem.Within mA (fs.map (·.1))
  | .own _ => ∃ o, h.get? a = some o
  | .xd fs => ∃ mA, h.Ns1 a mA ∧ ∀ f, RelO (fs.lookup f) (mA f)
  | .rng lo hi => ∃ t u v, h.get? a = some { cls := .type "range", data := .fields #[.int lo t, .int hi u, .int 1 v] }
  | .frz o u => h.get? a = some o ∧ ObjOk H h a u
  | .tbl ps => h.get? a = some { cls := .none, data := .fields ps }
  | .met f x => h.get? a = some (PySem.W.methodObj (.ref f) (.ref x))
  | .ext φ => φ h ∧ (∃ o, h.get? a = some o) ∧ ∀ h1 h2 : Heap, φ h1 → (∀ o, h1.get? a = some o → h2.get? a = some o) → φ h2
def HOk (H : Hp) (h : Heap) : Prop := ∀ a o, H a = some o → ObjOk P w H h a o
end

section
variable {P : Program} {w : World} {H H' : Hp} {h h' : Heap} {a : Addr} {o : HO}
theorem ObjOk.lt (x : ObjOk P w H h a o) : a < h.objs.size := by
  cases o with
  | lst xs => obtain ⟨_, _, _, _, e⟩ := x; exact Heap.lt_size e
  | tup xs => obtain ⟨_, _, _, p⟩ := x; exact p.lt
  | dK kvs => obtain ⟨_, _, _, _, o, _, _, e, _⟩ := x; exact Heap.lt_size e
  | dT kvs => obtain ⟨_, _, _, _, o, _, _, e, _⟩ := x; exact Heap.lt_size e
  | set S n => obtain ⟨o, _, _, _, e, _⟩ := x; exact Heap.lt_size e
  | ins C dx fs => obtain ⟨_, _, _, e, _⟩ := x; exact Heap.lt_size e
  | own y => obtain ⟨_, e⟩ := x; exact Heap.lt_size e
  | xd fs => obtain ⟨_, ⟨_, _, _, e, _⟩, _⟩ := x; exact Heap.lt_size e
  | rng lo hi => obtain ⟨_, _, _, e⟩ := x; exact Heap.lt_size e
  | frz ob u => obtain ⟨e, _⟩ := x; exact Heap.lt_size e
  | tbl ps => exact Heap.lt_size (show h.get? a = some _ from x)
  | met f y => exact Heap.lt_size (show h.get? a = some _ from x)
  | ext φ => obtain ⟨_, ⟨_, e⟩, _⟩ := x; exact Heap.lt_size e
theorem Paired.mapP {α β : Type} {F G : α → β → Prop} : ∀ {l₁ : List α} {l₂ : List β}, Paired F l₁ l₂ → (∀ a b, F a b → G a b) → Paired G l₁ l₂
  | _, _, .nil, _ => .nil
  | _, _, .cons r t, f => .cons (f _ _ r) (Paired.mapP t f)
theorem ObjOk.stay (x : ObjOk P w H h a o) (k : ∀ b u, (b = a ∨ H b = some (.own a)) → h.get? b = some u → h'.get? b = some u)
    (ho : ∀ b, H b = some (.own a) → H' b = some (.own a)) (ht : ∀ b xs, H b = some (.tup xs) → H' b = some (.tup xs)) : ObjOk P w H' h' a o := by
  induction o with
  | lst xs => obtain ⟨z, its, n, r, e⟩ := x; exact ⟨z, its, n, r, k _ _ (.inl rfl) e⟩
  | tup xs => obtain ⟨z, its, r, ob, e, c⟩ := x; exact ⟨z, its, r, ob, k _ _ (.inl rfl) e, c⟩
  | dK kvs => obtain ⟨z, y, vs, r, ob, es, ep, e, c⟩ := x; exact ⟨z, y, vs, r, ob, es, ep, k _ _ (.inl rfl) e, c⟩
  | dT kvs =>
    obtain ⟨z, y, xs, r, ob, es, ep, e, c⟩ := x
    exact ⟨z, y, xs, Paired.mapP r fun p q z => ⟨z.1, ht _ _ z.2.1, z.2.2⟩, ob, es, ep, k _ _ (.inl rfl) e, c⟩
  | set S n => obtain ⟨ob, es, ep, t, e, c⟩ := x; exact ⟨ob, es, ep, t, k _ _ (.inl rfl) e, c⟩
  | ins C dx fs =>
    obtain ⟨d, z, ne, e, mA, ⟨od, es, ep, e2, c⟩, r⟩ := x
    exact ⟨ho _ d, z, ne, k _ _ (.inl rfl) e, mA, ⟨od, es, ep, k _ _ (.inr d) e2, c⟩, r⟩
  | own y => obtain ⟨ob, e⟩ := x; exact ⟨ob, k _ _ (.inl rfl) e⟩
  | xd fs => obtain ⟨mA, ⟨od, es, ep, e, c⟩, r⟩ := x; exact ⟨mA, ⟨od, es, ep, k _ _ (.inl rfl) e, c⟩, r⟩
  | rng lo hi => obtain ⟨t, u, v, e⟩ := x; exact ⟨t, u, v, k _ _ (.inl rfl) e⟩
  | frz ob u ih => obtain ⟨e, q⟩ := x; exact ⟨k _ _ (.inl rfl) e, ih q⟩
  | tbl ps =>
    have e : h.get? a = some { cls := .none, data := .fields ps } := x
    show h'.get? a = some { cls := .none, data := .fields ps }
    exact k a _ (.inl rfl) e
  | met f y =>
    have e : h.get? a = some (PySem.W.methodObj (.ref f) (.ref y)) := x
    show h'.get? a = some (PySem.W.methodObj (.ref f) (.ref y))
    exact k a _ (.inl rfl) e
  | ext φ => obtain ⟨p, ⟨o, e⟩, st⟩ := x; exact ⟨st _ _ p fun o q => k _ _ (.inl rfl) q, ⟨o, k _ _ (.inl rfl) e⟩, st⟩
theorem HOk.lt (x : HOk P w H h) (e : H a = some o) : a < h.objs.size := (x a o e).lt
theorem HOk.fresh (x : HOk P w H h) (e : h.objs.size ≤ a) : H a = none := by
  cases q : H a with
  | none => rfl
  | some u => exact absurd (Nat.lt_of_lt_of_le (x.lt q) e) (Nat.lt_irrefl _)
theorem HOk.kept (x : HOk P w H h) (k : ∀ b u, h.get? b = some u → h'.get? b = some u) : HOk P w H h' := fun a o e =>
  (x a o e).stay (fun b u _ q => k b u q) (fun _ q => q) fun _ _ q => q
theorem HOk.laid (x : HOk P w H h) (k : ∀ b u, h.get? b = some u → h'.get? b = some u) (hp : h.objs.size ≤ a) (new : ObjOk P w (upd H a o) h' a o) : HOk P w (upd H a o) h' := fun b u e => by
  have hn := x.fresh hp
  by_cases hb : b = a
  · subst hb; rw [upd_same] at e; cases e; exact new
  · rw [upd_ne hb] at e
    exact (x b u e).stay (fun c v _ q => k c v q) (fun c q => by rw [upd_ne (ne_of_none q hn)]; exact q) fun c xs q => by rw [upd_ne (ne_of_none q hn)]; exact q
end

def Rd (H : Hp) (a : Addr) (u : HO) : Prop := H a = some u ∨ ∃ o, H a = some (.frz o u)
theorem Rd.of {H : Hp} {a : Addr} {u : HO} (h : H a = some u) : Rd H a u := .inl h
theorem Rd.ok {P : Program} {w : World} {H : Hp} {h : Heap} {a : Addr} {u : HO} (r : Rd H a u) (x : HOk P w H h) : ObjOk P w H h a u := by
  rcases r with r | ⟨o, r⟩
  · exact x a u r
  · obtain ⟨_, q⟩ := x a _ r
    exact q
def Mut : Option HO → Prop
  | some (.lst _) => True
  | some (.dK _) => True
  | some (.dT _) => True
  | some (.set _ _) => True
  | some (.ins _ _ _) => True
  | some (.ext _) => True
  | _ => False
section
variable {P : Program} {w : World} {H : Hp} {h h' : Heap} {x e : Addr} {o' : HO}
theorem HOk.write (ok : HOk P w H h) (mu : Mut (H x)) (he : e = x ∨ H e = some (.own x)) (k : ∀ b u, b ≠ e → h.get? b = some u → h'.get? b = some u) (heo : ∃ u, h'.get? e = some u)
    (new : ObjOk P w (upd H x o') h' x o') : HOk P w (upd H x o') h' := fun b u q => by
  have nown : ∀ c y, H c = some (.own y) → c ≠ x := fun c y r z => by subst z; rw [r] at mu; exact mu
  have ntup : ∀ c xs, H c = some (.tup xs) → c ≠ x := fun c xs r z => by subst z; rw [r] at mu; exact mu
  by_cases hb : b = x
  · subst hb; rw [upd_same] at q; cases q; exact new
  · rw [upd_ne hb] at q
    by_cases hbe : b = e
    · have q' : H b = some (.own x) := by
        rcases he with z | z
        · exact absurd (hbe.trans z) hb
        · rw [hbe]; exact z
      rw [q] at q'; cases q'
      obtain ⟨v, hv⟩ := heo
      exact ⟨v, by rw [hbe]; exact hv⟩
    · refine (ok b u q).stay (fun c v hc r => k c v ?_ r) (fun c r => by rw [upd_ne (nown c b r)]; exact r) fun c xs r => by rw [upd_ne (ntup c xs r)]; exact r
      rcases hc with rfl | hc
      · exact hbe
      · rintro rfl
        rcases he with z | z
        · exact nown c b hc z
        · rw [hc] at z; cases z; exact hb rfl
end

structure Un (fs ex : List Addr) (H H' : Hp) (h h' : Heap) : Prop where
  keep : ∀ b o, h.get? b = some o → H b = none → b ∉ fs → b ∉ ex → h'.get? b = some o
  slot : ∀ b o, h.get? b = some o → H b = none → b ∈ fs → b ∉ ex → ∃ sl, h'.get? b = some { o with slots := sl }
  free : ∀ b o, h.get? b = some o → H b = none → b ∉ ex → H' b = none
  there : ∀ b o, h.get? b = some o → b ∉ ex → ∃ o', h'.get? b = some o'
  tups : ∀ b xs, H b = some (.tup xs) → H' b = some (.tup xs)
  frzs : ∀ b o u, H b = some (.frz o u) → H' b = some (.frz o u)
  tbls : ∀ b ps, H b = some (.tbl ps) → ∃ more, H' b = some (.tbl (ps ++ more))
section
variable {fs fs' ex ex' : List Addr} {H H1 H2 : Hp} {h h1 h2 h' : Heap} {a x e : Addr} {o : HO}
theorem Un.any (u : Un fs ex H H1 h h1) {b : Addr} {ob : Obj} (q : h.get? b = some ob) (n : H b = none) (hx : b ∉ ex) : ∃ sl, h1.get? b = some { ob with slots := sl } := by
  by_cases hb : b ∈ fs
  · exact u.slot b ob q n hb hx
  · exact ⟨ob.slots, u.keep b ob q n hb hx⟩
theorem Un.trans (a : Un fs ex H H1 h h1) (b : Un fs ex H1 H2 h1 h2) : Un fs ex H H2 h h2 where
  keep := fun c ob q n hc hx => b.keep c ob (a.keep c ob q n hc hx) (a.free c ob q n hx) hc hx
  slot := fun c ob q n hc hx => by
    obtain ⟨sl, e1⟩ := a.slot c ob q n hc hx
    obtain ⟨sl', e2⟩ := b.slot c _ e1 (a.free c ob q n hx) hc hx
    exact ⟨sl', e2⟩
  free := fun c ob q n hx => by
    obtain ⟨o', e1⟩ := a.there c ob q hx
    exact b.free c o' e1 (a.free c ob q n hx) hx
  there := fun c ob q hx => by
    obtain ⟨o', e1⟩ := a.there c ob q hx
    exact b.there c o' e1 hx
  tups := fun c xs q => b.tups c xs (a.tups c xs q)
  frzs := fun c ob xs q => b.frzs c ob xs (a.frzs c ob xs q)
  tbls := fun c ps q => by
    obtain ⟨m1, e1⟩ := a.tbls c ps q
    obtain ⟨m2, e2⟩ := b.tbls c _ e1
    exact ⟨m1 ++ m2, by rw [e2, Array.append_assoc]⟩
theorem Un.kept (k : ∀ b u, h.get? b = some u → h'.get? b = some u) : Un fs ex H H h h' :=
  ⟨fun b ob q _ _ _ => k b ob q, fun b ob q _ _ _ => ⟨ob.slots, k b ob q⟩, fun _ _ _ n _ => n, fun b ob q _ => ⟨ob, k b ob q⟩, fun _ _ q => q, fun _ _ _ q => q, fun _ ps q => ⟨#[], by rw [q]; simp⟩⟩
theorem Un.refl : Un fs ex H H h h := Un.kept fun _ _ q => q
theorem Un.laid (k : ∀ b u, h.get? b = some u → h'.get? b = some u) (hp : h.objs.size ≤ a) (hn : H a = none) : Un fs ex H (upd H a o) h h' where
  keep := fun b u q _ _ _ => k b u q
  slot := fun b u q _ _ _ => ⟨u.slots, k b u q⟩
  free := fun b u q n _ => by rw [upd_ne (Nat.ne_of_lt (Nat.lt_of_lt_of_le (Heap.lt_size q) hp))]; exact n
  there := fun b u q _ => ⟨u, k b u q⟩
  tups := fun b xs q => by rw [upd_ne (ne_of_none q hn)]; exact q
  frzs := fun b u xs q => by rw [upd_ne (ne_of_none q hn)]; exact q
  tbls := fun b ps q => ⟨#[], by rw [upd_ne (ne_of_none q hn), q]; simp⟩
theorem Un.write (mu : Mut (H x)) (he : e = x ∨ H e = some (.own x)) (k : ∀ b u, b ≠ e → h.get? b = some u → h'.get? b = some u) (heo : ∃ u, h'.get? e = some u) : Un fs ex H (upd H x o) h h' := by
  have hx : ∀ b, H b = none → b ≠ x := fun b n z => by subst z; rw [n] at mu; exact mu
  have hb : ∀ b, H b = none → b ≠ e := fun b n z => by
    subst z
    rcases he with r | r
    · exact hx b n r
    · rw [n] at r; cases r
  have hm : ∀ b u, H b = some u → ¬ Mut (some u) → b ≠ x := fun b u q nm z => by subst z; rw [q] at mu; exact nm mu
  refine ⟨fun b u q n _ _ => k b u (hb b n) q, fun b u q n _ _ => ⟨u.slots, k b u (hb b n) q⟩, fun b u q n _ => by rw [upd_ne (hx b n)]; exact n, fun b u q _ => ?_,
    fun b xs q => by rw [upd_ne (hm b _ q fun z => z)]; exact q, fun b u xs q => by rw [upd_ne (hm b _ q fun z => z)]; exact q, fun b ps q => ⟨#[], by rw [upd_ne (hm b _ q fun z => z), q]; simp⟩⟩
  by_cases hbe : b = e
  · subst hbe; exact heo
  · exact ⟨u, k b u hbe q⟩
theorem Un.mono (u : Un fs ex H H1 h h1) (hs : ∀ b ∈ fs, b ∈ fs') (hx : ∀ b ∈ ex, b ∈ ex') : Un fs' ex' H H1 h h1 :=
  ⟨fun b ob q n hb he => u.keep b ob q n (fun z => hb (hs b z)) fun z => he (hx b z), fun _ _ q n _ he => u.any q n fun z => he (hx _ z), fun b ob q n he => u.free b ob q n fun z => he (hx b z), fun b ob q he => u.there b ob q fun z => he (hx b z), u.tups, u.frzs, u.tbls⟩
end

def trk (h : Heap) (H : Hp) : List Addr := (List.range h.objs.size).filter fun a => (H a).isSome
def hidT (h : Heap) (H : Hp) : Heap := PySem.W.hideAll h (trk h H)
theorem hidT_size (h : Heap) (H : Hp) : (hidT h H).objs.size = h.objs.size := PySem.W.hideAll_size _ _
theorem hidT_get {h : Heap} {H : Hp} {b : Addr} {o : Obj} (e : h.get? b = some o) (n : H b = none) : (hidT h H).get? b = some o :=
  PySem.W.hideAll_get _ e fun hm => by
    have q : (H b).isSome = true := (List.mem_filter.mp hm).2
    rw [n] at q; simp at q
theorem of_hidT {h : Heap} {H : Hp} {b : Addr} {o : Obj} (e : (hidT h H).get? b = some o) : h.get? b = some o ∧ H b = none := by
  have e' : h.get? b = some o := PySem.W.of_hideAll (trk h H) e
  refine ⟨e', ?_⟩
  cases q : H b with
  | none => rfl
  | some x =>
    have hm : b ∈ trk h H := List.mem_filter.mpr ⟨List.mem_range.mpr (Heap.lt_size e'), by simp [q]⟩
    have z : (hidT h H).get? b = none := PySem.W.hideAll_none (trk h H) hm
    rw [z] at e; cases e

def allNews (g h : Heap) (L : Addr) : List (Addr × Obj) := (List.range h.objs.size).filterMap fun a => if a = L ∨ (g.get? a).isSome = true then none else (h.get? a).map fun o => (a, o)
def rest (g h : Heap) (L d : Addr) : List (Addr × Obj) := (allNews g h L).filter fun p => decide (p.1 ≠ d)
end L2

namespace L2
open PySem PySem.Spec PyProof.Rows

structure Mod (K : PySem.W.Frag) (mg : Str → Option Value) (base : Heap) : Prop where
  kin : K.In base
  glob : base.Ns mainGlobals mg
  blt : ∃ mb, base.Ns builtinsNs mb ∧ ∀ x : Str, x ≠ "__name__" → mb x = bootBuiltins x
  nolimit : base.NoLimit

structure Cx where
  prog : Program
  w : World
  K : PySem.W.Frag
  mg : Str → Option Value
  base : Heap
  A : Around
  N : List Str
  s₀ : Shared
  H₀ : Hp
  env : Env
  outer : List Env
  stack : List Env
  ex : List Addr
  fn : Str → Bool
  calm : Bool
  pn : List (Addr × Obj)
  xe : Value → Shared → Prop
def frs (l : List Env) : List Addr := l.filterMap (·.frame)
abbrev Cx.fs (X : Cx) : List Addr := frs X.outer

def Vis (sc : Scope) (x : Str) : Prop := sc.names.lookup x = some .local ∨ sc.names.lookup x = some .cell ∨ sc.names.lookup x = some .free
def Loc (sc : Scope) (x : Str) : Prop := sc.names.lookup x = some .local ∨ sc.names.lookup x = some .cell
def Look (env : Env) (h : Heap) (m : Str → Option Value) (x : Str) (u : Value) : Prop :=
  (env.kindOf x = some .local ∧ m x = some u) ∨ ((env.kindOf x = some .cell ∨ env.kindOf x = some .free) ∧ ∃ c, env.cells.lookup x = some c ∧ h.IsCell c (some u))

structure Cx.Ok (X : Cx) : Prop where
  mod : Mod X.K X.mg X.base
  kind : X.env.scope.kind = .function
  glob : X.env.globals = mainGlobals
  blt : X.env.builtins = builtinsNs
  above : X.s₀.heap.objs.size ≤ X.env.locals
  inj : ∀ x y c, X.env.cells.lookup x = some c → X.env.cells.lookup y = some c → x = y
  has : ∀ x, (X.env.kindOf x = some .cell ∨ X.env.kindOf x = some .free) → ∃ c, X.env.cells.lookup x = some c
  cab : ∀ x c, X.fn x = true → X.env.cells.lookup x = some c → X.s₀.heap.objs.size ≤ c
  hd : X.calm = true → X.A.handled = none
  frames : X.A.frames = some X.stack
  stk : X.stack = X.outer ∨ (X.stack = X.env :: X.outer ∧ X.env.frame = some X.env.locals)
  exf : ∀ b ∈ X.ex, b ≠ X.env.locals ∧ ∀ x c, X.env.cells.lookup x = some c → c ≠ b
  bs : ∀ b o, X.base.get? b = some o → X.s₀.heap.get? b = some o ∧ X.H₀ b = none
  bsz : X.base.objs.size ≤ X.s₀.heap.objs.size
  noex : ∀ b o, X.base.get? b = some o → b ∉ X.ex
  exfs : ∀ b ∈ X.ex, b ∉ X.fs
  funs : X.s₀.heap.FunFrames X.base X.outer
  frf : ∀ b ∈ X.fs, X.H₀ b = none

structure Inv (X : Cx) (pins : List (Addr × Obj)) (σ : List (Option V)) (H : Hp) (s : Shared) : Prop where
  ok : X.Ok
  os : s.os = X.s₀.os
  bare : AllBare s.gens
  base : Un X.fs X.ex X.H₀ H X.s₀.heap s.heap
  loc : ∃ m, s.heap.Ns X.env.locals m ∧ ∀ (i : Nat) (x : Str) (v : V), X.N[i]? = some x → σ[i]? = some (some v) → Vis X.env.scope x → ∃ u, RelV v u ∧ Look X.env s.heap m x u
  cell : ∀ x c, X.env.cells.lookup x = some c → ∃ v, s.heap.IsCell c v
  free : H X.env.locals = none
  freeC : ∀ x c, X.env.cells.lookup x = some c → H c = none
  pin : ∀ p ∈ X.pn ++ pins, s.heap.get? p.1 = some p.2 ∧ H p.1 = none ∧ p.1 ≠ X.env.locals ∧ p.1 ∉ X.fs ∧ ∀ v, p.2.data ≠ .cell v
  hok : HOk X.prog X.w H s.heap
  len : σ.length = X.N.length

section
variable {X : Cx} {pins : List (Addr × Obj)} {σ : List (Option V)} {H H' : Hp} {s : Shared} {h' : Heap}

theorem Cx.Ok.nofr (ok : X.Ok) {b : Addr} {o : Obj} (e : X.base.get? b = some o) : b ∉ X.fs := fun hb => by
  have := (ok.funs.mem hb).1
  rw [e] at this; cases this
theorem Inv.bs (I : Inv X pins σ H s) : ∀ b o, X.base.get? b = some o → s.heap.get? b = some o ∧ H b = none := fun b o e =>
  ⟨I.base.keep b o (I.ok.bs b o e).1 (I.ok.bs b o e).2 (I.ok.nofr e) (I.ok.noex b o e), I.base.free b o (I.ok.bs b o e).1 (I.ok.bs b o e).2 (I.ok.noex b o e)⟩
theorem Inv.bk (I : Inv X pins σ H s) : ∀ b o, X.base.get? b = some o → s.heap.get? b = some o := fun b o e => (I.bs b o e).1
theorem Inv.mod (I : Inv X pins σ H s) : Mod X.K X.mg X.base := I.ok.mod
theorem Inv.kIn (I : Inv X pins σ H s) : X.K.In s.heap := I.ok.mod.kin.keeps I.bk
theorem Inv.nolimit (I : Inv X pins σ H s) : s.heap.NoLimit := I.ok.mod.nolimit.keeps I.bk
theorem Inv.fr (I : Inv X pins σ H s) : ∃ m, Fr X.base X.env.locals s.heap m :=
  let ⟨m, hn, _⟩ := I.loc
  ⟨m, hn, I.bk, Nat.le_trans I.ok.bsz I.ok.above⟩
theorem Inv.lt (I : Inv X pins σ H s) : X.env.locals < s.heap.objs.size := let ⟨_, hn, _⟩ := I.loc; hn.lt
theorem Inv.sz (I : Inv X pins σ H s) : X.s₀.heap.objs.size ≤ s.heap.objs.size := Nat.le_trans I.ok.above (Nat.le_of_lt I.lt)
theorem Inv.nofs (I : Inv X pins σ H s) {a : Addr} (h : s.heap.objs.size ≤ a) : a ∉ X.fs := fun hb => by
  obtain ⟨_, o, ho, _⟩ := I.ok.funs.mem hb
  exact absurd (Nat.lt_of_lt_of_le (Heap.lt_size ho) (Nat.le_trans I.sz h)) (Nat.lt_irrefl _)
theorem Inv.cne (I : Inv X pins σ H s) : ∀ x c, X.env.cells.lookup x = some c → c ≠ X.env.locals := fun x c e z => by
  obtain ⟨v, o, ho, hd⟩ := I.cell x c e
  obtain ⟨m, ⟨o', es, ep, ho', hd', _⟩, _⟩ := I.loc
  rw [z, ho'] at ho; cases ho; rw [hd'] at hd; cases hd
theorem Inv.funs (I : Inv X pins σ H s) : s.heap.FunFrames X.base X.outer := by
  have all : ∀ (l : List Env), (∀ b ∈ frs l, b ∈ X.fs) → X.s₀.heap.FunFrames X.base l → s.heap.FunFrames X.base l := by
    intro l
    induction l with
    | nil => intro _ _; trivial
    | cons env r ih =>
      intro hs hl
      obtain ⟨hk, ⟨L, o, hf, hn, ho, hd⟩, hr⟩ := hl
      have hL : L ∈ X.fs := hs L (by unfold frs; rw [List.filterMap_cons, hf]; exact List.mem_cons_self)
      obtain ⟨sl, e⟩ := I.base.slot L o ho (I.ok.frf L hL) hL fun z => I.ok.exfs L z hL
      exact ⟨hk, ⟨L, _, hf, hn, e, hd⟩, ih (fun b hb => hs b (by unfold frs; rw [List.filterMap_cons, hf]; exact List.mem_cons_of_mem _ hb)) hr⟩
  exact all X.outer (fun _ hb => hb) I.ok.funs

theorem Inv.stack (I : Inv X pins σ H s) : s.heap.FunFrames X.base X.stack := by
  rcases I.ok.stk with e | ⟨e, hf⟩
  · rw [e]; exact I.funs
  · rw [e]
    obtain ⟨m, hn, _⟩ := I.loc
    refine .cons (by rw [I.ok.kind]; decide) hf hn ?_ I.funs
    exact Heap.get?_none_of_le (Nat.le_trans I.ok.bsz I.ok.above)
theorem Inv.stkSub (I : Inv X pins σ H s) : ∀ b ∈ frs X.stack, b ∈ X.env.locals :: X.fs := fun b hb => by
  rcases I.ok.stk with e | ⟨e, hf⟩
  · rw [e] at hb; exact List.mem_cons_of_mem _ hb
  · rw [e] at hb
    unfold frs at hb
    rw [List.filterMap_cons, hf] at hb
    exact hb
theorem Inv.stkFree (I : Inv X pins σ H s) : ∀ b ∈ frs X.stack, H b = none := fun b hb => by
  rcases List.mem_cons.mp (I.stkSub b hb) with e | hb
  · rw [e]; exact I.free
  · obtain ⟨_, o, ho, _⟩ := I.ok.funs.mem hb
    exact I.base.free b o ho (I.ok.frf b hb) fun z => I.ok.exfs b z hb

theorem Inv.step {g' : Array GenState} {t' : Nat} {d' : Drawn} {ch : List Addr} (I : Inv X pins σ H s)
    (hch : ∀ b ∈ ch, (b ∈ X.ex ∨ X.s₀.heap.objs.size ≤ b) ∧ b ≠ X.env.locals ∧ (∀ x c, X.env.cells.lookup x = some c → c ≠ b) ∧ ∀ p ∈ X.pn ++ pins, p.1 ≠ b)
    (keep : ∀ b o, b ≠ X.env.locals → b ∉ X.fs → b ∉ ch → s.heap.get? b = some o → H b = none → h'.get? b = some o)
    (slot : ∀ b o, b ≠ X.env.locals → b ∈ X.fs → b ∉ ch → s.heap.get? b = some o → H b = none → ∃ sl, h'.get? b = some { o with slots := sl }) (free : ∀ b o, b ∉ ch → s.heap.get? b = some o → H b = none → H' b = none)
    (there : ∀ b o, b ∉ ch → s.heap.get? b = some o → ∃ o', h'.get? b = some o')
    (tups : ∀ b xs, H b = some (.tup xs) → H' b = some (.tup xs)) (frzs : ∀ b o u, H b = some (.frz o u) → H' b = some (.frz o u)) (tbls : ∀ b ps, H b = some (.tbl ps) → ∃ more, H' b = some (.tbl (ps ++ more)))
    (ns : ∀ m, s.heap.Ns X.env.locals m → h'.Ns X.env.locals m) (hok : HOk X.prog X.w H' h') (hg : AllBare g') :
    Inv X pins σ H' { s with heap := h', gens := g', drawn := d', toks := t' } := by
  have neL : ∀ b o, X.s₀.heap.get? b = some o → b ≠ X.env.locals := fun b o e => Nat.ne_of_lt (Nat.lt_of_lt_of_le (Heap.lt_size e) I.ok.above)
  have neC : ∀ b o, X.s₀.heap.get? b = some o → b ∉ X.ex → b ∉ ch := fun b o e hx hb => by
    rcases (hch b hb).1 with z | z
    · exact hx z
    · exact absurd (Nat.lt_of_lt_of_le (Heap.lt_size e) z) (Nat.lt_irrefl _)
  have cellK : ∀ x c, X.env.cells.lookup x = some c → ∀ v, s.heap.IsCell c v → h'.IsCell c v := fun x c e v ⟨o, ho, hd⟩ => by
    have nch : c ∉ ch := fun z => (hch c z).2.2.1 x c e rfl
    by_cases hc : c ∈ X.fs
    · obtain ⟨sl, q⟩ := slot c o (I.cne x c e) hc nch ho (I.freeC x c e)
      exact ⟨_, q, hd⟩
    · exact ⟨o, keep c o (I.cne x c e) hc nch ho (I.freeC x c e), hd⟩
  refine ⟨I.ok, I.os, hg, ⟨fun b o e n hb hx => ?_, fun b o e n hb hx => ?_, fun b o e n hx => ?_, fun b o e hx => ?_, fun b xs e => tups b xs (I.base.tups b xs e), fun b o xs e => frzs b o xs (I.base.frzs b o xs e), fun b ps e => ?_⟩, ?_, fun x c e => ?_, ?_, fun x c e => ?_, fun p hp => ?_, hok, I.len⟩
  · exact keep b o (neL b o e) hb (neC b o e hx) (I.base.keep b o e n hb hx) (I.base.free b o e n hx)
  · obtain ⟨sl, e1⟩ := I.base.slot b o e n hb hx
    obtain ⟨sl', e2⟩ := slot b _ (neL b o e) hb (neC b o e hx) e1 (I.base.free b o e n hx)
    exact ⟨sl', e2⟩
  · obtain ⟨o', e1⟩ := I.base.there b o e hx
    exact free b o' (neC b o e hx) e1 (I.base.free b o e n hx)
  · obtain ⟨o', e1⟩ := I.base.there b o e hx
    exact there b o' (neC b o e hx) e1
  · obtain ⟨m1, e1⟩ := I.base.tbls b ps e
    obtain ⟨m2, e2⟩ := tbls b _ e1
    exact ⟨m1 ++ m2, by rw [e2, Array.append_assoc]⟩
  · obtain ⟨m, hn, hl⟩ := I.loc
    refine ⟨m, ns m hn, fun i x v e1 e2 e3 => ?_⟩
    obtain ⟨u, r, l⟩ := hl i x v e1 e2 e3
    refine ⟨u, r, ?_⟩
    rcases l with l | ⟨k, c, e, z⟩
    · exact .inl l
    · exact .inr ⟨k, c, e, cellK x c e _ z⟩
  · obtain ⟨v, z⟩ := I.cell x c e
    exact ⟨v, cellK x c e v z⟩
  · obtain ⟨m, ⟨o, _, _, ho, _⟩, _⟩ := I.loc
    exact free _ o (fun z => (hch _ z).2.1 rfl) ho I.free
  · obtain ⟨v, o, ho, hd⟩ := I.cell x c e
    exact free c o (fun z => (hch c z).2.2.1 x c e rfl) ho (I.freeC x c e)
  · obtain ⟨e, n, ne, nf, d⟩ := I.pin p hp
    have nch : p.1 ∉ ch := fun z => (hch p.1 z).2.2.2 p hp rfl
    exact ⟨keep p.1 p.2 ne nf nch e n, free p.1 p.2 nch e n, ne, nf, d⟩
theorem Inv.un {t' : Nat} (I : Inv X pins σ H s) (u : Un X.fs [] H H' s.heap h') (hok : HOk X.prog X.w H' h') : Inv X pins σ H' { s with heap := h', toks := t' } := by
  obtain ⟨m, ⟨o, es, ep, ho, r⟩, _⟩ := id I.loc
  obtain ⟨sl, hL⟩ := u.any ho I.free (by simp)
  exact I.step (g' := s.gens) (d' := s.drawn) (ch := []) (fun _ z => nomatch z) (fun b o _ hb _ e n => u.keep b o e n hb (by simp)) (fun b o _ hb _ e n => u.slot b o e n hb (by simp)) (fun b o _ e n => u.free b o e n (by simp)) (fun b o _ e => u.there b o e (by simp)) u.tups u.frzs u.tbls (fun m' hm => by
    obtain ⟨o', es', ep', ho', r'⟩ := hm
    rw [ho] at ho'; cases ho'
    exact ⟨_, es', ep', hL, r'⟩) hok I.bare
theorem Inv.call {g' : Array GenState} {t' : Nat} {d' : Drawn} {ch : List Addr} (I : Inv X pins σ H s) (u : Un (frs X.stack) ch H H' s.heap h') (hok : HOk X.prog X.w H' h') (hg : AllBare g')
    (hch : ∀ b ∈ ch, (b ∈ X.ex ∨ X.s₀.heap.objs.size ≤ b) ∧ b ≠ X.env.locals ∧ (∀ x c, X.env.cells.lookup x = some c → c ≠ b) ∧ ∀ p ∈ X.pn ++ pins, p.1 ≠ b) :
    Inv X pins σ H' { s with heap := h', gens := g', drawn := d', toks := t' } := by
  obtain ⟨m, ⟨o, es, ep, ho, r⟩, _⟩ := id I.loc
  obtain ⟨sl, hL⟩ := u.any ho I.free fun z => (hch _ z).2.1 rfl
  exact I.step (ch := ch) hch (fun b o hL hb hc e n => u.keep b o e n (fun z => (List.mem_cons.mp (I.stkSub b z)).elim hL hb) hc) (fun b o _ _ hc e n => u.any e n hc) (fun b o hc e n => u.free b o e n hc) (fun b o hc e => u.there b o e hc) u.tups u.frzs u.tbls (fun m' hm => by
    obtain ⟨o', es', ep', ho', r'⟩ := hm
    rw [ho] at ho'; cases ho'
    exact ⟨_, es', ep', hL, r'⟩) hok hg
theorem Inv.turned {t' : Nat} {it : Addr} (I : Inv X pins σ H s) (k : ∀ b o, b ≠ it → s.heap.get? b = some o → h'.get? b = some o) (hn : H it = none) (hL : it ≠ X.env.locals)
    (h1 : it ∈ X.ex ∨ X.s₀.heap.objs.size ≤ it) (h2 : ∀ x c, X.env.cells.lookup x = some c → c ≠ it) (h3 : ∀ p ∈ X.pn ++ pins, p.1 ≠ it) : Inv X pins σ H { s with heap := h', toks := t' } := by
  have nit : ∀ b u, H b = some u → b ≠ it := fun b u e z => by rw [z, hn] at e; cases e
  refine I.step (g' := s.gens) (d' := s.drawn) (ch := [it]) (fun b hb => ?_) (fun b o _ _ hc e _ => k b o (fun z => hc (by simp [z])) e) (fun b o _ _ hc e _ => ⟨o.slots, k b o (fun z => hc (by simp [z])) e⟩) (fun _ _ _ _ n => n)
    (fun b o hc e => ⟨o, k b o (fun z => hc (by simp [z])) e⟩) (fun _ _ e => e) (fun _ _ _ e => e) (fun b ps e => ⟨#[], by rw [e]; simp⟩) (fun m hm => ?_) (fun b u e => ?_) I.bare
  · have e : b = it := by simpa using hb
    subst e
    exact ⟨h1, hL, h2, h3⟩
  · obtain ⟨o, es, ep, ho, r⟩ := hm
    exact ⟨o, es, ep, k _ o (Ne.symm hL) ho, r⟩
  · refine (I.hok b u e).stay (fun c v hc q => k c v ?_ q) (fun _ q => q) fun _ _ q => q
    rcases hc with z | z
    · rw [z]; exact nit b u e
    · exact nit c _ z
theorem Inv.tok (I : Inv X pins σ H s) (t : Nat) : Inv X pins σ H { s with toks := t } := I.un (h' := s.heap) (t' := t) Un.refl I.hok
theorem Inv.kept {t' : Nat} (I : Inv X pins σ H s) (k : ∀ b u, s.heap.get? b = some u → h'.get? b = some u) : Inv X pins σ H { s with heap := h', toks := t' } := I.un (Un.kept k) (I.hok.kept k)
theorem Inv.laid {a : Addr} {o : HO} {t' : Nat} (I : Inv X pins σ H s) (k : ∀ b u, s.heap.get? b = some u → h'.get? b = some u) (hp : s.heap.objs.size ≤ a) (new : ObjOk X.prog X.w (upd H a o) h' a o) :
    Inv X pins σ (upd H a o) { s with heap := h', toks := t' } := I.un (Un.laid k hp (I.hok.fresh hp)) (I.hok.laid k hp new)
theorem Inv.write {x e : Addr} {o : HO} {t' : Nat} (I : Inv X pins σ H s) (mu : Mut (H x)) (he : e = x ∨ H e = some (.own x)) (k : ∀ b u, b ≠ e → s.heap.get? b = some u → h'.get? b = some u) (heo : ∃ u, h'.get? e = some u)
    (new : ObjOk X.prog X.w (upd H x o) h' x o) : Inv X pins σ (upd H x o) { s with heap := h', toks := t' } := I.un (Un.write mu he k heo) (I.hok.write mu he k heo new)
theorem Inv.pins_of {pins' : List (Addr × Obj)} (I : Inv X pins σ H s) (h : ∀ p ∈ pins', s.heap.get? p.1 = some p.2 ∧ H p.1 = none ∧ p.1 ≠ X.env.locals ∧ p.1 ∉ X.fs ∧ ∀ v, p.2.data ≠ .cell v) : Inv X pins' σ H s :=
  ⟨I.ok, I.os, I.bare, I.base, I.loc, I.cell, I.free, I.freeC, fun p hp => (List.mem_append.mp hp).elim (fun z => I.pin p (List.mem_append_left _ z)) (h p), I.hok, I.len⟩

theorem nodup_ix {N : List Str} (hN : N.Nodup) {i j : Nat} {x : Str} (a : N[i]? = some x) (b : N[j]? = some x) : i = j := by
  obtain ⟨h1, e1⟩ := List.getElem?_eq_some_iff.mp a
  obtain ⟨h2, e2⟩ := List.getElem?_eq_some_iff.mp b
  exact (List.getElem_inj hN).mp (e1.trans e2.symm)

theorem store_ok2 {M : Model} {A : Around} {E : Value → Shared → Prop} {i : Nat} {x : Str} {v : V} {u : Value} {Q : Unit → Shared → Prop} (I : Inv X pins σ H s) (hN : X.N.Nodup) (hi : X.N[i]? = some x) (hx : Loc X.env.scope x) (r : RelV v u)
    (h : ∀ s', Inv X pins (σ.set i (some v)) H s' → (∃ a, Heap.SameBut a s.heap s'.heap ∧ (a = X.env.locals ∨ X.env.cells.lookup x = some a)) → Q () s') (hf : X.fn x = true ∨ X.env.scope.names.lookup x = some .local := by first | exact .inl rfl | exact .inr rfl | assumption) : wpAny M A (storeName X.env x u) Q E s := by
  obtain ⟨m, hn, hl⟩ := id I.loc
  have hcls : (X.env.scope.kind == .class || (X.env.scope.kind == .module && X.env.locals != X.env.globals)) = false := by rw [I.ok.kind]; rfl
  have hiσ : i < σ.length := by rw [I.len]; exact (List.getElem?_eq_some_iff.mp hi).1
  have cne := I.cne
  have tracked : ∀ {a : Addr} {h' : Heap}, (∃ o, s.heap.get? a = some o ∧ H a = none) → Heap.SameBut a s.heap h' → HOk X.prog X.w H h' := fun {a h'} ha hs b ob e => by
    obtain ⟨_, _, hfree⟩ := ha
    refine (I.hok b ob e).stay (fun c w' hc q => (hs.2 c ?_).trans q) (fun _ q => q) fun _ _ q => q
    rintro rfl
    rcases hc with rfl | hc
    · rw [hfree] at e; cases e
    · rw [hfree] at hc; cases hc
  rcases hx with hk | hk
  · refine wpAny_storeName_local hk hn (fun h' hn' hs => ?_) hcls
    obtain ⟨oL, _, _, hoL, _⟩ := id hn
    refine h _ ⟨I.ok, I.os, I.bare, ⟨fun b o e n hb hx => ?_, fun b o e n hb hx => ?_, I.base.free, fun b o e hx => ?_, I.base.tups, I.base.frzs, I.base.tbls⟩, ⟨_, hn', fun j y v' e1 e2 e3 => ?_⟩, fun y c e => ?_, I.free, I.freeC, fun p hp => ?_, tracked ⟨oL, hoL, I.free⟩ hs, by simpa using I.len⟩ ⟨_, hs, .inl rfl⟩
    · exact (hs.2 b (Nat.ne_of_lt (Nat.lt_of_lt_of_le (Heap.lt_size e) I.ok.above))).trans (I.base.keep b o e n hb hx)
    · obtain ⟨sl, e1⟩ := I.base.slot b o e n hb hx
      exact ⟨sl, (hs.2 b (Nat.ne_of_lt (Nat.lt_of_lt_of_le (Heap.lt_size e) I.ok.above))).trans e1⟩
    · obtain ⟨o', e1⟩ := I.base.there b o e hx
      exact ⟨o', (hs.2 b (Nat.ne_of_lt (Nat.lt_of_lt_of_le (Heap.lt_size e) I.ok.above))).trans e1⟩
    · by_cases hj : j = i
      · subst hj
        rw [hi] at e1; cases e1
        rw [List.getElem?_set_self hiσ] at e2
        cases e2
        exact ⟨u, r, .inl ⟨hk, by simp⟩⟩
      · rw [List.getElem?_set_ne (Ne.symm hj)] at e2
        obtain ⟨u', r', q⟩ := hl j y v' e1 e2 e3
        refine ⟨u', r', ?_⟩
        rcases q with ⟨k, e⟩ | ⟨k, c, e, z⟩
        · refine .inl ⟨k, ?_⟩
          have : y ≠ x := fun e => hj (nodup_ix hN e1 (e ▸ hi))
          simp [this, e]
        · exact .inr ⟨k, c, e, z.sameBut hs (cne y c e)⟩
    · obtain ⟨w', z⟩ := I.cell y c e
      exact ⟨w', z.sameBut hs (cne y c e)⟩
    · obtain ⟨e, n, ne, nf, d⟩ := I.pin p hp
      exact ⟨(hs.2 p.1 ne).trans e, n, ne, nf, d⟩
  · have hfn : X.fn x = true := by
      rcases hf with z | z
      · exact z
      · rw [z] at hk; cases hk
    obtain ⟨c, hc⟩ := I.ok.has x (.inl hk)
    obtain ⟨w', z⟩ := I.cell x c hc
    refine wpAny_storeName_cell I.ok.kind hk hc z (fun h' hc' hs => ?_)
    obtain ⟨oc, hoc, hocd⟩ := id z
    refine h { s with heap := h' } ⟨I.ok, I.os, I.bare, ⟨fun b o e n hb hx => ?_, fun b o e n hb hx => ?_, I.base.free, fun b o e hx => ?_, I.base.tups, I.base.frzs, I.base.tbls⟩, ⟨m, hn.sameBut hs (Ne.symm (cne x c hc)), fun j y v' e1 e2 e3 => ?_⟩, fun y c' e => ?_, I.free, I.freeC, fun p hp => ?_, tracked ⟨oc, hoc, I.freeC x c hc⟩ hs, by simpa using I.len⟩ ⟨c, hs, .inr hc⟩
    · exact (hs.2 b (Nat.ne_of_lt (Nat.lt_of_lt_of_le (Heap.lt_size e) (I.ok.cab x c hfn hc)))).trans (I.base.keep b o e n hb hx)
    · obtain ⟨sl, e1⟩ := I.base.slot b o e n hb hx
      exact ⟨sl, (hs.2 b (Nat.ne_of_lt (Nat.lt_of_lt_of_le (Heap.lt_size e) (I.ok.cab x c hfn hc)))).trans e1⟩
    · obtain ⟨o', e1⟩ := I.base.there b o e hx
      exact ⟨o', (hs.2 b (Nat.ne_of_lt (Nat.lt_of_lt_of_le (Heap.lt_size e) (I.ok.cab x c hfn hc)))).trans e1⟩
    · by_cases hj : j = i
      · subst hj
        rw [hi] at e1; cases e1
        rw [List.getElem?_set_self hiσ] at e2
        cases e2
        exact ⟨u, r, .inr ⟨.inl hk, c, hc, hc'⟩⟩
      · rw [List.getElem?_set_ne (Ne.symm hj)] at e2
        obtain ⟨u', r', q⟩ := hl j y v' e1 e2 e3
        refine ⟨u', r', ?_⟩
        rcases q with q | ⟨k, c', e, z'⟩
        · exact .inl q
        · refine .inr ⟨k, c', e, z'.sameBut hs ?_⟩
          rintro rfl
          exact hj (nodup_ix hN e1 (I.ok.inj _ _ _ e hc ▸ hi))
    · by_cases hcc : c' = c
      · subst hcc; exact ⟨_, hc'⟩
      · obtain ⟨w2, z2⟩ := I.cell y c' e
        exact ⟨w2, z2.sameBut hs hcc⟩
    · obtain ⟨e, n, ne, nf, d⟩ := I.pin p hp
      refine ⟨(hs.2 p.1 ?_).trans e, n, ne, nf, d⟩
      intro q
      rw [q, hoc] at e
      have q' : oc = p.2 := Option.some.inj e
      exact d w' (by rw [← q']; exact hocd)
theorem store_ok {M : Model} {A : Around} {E : Value → Shared → Prop} {i : Nat} {x : Str} {v : V} {u : Value} {Q : Unit → Shared → Prop} (I : Inv X pins σ H s) (hN : X.N.Nodup) (hi : X.N[i]? = some x) (hx : Loc X.env.scope x) (r : RelV v u)
    (h : ∀ s', Inv X pins (σ.set i (some v)) H s' → Q () s') (hf : X.fn x = true ∨ X.env.scope.names.lookup x = some .local := by first | exact .inl rfl | exact .inr rfl | assumption) : wpAny M A (storeName X.env x u) Q E s :=
  store_ok2 I hN hi hx r (fun s' I' _ => h s' I') hf
theorem Inv.call' {s' : Shared} {ch : List Addr} (I : Inv X pins σ H s) (ho : s'.os = s.os) (u : Un (frs X.stack) ch H H' s.heap s'.heap) (hok : HOk X.prog X.w H' s'.heap) (hg : AllBare s'.gens)
    (hch : ∀ b ∈ ch, (b ∈ X.ex ∨ X.s₀.heap.objs.size ≤ b) ∧ b ≠ X.env.locals ∧ (∀ x c, X.env.cells.lookup x = some c → c ≠ b) ∧ ∀ p ∈ X.pn ++ pins, p.1 ≠ b) : Inv X pins σ H' s' := by
  obtain ⟨h', g', d', t', o'⟩ := s'
  have e : o' = s.os := ho
  subst e
  exact I.call (g' := g') (t' := t') (d' := d') u hok hg hch
end

abbrev XK := Value → Option Addr → Hp → Prop
abbrev St := List (Option V)
abbrev VK := V → Hp → Prop
abbrev TE := St → Hp → VK → Prop
abbrev TT := St → Hp → (Bool → Hp → Prop) → Prop
abbrev TA := St → Hp → (List V → Hp → Prop) → Prop
structure Ends where
  nx : St → Hp → Prop
  rt : VK
  bk : St → Hp → Prop := fun _ _ => False
  ct : St → Hp → Prop := fun _ _ => False
abbrev TS := Ends → St → Hp → Prop

def EP (X : Cx) (pins : List (Addr × Obj)) (σ : St) (Q : VK) (u : Value) (s' : Shared) : Prop := ∃ v H', Inv X pins σ H' s' ∧ RelV v u ∧ Q v H'
def TP (X : Cx) (pins : List (Addr × Obj)) (σ : St) (Q : Bool → Hp → Prop) (b : Bool) (s' : Shared) : Prop := ∃ H', Inv X pins σ H' s' ∧ Q b H'
def AP (X : Cx) (pins : List (Addr × Obj)) (σ : St) (Q : List V → Hp → Prop) (us : List Value) (s' : Shared) : Prop := ∃ vs H', Inv X pins σ H' s' ∧ Vals vs us ∧ Q vs H'
def SP (X : Cx) (pins : List (Addr × Obj)) (D : Ends) (f : Flow) (s' : Shared) : Prop :=
  match f with
  | .next => ∃ σ' H', Inv X pins σ' H' s' ∧ D.nx σ' H'
  | .brk => ∃ σ' H', Inv X pins σ' H' s' ∧ D.bk σ' H'
  | .cont => ∃ σ' H', Inv X pins σ' H' s' ∧ D.ct σ' H'
  | .ret u => ∃ v σ' H', Inv X pins σ' H' s' ∧ RelV v u ∧ D.rt v H'

def PE (X : Cx) (e : Expr) (t : TE) : Prop :=
  ∀ (pins : List (Addr × Obj)) (s : Shared) (σ : St) (H : Hp) (Q : VK), Inv X pins σ H s → t σ H Q → wpAny (model X.prog X.w) X.A (eval e X.env) (EP X pins σ Q) X.xe s
def PT (X : Cx) (e : Expr) (t : TT) : Prop :=
  ∀ (pins : List (Addr × Obj)) (s : Shared) (σ : St) (H : Hp) (Q : Bool → Hp → Prop), Inv X pins σ H s → t σ H Q → wpAny (model X.prog X.w) X.A (isTrue e X.env (eval e X.env)) (TP X pins σ Q) X.xe s
def PW (X : Cx) (e : Expr) (t : TT) : Prop :=
  ∀ (whole : Sem Value) (pins : List (Addr × Obj)) (s : Shared) (σ : St) (H : Hp) (Q : Bool → Hp → Prop), Inv X pins σ H s → t σ H Q → wpAny (model X.prog X.w) X.A (isTrue e X.env whole) (TP X pins σ Q) X.xe s
theorem PW.pt {X : Cx} {e : Expr} {t : TT} (h : PW X e t) : PT X e t := h _
def PA (X : Cx) (es : List Expr) (t : TA) : Prop :=
  ∀ (pos : Pos) (pins : List (Addr × Obj)) (s : Shared) (σ : St) (H : Hp) (Q : List V → Hp → Prop), Inv X pins σ H s → t σ H Q → wpAny (model X.prog X.w) X.A (spliced (backTo pos (starEach es X.env))) (AP X pins σ Q) X.xe s
def PS (X : Cx) (st : Stmt) (t : TS) : Prop :=
  ∀ (pins : List (Addr × Obj)) (s : Shared) (σ : St) (H : Hp) (D : Ends), Inv X pins σ H s → t D σ H → wpAny (model X.prog X.w) X.A (exec st X.env) (SP X pins D) X.xe s
def PSs (X : Cx) (st : List Stmt) (t : TS) : Prop :=
  ∀ (pins : List (Addr × Obj)) (s : Shared) (σ : St) (H : Hp) (D : Ends), Inv X pins σ H s → t D σ H → wpAny (model X.prog X.w) X.A (execs st X.env) (SP X pins D) X.xe s
theorem thn {α : Type} {t : Sem α} {Q Q' : α → Shared → Prop} {M : Model} {A : Around} {E : Value → Shared → Prop} {s : Shared} (h : wpAny M A t Q E s) (hQ : ∀ a s, Q a s → Q' a s) : wpAny M A t Q' E s := wpAny_mono h hQ fun _ _ x => x
end L2

namespace L2
open PySem PySem.Spec PyProof.Rows
section
variable {X : Cx}

def tVar (i : Nat) : TE := fun σ H Q => ∃ v, σ[i]? = some (some v) ∧ Q v H
def tC (v : V) : TE := fun _ H Q => Q v H
theorem pe_var {i : Nat} {x : Str} {pos : Pos} (hN : X.N[i]? = some x) (hv : Vis X.env.scope x) (hd : (x == ("__debug__" : Str)) = false := by decide) (hcd : (x == ("__classdict__" : Str)) = false := by decide) : PE X (.Name x pos) (tVar i) := by
  intro pins s σ H Q I h
  obtain ⟨v, e, h⟩ := h
  obtain ⟨m, hn, hl⟩ := I.loc
  obtain ⟨u, r, l⟩ := hl i x v hN e hv
  have fin : EP X pins σ Q u s := ⟨v, H, I, r, h⟩
  rcases l with ⟨hk, hm⟩ | ⟨hk, c, hc, hcell⟩
  · exact wpAny_Name (wpAny_loadName_local I.ok.kind hk hn hm fin) hd
  · rcases hk with hk | hk
    · exact wpAny_Name (wpAny_loadName_cell I.ok.kind hk hc hcell fin) hd
    · exact wpAny_Name (wpAny_loadName_free I.ok.kind hk hc hcell fin hcd) hd
theorem pe_int {i j pos} : PE X (.Constant (.int i) j pos) (tC (.int i)) := fun _ _ _ H _ I h => wpAny_Constant_int ⟨.int i, H, I.tok _, ⟨_, rfl⟩, h⟩
theorem pe_bl {b j pos} : PE X (.Constant (.bool b) j pos) (tC (.bl b)) := fun _ _ _ H _ I h => Constant_bool ⟨.bl b, H, I, rfl, h⟩
theorem pe_non {j pos} : PE X (.Constant .none j pos) (tC .non) := fun _ _ _ H _ I h => Constant_none ⟨.non, H, I, rfl, h⟩
theorem pe_str {x j pos} : PE X (.Constant (.str x) j pos) (tC (.str x)) := fun _ _ _ H _ I h => Calls.Constant_str ⟨.str x, H, I.tok _, ⟨_, rfl⟩, h⟩

def Gl (X : Cx) (x : Str) : Prop := X.env.kindOf x = some .globalImplicit
theorem ld_glob {E : Value → Shared → Prop} {pins : List (Addr × Obj)} {s : Shared} {σ : St} {H : Hp} {x : Str} {u : Value} {pos : Pos} {Q : Value → Shared → Prop} (I : Inv X pins σ H s) (hg : Gl X x) (hm : X.mg x = some u) (h : Q u s)
    (hd : (x == ("__debug__" : Str)) = false := by decide) : wpAny (model X.prog X.w) X.A (eval (.Name x pos) X.env) Q E s :=
  Calls.Name_function_global I.ok.kind hg (Calls.loadGlobal_global (by rw [I.ok.glob]; exact I.mod.glob.keeps I.bk) hm h) hd
theorem ld_blt {E : Value → Shared → Prop} {pins : List (Addr × Obj)} {s : Shared} {σ : St} {H : Hp} {x : Str} {u : Value} {pos : Pos} {Q : Value → Shared → Prop} (I : Inv X pins σ H s) (hg : Gl X x) (hm : X.mg x = none) (hv : bootBuiltins x = some u) (h : Q u s)
    (hn : x ≠ "__name__" := by decide) (hd : (x == ("__debug__" : Str)) = false := by decide) : wpAny (model X.prog X.w) X.A (eval (.Name x pos) X.env) Q E s := by
  obtain ⟨mb, h1, h2⟩ := I.mod.blt
  exact Calls.Name_function_global I.ok.kind hg (Calls.loadGlobal_builtin (by rw [I.ok.glob]; exact I.mod.glob.keeps I.bk) hm (by rw [I.ok.blt]; exact h1.keeps I.bk) ((h2 x hn).trans hv) h) hd
theorem pe_glob {x : Str} {v : V} {u : Value} {pos : Pos} (hg : Gl X x) (hm : X.mg x = some u) (r : RelV v u) (hd : (x == ("__debug__" : Str)) = false := by decide) : PE X (.Name x pos) (tC v) :=
  fun _ _ _ H _ I h => ld_glob I hg hm ⟨v, H, I, r, h⟩ hd
theorem pe_bltn {x : Str} {v : V} {u : Value} {pos : Pos} (hg : Gl X x) (hm : X.mg x = none) (hv : bootBuiltins x = some u) (r : RelV v u) (hn : x ≠ "__name__" := by decide) (hd : (x == ("__debug__" : Str)) = false := by decide) : PE X (.Name x pos) (tC v) :=
  fun _ _ _ H _ I h => ld_blt I hg hm hv ⟨v, H, I, r, h⟩ hn hd

variable {a b : Expr} {ta tb : TE} {pos : Pos}
def PC (X : Cx) (op : CmpOp) (a b : Expr) (t : TE) : Prop :=
  ∀ (pins : List (Addr × Obj)) (s : Shared) (σ : St) (H : Hp) (Q : VK), Inv X pins σ H s → t σ H Q →
    wpAny (model X.prog X.w) X.A (eval a X.env) (fun v s₁ => wpAny (model X.prog X.w) X.A (eval b X.env) (fun u s₂ => wpAny (model X.prog X.w) X.A (compareOp op v u) (EP X pins σ Q) X.xe s₂) X.xe s₁) X.xe s
theorem nobehind (b : Expr) {op : CmpOp} (h : op ≠ .In) (h2 : op ≠ .NotIn) : behindInMarks op b = false := by
  have e1 : (op == CmpOp.In) = false := by cases op <;> first | rfl | exact absurd rfl h
  have e2 : (op == CmpOp.NotIn) = false := by cases op <;> first | rfl | exact absurd rfl h2
  cases b <;> simp [behindInMarks, e1, e2]
def tIsN (ta : TE) : TE := fun σ H Q => ta σ H fun x H1 => Q (.bl (decide (x = .non))) H1
def tNotN (ta : TE) : TE := fun σ H Q => ta σ H fun x H1 => Q (.bl (!decide (x = .non))) H1
theorem RelV.none_iff {x : V} {v : Value} (r : RelV x v) : (v == Value.none) = decide (x = .non) := by
  cases x with
  | non => cases r; rfl
  | bl _ => cases r; rfl
  | int _ => obtain ⟨t, rfl⟩ := r; rfl
  | str _ => obtain ⟨t, rfl⟩ := r; rfl
  | byt _ => obtain ⟨t, rfl⟩ := r; rfl
  | flt _ => obtain ⟨t, rfl⟩ := r; rfl
  | ref _ => cases r; rfl
  | ty _ => cases r; rfl
theorem pc_isN {j pos'} (ha : PE X a ta) : PC X .Is a (.Constant .none j pos') (tIsN ta) := by
  intro pins s σ H Q I h
  refine thn (ha pins s σ H _ I h) fun v s1 ⟨x, H1, I1, r1, q1⟩ => ?_
  exact Constant_none (is_none_gen ⟨.bl _, H1, I1, by rw [r1.none_iff]; rfl, q1⟩)
def tB (t : TE) : TT := fun σ H Q => t σ H fun x H1 => ∃ c, x = .bl c ∧ Q c H1
theorem pt_cmp {op : CmpOp} {t : TE} (h : PC X op a b t) (h1 : behindInMarks op b = false := by first | exact nobehind _ (by decide) (by decide) | rfl) : PT X (.Compare a [op] [b] pos) (tB t) := by
  intro pins s σ H Q I hw
  refine wpAny_isTrue_Compare1 (thn (h pins s σ H _ I hw) fun v s1 h1 => thn h1 fun u s2 h2 => thn h2 fun c s3 ⟨x, H1, I1, r1, q1⟩ => ?_) h1
  obtain ⟨d, rfl, q⟩ := q1
  cases r1
  exact wpAny_truthy_bool ⟨H1, I1, q⟩
theorem pt_val {e : Expr} {t : TE} (h : PE X e t) (he : ∀ whole, isTrue e X.env whole = (do let v ← whole; standAt e.pos; holding [v] (truthy v)) := by intro _; rfl) : PT X e (tB t) := by
  intro pins s σ H Q I hw
  refine isTrue_plain (thn (h pins s σ H _ I hw) fun v s1 ⟨x, H1, I1, r1, q1⟩ => ?_) (he _)
  obtain ⟨d, rfl, q⟩ := q1
  cases r1
  exact wpAny_truthy_bool ⟨H1, I1, q⟩

variable {tA tB' : TT} {rest : List Expr}
def tAnd (t u : TT) : TT := fun σ H Q => t σ H fun c H1 => if c = true then u σ H1 Q else Q false H1
def tOr (t u : TT) : TT := fun σ H Q => t σ H fun c H1 => if c = true then Q true H1 else u σ H1 Q
def tNot (t : TT) : TT := fun σ H Q => t σ H fun c H1 => Q (!c) H1
theorem pw_and1 (ha : PT X a tA) : PW X (.BoolOp .And [a] pos) tA := by
  intro wh pins s σ H Q I h
  refine isTrue_and (thn (ha pins s σ H Q I h) fun c s1 e => ?_)
  cases c with
  | true => exact isTrue_and_nil e
  | false => exact e
theorem pw_or1 (ha : PT X a tA) : PW X (.BoolOp .Or [a] pos) tA := by
  intro wh pins s σ H Q I h
  refine isTrue_or (thn (ha pins s σ H Q I h) fun c s1 e => ?_)
  cases c with
  | false => exact isTrue_or_nil e
  | true => exact e
theorem pw_and (ha : PT X a tA) (hb : PW X (.BoolOp .And (b :: rest) pos) tB') : PW X (.BoolOp .And (a :: b :: rest) pos) (tAnd tA tB') := by
  intro wh pins s σ H Q I h
  refine isTrue_and (thn (ha pins s σ H _ I h) fun c s1 ⟨H1, I1, q1⟩ => ?_)
  cases c with
  | true => exact hb wh pins s1 σ H1 Q I1 q1
  | false => exact ⟨H1, I1, q1⟩
theorem pw_or (ha : PT X a tA) (hb : PW X (.BoolOp .Or (b :: rest) pos) tB') : PW X (.BoolOp .Or (a :: b :: rest) pos) (tOr tA tB') := by
  intro wh pins s σ H Q I h
  refine isTrue_or (thn (ha pins s σ H _ I h) fun c s1 ⟨H1, I1, q1⟩ => ?_)
  cases c with
  | true => exact ⟨H1, I1, q1⟩
  | false => exact hb wh pins s1 σ H1 Q I1 q1
theorem pt_not (ha : PT X a tA) : PT X (.UnaryOp .Not a pos) (tNot tA) := by
  intro pins s σ H Q I h
  exact isTrue_not (ha pins s σ H (fun c H1 => Q (!c) H1) I h)
def tAndV (ta tb : TE) : TE := fun σ H Q => ta σ H fun x H1 => ∃ c, x = .bl c ∧ if c = true then tb σ H1 Q else Q (.bl false) H1
def tOrV (ta tb : TE) : TE := fun σ H Q => ta σ H fun x H1 => ∃ c, x = .bl c ∧ if c = true then Q (.bl true) H1 else tb σ H1 Q
def tNotV (ta : TE) : TE := fun σ H Q => ta σ H fun x H1 => ∃ c, x = .bl c ∧ Q (.bl (!c)) H1
theorem pe_one {op} {t : TE} (h : PE X a t) : PE X (.BoolOp op [a] pos) t := fun pins s σ H Q I hw => BoolOp_one (h pins s σ H Q I hw)
theorem pe_and (ha : PE X a ta) (hb : PE X (.BoolOp .And (b :: rest) pos) tb) : PE X (.BoolOp .And (a :: b :: rest) pos) (tAndV ta tb) := by
  intro pins s σ H Q I h
  refine BoolOp_and (thn (ha pins s σ H _ I h) fun v s1 ⟨x, H1, I1, r1, q1⟩ => ?_)
  obtain ⟨c, rfl, q1⟩ := q1
  cases r1
  refine wpAny_truthy_bool ?_
  cases c with
  | true => exact hb pins s1 σ H1 Q I1 q1
  | false => exact ⟨.bl false, H1, I1, rfl, q1⟩
theorem pe_or (ha : PE X a ta) (hb : PE X (.BoolOp .Or (b :: rest) pos) tb) : PE X (.BoolOp .Or (a :: b :: rest) pos) (tOrV ta tb) := by
  intro pins s σ H Q I h
  refine BoolOp_or (thn (ha pins s σ H _ I h) fun v s1 ⟨x, H1, I1, r1, q1⟩ => ?_)
  obtain ⟨c, rfl, q1⟩ := q1
  cases r1
  refine wpAny_truthy_bool ?_
  cases c with
  | false => exact hb pins s1 σ H1 Q I1 q1
  | true => exact ⟨.bl true, H1, I1, rfl, q1⟩
def tIf (t : TT) (ta tb : TE) : TE := fun σ H Q => t σ H fun c H1 => if c = true then ta σ H1 Q else tb σ H1 Q
theorem pe_ifExp {c : Expr} (hc : PT X c tA) (ha : PE X a ta) (hb : PE X b tb) : PE X (.IfExp c a b pos) (tIf tA ta tb) := by
  intro pins s σ H Q I h
  refine wpAny_IfExp (thn (hc pins s σ H _ I h) fun d s1 ⟨H1, I1, q1⟩ => ?_)
  cases d with
  | true => exact ha pins s1 σ H1 Q I1 q1
  | false => exact hb pins s1 σ H1 Q I1 q1
end
end L2

namespace L2
open PySem PySem.Spec PyProof.Rows

def SqL (K : PySem.W.Frag) (H : Hp) (a : Addr) (xs : List V) : Prop :=
  Rd H a (.lst xs) ∨
    ∃ (o : Obj) (its : Array Value) (n : Nat), K.lookup a = some o ∧ o.cls = .type "list" ∧ o.dict = none ∧ o.data = .seq its n ∧ its.size ≤ sizeLine ∧ Vals xs its.toList
def SqT (K : PySem.W.Frag) (H : Hp) (a : Addr) (xs : List V) : Prop :=
  Rd H a (.tup xs) ∨
    ∃ (o : Obj) (its : Array Value) (n : Nat), K.lookup a = some o ∧ o.cls = .type "tuple" ∧ o.data = .seq its n ∧ its.size ≤ sizeLine ∧ Vals xs its.toList
def absV : Value → Option V
  | .none => some .non
  | .bool b => some (.bl b)
  | .int i _ => some (.int i)
  | .str x _ => some (.str x)
  | .bytes b _ => some (.byt b)
  | .float b _ => some (.flt b)
  | .ref a => some (.ref a)
  | .type n => some (.ty n)
  | _ => none
theorem RelV.abs {x : V} {u : Value} (r : RelV x u) : absV u = some x := by
  cases x with
  | non => cases r; rfl
  | bl _ => cases r; rfl
  | int _ => obtain ⟨t, rfl⟩ := r; rfl
  | str _ => obtain ⟨t, rfl⟩ := r; rfl
  | byt _ => obtain ⟨t, rfl⟩ := r; rfl
  | flt _ => obtain ⟨t, rfl⟩ := r; rfl
  | ref _ => cases r; rfl
  | ty _ => cases r; rfl
theorem RelV.inj {x y : V} {u : Value} (r : RelV x u) (q : RelV y u) : x = y := Option.some.inj (r.abs.symm.trans q.abs)
theorem Vals.inj : ∀ {xs ys : List V} {us : List Value}, Vals xs us → Vals ys us → xs = ys
  | _, _, _, .nil, .nil => rfl
  | _, _, _, .cons r t, .cons r' t' => by rw [r.inj r', Vals.inj t t']
section
variable {X : Cx} {pins : List (Addr × Obj)} {σ : St} {H : Hp} {s : Shared} {a : Addr} {xs ys : List V}
theorem SqL.of {K : PySem.W.Frag} (h : H a = some (.lst xs)) : SqL K H a xs := .inl (.inl h)
theorem SqT.of {K : PySem.W.Frag} (h : H a = some (.tup xs)) : SqT K H a xs := .inl (.inl h)
theorem Inv.list (I : Inv X pins σ H s) (h : SqL X.K H a xs) : ∃ its : List Value, Vals xs its ∧ PlainL s.heap a its.toArray ∧ xs.length ≤ sizeLine := by
  rcases h with h | ⟨o, its, n, hk, hc, hd, hs, hz, r⟩
  · obtain ⟨z, its, n, r, e⟩ := h.ok I.hok
    exact ⟨its, r, ⟨_, n, e, rfl, rfl, rfl⟩, z⟩
  · refine ⟨its.toList, r, ⟨o, n, I.kIn a o hk, hc, hd, by simpa using hs⟩, ?_⟩
    have e := r.length
    simp only [Array.length_toList] at e
    omega
theorem Inv.tuple (I : Inv X pins σ H s) (h : SqT X.K H a xs) : ∃ its : List Value, Vals xs its ∧ IsTup s.heap a its.toArray ∧ xs.length ≤ sizeLine := by
  rcases h with h | ⟨o, its, n, hk, hc, hs, hz, r⟩
  · obtain ⟨z, its, r, p⟩ := h.ok I.hok
    exact ⟨its, r, p, z⟩
  · refine ⟨its.toList, r, ⟨o, I.kIn a o hk, hc, n, by simpa using hs⟩, ?_⟩
    have e := r.length
    simp only [Array.length_toList] at e
    omega
theorem Inv.list_inj (I : Inv X pins σ H s) (h : SqL X.K H a xs) (h' : SqL X.K H a ys) : xs = ys := by
  obtain ⟨its, r, ⟨o, n, e, _, _, d⟩, _⟩ := I.list h
  obtain ⟨its', r', ⟨o', n', e', _, _, d'⟩, _⟩ := I.list h'
  rw [e] at e'; cases e'
  rw [d] at d'
  injection d' with d1 _
  have : its = its' := by simpa using congrArg Array.toList d1
  subst this
  exact r.inj r'
theorem Inv.tuple_inj (I : Inv X pins σ H s) (h : SqT X.K H a xs) (h' : SqT X.K H a ys) : xs = ys := by
  obtain ⟨its, r, ⟨o, e, _, n, d⟩, _⟩ := I.tuple h
  obtain ⟨its', r', ⟨o', e', _, n', d'⟩, _⟩ := I.tuple h'
  rw [e] at e'; cases e'
  rw [d] at d'
  injection d' with d1 _
  have : its = its' := by simpa using congrArg Array.toList d1
  subst this
  exact r.inj r'
end

abbrev Cx.wish (X : Cx) (E : Value → Shared → Prop) : Cx := { X with xe := E }
abbrev Cx.nox (X : Cx) : Cx := X.wish fun _ _ => False
theorem Cx.Ok.wish {X : Cx} (ok : X.Ok) (E : Value → Shared → Prop) : (X.wish E).Ok :=
  ⟨ok.mod, ok.kind, ok.glob, ok.blt, ok.above, ok.inj, ok.has, ok.cab, ok.hd, ok.frames, ok.stk, ok.exf, ok.bs, ok.bsz, ok.noex, ok.exfs, ok.funs, ok.frf⟩
theorem Cx.Ok.unwish {X : Cx} {E : Value → Shared → Prop} (ok : (X.wish E).Ok) : X.Ok :=
  ⟨ok.mod, ok.kind, ok.glob, ok.blt, ok.above, ok.inj, ok.has, ok.cab, ok.hd, ok.frames, ok.stk, ok.exf, ok.bs, ok.bsz, ok.noex, ok.exfs, ok.funs, ok.frf⟩
section
variable {X : Cx} {pins : List (Addr × Obj)} {σ : St} {H : Hp} {s : Shared} {E : Value → Shared → Prop}
theorem Inv.wish (I : Inv X pins σ H s) (E : Value → Shared → Prop) : Inv (X.wish E) pins σ H s := ⟨I.ok.wish E, I.os, I.bare, I.base, I.loc, I.cell, I.free, I.freeC, I.pin, I.hok, I.len⟩
theorem Inv.unwish (I : Inv (X.wish E) pins σ H s) : Inv X pins σ H s := ⟨I.ok.unwish, I.os, I.bare, I.base, I.loc, I.cell, I.free, I.freeC, I.pin, I.hok, I.len⟩
theorem SP.unwish {D : Ends} {f : Flow} {s' : Shared} (h : SP (X.wish E) pins D f s') : SP X pins D f s' := by
  cases f with
  | next => obtain ⟨σ', H', I, q⟩ := h; exact ⟨σ', H', I.unwish, q⟩
  | brk => obtain ⟨σ', H', I, q⟩ := h; exact ⟨σ', H', I.unwish, q⟩
  | cont => obtain ⟨σ', H', I, q⟩ := h; exact ⟨σ', H', I.unwish, q⟩
  | ret u => obtain ⟨v, σ', H', I, r, q⟩ := h; exact ⟨v, σ', H', I.unwish, r, q⟩
theorem PE.nox {e : Expr} {t : TE} (h : PE X.nox e t) : PE X e t := fun pins s σ H Q I hw =>
  wpAny_mono (h pins s σ H Q (I.wish _) hw) (fun _ _ ⟨v, H', I', r, q⟩ => ⟨v, H', I'.unwish, r, q⟩) fun _ _ z => False.elim z
theorem PT.nox {e : Expr} {t : TT} (h : PT X.nox e t) : PT X e t := fun pins s σ H Q I hw =>
  wpAny_mono (h pins s σ H Q (I.wish _) hw) (fun _ _ ⟨H', I', q⟩ => ⟨H', I'.unwish, q⟩) fun _ _ z => False.elim z
theorem PSs.nox {st : List Stmt} {t : TS} (h : PSs X.nox st t) : PSs X st t := fun pins s σ H D I hw =>
  wpAny_mono (h pins s σ H D (I.wish _) hw) (fun _ _ q => q.unwish) fun _ _ z => False.elim z
end

section
variable {X : Cx} {st : Stmt} {rest : List Stmt} {t u : TS} {e : Expr} {te : TE} {pos : Pos}
def tNext : TS := fun D σ H => D.nx σ H
def tSeq (t u : TS) : TS := fun D σ H => t { D with nx := u D } σ H
theorem pss_nil : PSs X [] tNext := fun _ _ σ H _ I h => wpAny_execs_nil ⟨σ, H, I, h⟩
theorem pss_cons (h1 : PS X st t) (h2 : PSs X rest u) : PSs X (st :: rest) (tSeq t u) := by
  intro pins s σ H D I h
  refine wpAny_execs_cons (thn (h1 pins s σ H { D with nx := u D } I h) fun f s1 q => ?_)
  cases f with
  | next =>
    obtain ⟨σ', H', I', q⟩ := q
    exact h2 pins s1 σ' H' D I' q
  | ret v => exact q
  | brk => exact q
  | cont => exact q
theorem pss_one (h1 : PS X st t) : PSs X [st] t := by
  intro pins s σ H D I h
  refine wpAny_execs_cons (thn (h1 pins s σ H D I h) fun f s1 q => ?_)
  cases f with
  | next => exact wpAny_execs_nil q
  | ret v => exact q
  | brk => exact q
  | cont => exact q
theorem Inv.quiet {pins : List (Addr × Obj)} {σ : St} {H : Hp} {s : Shared} (I : Inv X pins σ H s) : interactive X.env = false := by simp [interactive, I.ok.kind]
def tDrop (te : TE) : TS := fun D σ H => te σ H fun _ H1 => D.nx σ H1
theorem ps_expr (he : PE X e te) (hs : swapsWith e none pos.line X.env = pure false := by rfl) : PS X (.Expr e pos) (tDrop te) := by
  intro pins s σ H D I h
  exact wpAny_Expr_any (thn (he pins s σ H _ I h) fun v s1 ⟨x, H1, I1, r1, q1⟩ => ⟨σ, H1, I1, q1⟩) I.quiet hs
def tRet (te : TE) : TS := fun D σ H => te σ H D.rt
theorem ps_ret (he : PE X e te) : PS X (.Return (some e) pos) (tRet te) := by
  intro pins s σ H D I h
  exact wpAny_Return_some (thn (he pins s σ H _ I h) fun v s1 ⟨x, H1, I1, r1, q1⟩ => ⟨x, σ, H1, I1, r1, q1⟩)
def tRetN : TS := fun D _ H => D.rt .non H
def tIfS (c : TT) (t u : TS) : TS := fun D σ H => c σ H fun b H1 => if b = true then t D σ H1 else u D σ H1
theorem ps_if {c : Expr} {a b : List Stmt} {tc : TT} (hc : PT X c tc) (ha : PSs X a t) (hb : PSs X b u) : PS X (.If c a b pos) (tIfS tc t u) := by
  intro pins s σ H D I h
  refine wpAny_If (thn (hc pins s σ H _ I h) fun d s1 ⟨H1, I1, q1⟩ => ?_)
  cases d with
  | true => exact ha pins s1 σ H1 D I1 q1
  | false => exact hb pins s1 σ H1 D I1 q1
def tNever : TS := fun _ _ _ => False
theorem ps_never : PS X st tNever := fun _ _ _ _ _ _ h => h.elim
end

abbrev TG := V → St → Hp → (St → Hp → Prop) → Prop
abbrev TGs := List V → St → Hp → (St → Hp → Prop) → Prop
def PG (X : Cx) (target : Expr) (t : TG) : Prop :=
  ∀ (pins : List (Addr × Obj)) (s : Shared) (σ : St) (H : Hp) (v : V) (u : Value) (Q : St → Hp → Prop), Inv X pins σ H s → RelV v u → t v σ H Q →
    wpAny (model X.prog X.w) X.A (assign target X.env u) (fun _ s' => ∃ σ' H', Inv X pins σ' H' s' ∧ Q σ' H') X.xe s
def PGs (X : Cx) (ts : List Expr) (t : TGs) : Prop :=
  ∀ (pins : List (Addr × Obj)) (s : Shared) (σ : St) (H : Hp) (vs : List V) (us : List Value) (Q : St → Hp → Prop), Inv X pins σ H s → Vals vs us → t vs σ H Q →
    wpAny (model X.prog X.w) X.A (assignInOrder ((assignEach ts X.env).map (·.2)) us) (fun _ s' => ∃ σ' H', Inv X pins σ' H' s' ∧ Q σ' H') X.xe s
abbrev TSet := V → V → V → Hp → (Hp → Prop) → Prop
abbrev TIp := V → V → Hp → VK → Prop
section
variable {X : Cx} {pos : Pos}
def gName (i : Nat) : TG := fun v σ H Q => Q (σ.set i (some v)) H
theorem pg_name {i : Nat} {x : Str} (hN : X.N.Nodup) (hi : X.N[i]? = some x) (hx : Loc X.env.scope x) (hf : X.fn x = true ∨ X.env.scope.names.lookup x = some .local := by first | exact .inl rfl | exact .inr rfl | assumption) : PG X (.Name x pos) (gName i) := by
  intro pins s σ H v u Q I r h
  exact wpAny_assign_Name (store_ok I hN hi hx r (fun s' I' => ⟨_, H, I', h⟩) hf)
def gNil : TGs := fun vs σ H Q => vs = [] ∧ Q σ H
def gCons (t : TG) (u : TGs) : TGs := fun vs σ H Q => ∃ v r, vs = v :: r ∧ t v σ H fun σ' H' => u r σ' H' Q
theorem pgs_nil : PGs X [] gNil := by
  intro pins s σ H vs us Q I r h
  obtain ⟨e, h⟩ := h
  subst e
  cases r
  exact assignInOrder_nil ⟨σ, H, I, h⟩
theorem pgs_cons {e : Expr} {es : List Expr} {t : TG} {u : TGs} (h1 : PG X e t) (h2 : PGs X es u)
    (hs : (assignEach (e :: es) X.env).map (·.2) = assign e X.env :: (assignEach es X.env).map (·.2) := by rfl) : PGs X (e :: es) (gCons t u) := by
  intro pins s σ H vs us Q I r h
  obtain ⟨v, vr, e1, h⟩ := h
  subst e1
  cases r with
  | cons r rr =>
    rw [hs]
    refine assignInOrder_cons (thn (h1 pins s σ H _ _ _ I r h) fun _ s1 ⟨σ1, H1, I1, q1⟩ => ?_)
    exact h2 pins s1 σ1 H1 _ _ Q I1 rr q1
def gTup (K : PySem.W.Frag) (n : Nat) (t : TGs) : TG := fun v σ H Q => ∃ a xs, v = .ref a ∧ SqT K H a xs ∧ xs.length = n ∧ t xs σ H Q
theorem pg_tup {es : List Expr} {k : Nat} {t : TGs} {n : Nat} (hc : X.calm = true) (h : PGs X es t)
    (hn : (assignEach es X.env).length = n := by rfl) (hst : (assignEach es X.env).findIdx? (·.1) = none := by rfl) : PG X (.Tuple es k pos) (gTup X.K n t) := by
  intro pins s σ H v u Q I r hw
  obtain ⟨a, xs, e1, hq, hl, hw⟩ := hw
  subst e1
  cases r
  obtain ⟨its, rv, ht, hz⟩ := I.tuple hq
  refine assign_Tuple_tuple (I.ok.hd hc) ht (by simp [hn, ← hl, rv.length]) hst fun h' hx => ?_
  have I1 : Inv X pins σ H { s with heap := h' } := I.kept (t' := s.toks) fun b o e => hx b o (Nat.ne_of_lt (Heap.lt_size e)) e
  exact h pins _ σ H xs _ Q I1 (by simpa using rv) hw
def gSub (to ti : TE) (t : TSet) : TG := fun v σ H Q => to σ H fun o H1 => ti σ H1 fun i H2 => t o i v H2 fun H3 => Q σ H3
def tAsg (te : TE) (g : TG) : TS := fun D σ H => te σ H fun x H1 => g x σ H1 D.nx
theorem ps_asg {tg e : Expr} {te : TE} {g : TG} (he : PE X e te) (hg : PG X tg g) (hs : swapsWithSole [tg] e pos.line X.env = pure false := by rfl) (hw : swappedStores [tg] e X.env = pure none := by rfl)
    (h1 : (assignEach [tg] X.env).map (·.2) = [assign tg X.env] := by rfl) : PS X (.Assign [tg] e pos) (tAsg te g) := by
  intro pins s σ H D I h
  refine wpAny_Assign_stores (thn (he pins s σ H _ I h) fun v s1 ⟨x, H1, I1, r1, q1⟩ => ?_) hs hw
  rw [h1]
  exact thn (hg pins s1 σ H1 x v _ I1 r1 q1) fun _ s2 q => q
theorem ps_set {i : Nat} {x : Str} {e : Expr} {te : TE} {pos' : Pos} (hN : X.N.Nodup) (hi : X.N[i]? = some x) (hx : Loc X.env.scope x) (he : PE X e te) (hs : swapsWith e (some (.Name x pos')) pos.line X.env = pure false := by rfl) (hf : X.fn x = true ∨ X.env.scope.names.lookup x = some .local := by first | exact .inl rfl | exact .inr rfl | assumption) :
    PS X (.Assign [.Name x pos'] e pos) (tAsg te (gName i)) := by
  intro pins s σ H D I h
  refine wpAny_Assign_Name (thn (he pins s σ H _ I h) fun v s1 ⟨y, H1, I1, r1, q1⟩ => ?_) hs
  exact store_ok I1 hN hi hx r1 (fun s2 I2 => ⟨_, H1, I2, q1⟩) hf
def tAug (i : Nat) (te : TE) (ti : TIp) : TS := fun D σ H => ∃ x, σ[i]? = some (some x) ∧ te σ H fun y H1 => ti x y H1 fun z H2 => D.nx (σ.set i (some z)) H2
def tAugS (to ti te : TE) (tget : V → V → Hp → VK → Prop) (tip : TIp) (tset : TSet) : TS := fun D σ H => to σ H fun o H1 => ti σ H1 fun i H2 => tget o i H2 fun x H3 => te σ H3 fun y H4 => tip x y H4 fun z H5 => tset o i z H5 fun H6 => D.nx σ H6
def ipI (f : Int → Int → Int) : TIp := fun x y H Q => ∃ i j, x = .int i ∧ y = .int j ∧ Q (.int (f i j)) H
end

section
variable {X : Cx} {pos : Pos}
end

structure It where
  go : Nat → Hp → Prop
  yld : Nat → Hp → V → Hp → Prop
  stop : Nat → Hp → Prop
def FpOk (X : Cx) (pins : List (Addr × Obj)) (H : Hp) (b : Addr) : Prop :=
  H b = none ∧ b ≠ X.env.locals ∧ b ∉ X.fs ∧ (b ∈ X.ex ∨ X.s₀.heap.objs.size ≤ b) ∧ (∀ x c, X.env.cells.lookup x = some c → c ≠ b) ∧ ∀ p ∈ X.pn ++ pins, p.1 ≠ b
theorem Inv.fpOk {X : Cx} {pins : List (Addr × Obj)} {σ : St} {H H' : Hp} {s : Shared} {b : Addr} (I : Inv X pins σ H s) (hb : s.heap.objs.size ≤ b) (hn : H' b = none) : FpOk X pins H' b := by
  refine ⟨hn, Nat.ne_of_gt (Nat.lt_of_lt_of_le I.lt hb), I.nofs hb, .inr (Nat.le_trans I.sz hb), fun x c e z => ?_, fun p hp z => ?_⟩
  · obtain ⟨v, q⟩ := I.cell x c e
    exact absurd (Nat.lt_of_lt_of_le q.lt (by rw [z]; exact hb)) (Nat.lt_irrefl _)
  · exact absurd (Nat.lt_of_lt_of_le (Heap.lt_size (I.pin p hp).1) (by rw [z]; exact hb)) (Nat.lt_irrefl _)
structure Turn (P : Program) (w : World) (K : PySem.W.Frag) (tg : Expr) (J : It) (fp : List Addr) (it : Addr) (tn : Nat → Heap → Prop) : Prop where
  mem : it ∈ fp
  obj : ∀ i h, tn i h → ∀ b ∈ fp, ∃ o, h.get? b = some o ∧ ∀ v, o.data ≠ .cell v
  keep : ∀ i h h', tn i h → (∀ b ∈ fp, ∀ o, h.get? b = some o → h'.get? b = some o) → tn i h'
  item : ∀ (X : Cx), X.prog = P → X.w = w → X.K = K → X.calm = true → ∀ (i : Nat) (pins : List (Addr × Obj)) (s : Shared) (σ : St) (H : Hp) (E : Value → Shared → Prop), Inv X pins σ H s → (∀ b ∈ fp, FpOk X pins H b) → tn i s.heap → J.go i H →
    wpAny (model P w) X.A (pyNext (.ref it)) (fun r s1 => ∃ u, r = some u ∧
      wpAny (model P w) X.A (letOwnedTupleGo tg (.ref it) u) (fun _ s2 => ∃ x H', Inv X pins σ H' s2 ∧ RelV x u ∧ J.yld i H x H' ∧ tn (i + 1) s2.heap ∧ ∀ b ∈ fp, H' b = none) E s1) E s
  done : ∀ (X : Cx), X.prog = P → X.w = w → X.K = K → X.calm = true → ∀ (i : Nat) (pins : List (Addr × Obj)) (s : Shared) (σ : St) (H : Hp) (E : Value → Shared → Prop), Inv X pins σ H s → (∀ b ∈ fp, FpOk X pins H b) → tn i s.heap → J.stop i H →
    wpAny (model P w) X.A (pyNext (.ref it)) (fun r s1 => r = none ∧ Inv X pins σ H s1) E s
  self : ∀ (A : Around) (i : Nat) (s : Shared) (Q : Value → Shared → Prop) (E : Value → Shared → Prop), tn i s.heap → Q (.ref it) s → wpAny (model P w) A (pyIter (.ref it)) Q E s
abbrev TI := St → Hp → (It → Hp → Prop) → Prop
def PIE (X : Cx) (pins : List (Addr × Obj)) (σ : St) (tg : Expr) (R : It → Hp → Prop) (itv : Value) (s2 : Shared) : Prop :=
  ∃ (it : Addr) (fp : List Addr) (tn : Nat → Heap → Prop) (J : It) (H' : Hp), itv = .ref it ∧ Inv X pins σ H' s2 ∧ Turn X.prog X.w X.K tg J fp it tn ∧ tn 0 s2.heap ∧ (∀ b ∈ fp, FpOk X pins H' b) ∧ R J H'
def PI (X : Cx) (tg iter : Expr) (wi : TI) : Prop :=
  ∀ (pins : List (Addr × Obj)) (s : Shared) (σ : St) (H : Hp) (R : It → Hp → Prop), Inv X pins σ H s → wi σ H R →
    wpAny (model X.prog X.w) X.A (eval iter X.env) (fun v s1 => wpAny (model X.prog X.w) X.A (pyIter v) (PIE X pins σ tg R) X.xe s1) X.xe s

theorem go_of {M : Model} {A : Around} {E : Value → Shared → Prop} {s : Shared} {tg : Expr} {it : Addr} {u : Value} {o : Obj} {n : String} {vs : Array Value} {Q : Unit → Shared → Prop} (ho : s.heap.get? it = some o) (hc : o.cls = .type n) (hd : o.data = .fields vs)
    (hn : ["enumerate", "zip", "dict_itemiterator", "dict_reverseitemiterator", "odict_iterator", "itertools.zip_longest", "itertools.pairwise"].contains n = false) (hQ : Q () s) : wpAny M A (letOwnedTupleGo tg (.ref it) u) Q E s := by
  unfold letOwnedTupleGo
  cases tg <;> first
    | exact wpAny_pure hQ
    | (cases u <;> first
        | exact wpAny_pure hQ
        | (refine wpAny_bind (wpAny_load ho ?_)
           rw [hc, hd]
           show wpAny M A (if (["enumerate", "zip", "dict_itemiterator", "dict_reverseitemiterator", "odict_iterator", "itertools.zip_longest", "itertools.pairwise"].contains n && vs[0]? == some (rawInt _)) = true then _ else _) Q E s
           rw [if_neg (by intro h; rw [hn, Bool.false_and] at h; cases h)]
           exact wpAny_pure hQ))

def Itl (K : PySem.W.Frag) (a : Addr) : It :=
  ⟨fun i H => ∃ xs x, SqL K H a xs ∧ xs[i]? = some x, fun i H x H' => H' = H ∧ ∀ xs, SqL K H a xs → xs[i]? = some x, fun i H => ∃ xs, SqL K H a xs ∧ xs.length ≤ i⟩
def Itt (K : PySem.W.Frag) (a : Addr) : It :=
  ⟨fun i H => ∃ xs x, SqT K H a xs ∧ xs[i]? = some x, fun i H x H' => H' = H ∧ ∀ xs, SqT K H a xs → xs[i]? = some x, fun i H => ∃ xs, SqT K H a xs ∧ xs.length ≤ i⟩
def Itr (lo : Int) (n : Nat) : It := ⟨fun i _ => i < n, fun i H x H' => H' = H ∧ x = .int (lo + i), fun i _ => n ≤ i⟩
theorem turn_list {P : Program} {w : World} {K : PySem.W.Frag} {tg : Expr} (a it : Addr) : Turn P w K tg (Itl K a) [it] it (fun i h => h.IsListIter it a i) where
  mem := by simp
  obj := fun i h st b hb => by
    have e : b = it := by simpa using hb
    subst e
    obtain ⟨o, e, c, d⟩ := st
    exact ⟨o, e, fun v z => by rw [d] at z; cases z⟩
  keep := fun i h h' st k => st.at fun o e => k it (by simp) o e
  item := by
    intro X hP hw hK hc i pins s σ H E I hf st hg
    subst hP hw hK
    obtain ⟨xs, x, hq, hx⟩ := hg
    obtain ⟨its, rv, p, hz⟩ := I.list hq
    obtain ⟨u, hu, ru⟩ := rv.get hx
    obtain ⟨f0, f1, f2, f3, f4, f5⟩ := hf it (by simp)
    refine wpAny_pyNext_list_item st p.isList (x := u) (by simpa using hu) fun h' st' sb => ?_
    have I1 : Inv X pins σ H { s with heap := h' } := I.turned (t' := s.toks) (fun b o hb e => (sb.2 b hb).trans e) f0 f1 f3 f4 f5
    obtain ⟨o, e, c, d⟩ := id st'
    exact ⟨u, rfl, go_of (s := { s with heap := h' }) e c d (by decide) ⟨x, H, I1, ru, ⟨rfl, fun ys hy => by rw [I.list_inj hy hq]; exact hx⟩, st', fun b hb => (hf b hb).1⟩⟩
  done := by
    intro X hP hw hK hc i pins s σ H E I hf st hg
    subst hP hw hK
    obtain ⟨xs, hq, hx⟩ := hg
    obtain ⟨its, rv, p, hz⟩ := I.list hq
    obtain ⟨f0, f1, f2, f3, f4, f5⟩ := hf it (by simp)
    have hl := rv.length
    exact wpAny_pyNext_list_end (I.ok.hd hc) st p.isList (by simp; omega) fun h' eb => ⟨rfl, I.turned (t' := s.toks) (fun b o hb e => eb b o hb e) f0 f1 f3 f4 f5⟩
  self := fun _ _ _ _ _ st h => wpAny_pyIter_listiter st h
theorem turn_tuple {P : Program} {w : World} {K : PySem.W.Frag} {tg : Expr} (a it : Addr) : Turn P w K tg (Itt K a) [it] it (fun i h => h.IsTupleIter it a i) where
  mem := by simp
  obj := fun i h st b hb => by
    have e : b = it := by simpa using hb
    subst e
    obtain ⟨o, e, c, d⟩ := st
    exact ⟨o, e, fun v z => by rw [d] at z; cases z⟩
  keep := fun i h h' st k => st.at fun o e => k it (by simp) o e
  item := by
    intro X hP hw hK hc i pins s σ H E I hf st hg
    subst hP hw hK
    obtain ⟨xs, x, hq, hx⟩ := hg
    obtain ⟨its, rv, p, hz⟩ := I.tuple hq
    obtain ⟨u, hu, ru⟩ := rv.get hx
    obtain ⟨f0, f1, f2, f3, f4, f5⟩ := hf it (by simp)
    refine wpAny_pyNext_tuple_item st (show s.heap.IsTuple a its.toArray from p) (x := u) (by simpa using hu) fun h' st' sb => ?_
    have I1 : Inv X pins σ H { s with heap := h' } := I.turned (t' := s.toks) (fun b o hb e => (sb.2 b hb).trans e) f0 f1 f3 f4 f5
    obtain ⟨o, e, c, d⟩ := id st'
    exact ⟨u, rfl, go_of (s := { s with heap := h' }) e c d (by decide) ⟨x, H, I1, ru, ⟨rfl, fun ys hy => by rw [I.tuple_inj hy hq]; exact hx⟩, st', fun b hb => (hf b hb).1⟩⟩
  done := by
    intro X hP hw hK hc i pins s σ H E I hf st hg
    subst hP hw hK
    obtain ⟨xs, hq, hx⟩ := hg
    obtain ⟨its, rv, p, hz⟩ := I.tuple hq
    obtain ⟨f0, f1, f2, f3, f4, f5⟩ := hf it (by simp)
    have hl := rv.length
    exact wpAny_pyNext_tuple_end (I.ok.hd hc) st (show s.heap.IsTuple a its.toArray from p) (by simp; omega) fun h' eb => ⟨rfl, I.turned (t' := s.toks) (fun b o hb e => eb b o hb e) f0 f1 f3 f4 f5⟩
  self := fun _ _ _ _ _ st h => wpAny_pyIter_tupleiter st h
theorem turn_range {P : Program} {w : World} {K : PySem.W.Frag} {tg : Expr} (it : Addr) (lo : Int) (n : Nat) : Turn P w K tg (Itr lo n) [it] it (fun i h => IsRangeIter h it (lo + (i : Nat) * 1) ((n : Int) - (i : Nat)) 1) where
  mem := by simp
  obj := fun i h st b hb => by
    have e : b = it := by simpa using hb
    subst e
    exact ⟨_, st, fun v z => by
      have z' : Data.fields _ = Data.cell v := z
      cases z'⟩
  keep := fun i h h' st k => k it (by simp) _ st
  item := by
    intro X hP hw hK hc i pins s σ H E I hf st hg
    subst hP hw hK
    obtain ⟨f0, f1, f2, f3, f4, f5⟩ := hf it (by simp)
    have W := Walks.range (prog := X.prog) (w := X.w) (I.ok.hd hc) it lo 1 n
    refine W.item i s _ _ hg st fun v h' tk hv st' kk => ?_
    obtain ⟨t, rfl⟩ := hv
    have I1 : Inv X pins σ H { s with heap := h', toks := tk } := I.turned (fun b o hb e => kk b o (by simpa using hb) e) f0 f1 f3 f4 f5
    refine ⟨_, rfl, go_of (s := { s with heap := h', toks := tk }) (n := "range_iterator") st' rfl rfl (by decide) ⟨.int (lo + i), H, I1, ⟨t, ?_⟩, ⟨rfl, rfl⟩, st', fun b hb => (hf b hb).1⟩⟩
    rw [Int.mul_one]
  done := by
    intro X hP hw hK hc i pins s σ H E I hf st hg
    subst hP hw hK
    obtain ⟨f0, f1, f2, f3, f4, f5⟩ := hf it (by simp)
    exact wpAny_pyNext_range_end (I.ok.hd hc) st (by have : n ≤ i := hg; omega) fun h' eb => ⟨rfl, I.turned (t' := s.toks) (fun b o hb e => eb b o hb e) f0 f1 f3 f4 f5⟩
  self := fun _ _ _ _ _ st h => wpAny_pyIter_rangeiter st h
end L2

namespace L2
open PySem PySem.Spec PyProof.Rows
section
variable {X : Cx} {tg : Expr}
def iList (K : PySem.W.Frag) (tl : TE) : TI := fun σ H R => tl σ H fun x H1 => ∃ a, x = .ref a ∧ (∃ xs, SqL K H1 a xs) ∧ R (Itl K a) H1
def iTup (K : PySem.W.Frag) (tl : TE) : TI := fun σ H R => tl σ H fun x H1 => ∃ a, x = .ref a ∧ (∃ xs, SqT K H1 a xs) ∧ R (Itt K a) H1
theorem pi_list {l : Expr} {tl : TE} (hl : PE X l tl) : PI X tg l (iList X.K tl) := by
  intro pins s σ H R I h
  refine thn (hl pins s σ H _ I h) fun v s1 ⟨x, H1, I1, r1, q1⟩ => ?_
  obtain ⟨a, e, ⟨xs, hq⟩, q⟩ := q1
  subst e
  cases r1
  obtain ⟨its, rv, p, hz⟩ := I1.list hq
  refine wpAny_pyIter_list p.isList ?_
  refine ⟨s1.heap.objs.size, [s1.heap.objs.size], _, _, H1, rfl, I1.kept (t' := s1.toks) fun b o e => Heap.get?_push_of_some _ e, turn_list a _, ⟨_, Heap.get?_push_size _ rfl, rfl, rfl⟩, fun b hb => ?_, q⟩
  have e : b = s1.heap.objs.size := by simpa using hb
  subst e
  exact I1.fpOk (Nat.le_refl _) (I1.hok.fresh (Nat.le_refl _))
theorem pi_tup {l : Expr} {tl : TE} (hl : PE X l tl) : PI X tg l (iTup X.K tl) := by
  intro pins s σ H R I h
  refine thn (hl pins s σ H _ I h) fun v s1 ⟨x, H1, I1, r1, q1⟩ => ?_
  obtain ⟨a, e, ⟨xs, hq⟩, q⟩ := q1
  subst e
  cases r1
  obtain ⟨its, rv, p, hz⟩ := I1.tuple hq
  refine wpAny_pyIter_tuple (show s1.heap.IsTuple a its.toArray from p) ?_
  refine ⟨s1.heap.objs.size, [s1.heap.objs.size], _, _, H1, rfl, I1.kept (t' := s1.toks) fun b o e => Heap.get?_push_of_some _ e, turn_tuple a _, ⟨_, Heap.get?_push_size _ rfl, rfl, rfl⟩, fun b hb => ?_, q⟩
  have e : b = s1.heap.objs.size := by simpa using hb
  subst e
  exact I1.fpOk (Nat.le_refl _) (I1.hok.fresh (Nat.le_refl _))
theorem range_it {pins : List (Addr × Obj)} {σ : St} {H : Hp} {s : Shared} {R : It → Hp → Prop} {E : Value → Shared → Prop} {lo hi : Int} {t u v : Tok} {tk : Nat} (I : Inv X pins σ H s) (h1 : -(2 ^ 62) ≤ lo) (h2 : lo < 2 ^ 62) (h3 : -(2 ^ 62) ≤ hi) (h4 : hi < 2 ^ 62)
    (q : R (Itr lo (hi - lo).toNat) H) : wpAny (model X.prog X.w) X.A (pyIter (.ref s.heap.objs.size)) (PIE X pins σ tg R) E { s with heap := s.heap.push { cls := .type "range", data := .fields #[.int lo t, .int hi u, .int 1 v] }, toks := tk } := by
  refine wpAny_pyIter_range (IsRange.new ..) (small_one h1 h2 h3 h4) ?_
  have I1 : Inv X pins σ H { s with heap := s.heap.push { cls := .type "range", data := .fields #[.int lo t, .int hi u, .int 1 v] }, toks := tk } := I.kept fun b o e => Heap.get?_push_of_some _ e
  refine ⟨(s.heap.push { cls := .type "range", data := .fields #[.int lo t, .int hi u, .int 1 v] }).objs.size, [(s.heap.push { cls := .type "range", data := .fields #[.int lo t, .int hi u, .int 1 v] }).objs.size], _, _, H, rfl,
    I1.kept (t' := tk) fun b o e => Heap.get?_push_of_some _ e, turn_range _ lo (hi - lo).toNat, ?_, fun b hb => ?_, q⟩
  · have e1 : lo + ((0 : Nat) : Int) * 1 = lo := by simp
    have e2 : (((hi - lo).toNat : Nat) : Int) - ((0 : Nat) : Int) = Builtin.Range.rangeSize lo hi 1 := by rw [rangeSize_one]; split <;> omega
    show IsRangeIter _ _ (lo + ((0 : Nat) : Int) * 1) ((((hi - lo).toNat : Nat) : Int) - ((0 : Nat) : Int)) 1
    rw [e1, e2]
    exact Heap.get?_push_size _ rfl
  · have e : b = (s.heap.push { cls := .type "range", data := .fields #[.int lo t, .int hi u, .int 1 v] }).objs.size := by simpa using hb
    subst e
    exact I1.fpOk (Nat.le_refl _) (I1.hok.fresh (Nat.le_refl _))
def iRng1 (ta : TA) : TI := fun σ H R => ta σ H fun vs H1 => ∃ j : Int, vs = [.int j] ∧ -(2 ^ 62) ≤ j ∧ j < 2 ^ 62 ∧ R (Itr 0 j.toNat) H1
def iRng2 (ta : TA) : TI := fun σ H R => ta σ H fun vs H1 => ∃ i j : Int, vs = [.int i, .int j] ∧ (-(2 ^ 62) ≤ i ∧ i < 2 ^ 62 ∧ -(2 ^ 62) ≤ j ∧ j < 2 ^ 62) ∧ R (Itr i (j - i).toNat) H1
theorem pi_range1 {a : Expr} {ta : TA} {p pos : Pos} (hg : Gl X "range") (hm : X.mg "range" = none) (ha : PA X [a] ta) (hs : starEach [a] X.env = [(false, eval a X.env)] := by rfl) : PI X tg (.Call (.Name "range" p) [a] [] pos) (iRng1 ta) := by
  intro pins s σ H R I h
  refine Call_ (ld_blt I hg hm boot_range (PyProof.Rows.callWith_type1 (thn (ha pos pins s σ H _ I h) fun us s1 ⟨vs, H1, I1, r1, q1⟩ => ?_) hs rfl))
  obtain ⟨j, e, q1, q2, q⟩ := q1
  subst e
  cases r1 with
  | cons r rr =>
    cases rr
    obtain ⟨t, rfl⟩ := r
    exact call_range_1 (range_it I1 (by omega) (by omega) q1 q2 (by simpa using q))
theorem pi_range2 {a b : Expr} {ta : TA} {p pos : Pos} (hg : Gl X "range") (hm : X.mg "range" = none) (ha : PA X [a, b] ta) (hs : starEach [a, b] X.env = [(false, eval a X.env), (false, eval b X.env)] := by rfl) (hs2 : starEach [b] X.env = [(false, eval b X.env)] := by rfl) :
    PI X tg (.Call (.Name "range" p) [a, b] [] pos) (iRng2 ta) := by
  intro pins s σ H R I h
  refine Call_ (ld_blt I hg hm boot_range (PyProof.Rows.callWith_type1 (thn (ha pos pins s σ H _ I h) fun us s1 ⟨vs, H1, I1, r1, q1⟩ => ?_) (by rw [hs, hs2]) (by rw [hs2]; rfl)))
  obtain ⟨i, j, e, ⟨q1, q2, q3, q4⟩, q⟩ := q1
  subst e
  cases r1 with
  | cons r rr =>
    cases rr with
    | cons r' rr =>
      cases rr
      obtain ⟨t, rfl⟩ := r
      obtain ⟨t', rfl⟩ := r'
      exact call_range_2 (range_it I1 q1 q2 q3 q4 q)

def tFor (wi : TI) (g : TG) (tb : TS) : TS := fun D σ H => wi σ H fun J H1 => ∃ W : Nat → Nat → St → Hp → Prop, (∃ m, W 0 m σ H1) ∧ ∀ i m σ H, W i m σ H →
  (J.stop i H ∧ D.nx σ H) ∨ (J.go i H ∧ ∃ N : St → Hp → Prop, (∀ σ' H', N σ' H' → ∃ m', m' < m ∧ W (i + 1) m' σ' H') ∧ ∀ x H', J.yld i H x H' → g x σ H' fun σ2 H2 => tb { D with nx := N, ct := N, bk := D.nx } σ2 H2)
def pinsAt (fp : List Addr) (h : Heap) : List (Addr × Obj) := fp.filterMap fun b => (h.get? b).map fun o => (b, o)
theorem mem_pinsAt {fp : List Addr} {h : Heap} {b : Addr} {o : Obj} (hb : b ∈ fp) (e : h.get? b = some o) : (b, o) ∈ pinsAt fp h := List.mem_filterMap.mpr ⟨b, hb, by rw [e]; rfl⟩
theorem of_pinsAt {fp : List Addr} {h : Heap} {p : Addr × Obj} (hp : p ∈ pinsAt fp h) : p.1 ∈ fp ∧ h.get? p.1 = some p.2 := by
  obtain ⟨b, hb, e⟩ := List.mem_filterMap.mp hp
  cases q : h.get? b with
  | none => rw [q] at e; cases e
  | some o =>
    rw [q] at e
    have e' : (b, o) = p := Option.some.inj e
    subst e'
    exact ⟨hb, q⟩
theorem Inv.pinned {pins : List (Addr × Obj)} {σ : St} {H : Hp} {s : Shared} {fp : List Addr} (I : Inv X pins σ H s) (hf : ∀ b ∈ fp, FpOk X pins H b) (ho : ∀ b ∈ fp, ∃ o, s.heap.get? b = some o ∧ ∀ v, o.data ≠ .cell v) : Inv X (pins ++ pinsAt fp s.heap) σ H s :=
  I.pins_of fun p hp => (List.mem_append.mp hp).elim (fun z => I.pin p (List.mem_append_right _ z)) fun z => by
    obtain ⟨hb, e⟩ := of_pinsAt z
    obtain ⟨f0, f1, f2, _⟩ := hf p.1 hb
    obtain ⟨o, e', d⟩ := ho p.1 hb
    rw [e] at e'; cases e'
    exact ⟨e, f0, f1, f2, d⟩
theorem Inv.unpinned {pins pl : List (Addr × Obj)} {σ : St} {H : Hp} {s : Shared} (I : Inv X (pins ++ pl) σ H s) : Inv X pins σ H s := I.pins_of fun p hp => I.pin p (List.mem_append_right _ (List.mem_append_left _ hp))
theorem ps_for {iter : Expr} {body : List Stmt} {wi : TI} {g : TG} {tb : TS} {pos : Pos} (hp : PassesOwn (model X.prog X.w) X.A X.env X.xe) (hc : X.calm = true) (hi : PI X tg iter wi) (hg : PG X tg g) (hb : PSs X body tb)
    (hs : ∀ x, foldedSetIterable iter X.env x = pure x := by intro _; rfl) : PS X (.For tg iter body [] pos) (tFor wi g tb) := by
  intro pins s σ H D I h
  refine wpAny_For (thn (hi pins s σ H _ I h) fun v s1 h1 => thn h1 fun itv s2 h2 => ?_) hs
  obtain ⟨it, fp, tn, J, H2, e, I2, T, st2, f2, W, ⟨m0, w0⟩, turn⟩ := h2
  subst e
  -- what stays true of the iterator's objects through the loop
  have stat : ∀ {H' : Hp}, (∀ b ∈ fp, H' b = none) → ∀ b ∈ fp, FpOk X pins H' b := fun hn b hb => ⟨hn b hb, (f2 b hb).2⟩
  refine codeAny_forLoop_any (fun n s' => ∃ i σ' H', Inv X pins σ' H' s' ∧ tn i s'.heap ∧ (∀ b ∈ fp, H' b = none) ∧ W i n σ' H') ?_ m0 ⟨0, σ, H2, I2, st2, fun b hb => (f2 b hb).1, w0⟩
  rintro n s3 ⟨i, σ3, H3, I3, st3, fr3, w3⟩
  rcases turn i n σ3 H3 w3 with ⟨stop, qn⟩ | ⟨go, N, hN, step⟩
  · refine wpAny_passesOwn hp (thn (T.done X rfl rfl rfl hc i pins s3 σ3 H3 X.xe I3 (stat fr3) st3 stop) fun r s4 ⟨hr, I4⟩ => ?_)
    subst hr
    exact wpAny_execs_nil ⟨σ3, H3, I4, qn⟩
  · refine wpAny_passesOwn hp (thn (T.item X rfl rfl rfl hc i pins s3 σ3 H3 X.xe I3 (stat fr3) st3 go) fun r s4 ⟨u, hr, h4⟩ => ?_)
    subst hr
    refine wpAny_passesOwn hp (thn h4 fun _ s5 ⟨x, H5, I5, r5, y5, st5, fr5⟩ => ?_)
    have I5' := I5.pinned (stat fr5) (T.obj _ _ st5)
    refine wpAny_passesOwn hp (thn (hg _ s5 σ3 H5 x u _ I5' r5 (step x H5 y5)) fun _ s6 ⟨σ6, H6, I6, q6⟩ => ?_)
    refine wpAny_passesOwn hp (thn (hb _ s6 σ6 H6 _ I6 q6) fun f s7 q7 => ?_)
    have again : ∀ {σ7 : St} {H7 : Hp}, Inv X (pins ++ pinsAt fp s5.heap) σ7 H7 s7 → N σ7 H7 → ∃ m, m < n ∧ ∃ i σ' H', Inv X pins σ' H' s7 ∧ tn i s7.heap ∧ (∀ b ∈ fp, H' b = none) ∧ W i m σ' H' := fun {σ7 H7} I7 n7 => by
      obtain ⟨m', hm, w7⟩ := hN σ7 H7 n7
      refine ⟨m', hm, i + 1, σ7, H7, I7.unpinned, T.keep _ _ _ st5 fun b hb o e => (I7.pin (b, o) (List.mem_append_right _ (List.mem_append_right _ (mem_pinsAt hb e)))).1, fun b hb => ?_, w7⟩
      obtain ⟨o, e, d⟩ := T.obj _ _ st5 b hb
      exact (I7.pin (b, o) (List.mem_append_right _ (List.mem_append_right _ (mem_pinsAt hb e)))).2.1
    cases f with
    | next => obtain ⟨σ7, H7, I7, n7⟩ := q7; exact again I7 n7
    | cont => obtain ⟨σ7, H7, I7, n7⟩ := q7; exact again I7 n7
    | brk => obtain ⟨σ7, H7, I7, q7⟩ := q7; exact ⟨σ7, H7, I7.unpinned, q7⟩
    | ret v => obtain ⟨x7, σ7, H7, I7, r7, q7⟩ := q7; exact ⟨x7, σ7, H7, I7.unpinned, r7, q7⟩
end

end L2

namespace L2
open PySem PySem.Spec PyProof.Rows

abbrev R2 := V → V → Hp → VK → Prop
def OpR (X : Cx) (f : Value → Value → Sem Value) (r : R2) : Prop :=
  ∀ (pins : List (Addr × Obj)) (s : Shared) (σ : St) (H : Hp) (x y : V) (v u : Value) (Q : VK), Inv X pins σ H s → RelV x v → RelV y u → r x y H Q →
    wpAny (model X.prog X.w) X.A (f v u) (EP X pins σ Q) X.xe s
def CallR (X : Cx) (f : Value) (r : List V → Hp → VK → Prop) : Prop :=
  ∀ (pins : List (Addr × Obj)) (s : Shared) (σ : St) (H : Hp) (xs : List V) (us : List Value) (Q : VK), Inv X pins σ H s → Vals xs us → r xs H Q →
    wpAny (model X.prog X.w) X.A (call f us) (EP X pins σ Q) X.xe s
def tOp (r : R2) (ta tb : TE) : TE := fun σ H Q => ta σ H fun x H1 => tb σ H1 fun y H2 => r x y H2 Q
def tUn (r : V → Hp → VK → Prop) (ta : TE) : TE := fun σ H Q => ta σ H fun x H1 => r x H1 Q
def rI (C : Int → Int → Prop) (g : Int → Int → V) : R2 := fun x y H Q => ∃ i j, x = .int i ∧ y = .int j ∧ C i j ∧ Q (g i j) H
def rI0 (g : Int → Int → V) : R2 := fun x y H Q => ∃ i j, x = .int i ∧ y = .int j ∧ Q (g i j) H
def rU (g : Int → V) : V → Hp → VK → Prop := fun x H Q => ∃ i, x = .int i ∧ Q (g i) H

section
variable {X : Cx} {a b c : Expr} {ta tb tc : TE} {pos : Pos}

theorem binT (ha : PE X a ta) (hb : PE X b tb) {pins : List (Addr × Obj)} {s : Shared} {σ : St} {H : Hp} {R : V → V → Hp → Prop} (I : Inv X pins σ H s)
    (h : ta σ H fun x H1 => tb σ H1 fun y H2 => R x y H2) {Q : Value → Shared → Prop} {f : Value → Value → Sem Value}
    (hf : ∀ v u s2 x y H2, Inv X pins σ H2 s2 → RelV x v → RelV y u → R x y H2 → wpAny (model X.prog X.w) X.A (f v u) Q X.xe s2) :
    wpAny (model X.prog X.w) X.A (eval a X.env) (fun v s₁ => wpAny (model X.prog X.w) X.A (eval b X.env) (fun u s₂ => wpAny (model X.prog X.w) X.A (f v u) Q X.xe s₂) X.xe s₁) X.xe s := by
  refine thn (ha pins s σ H _ I h) fun v s1 ⟨x, H1, I1, r1, q1⟩ => ?_
  refine thn (hb pins s1 σ H1 _ I1 q1) fun u s2 ⟨y, H2, I2, r2, q2⟩ => ?_
  exact hf v u s2 x y H2 I2 r1 r2 q2

theorem pe_op {op : Operator} {r : R2} (ho : OpR X (binaryOp op) r) (ha : PE X a ta) (hb : PE X b tb) : PE X (.BinOp a op b pos) (tOp r ta tb) := by
  intro pins s σ H Q I h
  exact wpAny_BinOp (binT ha hb I h fun v u s2 x y H2 I2 rx ry q => ho pins s2 σ H2 x y v u Q I2 rx ry q)
theorem opI {f : Value → Value → Sem Value} {C : Int → Int → Prop} {g : Int → Int → Int}
    (rule : ∀ (i j : Int) (t u : Tok) (s : Shared) (Q : Value → Shared → Prop) (E : Value → Shared → Prop), C i j → Q (.int (g i j) s.toks) { s with toks := s.toks + 1 } → wpAny (model X.prog X.w) X.A (f (.int i t) (.int j u)) Q E s) :
    OpR X f (rI C fun i j => .int (g i j)) := by
  intro pins s σ H x y v u Q I rx ry h
  obtain ⟨i, j, rfl, rfl, hc, q⟩ := h
  obtain ⟨t, rfl⟩ := rx
  obtain ⟨t', rfl⟩ := ry
  exact rule i j t t' s _ _ hc ⟨.int (g i j), H, I.tok _, ⟨_, rfl⟩, q⟩
theorem opI0 {f : Value → Value → Sem Value} {g : Int → Int → Int}
    (rule : ∀ (i j : Int) (t u : Tok) (s : Shared) (Q : Value → Shared → Prop) (E : Value → Shared → Prop), Q (.int (g i j) s.toks) { s with toks := s.toks + 1 } → wpAny (model X.prog X.w) X.A (f (.int i t) (.int j u)) Q E s) :
    OpR X f (rI0 fun i j => .int (g i j)) := by
  intro pins s σ H x y v u Q I rx ry h
  obtain ⟨i, j, rfl, rfl, q⟩ := h
  obtain ⟨t, rfl⟩ := rx
  obtain ⟨t', rfl⟩ := ry
  exact rule i j t t' s _ _ ⟨.int (g i j), H, I.tok _, ⟨_, rfl⟩, q⟩
theorem opB0 {f : Value → Value → Sem Value} {g : Int → Int → Bool}
    (rule : ∀ (i j : Int) (t u : Tok) (s : Shared) (Q : Value → Shared → Prop) (E : Value → Shared → Prop), Q (.bool (g i j)) s → wpAny (model X.prog X.w) X.A (f (.int i t) (.int j u)) Q E s) :
    OpR X f (rI0 fun i j => .bl (g i j)) := by
  intro pins s σ H x y v u Q I rx ry h
  obtain ⟨i, j, rfl, rfl, q⟩ := h
  obtain ⟨t, rfl⟩ := rx
  obtain ⟨t', rfl⟩ := ry
  exact rule i j t t' s _ _ ⟨.bl (g i j), H, I, rfl, q⟩

def CDiv (i j : Int) : Prop := 0 < j ∧ j < 1073741824
def CMul (i j : Int) : Prop := (-(2 ^ 64) < i ∧ i < 2 ^ 64) ∨ (-(2 ^ 64) < j ∧ j < 2 ^ 64)
theorem CMul.ok {i j : Int} (h : CMul i j) : IntMulOk i j := by
  rcases h with ⟨h1, h2⟩ | ⟨h1, h2⟩
  · exact .of_left (intBits_le_64 h1 h2)
  · exact .of_right (intBits_le_64 h1 h2)
theorem op_add : OpR X (binaryOp .Add) (rI0 fun i j => .int (i + j)) := opI0 fun _ _ _ _ _ _ _ q => add_int q
theorem op_sub : OpR X (binaryOp .Sub) (rI0 fun i j => .int (i - j)) := opI0 fun _ _ _ _ _ _ _ q => sub_int q
theorem op_mul : OpR X (binaryOp .Mult) (rI CMul fun i j => .int (i * j)) := opI fun _ _ _ _ _ _ _ hc q => mul_int q hc.ok
theorem op_fdiv : OpR X (binaryOp .FloorDiv) (rI CDiv fun i j => .int (i / j)) := opI fun i j _ _ _ _ _ hc q => by
  have h1 : (0 : Int) < j := hc.1
  have h2 : j < 1073741824 := hc.2
  exact floordiv_int (by omega) (by rw [Int.fdiv_eq_ediv_of_nonneg i (by omega)]; exact q) (.inl (PyProof.noPylong_small (by omega)))
theorem op_mod : OpR X (binaryOp .Mod) (rI (fun _ j => 0 < j) fun i j => .int (i % j)) := opI fun i j _ _ _ _ _ hc q => by
  have h1 : (0 : Int) < j := hc
  exact mod_int' (by omega) (by rw [Int.fmod_eq_emod_of_nonneg i (by omega)]; exact q)
end

def scal : V → V → Bool
  | .non, .non => true | .non, .int _ => true | .int _, .non => true | .non, .bl _ => true | .bl _, .non => true | .non, .str _ => true | .str _, .non => true
  | .int _, .int _ => true | .bl _, .bl _ => true | .str _, .str _ => true | .byt _, .byt _ => true
  | .int _, .str _ => true | .str _, .int _ => true | .bl _, .str _ => true | .str _, .bl _ => true
  | _, _ => false
def rEq : R2 := fun x y H Q => scal x y = true ∧ Q (.bl (decide (x = y))) H
def rNe : R2 := fun x y H Q => scal x y = true ∧ Q (.bl (!decide (x = y))) H

theorem dec_int {i j : Int} : decide (V.int i = V.int j) = (i == j) := by
  rw [Bool.eq_iff_iff]
  simp
theorem dec_bl {i j : Bool} : decide (V.bl i = V.bl j) = (i == j) := by
  rw [Bool.eq_iff_iff]
  simp
theorem dec_str {i j : Str} : decide (V.str i = V.str j) = (i == j) := by
  rw [Bool.eq_iff_iff]
  simp
theorem dec_byt {i j : Array UInt8} : decide (V.byt i = V.byt j) = (i.toList == j.toList) := by
  rw [Bool.eq_iff_iff]
  cases i
  cases j
  simp

section
variable {X : Cx} {a b c : Expr} {ta tb tc : TE} {pos : Pos}
theorem fin_bl {pins : List (Addr × Obj)} {σ : St} {H : Hp} {s : Shared} {Q : VK} {k k' : Bool} (I : Inv X pins σ H s) (q : Q (.bl k) H) (e : k = k') : EP X pins σ Q (.bool k') s := by
  subst e
  exact ⟨.bl k, H, I, rfl, q⟩
theorem op_eq : OpR X (compareOp .Eq) rEq := by
  intro pins s σ H x y v u Q I rx ry h
  obtain ⟨hs, q⟩ := h
  cases x with
  | non =>
    cases rx
    cases y with
    | non => cases ry; exact PySem.EqNone.eq_none_none (fin_bl I q (by simp))
    | bl j => cases ry; exact PySem.EqNone.eq_none_bool (fin_bl I q (by simp))
    | int j => obtain ⟨t', rfl⟩ := ry; exact PySem.EqNone.eq_none_int (fin_bl I q (by simp))
    | str j => obtain ⟨t', rfl⟩ := ry; exact PySem.EqNone.eq_none_str (fin_bl I q (by simp))
    | _ => exact absurd (show false = true from hs) Bool.false_ne_true
  | bl i =>
    cases rx
    cases y with
    | non => cases ry; exact PySem.EqNone.eq_bool_none (fin_bl I q (by simp))
    | bl j => cases ry; exact eq_bool (fin_bl I q dec_bl)
    | str j => obtain ⟨t', rfl⟩ := ry; exact PySem.EqMixed.eq_bool_str (fin_bl I q (by simp))
    | _ => exact absurd (show false = true from hs) Bool.false_ne_true
  | int i =>
    obtain ⟨t, rfl⟩ := rx
    cases y with
    | non => cases ry; exact PySem.EqNone.eq_int_none (fin_bl I q (by simp))
    | int j => obtain ⟨t', rfl⟩ := ry; exact eq_int (fin_bl I q dec_int)
    | str j => obtain ⟨t', rfl⟩ := ry; exact PySem.EqMixed.eq_int_str (fin_bl I q (by simp))
    | _ => exact absurd (show false = true from hs) Bool.false_ne_true
  | str i =>
    obtain ⟨t, rfl⟩ := rx
    cases y with
    | non => cases ry; exact PySem.EqNone.eq_str_none (fin_bl I q (by simp))
    | bl j => cases ry; exact PySem.EqMixed.eq_str_bool (fin_bl I q (by simp))
    | int j => obtain ⟨t', rfl⟩ := ry; exact PySem.EqMixed.eq_str_int (fin_bl I q (by simp))
    | str j => obtain ⟨t', rfl⟩ := ry; exact eq_str (fin_bl I q dec_str)
    | _ => exact absurd (show false = true from hs) Bool.false_ne_true
  | byt i =>
    obtain ⟨t, rfl⟩ := rx
    cases y with
    | byt j => obtain ⟨t', rfl⟩ := ry; exact PySem.W.eq_bytes (fin_bl I q dec_byt)
    | _ => exact absurd (show false = true from hs) Bool.false_ne_true
  | _ => cases y <;> exact absurd (show false = true from hs) Bool.false_ne_true
theorem op_ne : OpR X (compareOp .NotEq) rNe := by
  intro pins s σ H x y v u Q I rx ry h
  obtain ⟨hs, q⟩ := h
  cases x with
  | non =>
    cases rx
    cases y with
    | non => cases ry; exact PySem.EqNone.ne_none_none (fin_bl I q (by simp))
    | bl j => cases ry; exact PySem.EqNone.ne_none_bool (fin_bl I q (by simp))
    | int j => obtain ⟨t', rfl⟩ := ry; exact PySem.EqNone.ne_none_int (fin_bl I q (by simp))
    | str j => obtain ⟨t', rfl⟩ := ry; exact PySem.EqNone.ne_none_str (fin_bl I q (by simp))
    | _ => exact absurd (show false = true from hs) Bool.false_ne_true
  | bl i =>
    cases rx
    cases y with
    | non => cases ry; exact PySem.EqNone.ne_bool_none (fin_bl I q (by simp))
    | bl j => cases ry; exact ne_bool (fin_bl I q (congrArg not dec_bl))
    | str j => obtain ⟨t', rfl⟩ := ry; exact PySem.EqMixed.ne_bool_str (fin_bl I q (by simp))
    | _ => exact absurd (show false = true from hs) Bool.false_ne_true
  | int i =>
    obtain ⟨t, rfl⟩ := rx
    cases y with
    | non => cases ry; exact PySem.EqNone.ne_int_none (fin_bl I q (by simp))
    | int j => obtain ⟨t', rfl⟩ := ry; exact ne_int (fin_bl I q (congrArg not dec_int))
    | str j => obtain ⟨t', rfl⟩ := ry; exact PySem.EqMixed.ne_int_str (fin_bl I q (by simp))
    | _ => exact absurd (show false = true from hs) Bool.false_ne_true
  | str i =>
    obtain ⟨t, rfl⟩ := rx
    cases y with
    | non => cases ry; exact PySem.EqNone.ne_str_none (fin_bl I q (by simp))
    | bl j => cases ry; exact PySem.EqMixed.ne_str_bool (fin_bl I q (by simp))
    | int j => obtain ⟨t', rfl⟩ := ry; exact PySem.EqMixed.ne_str_int (fin_bl I q (by simp))
    | str j => obtain ⟨t', rfl⟩ := ry; exact ne_str (fin_bl I q (congrArg not dec_str))
    | _ => exact absurd (show false = true from hs) Bool.false_ne_true
  | byt i =>
    obtain ⟨t, rfl⟩ := rx
    cases y with
    | byt j => obtain ⟨t', rfl⟩ := ry; exact PySem.W.ne_bytes (fin_bl I q (congrArg not dec_byt))
    | _ => exact absurd (show false = true from hs) Bool.false_ne_true
  | _ => cases y <;> exact absurd (show false = true from hs) Bool.false_ne_true

theorem op_lt : OpR X (compareOp .Lt) (rI0 fun i j => .bl (decide (i < j))) := opB0 fun _ _ _ _ _ _ _ q => lt_int q
theorem op_le : OpR X (compareOp .LtE) (rI0 fun i j => .bl (decide (i ≤ j))) := opB0 fun _ _ _ _ _ _ _ q => le_int q
theorem op_gt : OpR X (compareOp .Gt) (rI0 fun i j => .bl (decide (j < i))) := opB0 fun _ _ _ _ _ _ _ q => gt_int q
theorem OpR.or {f : Value → Value → Sem Value} {r r' : R2} (h : OpR X f r) (h' : OpR X f r') : OpR X f (fun x y H Q => r x y H Q ∨ r' x y H Q) := by
  intro pins s σ H x y v u Q I rx ry q
  rcases q with q | q
  · exact h pins s σ H x y v u Q I rx ry q
  · exact h' pins s σ H x y v u Q I rx ry q

theorem nomark (b : Expr) {op : CmpOp} (h : op ≠ .In := by decide) (h2 : op ≠ .NotIn := by decide) : behindInMarks op b = false := by
  have e1 : (op == CmpOp.In) = false := by cases op <;> first | rfl | exact absurd rfl h
  have e2 : (op == CmpOp.NotIn) = false := by cases op <;> first | rfl | exact absurd rfl h2
  cases b <;> simp [behindInMarks, e1, e2]
theorem pe_cmpR {op : CmpOp} {r : R2} (ho : OpR X (compareOp op) r) (ha : PE X a ta) (hb : PE X b tb) (hm : behindInMarks op b = false) : PE X (.Compare a [op] [b] pos) (tOp r ta tb) := by
  intro pins s σ H Q I h
  exact wpAny_Compare1 (binT ha hb I h fun v u s2 x y H2 I2 rx ry q => ho pins s2 σ H2 x y v u Q I2 rx ry q) hm
def tTest (t : TE) : TT := fun σ H Q => t σ H fun x H' => ∃ k, x = .bl k ∧ Q k H'
theorem pt_cmpR {op : CmpOp} {r : R2} (ho : OpR X (compareOp op) r) (ha : PE X a ta) (hb : PE X b tb) (hm : behindInMarks op b = false) : PT X (.Compare a [op] [b] pos) (tTest (tOp r ta tb)) := by
  intro pins s σ H Q I h
  refine wpAny_isTrue_Compare1 (thn (ha pins s σ H _ I h) fun v s1 ⟨x, H1, I1, r1, q1⟩ => thn (hb pins s1 σ H1 _ I1 q1) fun u s2 ⟨y, H2, I2, r2, q2⟩ =>
    thn (ho pins s2 σ H2 x y v u _ I2 r1 r2 q2) fun c s3 ⟨z, H3, I3, r3, k, e, q3⟩ => ?_) hm
  subst e
  cases r3
  exact wpAny_truthy_bool ⟨H3, I3, q3⟩
def tChain (r r' : R2) (ta tb tc : TE) : TE := fun σ H Q => ta σ H fun x H1 => tb σ H1 fun y H2 => r x y H2 fun z H3 => ∃ k, z = .bl k ∧
  (if k = true then tc σ H3 fun w' H4 => r' y w' H4 Q else Q (.bl false) H3)
theorem pe_chain {op op' : CmpOp} {r r' : R2} (ho : OpR X (compareOp op) r) (ho' : OpR X (compareOp op') r') (ha : PE X a ta) (hb : PE X b tb) (hc : PE X c tc)
    (hm : lastMarks [op, op'] [b, c] = false := by with_unfolding_all rfl) : PE X (.Compare a [op, op'] [b, c] pos) (tChain r r' ta tb tc) := by
  intro pins s σ H Q I h
  refine Compare_chain (thn (ha pins s σ H _ I h) fun v s1 ⟨x, H1, I1, r1, q1⟩ => chain_link (thn (hb pins s1 σ H1 _ I1 q1) fun u s2 ⟨y, H2, I2, r2, q2⟩ =>
    thn (ho pins s2 σ H2 x y v u _ I2 r1 r2 q2) fun d s3 ⟨z, H3, I3, r3, k, e, q3⟩ => ?_)) hm
  subst e
  cases r3
  refine wpAny_truthy_bool ?_
  cases k with
  | false => exact ite_ff ⟨.bl false, H3, I3, rfl, q3⟩
  | true => exact ite_tt (chain_last (thn (hc pins s3 σ H3 _ I3 q3) fun w' s4 ⟨z', H4, I4, r4, q4⟩ => ho' pins s4 σ H4 y z' u w' Q I4 r2 r4 q4))
theorem line63 : (sizeLine : Nat) < 2 ^ 63 := by rw [sizeLine_eq]; decide
theorem vals1 {x : V} {us : List Value} (r : Vals [x] us) : ∃ u, us = [u] ∧ RelV x u := by
  cases r with
  | cons r1 r2 => cases r2; exact ⟨_, rfl, r1⟩
theorem vals2 {x y : V} {us : List Value} (r : Vals [x, y] us) : ∃ u w', us = [u, w'] ∧ RelV x u ∧ RelV y w' := by
  cases r with
  | cons r1 r2 =>
    cases r2 with
    | cons r3 r4 => cases r4; exact ⟨_, _, rfl, r1, r3⟩
theorem call_min2 (hc : X.calm = true) : CallR X (.builtin "min") (fun xs H Q => ∃ i j, xs = [.int i, .int j] ∧ Q (.int (if j < i then j else i)) H) := by
  intro pins s σ H xs us Q I r h
  obtain ⟨i, j, rfl, q⟩ := h
  obtain ⟨u, w', rfl, ⟨t, rfl⟩, ⟨t', rfl⟩⟩ := vals2 r
  refine min_two_ints (I.ok.hd hc) fun h' tk k => ⟨_, H, I.kept k, ?_, q⟩
  by_cases hj : j < i
  · rw [if_pos hj, if_pos hj]; exact ⟨_, rfl⟩
  · rw [if_neg hj, if_neg hj]; exact ⟨_, rfl⟩
theorem call_int1 : CallR X (.type "int") (fun xs H Q => (∃ i, xs = [.int i] ∧ Q (.int i) H) ∨ ∃ k, xs = [.bl k] ∧ Q (.int (if k then 1 else 0)) H) := by
  intro pins s σ H xs us Q I r h
  rcases h with ⟨i, rfl, q⟩ | ⟨k, rfl, q⟩
  · obtain ⟨u, rfl, t, rfl⟩ := vals1 r
    exact call_int_int ⟨.int i, H, I, ⟨_, rfl⟩, q⟩
  · obtain ⟨u, rfl, r1⟩ := vals1 r
    cases r1
    exact call_int_bool ⟨.int (if k then 1 else 0), H, I.tok _, ⟨_, rfl⟩, q⟩
theorem call_str_int : CallR X (.type "str") (fun xs H Q => ∃ i, xs = [.int i] ∧ i.natAbs.log2 < 1920 ∧ Q (.str (toString i)) H) := by
  intro pins s σ H xs us Q I r h
  obtain ⟨i, rfl, hz, q⟩ := h
  obtain ⟨u, rfl, t, rfl⟩ := vals1 r
  exact PySem.P.str_of_int hz ⟨.str _, H, I.tok _, ⟨_, rfl⟩, q⟩
end
end L2

namespace L2
open PySem PySem.Spec PyProof.Rows

structure ObjM (h : Heap) (x dx C : Addr) (mA : Str → Option Value) : Prop where
  obj : h.get? x = some (PySem.W.instObj C dx)
  ns : h.Ns1 dx mA
  ne : dx ≠ x

theorem lookIn_ns {h : Heap} {dx : Addr} {mA : Str → Option Value} (n : h.Ns1 dx mA) : ∃ od, h.get? dx = some od ∧ ∀ name, PySem.W.lookIn name od = some (mA name) := by
  obtain ⟨o, es, ep, ho, hd, hk, _, hm⟩ := n
  refine ⟨o, ho, fun name => ?_⟩
  have e := hm name
  unfold nsFind findBy at e
  rw [← Array.find?_toList] at e
  unfold PySem.W.lookIn
  rw [hd]
  dsimp only
  split
  · rename_i y q
    rw [q] at e
    exact congrArg some e
  · rename_i q
    rw [q] at e
    have a : es.toList.any (·.refKey) = false := by
      rw [List.any_eq_false]
      intro y hy
      obtain ⟨z, t, hkey⟩ := hk y (Array.mem_toList_iff.mp hy)
      simp [DictEntry.refKey, hkey]
    have a' : ¬ es.toList.any (·.refKey) = true := by rw [a]; exact Bool.false_ne_true
    rw [if_neg a']
    exact congrArg some e

theorem ObjM.look {h : Heap} {x dx C : Addr} {mA : Str → Option Value} (I : ObjM h x dx C mA) : ∃ od, PySem.W.InstAt h x (PySem.W.instObj C dx) C (some od) ∧ ∀ name, PySem.W.lookIn name od = some (mA name) :=
  let ⟨od, ho, hl⟩ := lookIn_ns I.ns
  ⟨od, ⟨I.obj, rfl, rfl, ho⟩, hl⟩

section
variable {prog : Program} {w : World} {A : Around} {E : Value → Shared → Prop} {s : Shared} {K : PySem.W.Frag} {x dx C f : Addr} {mA : Str → Option Value} {name : Str} {v : Value}

theorem get_map {expr : Bool} {Q : Value → Shared → Prop} (X : K.In s.heap) (I : ObjM s.heap x dx C mA) (hg : PySem.W.plainGet K C name = true) (hh : PySem.W.hasDictIn K C = true)
    (ha : PySem.W.findIn K (.ref C) name = some none) (hv : mA name = some v) (hv' : PySem.W.handedIn v = true) (h : Q v { s with toks := s.toks + 1 }) :
    wpAny (model prog w) A (getAttr (.ref x) name expr) Q E s := by
  obtain ⟨od, J, hl⟩ := I.look
  exact PySem.W.get_value X J (PySem.W.plainGet_of hg).1 (PySem.W.findObj_own hh ha rfl (by rw [hl, hv])) hv' h

theorem get_meth {pl : Sem Bool} {Q : Value × List Value → Shared → Prop} (X : K.In s.heap) (I : ObjM s.heap x dx C mA) (hg : PySem.W.plainGet K C name = true)
    (hf : PySem.W.findIn K (.ref C) name = some (some (.ref f))) (ht : PySem.W.isFn K (.ref f) = true) (hv : mA name = none) (h : Q (.ref f, [.ref x]) s) :
    wpAny (model prog w) A (getMethod (.ref x) name pl) Q E s := by
  obtain ⟨od, J, hl⟩ := I.look
  exact PySem.W.method_fn X J (PySem.W.plainGet_of hg).1 (PySem.W.plainGet_of hg).2 hf (beq_iff_eq.mp ht) (by show (PySem.W.lookIn name od).map (·.isSome) = some false; rw [hl, hv]; rfl) h

theorem set_map {ns : List Str} {Q : Unit → Shared → Prop} (X : K.In s.heap) (I : ObjM s.heap x dx C mA)
    (hs : PySem.W.findIn K (.ref C) "__setattr__" = some (some (.builtin "object.__setattr__"))) (hp : PySem.W.plainOver K C = true) (ht : PySem.W.takerIn K C name = some none) (hh : PySem.W.hasDictIn K C = true)
    (hw : PySem.Within mA ns) (hsz : ns.length ≤ sizeLine)
    (h : ∀ h', ObjM h' x dx C (fun y => if y = name then some v else mA y) → Heap.SameBut dx s.heap h' → Q () { s with heap := h', toks := s.toks + 2 }) :
    wpAny (model prog w) A (setAttr (.ref x) name v) Q E s := by
  obtain ⟨od, J, hl⟩ := I.look
  refine PySem.W.set_plain X J hs (PySem.W.osa_open (s := { s with toks := s.toks + 1 }) (r := none) X J hp ht fun b => ?_)
  obtain ⟨cd, hc, hd'⟩ := PySem.W.any_some hh
  have hx : s.heap.get? x = some ⟨.ref C, some dx, .plain, #[]⟩ := I.obj
  refine wpAny_bind (wpAny_pure (wpAny_bind (wpAny_bind (wpAny_loadPart hx (wpAny_bind (PySem.W.Looks.here (s := { s with toks := s.toks + 1 }) (PySem.W.looks_clsIn X hc) ?_))))))
  rw [hd']
  refine wpAny_pure (a := some dx) (wpAny_bind (wpAny_pure (wpAny_bind ?_)))
  refine wpAny_nsSet1 (s := { s with toks := s.toks + 1 }) I.ns fun h' hn2 hs2 => ?_
  obtain ⟨oD, esD, epD, hoD, hdD, hcD⟩ := hn2.count (PySem.Within.cons name v hw)
  refine wpAny_bind (wpAny_lookBehind hoD (by rw [hdD]; exact pastItsLine_dict (Nat.le_trans hcD (by rw [List.length_cons]; omega))) ?_)
  exact wpAny_pure (h _ ⟨(hs2.2 _ (Ne.symm I.ne)).trans I.obj, hn2, I.ne⟩ hs2)

theorem make_map {R : Result → Shared → Prop} {vs : List Value} {kw : List (Str × Value)} (X : K.In s.heap) (hm : PySem.W.makesIn K C = true)
    (hi : PySem.W.findIn K (.ref C) "__init__" = some (some (.ref f))) (hf : PySem.W.typeIn K (.ref f) = some (.type "function"))
    (h : codeAny (model prog w) (A.under (.builtin "type.__call__" ⟨.ref C :: vs, kw⟩)) (.call (.ref f) ⟨.ref (s.heap.objs.size + 1) :: vs, kw⟩) (PySem.W.InitBack (s.heap.objs.size + 1) R)
      { s with heap := (s.heap.push PySem.W.emptyDict).push (PySem.W.instObj C s.heap.objs.size) }) :
    codeAny (model prog w) A (.call (.ref C) ⟨vs, kw⟩) R s := by
  obtain ⟨hh, g, d, t, os⟩ := s
  exact PySem.W.make_core (PySem.W.makes_of X hm) (PySem.W.looks_findIn X hi) (fun self => PySem.W.bind_fn X self hf) (.inl rfl) h
end

def putF (f : Str) (v : V) : List (Str × V) → List (Str × V)
  | [] => [(f, v)]
  | (g, x) :: r => if g = f then (g, v) :: r else (g, x) :: putF f v r
theorem lookup_putF (f g : Str) (v : V) : ∀ fs : List (Str × V), (putF f v fs).lookup g = if g = f then some v else fs.lookup g
  | [] => by
    show List.lookup g [(f, v)] = _
    by_cases h : g = f
    · have hb : (g == f) = true := beq_iff_eq.mpr h
      simp only [List.lookup, hb, if_pos h]
    · have hb : (g == f) = false := beq_eq_false_iff_ne.mpr h
      simp only [List.lookup, hb, if_neg h]
  | (k, x) :: r => by
    have ih := lookup_putF f g v r
    rw [show putF f v ((k, x) :: r) = (if k = f then (k, v) :: r else (k, x) :: putF f v r) from rfl]
    by_cases hk : k = f
    · rw [if_pos hk]
      by_cases h : g = k
      · have hb : (g == k) = true := beq_iff_eq.mpr h
        simp only [List.lookup, hb, if_pos (h.trans hk)]
      · have hb : (g == k) = false := beq_eq_false_iff_ne.mpr h
        simp only [List.lookup, hb, if_neg (fun e : g = f => h (e.trans hk.symm))]
    · rw [if_neg hk]
      by_cases h : g = k
      · have hb : (g == k) = true := beq_iff_eq.mpr h
        simp only [List.lookup, hb, if_neg (fun e : g = f => hk (h.symm.trans e))]
      · have hb : (g == k) = false := beq_eq_false_iff_ne.mpr h
        simp only [List.lookup, hb]
        exact ih
theorem keys_putF (f : Str) (v : V) : ∀ fs : List (Str × V), f ∈ (putF f v fs).map (·.1) ∧ ∀ g, g ∈ fs.map (·.1) → g ∈ (putF f v fs).map (·.1)
  | [] => ⟨by simp [putF], fun g h => by simp at h⟩
  | (k, x) :: r => by
    obtain ⟨i1, i2⟩ := keys_putF f v r
    rw [show putF f v ((k, x) :: r) = (if k = f then (k, v) :: r else (k, x) :: putF f v r) from rfl]
    by_cases hk : k = f
    · rw [if_pos hk]
      subst hk
      exact ⟨by simp, fun g h => by simpa using h⟩
    · rw [if_neg hk]
      refine ⟨?_, fun g h => ?_⟩
      · rw [List.map_cons]
        exact List.mem_cons_of_mem _ i1
      · rw [List.map_cons] at h ⊢
        rcases List.mem_cons.mp h with e | e
        · exact List.mem_cons.mpr (.inl e)
        · exact List.mem_cons_of_mem _ (i2 g e)
theorem length_putF (f : Str) (v : V) : ∀ fs : List (Str × V), (putF f v fs).length ≤ fs.length + 1
  | [] => by simp [putF]
  | (k, x) :: r => by
    have ih := length_putF f v r
    rw [show putF f v ((k, x) :: r) = (if k = f then (k, v) :: r else (k, x) :: putF f v r) from rfl]
    by_cases hk : k = f
    · rw [if_pos hk, List.length_cons, List.length_cons]; omega
    · rw [if_neg hk, List.length_cons, List.length_cons]; omega

theorem RelO.some_of {v : V} {o : Option Value} (r : RelO (some v) o) : ∃ u, o = some u ∧ RelV v u := by
  cases o with
  | none => exact (show False from r).elim
  | some u => exact ⟨u, rfl, r⟩
theorem RelO.none_of {o : Option Value} (r : RelO none o) : o = none := by
  cases o with
  | none => rfl
  | some u => exact (show False from r).elim
theorem handed_of {v : V} {u : Value} (r : RelV v u) : PySem.W.handedIn u = true := by
  cases v with
  | non => cases (show u = Value.none from r); rfl
  | bl b => cases (show u = Value.bool b from r); rfl
  | int i => obtain ⟨t, e⟩ := (show ∃ t, u = Value.int i t from r); cases e; rfl
  | str x => obtain ⟨t, e⟩ := (show ∃ t, u = Value.str x t from r); cases e; rfl
  | byt b => obtain ⟨t, e⟩ := (show ∃ t, u = Value.bytes b t from r); cases e; rfl
  | flt b => obtain ⟨t, e⟩ := (show ∃ t, u = Value.float b t from r); cases e; rfl
  | ref a => cases (show u = Value.ref a from r); rfl
  | ty n => cases (show u = Value.type n from r); rfl

section
variable {P : Program} {w : World} {H H' : Hp} {h h' : Heap} {a C dx : Addr} {fs fs' : List (Str × V)}
theorem ins_get (hok : HOk P w H h) (e : H a = some (.ins C dx fs)) : ∃ mA, ObjM h a dx C mA ∧ (∀ f, RelO (fs.lookup f) (mA f)) ∧ PySem.Within mA (fs.map (·.1)) ∧ fs.length ≤ 1000 ∧ H dx = some (.own a) := by
  obtain ⟨d, z, ne, ob, mA, n, r, q⟩ := (show ObjOk P w H h a (.ins C dx fs) from hok a _ e)
  exact ⟨mA, ⟨ob, n, ne⟩, r, q, z, d⟩
end

structure Cls (K : PySem.W.Frag) (C : Addr) : Prop where
  pg : PySem.W.plainGet K C Str.empty = true
  hd : PySem.W.hasDictIn K C = true
  po : PySem.W.plainOver K C = true
  sa : PySem.W.findIn K (.ref C) "__setattr__" = some (some (.builtin "object.__setattr__"))
theorem Cls.get {K : PySem.W.Frag} {C : Addr} (c : Cls K C) (f : Str) : PySem.W.plainGet K C f = true := c.pg
def NoAttr (K : PySem.W.Frag) (C : Addr) (f : Str) : Prop := PySem.W.findIn K (.ref C) f = some none
theorem NoAttr.taker {K : PySem.W.Frag} {C : Addr} {f : Str} (n : NoAttr K C f) : PySem.W.takerIn K C f = some none := by
  unfold PySem.W.takerIn
  rw [show PySem.W.findIn K (.ref C) f = some none from n]
  rfl
structure Con (K : PySem.W.Frag) (C : Addr) (f : Str) (v : V) (u : Value) : Prop where
  at_ : PySem.W.findIn K (.ref C) f = some (some u)
  rel : RelV v u
  get : PySem.W.specialIn K u "__get__" = some none
  cp : PySem.W.copiedNames.contains f = false
structure Meth (K : PySem.W.Frag) (C : Addr) (m : Str) (f : Addr) : Prop where
  at_ : PySem.W.findIn K (.ref C) m = some (some (.ref f))
  fn : PySem.W.isFn K (.ref f) = true
  kp : PySem.W.keepIn K (.ref f) = true

section
variable {X : Cx} {pins : List (Addr × Obj)} {σ : St} {H : Hp} {s : Shared} {a C dx : Addr} {fs : List (Str × V)} {f : Str} {v : V} {A : Around} {E : Value → Shared → Prop}

theorem getattr_ok {b : Bool} {Q : Value → Shared → Prop} (I : Inv X pins σ H s) (e : H a = some (.ins C dx fs)) (c : Cls X.K C) (n : NoAttr X.K C f) (l : fs.lookup f = some v)
    (h : ∀ u s', Inv X pins σ H s' → RelV v u → Q u s') : wpAny (model X.prog X.w) A (getAttr (.ref a) f b) Q E s := by
  obtain ⟨mA, O, r, _, _, _⟩ := ins_get I.hok e
  obtain ⟨u, hu, ru⟩ := RelO.some_of (v := v) (o := mA f) (by rw [← l]; exact r f)
  exact get_map I.kIn O (c.get f) c.hd n hu (handed_of ru) (h u _ (I.tok _) ru)

theorem getmeth_ok {m : Str} {g : Addr} {pl : Sem Bool} {Q : Value × List Value → Shared → Prop} (I : Inv X pins σ H s) (e : H a = some (.ins C dx fs)) (c : Cls X.K C) (k : Meth X.K C m g) (l : fs.lookup m = none)
    (h : Q (.ref g, [.ref a]) s) : wpAny (model X.prog X.w) A (getMethod (.ref a) m pl) Q E s := by
  obtain ⟨mA, O, r, _, _, _⟩ := ins_get I.hok e
  have hn : mA m = none := RelO.none_of (by rw [← l]; exact r m)
  exact get_meth I.kIn O (c.get m) k.at_ k.fn hn h

theorem setattr_ok {y : V} {u : Value} {Q : Unit → Shared → Prop} (I : Inv X pins σ H s) (e : H a = some (.ins C dx fs)) (c : Cls X.K C) (n : NoAttr X.K C f) (hl : fs.length < 1000) (ry : RelV y u)
    (h : ∀ s', Inv X pins σ (upd H a (.ins C dx (putF f y fs))) s' → Q () s') : wpAny (model X.prog X.w) A (setAttr (.ref a) f u) Q E s := by
  obtain ⟨mA, O, r, wi, _, ho⟩ := ins_get I.hok e
  have hz : (fs.map (·.1)).length ≤ sizeLine := by rw [List.length_map, sizeLine_eq]; omega
  refine set_map I.kIn O c.sa c.po n.taker c.hd wi hz fun h' O' sb => h _ ?_
  have hd : ∃ o, h'.get? dx = some o := let ⟨o, _, _, e', _⟩ := O'.ns; ⟨o, e'⟩
  refine I.write (x := a) (e := dx) (by rw [e]; exact True.intro) (.inr ho) (fun b q hb z => (sb.2 b hb).trans z) hd ?_
  refine ⟨by rw [upd_ne O.ne]; exact ho, ?_, O.ne, O'.obj, _, O'.ns, fun g => ?_, fun g hg => ?_⟩
  · have := length_putF f y fs; omega
  · show RelO ((putF f y fs).lookup g) (if g = f then some u else mA g)
    rw [lookup_putF]
    by_cases q : g = f
    · rw [if_pos q, if_pos q]; exact ry
    · rw [if_neg q, if_neg q]; exact r g
  · by_cases q : g = f
    · rw [q]; exact (keys_putF f y fs).1
    · refine (keys_putF f y fs).2 g (wi g fun z => hg ?_)
      show (if g = f then some u else mA g) = none
      rw [if_neg q]; exact z

theorem Inv.made (I : Inv X pins σ H s) : Inv X pins σ (upd (upd H s.heap.objs.size (.own (s.heap.objs.size + 1))) (s.heap.objs.size + 1) (.ins C s.heap.objs.size []))
    { s with heap := (s.heap.push PySem.W.emptyDict).push (PySem.W.instObj C s.heap.objs.size) } := by
  have e1 : (s.heap.push PySem.W.emptyDict).get? s.heap.objs.size = some PySem.W.emptyDict := Heap.get?_push_size s.heap rfl
  have e2 : ((s.heap.push PySem.W.emptyDict).push (PySem.W.instObj C s.heap.objs.size)).get? (s.heap.objs.size + 1) = some (PySem.W.instObj C s.heap.objs.size) := by
    have := Heap.get?_push_size (s.heap.push PySem.W.emptyDict) (o := PySem.W.instObj C s.heap.objs.size) rfl
    rwa [Heap.size_push] at this
  have e3 : (s.heap.push PySem.W.emptyDict).Ns s.heap.objs.size (fun _ => none) := ⟨PySem.W.emptyDict, #[], _, e1, rfl, (fun e he => absurd he (by simp)), fun _ => rfl⟩
  have I1 := I.laid (a := s.heap.objs.size) (o := .own (s.heap.objs.size + 1)) (h' := s.heap.push PySem.W.emptyDict) (t' := s.toks) (fun b u q => Heap.get?_push_of_some _ q) (Nat.le_refl _) ⟨_, e1⟩
  refine I1.laid (a := s.heap.objs.size + 1) (o := .ins C s.heap.objs.size []) (t' := s.toks) (fun b u q => Heap.get?_push_of_some _ q) (Nat.le_of_eq (Heap.size_push _ _)) ?_
  have ne : s.heap.objs.size ≠ s.heap.objs.size + 1 := Nat.ne_of_lt (Nat.lt_succ_self _)
  refine ⟨by rw [upd_ne ne, upd_same], Nat.zero_le _, ne, e2, fun _ => none, (Heap.Ns1.of_empty e3).at fun o q => Heap.get?_push_of_some _ q, fun _ => True.intro, fun y hy => absurd rfl hy⟩

theorem attr_of {prog : Program} {w : World} {env : Env} {e : Expr} {f : Str} {pos : Pos} {s : Shared} {Q : Value → Shared → Prop} (hb : attributeBase e f env (eval e env) = eval e env)
    (h : wpAny (model prog w) A (eval e env) (fun o s₁ => wpAny (model prog w) A (getAttr o f true) Q E s₁) E s) : wpAny (model prog w) A (eval (.Attribute e f pos) env) Q E s :=
  Attribute_any_ h (by rw [arm_eval_Attribute, hb])
end

def tFld (K : PySem.W.Frag) (ta : TE) (f : Str) : TE := fun σ H Q => ta σ H fun x H1 => ∃ a C dx fs v, x = .ref a ∧ H1 a = some (.ins C dx fs) ∧ Cls K C ∧ NoAttr K C f ∧ fs.lookup f = some v ∧ Q v H1
def sFld (K : PySem.W.Frag) (ta tv : TE) (f : Str) : TS := fun D σ H => tv σ H fun y H1 => ta σ H1 fun x H2 => ∃ a C dx fs, x = .ref a ∧ H2 a = some (.ins C dx fs) ∧ Cls K C ∧ NoAttr K C f ∧ fs.length < 1000 ∧
  D.nx σ (upd H2 a (.ins C dx (putF f y fs)))
section
variable {X : Cx} {o e value : Expr} {f : Str} {pos pos' tpos : Pos} {ta tv : TE}
theorem pe_fld (he : PE X e ta) (hb : attributeBase e f X.env (eval e X.env) = eval e X.env) : PE X (.Attribute e f pos) (tFld X.K ta f) := by
  intro pins s σ H Q I h
  refine attr_of hb (thn (he pins s σ H _ I h) fun u s1 ⟨x, H1, I1, rx, a, C, dx, fs, v, ex, ea, c, n, l, q⟩ => ?_)
  subst ex
  obtain rfl : u = Value.ref a := rx
  exact getattr_ok I1 ea c n l fun u' s2 I2 ru => ⟨v, H1, I2, ru, q⟩
theorem ps_fld (ha : PE X o ta) (hv : PE X value tv) (hs : swapsWith value (some (.Attribute o f pos')) pos.line X.env = pure false) : PS X (.Assign [.Attribute o f pos'] value pos) (sFld X.K ta tv f) := by
  intro pins s σ H D I h
  refine plainObj_wpAny_Assign_Attribute (thn (hv pins s σ H _ I h) fun u s1 ⟨y, H1, I1, ry, q⟩ => thn (ha pins s1 σ H1 _ I1 q) fun ov s2 ⟨x, H2, I2, rx, a, C, dx, fs, ex, ea, c, n, l, q2⟩ => ?_) hs
  subst ex
  obtain rfl : ov = Value.ref a := rx
  exact setattr_ok I2 ea c n l ry fun s3 I3 => ⟨σ, _, I3, q2⟩
end

section
variable {X : Cx} {pins : List (Addr × Obj)} {σ : St} {H : Hp} {s : Shared} {A : Around} {E : Value → Shared → Prop} {Q : Value → Shared → Prop} {c : Value} {b : Bool}
inductive TyOf (K : PySem.W.Frag) (H : Hp) : V → Value → Prop where
  | non : TyOf K H .non (.type "NoneType")
  | bl (x : Bool) : TyOf K H (.bl x) (.type "bool")
  | int (i : Int) : TyOf K H (.int i) (.type "int")
  | str (x : Str) : TyOf K H (.str x) (.type "str")
  | flt (x : UInt64) : TyOf K H (.flt x) (.type "float")
  | lst {a : Addr} {xs : List V} (e : H a = some (.lst xs)) : TyOf K H (.ref a) (.type "list")
  | frz {a : Addr} {o : Obj} {xs : List V} (e : H a = some (.frz o (.lst xs))) : TyOf K H (.ref a) (.type "list")
  | tup {a : Addr} {xs : List V} (e : H a = some (.tup xs)) : TyOf K H (.ref a) (.type "tuple")
  | dK {a : Addr} {kvs : List (Key × V)} (e : H a = some (.dK kvs)) : TyOf K H (.ref a) (.type "dict")
  | dT {a : Addr} {kvs : List (List Key × V)} (e : H a = some (.dT kvs)) : TyOf K H (.ref a) (.type "dict")
  | ins {a C dx : Addr} {fs : List (Str × V)} (e : H a = some (.ins C dx fs)) (cl : Cls K C) (ha : PySem.W.findIn K (.ref C) "__class__" = some (some (.builtin "object.__class__")))
      (hn : PySem.W.specialIn K (.builtin "object.__class__") "__get__" = some (some (.builtin "getset_descriptor.__get__"))) (htk : PySem.W.takesIn K (.builtin "object.__class__") = some true)
      (hm : PySem.W.mroIn K C (.type "object") = some true) : TyOf K H (.ref a) (.ref C)
theorem isinst_ok {x : V} {u t : Value} (I : Inv X pins σ H s) (rx : RelV x u) (ty : TyOf X.K H x t) (e : PySem.W.kitOne X.K t c = some b) (h : ∀ tk, Q (.bool b) { s with toks := tk }) :
    wpAny (model X.prog X.w) A (call (.builtin "isinstance") [u, c]) Q E s := by
  cases ty with
  | non => cases (show u = Value.none from rx); exact PySem.W.kia_one PySem.W.kitx_none I.kIn True.intro e (fun z => nomatch z) h
  | bl y => cases (show u = Value.bool y from rx); exact PySem.W.kia_one PySem.W.kitx_bool I.kIn True.intro e (fun z => nomatch z) h
  | int i => obtain ⟨t, q⟩ := (show ∃ t, u = Value.int i t from rx); cases q; exact PySem.W.kia_one PySem.W.kitx_int I.kIn True.intro e (fun z => nomatch z) h
  | str y => obtain ⟨t, q⟩ := (show ∃ t, u = Value.str y t from rx); cases q; exact PySem.W.kia_one PySem.W.kitx_str I.kIn True.intro e (fun z => nomatch z) h
  | flt y => obtain ⟨t, q⟩ := (show ∃ t, u = Value.float y t from rx); cases q; exact PySem.W.kia_one PySem.W.kitx_float I.kIn True.intro e (fun z => nomatch z) h
  | @lst a xs ea =>
    cases (show u = Value.ref a from rx)
    obtain ⟨_, _, n, _, h1⟩ := (show ObjOk X.prog X.w H s.heap a (.lst xs) from I.hok a _ ea)
    exact PySem.W.kia_one PySem.W.kitx_list I.kIn ⟨_, h1, rfl⟩ e (fun z => nomatch z) h
  | @frz a ob xs ea =>
    cases (show u = Value.ref a from rx)
    obtain ⟨_, _, _, n, _, h1⟩ := (show ObjOk X.prog X.w H s.heap a (.frz ob (.lst xs)) from I.hok a _ ea)
    exact PySem.W.kia_one PySem.W.kitx_list I.kIn ⟨_, h1, rfl⟩ e (fun z => nomatch z) h
  | @tup a xs ea =>
    cases (show u = Value.ref a from rx)
    obtain ⟨_, _, _, p⟩ := (show ObjOk X.prog X.w H s.heap a (.tup xs) from I.hok a _ ea)
    obtain ⟨o, h1, h2, _⟩ := p
    exact PySem.W.kia_one PySem.W.kitx_tuple I.kIn ⟨o, h1, h2⟩ e (fun z => nomatch z) h
  | @dK a kvs ea =>
    cases (show u = Value.ref a from rx)
    obtain ⟨_, _, vs, _, p⟩ := (show ObjOk X.prog X.w H s.heap a (.dK kvs) from I.hok a _ ea)
    obtain ⟨o, es, ep, h1, h2, _⟩ := p
    exact PySem.W.kia_one PySem.W.kitx_dict I.kIn ⟨o, h1, h2.1⟩ e (fun z => nomatch z) h
  | @dT a kvs ea =>
    cases (show u = Value.ref a from rx)
    obtain ⟨_, _, xs, _, o, es, ep, h1, h2, _⟩ := (show ObjOk X.prog X.w H s.heap a (.dT kvs) from I.hok a _ ea)
    exact PySem.W.kia_one PySem.W.kitx_dict I.kIn ⟨o, h1, h2.1⟩ e (fun z => nomatch z) h
  | @ins a C dx fs ea cl ha hn htk hm =>
    cases (show u = Value.ref a from rx)
    obtain ⟨mA, O, _⟩ := ins_get I.hok ea
    obtain ⟨od, J, _⟩ := O.look
    exact PySem.W.kia_one (PySem.W.kitx_own (cl.get _) cl.hd ha hn htk hm) I.kIn J e (fun z => nomatch z) h
end
end L2

namespace L2
open PySem PySem.Spec PyProof.Rows

structure Room (k : Nat) (A : Around) : Prop where
  hd : A.handled = none
  dp : A.depth + 3 * k + 5 < recursionLimit
  un : A.units + 16 * k + 200 < cLine
  gd : A.guards = some []
theorem Room.mono {j k : Nat} {A : Around} (r : Room k A) (h : j ≤ k) : Room j A := ⟨r.hd, by have := r.dp; omega, by have := r.un; omega, r.gd⟩
theorem Room.deeper {k : Nat} {A : Around} (r : Room (k + 1) A) (env : Env) : Room k (A.deeper env) :=
  ⟨r.hd, by have := r.dp; show A.depth + 1 + 3 * k + 5 < _; omega, by have := r.un; show A.units + 3 + 16 * k + 200 < _; omega, r.gd⟩
theorem Room.in1 {k : Nat} {A : Around} (r : Room (k + 1) A) : Room k A.in1 :=
  ⟨r.hd, by have := r.dp; show A.depth + 3 * k + 5 < _; omega, by have := r.un; show A.units + 1 + 16 * k + 200 < _; omega, r.gd⟩
theorem make_depth {A : Around} {C : Addr} {us : List Value} {kw : List (Str × Value)} : (A.under (.builtin "type.__call__" ⟨.ref C :: us, kw⟩)).depth = A.depth + 1 := by
  first | rfl | simp [Around.under, Code.weight, Code.isCreation, Code.isGuard, Code.isCaller, Code.frames, Code.isFrame, guardIds]
theorem make_units {A : Around} {C : Addr} {us : List Value} {kw : List (Str × Value)} : (A.under (.builtin "type.__call__" ⟨.ref C :: us, kw⟩)).units = A.units + 1 := by
  first | rfl | simp [Around.under, Code.cUnits, Code.frames, Code.isFrame]
theorem Room.make {k : Nat} {A : Around} (r : Room (k + 1) A) (C : Addr) (us : List Value) (kw : List (Str × Value)) : Room k (A.under (.builtin "type.__call__" ⟨.ref C :: us, kw⟩)) :=
  ⟨r.hd, by have := r.dp; rw [make_depth]; omega, by have := r.un; rw [make_units]; omega, by simp [Around.under, Code.guards, Code.isGuard, guardIds, pushGuards, r.gd]⟩
theorem Room.depth {k : Nat} {A : Around} (r : Room k A) : A.depth < recursionLimit := by have := r.dp; omega
theorem Room.units {k : Nat} {A : Around} (r : Room k A) : A.units + 64 < cLine := by have := r.un; omega
def tNil : TA := fun _ H Q => Q [] H
def tCons (ta : TE) (tr : TA) : TA := fun σ H Q => ta σ H fun x H1 => tr σ H1 fun xs H2 => Q (x :: xs) H2
section
variable {X : Cx} {e : Expr} {es : List Expr} {te : TE} {t : TA} {pos : Pos}
theorem pa_nil : PA X [] tNil := fun _ _ _ _ H Q I h => Calls.spliced_nil ⟨[], H, I, .nil, h⟩
theorem pa_cons (ha : PE X e te) (hr : PA X es t) (hs : starEach (e :: es) X.env = (false, eval e X.env) :: starEach es X.env := by rfl) : PA X (e :: es) (tCons te t) := by
  intro pos pins s σ H Q I h
  rw [hs]
  show wpAny _ _ (spliced ((false, eval e X.env) :: backTo pos (starEach es X.env))) _ _ s
  refine Calls.spliced_cons (thn (ha pins s σ H _ I h) fun u s1 ⟨x, H1, I1, r1, q1⟩ => ?_)
  exact thn (hr pos pins s1 σ H1 _ I1 q1) fun us s2 ⟨xs, H2, I2, r2, q2⟩ => ⟨x :: xs, H2, I2, .cons r1 r2, q2⟩

def tTup (t : TA) : TE := fun σ H Q => t σ H fun xs H1 => xs.length ≤ sizeLine ∧ ∀ p, H1 p = none → Q (.ref p) (upd H1 p (.tup xs))
def tLst (t : TA) : TE := fun σ H Q => t σ H fun xs H1 => xs.length ≤ sizeLine ∧ ∀ p, H1 p = none → Q (.ref p) (upd H1 p (.lst xs))
theorem pe_tup {x1} (h : PA X es t) : PE X (.Tuple es x1 pos) (tTup t) := by
  intro pins s σ H Q I hq
  refine wpAny_Tuple_spliced (thn (h pos pins s σ H _ I hq) fun us s1 ⟨xs, H1, I1, r, z, q⟩ => ⟨by rw [← r.length]; exact z, ?_⟩)
  have hf : H1 s1.heap.objs.size = none := I1.hok.fresh (Nat.le_refl _)
  refine ⟨.ref s1.heap.objs.size, upd H1 s1.heap.objs.size (.tup xs), I1.laid (t' := s1.toks) (fun b u e => Heap.get?_push_of_some _ e) (Nat.le_refl _) ?_, rfl, q _ hf⟩
  exact ⟨z, us, r, ⟨_, Heap.get?_push_size _ rfl, rfl, _, rfl⟩⟩
theorem pe_lst (h : PA X es t) : PE X (.List es pos) (tLst t) := by
  intro pins s σ H Q I hq
  refine wpAny_List_spliced (thn (h pos pins s σ H _ I hq) fun us s1 ⟨xs, H1, I1, r, z, q⟩ => ⟨by rw [← r.length]; exact z, ?_⟩)
  have hf : H1 s1.heap.objs.size = none := I1.hok.fresh (Nat.le_refl _)
  refine ⟨.ref s1.heap.objs.size, upd H1 s1.heap.objs.size (.lst xs), I1.laid (t' := s1.toks) (fun b u e => Heap.get?_push_of_some _ e) (Nat.le_refl _) ?_, rfl, q _ hf⟩
  exact ⟨z, us, 0, r, Heap.get?_push_size _ rfl⟩
end

abbrev Sp := List V → Hp → VK → XK → Prop
abbrev CXT := List Env → Hp → Shared → XK → Value → Shared → Prop

structure Env0 (P : Program) (w : World) (K : PySem.W.Frag) (mg : Str → Option Value) (base : Heap) (A : Around) (outer : List Env) (s : Shared) (H : Hp) : Prop where
  frames : A.frames = some outer
  mod : Mod K mg base
  bs : ∀ b o, base.get? b = some o → s.heap.get? b = some o ∧ H b = none
  bsz : base.objs.size ≤ s.heap.objs.size
  funs : s.heap.FunFrames base outer
  frf : ∀ b ∈ frs outer, H b = none
  hok : HOk P w H s.heap
  bare : AllBare s.gens
def CE (outer : List Env) (P : Program) (w : World) (H : Hp) (s : Shared) (Q : VK) (u : Value) (s' : Shared) : Prop :=
  ∃ v H', s'.os = s.os ∧ AllBare s'.gens ∧ Un (frs outer) [] H H' s.heap s'.heap ∧ HOk P w H' s'.heap ∧ RelV v u ∧ Q v H'
def CR (CX : CXT) (outer : List Env) (P : Program) (w : World) (H : Hp) (s : Shared) (Q : VK) (E : XK) (r : Result) (s' : Shared) : Prop :=
  match r with
  | .ok (.ret u) => CE outer P w H s Q u s'
  | .ok _ => False
  | .error e => CX outer H s E e s'
structure FnOk (P : Program) (w : World) (K : PySem.W.Frag) (mg : Str → Option Value) (base : Heap) (CX : CXT) (k : Nat) (f : Addr) (fd : FuncData) (ps : List Str) (sp : Sp) : Prop where
  len : ∀ vs H Q E, sp vs H Q E → vs.length = ps.length
  run : ∀ (A : Around) (outer : List Env) (s : Shared) (H : Hp) (args : Args) (us : List Value) (vs : List V) (Q : VK) (E : XK), Room k A → Env0 P w K mg base A outer s H → BindsTo s fd args (ps.zip us) → Vals vs us → sp vs H Q E →
    codeAny (model P w) A (.call (.ref f) args) (CR CX outer P w H s Q E) s
theorem FnOk.mono {P : Program} {w : World} {K : PySem.W.Frag} {mg : Str → Option Value} {base : Heap} {CX : CXT} {j k : Nat} {f : Addr} {fd : FuncData} {ps : List Str} {sp : Sp} (F : FnOk P w K mg base CX j f fd ps sp) (h : j ≤ k) :
    FnOk P w K mg base CX k f fd ps sp := ⟨F.len, fun A outer s H args us vs Q E hr => F.run A outer s H args us vs Q E (hr.mono h)⟩
theorem Env0.make {P : Program} {w : World} {K : PySem.W.Frag} {mg : Str → Option Value} {base : Heap} {A : Around} {outer : List Env} {s : Shared} {H : Hp} (e : Env0 P w K mg base A outer s H) (C : Addr) (us : List Value) (kw : List (Str × Value)) :
    Env0 P w K mg base (A.under (.builtin "type.__call__" ⟨.ref C :: us, kw⟩)) outer s H := ⟨by first | exact e.frames | (simpa [Around.under, Code.envs, Code.isFrame, pushEnvs] using e.frames), e.mod, e.bs, e.bsz, e.funs, e.frf, e.hok, e.bare⟩
theorem Env0.in1 {P : Program} {w : World} {K : PySem.W.Frag} {mg : Str → Option Value} {base : Heap} {A : Around} {outer : List Env} {s : Shared} {H : Hp} (e : Env0 P w K mg base A outer s H) :
    Env0 P w K mg base A.in1 outer s H := ⟨e.frames, e.mod, e.bs, e.bsz, e.funs, e.frf, e.hok, e.bare⟩

section
variable {X : Cx} {pins : List (Addr × Obj)} {σ : St} {H : Hp} {s s' : Shared}
theorem Inv.env0 (I : Inv X pins σ H s) : Env0 X.prog X.w X.K X.mg X.base X.A X.stack s H :=
  ⟨I.ok.frames, I.ok.mod, I.bs, Nat.le_trans I.ok.bsz I.sz, I.stack, I.stkFree, I.hok, I.bare⟩
theorem Inv.after {Q : VK} {u : Value} (I : Inv X pins σ H s) (h : CE X.stack X.prog X.w H s Q u s') : EP X pins σ Q u s' := by
  obtain ⟨v, H', os, bare, un, hok, r, q⟩ := h
  obtain ⟨hh, g, d, t, os'⟩ := s'
  obtain rfl : os' = s.os := os
  exact ⟨v, H', I.call (h' := hh) (g' := g) (d' := d) (t' := t) (ch := []) un hok bare (fun b z => absurd z (by simp)), r, q⟩
end

def tCall (sp : Sp) (dvs : List V) (E : XK) (t : TA) : TE := fun σ H Q => t σ H fun vs H1 => sp (vs ++ dvs) H1 Q E
def tMake (C : Addr) (sp : Sp) (dvs : List V) (E : XK) (t : TA) : TE := fun σ H Q => t σ H fun vs H1 => ∀ x dx, H1 x = none → H1 dx = none → dx ≠ x →
  sp (.ref x :: (vs ++ dvs)) (upd (upd H1 dx (.own x)) x (.ins C dx [])) (fun v H2 => v = .non ∧ Q (.ref x) H2) E

def Binds (K : PySem.W.Frag) (fd : FuncData) (ps : List Str) (ds : List Value) : Prop :=
  ∀ (s : Shared) (us : List Value), K.In s.heap → (us ++ ds).length = ps.length → BindsTo s fd ⟨us, []⟩ (ps.zip (us ++ ds))
theorem Binds.all {K : PySem.W.Frag} {fd : FuncData} {ps : List Str} (h : ∀ us : List Value, us.length = ps.length → bindArgs fd ⟨us, []⟩ = pure (ps.zip us)) : Binds K fd ps [] := fun s us _ hl => by
  rw [List.append_nil] at hl ⊢
  exact .of_eq (h us hl)

def Passes (CX : CXT) (X : Cx) (E : XK) : Prop := ∀ (pins : List (Addr × Obj)) (σ : St) (H : Hp) (s : Shared) (e : Value) (s' : Shared), Inv X pins σ H s → CX X.stack H s E e s' → X.xe e s'

section
variable {X : Cx} {CX : CXT} {k : Nat} {f C : Addr} {fd : FuncData} {ps : List Str} {sp : Sp} {dvs : List V} {ds : List Value} {E : XK} {x m : Str} {p pos apos : Pos} {e o : Expr} {es : List Expr} {ta : TE} {t : TA}

theorem run_fn {pins : List (Addr × Obj)} {σ : St} {H : Hp} {s : Shared} {Q : VK} {us : List Value} {vs : List V} (F : FnOk X.prog X.w X.K X.mg X.base CX k f fd ps sp) (hr : Room k X.A) (hb : Binds X.K fd ps ds) (hd : Vals dvs ds) (hx : Passes CX X E)
    (I : Inv X pins σ H s) (r : Vals vs us) (h : sp (vs ++ dvs) H Q E) : wpAny (model X.prog X.w) X.A (call (.ref f) us) (EP X pins σ Q) X.xe s := by
  have r2 : Vals (vs ++ dvs) (us ++ ds) := r.append hd
  have hl : (us ++ ds).length = ps.length := by rw [← r2.length]; exact F.len _ _ _ _ h
  refine wpAny_call (codeAny_mono (F.run X.A X.stack s H ⟨us, []⟩ (us ++ ds) (vs ++ dvs) Q E hr I.env0 (hb s us I.kIn hl) r2 h) fun r s' hq => ?_)
  cases r with
  | error e => exact hx pins σ H s e s' I hq
  | ok fl =>
    cases fl with
    | ret u => exact I.after hq
    | next => exact False.elim hq
    | brk => exact False.elim hq
    | cont => exact False.elim hq

theorem pe_call (F : FnOk X.prog X.w X.K X.mg X.base CX k f fd ps sp) (hr : Room k X.A) (hg : Gl X x) (hm : X.mg x = some (.ref f)) (hk : PySem.W.keepIn X.K (.ref f) = true) (hb : Binds X.K fd ps ds) (hd : Vals dvs ds) (hx : Passes CX X E)
    (ha : PA X (e :: es) t) (hdb : (x == ("__debug__" : Str)) = false := by decide) (he : starEach (e :: es) X.env = (false, eval e X.env) :: starEach es X.env := by rfl) (hpl : (backTo pos (starEach es X.env)).any (·.1) = false := by rfl) :
    PE X (.Call (.Name x p) (e :: es) [] pos) (tCall sp dvs E t) := by
  intro pins s σ H Q I h
  refine wpAny_Call_Name_kw (ld_glob I hg hm ?_ hdb)
  refine PySem.W.callWith_K (h₀ := X.base) I.ok.mod.kin hk (thn (ha pos pins s σ H _ I h) fun us s1 ⟨vs, H1, I1, r, q⟩ => ⟨I1.kIn, ?_⟩) he hpl
  exact run_fn F hr hb hd hx I1 r q
structure Mk (K : PySem.W.Frag) (C f : Addr) : Prop where
  makes : PySem.W.makesIn K C = true
  init : PySem.W.findIn K (.ref C) "__init__" = some (some (.ref f))
  fn : PySem.W.isFn K (.ref f) = true
  kp : PySem.W.keepIn K (.ref C) = true

theorem run_make {pins : List (Addr × Obj)} {σ : St} {H : Hp} {s : Shared} {Q : VK} {us : List Value} {vs : List V} (M : Mk X.K C f) (F : FnOk X.prog X.w X.K X.mg X.base CX k f fd ps sp) (hr : Room (k + 1) X.A) (hb : Binds X.K fd ps ds) (hd : Vals dvs ds)
    (hx : Passes CX X E) (I : Inv X pins σ H s) (r : Vals vs us)
    (h : ∀ x dx, H x = none → H dx = none → dx ≠ x → sp (.ref x :: (vs ++ dvs)) (upd (upd H dx (.own x)) x (.ins C dx [])) (fun v H2 => v = .non ∧ Q (.ref x) H2) E) :
    wpAny (model X.prog X.w) X.A (call (.ref C) us) (EP X pins σ Q) X.xe s := by
  have hq := h (s.heap.objs.size + 1) s.heap.objs.size (I.hok.fresh (Nat.le_succ _)) (I.hok.fresh (Nat.le_refl _)) (Nat.ne_of_lt (Nat.lt_succ_self _))
  have I2 := Inv.made (C := C) I
  have r2 : Vals (V.ref (s.heap.objs.size + 1) :: (vs ++ dvs)) (Value.ref (s.heap.objs.size + 1) :: (us ++ ds)) := .cons rfl (r.append hd)
  have hl : (Value.ref (s.heap.objs.size + 1) :: us ++ ds).length = ps.length := by
    have e := r2.length
    rw [F.len _ _ _ _ hq] at e
    exact e.symm
  refine wpAny_call (make_map (f := f) I.kIn M.makes M.init (beq_iff_eq.mp M.fn) (codeAny_mono (F.run _ X.stack _ _ ⟨Value.ref (s.heap.objs.size + 1) :: us, []⟩ (Value.ref (s.heap.objs.size + 1) :: (us ++ ds)) _ _ E (hr.make C us [])
    (I2.env0.make C us []) (hb _ (Value.ref (s.heap.objs.size + 1) :: us) I2.kIn hl) r2 hq) fun r s' hq' => ?_))
  cases r with
  | error e => exact hx pins σ _ _ e s' I2 hq'
  | ok fl =>
    cases fl with
    | ret u =>
      obtain ⟨v, H', I3, rv, ev, q3⟩ := I2.after hq'
      subst ev
      exact ⟨rv, ⟨V.ref (s.heap.objs.size + 1), H', I3, rfl, q3⟩⟩
    | next => exact False.elim hq'
    | brk => exact False.elim hq'
    | cont => exact False.elim hq'
theorem pe_make (M : Mk X.K C f) (F : FnOk X.prog X.w X.K X.mg X.base CX k f fd ps sp) (hr : Room (k + 1) X.A) (hg : Gl X x) (hm : X.mg x = some (.ref C)) (hb : Binds X.K fd ps ds) (hd : Vals dvs ds) (hx : Passes CX X E)
    (ha : PA X (e :: es) t) (hdb : (x == ("__debug__" : Str)) = false := by decide) (he : starEach (e :: es) X.env = (false, eval e X.env) :: starEach es X.env := by rfl) (hpl : (backTo pos (starEach es X.env)).any (·.1) = false := by rfl) :
    PE X (.Call (.Name x p) (e :: es) [] pos) (tMake C sp dvs E t) := by
  intro pins s σ H Q I h
  refine wpAny_Call_Name_kw (ld_glob I hg hm ?_ hdb)
  refine PySem.W.callWith_K (h₀ := X.base) I.ok.mod.kin M.kp (thn (ha pos pins s σ H _ I h) fun us s1 ⟨vs, H1, I1, r, q⟩ => ⟨I1.kIn, ?_⟩) he hpl
  exact run_make M F hr hb hd hx I1 r q
theorem pe_make0 (M : Mk X.K C f) (F : FnOk X.prog X.w X.K X.mg X.base CX k f fd ps sp) (hr : Room (k + 1) X.A) (hg : Gl X x) (hm : X.mg x = some (.ref C)) (hb : Binds X.K fd ps ds) (hd : Vals dvs ds) (hx : Passes CX X E)
    (hdb : (x == ("__debug__" : Str)) = false := by decide) : PE X (.Call (.Name x p) [] [] pos) (tMake C sp dvs E tNil) := by
  intro pins s σ H Q I h
  refine wpAny_Call_Name_kw (ld_glob I hg hm ?_ hdb)
  exact PySem.W.callWith_K0 I.kIn M.kp (run_make (us := []) M F hr hb hd hx I .nil h)
end

section
variable {X : Cx} {CX : CXT} {k : Nat} {f C : Addr} {fd : FuncData} {ps ks : List Str} {sp : Sp} {E : XK} {x m : Str} {p pos apos kpos : Pos} {e o : Expr} {es : List Expr} {kws : List Keyword} {te ta : TE} {t tk : TA} {nm : Option Str}
structure KBinds (K : PySem.W.Frag) (fd : FuncData) (ps ks : List Str) (g : List Value → List Value → List Value) (gV : List V → List V → List V) : Prop where
  to : ∀ (s : Shared) (us ws : List Value), K.In s.heap → (g us ws).length = ps.length → BindsTo s fd ⟨us, ks.zip ws⟩ (ps.zip (g us ws))
  rel : ∀ {vs : List V} {us : List Value} {zs : List V} {ws : List Value}, Vals vs us → Vals zs ws → Vals (gV vs zs) (g us ws)
def tCallK (sp : Sp) (gV : List V → List V → List V) (E : XK) (t tk : TA) : TE := fun σ H Q => t σ H fun vs H1 => tk σ H1 fun zs H2 => sp (gV vs zs) H2 Q E
variable {g : List Value → List Value → List Value} {gV : List V → List V → List V}
end

structure FnScope (N P : List Str) (sc : Scope) : Prop where
  kind : sc.kind = .function
  co : sc.isCoroutine = false
  gen : sc.isGenerator = false
  nd : N.Nodup
  pre : N.take P.length = P
  par : ∀ x ∈ P, sc.names.lookup x = some .local ∨ sc.names.lookup x = some .cell
  nofree : ∀ y ∈ sc.names, y.2 ≠ .free

theorem bindL_out {kindOf : Str → Option NameKind} {x : Str} : ∀ {binds : List (Str × Value)} {m : Str → Option Value}, (∀ v, (x, v) ∉ binds) → bindL kindOf binds m x = m x
  | [], _, _ => rfl
  | (n, v) :: r, m, h => by
    unfold bindL
    rw [bindL_out fun w hw => h w (List.mem_cons_of_mem _ hw)]
    split
    · have : x ≠ n := by rintro rfl; exact h v List.mem_cons_self
      simp [this]
    · rfl
theorem bindC_out {kindOf : Str → Option NameKind} {x : Str} : ∀ {binds : List (Str × Value)} {m : Str → Option Value}, (∀ v, (x, v) ∉ binds) → bindC kindOf binds m x = m x
  | [], _, _ => rfl
  | (n, v) :: r, m, h => by
    unfold bindC
    rw [bindC_out fun w hw => h w (List.mem_cons_of_mem _ hw)]
    split
    · rfl
    · have : x ≠ n := by rintro rfl; exact h v List.mem_cons_self
      simp [this]
theorem bindL_get {kindOf : Str → Option NameKind} {x : Str} {v : Value} : ∀ {P : List Str} {vs : List Value} {i : Nat} {m : Str → Option Value}, P.Nodup → P[i]? = some x → vs[i]? = some v → kindOf x = some .local →
    bindL kindOf (P.zip vs) m x = some v
  | [], _, _, _, _, h, _, _ => by simp at h
  | _ :: _, [], _, _, _, _, h, _ => by simp at h
  | p :: P, w :: vs, 0, m, nd, h1, h2, hk => by
    simp at h1 h2; subst h1; subst h2
    show bindL kindOf ((p, w) :: P.zip vs) m p = _
    unfold bindL
    rw [bindL_out fun v hv => (List.nodup_cons.mp nd).1 (List.of_mem_zip hv).1, if_pos hk]
    simp
  | p :: P, w :: vs, i + 1, m, nd, h1, h2, hk => by
    show bindL kindOf ((p, w) :: P.zip vs) m x = _
    unfold bindL
    exact bindL_get (i := i) (List.nodup_cons.mp nd).2 (by simpa using h1) (by simpa using h2) hk
theorem bindC_get {kindOf : Str → Option NameKind} {x : Str} {v : Value} : ∀ {P : List Str} {vs : List Value} {i : Nat} {m : Str → Option Value}, P.Nodup → P[i]? = some x → vs[i]? = some v → kindOf x ≠ some .local →
    bindC kindOf (P.zip vs) m x = some v
  | [], _, _, _, _, h, _, _ => by simp at h
  | _ :: _, [], _, _, _, _, h, _ => by simp at h
  | p :: P, w :: vs, 0, m, nd, h1, h2, hk => by
    simp at h1 h2; subst h1; subst h2
    show bindC kindOf ((p, w) :: P.zip vs) m p = _
    unfold bindC
    rw [bindC_out fun v hv => (List.nodup_cons.mp nd).1 (List.of_mem_zip hv).1, if_neg hk]
    simp
  | p :: P, w :: vs, i + 1, m, nd, h1, h2, hk => by
    show bindC kindOf ((p, w) :: P.zip vs) m x = _
    unfold bindC
    exact bindC_get (i := i) (List.nodup_cons.mp nd).2 (by simpa using h1) (by simpa using h2) hk

def start (N : List Str) (vs : List V) : St := vs.map some ++ List.replicate (N.length - vs.length) none

def cxOf (CX : CXT) (P : Program) (w : World) (K : PySem.W.Frag) (mg : Str → Option Value) (base : Heap) (N : List Str) (qual : Str) (scope : Scope) (f : Addr) (cd : Value) (A : Around) (outer : List Env) (s : Shared) (H : Hp) (E : XK) : Cx where
  prog := P
  w := w
  K := K
  mg := mg
  base := base
  A := A.deeper (envOfC qual scope s.heap.objs.size f cd)
  N := N
  s₀ := s
  H₀ := H
  env := envOfC qual scope s.heap.objs.size f cd
  outer := outer
  stack := envOfC qual scope s.heap.objs.size f cd :: outer
  ex := []
  calm := true
  fn := fun _ => true
  pn := []
  xe := fun e s' => wpAny (model P w) (A.deeper (envOfC qual scope s.heap.objs.size f cd)) (leaving (envOfC qual scope s.heap.objs.size f cd) e) (fun _ s'' => CX outer H s E e s'') (fun e' s'' => CX outer H s E e' s'') s'

theorem cell_has {sc : Scope} {n : Nat} {x : Str} (h : sc.names.lookup x = some .cell) : ∃ c, (cellsFrom n sc.names []).lookup x = some c := by
  have q := PySem.W.cellsFrom_some sc.names n [] (.inl h)
  exact Option.isSome_iff_exists.mp q

theorem inv_start {CX : CXT} {P : Program} {w : World} {K : PySem.W.Frag} {mg : Str → Option Value} {base : Heap} {N ps : List Str} {qual : Str} {scope : Scope} {f : Addr} {cd : Value} {A : Around} {outer : List Env} {s s1 : Shared} {H : Hp} {E : XK} {us : List Value} {vs : List V}
    (S : FnScope N ps scope) (hd : A.handled = none) (e0 : Env0 P w K mg base A outer s H) (hl : vs.length = ps.length) (r : Vals vs us)
    (x : InCallC s s.heap.objs.size (bindL (envOfC qual scope s.heap.objs.size f cd).kindOf (ps.zip us) fun _ => none) (cellsFrom (s.heap.objs.size + 1) scope.names []) (bindC (envOfC qual scope s.heap.objs.size f cd).kindOf (ps.zip us) fun _ => none) s1) :
    Inv (cxOf CX P w K mg base N qual scope f cd A outer s H E) [] (start N vs) H s1 := by
  have hpl : ps.length ≤ N.length := by have := congrArg List.length S.pre; rw [List.length_take] at this; omega
  obtain ⟨h1, tk, rfl, hk⟩ := x.done
  have noA : ∀ b : Addr, b ∉ (cxOf CX P w K mg base N qual scope f cd A outer s H E).ex := fun b z => absurd (show b ∈ ([] : List Addr) from z) (by simp)
  refine ⟨⟨e0.mod, S.kind, rfl, rfl, Nat.le_refl _, fun y z c h1 h2 => ?_, fun y hy => ?_, fun y c _ h => ?_, fun _ => hd, Around.frames_deeper e0.frames, .inr ⟨rfl, rfl⟩, fun b z => absurd z (noA b), e0.bs, e0.bsz, fun b _ _ => noA b, fun b z => absurd z (noA b), e0.funs, e0.frf⟩,
    rfl, e0.bare, Un.kept hk, ⟨_, x.toInCall.ns, fun i y v h1 h2 h3 => ?_⟩, fun y c h => ⟨_, x.cell y c h⟩, e0.hok.fresh (Nat.le_refl _), fun y c h => ?_, fun p hp => absurd (show p ∈ ([] : List (Addr × Obj)) from hp) (by simp), e0.hok.kept hk, ?_⟩
  · exact name_of_addr x.apart (PySem.mem_of_lookup h1) (PySem.mem_of_lookup h2)
  · have hy : scope.names.lookup y = some .cell ∨ scope.names.lookup y = some .free := hy
    rcases hy with hy | hy
    · exact cell_has hy
    · exact absurd rfl (S.nofree _ (PySem.mem_of_lookup hy))
  · exact Nat.le_of_lt (x.above y c (PySem.mem_of_lookup h))
  · have hi : i < vs.length := by
      unfold start at h2
      by_cases hi : i < vs.length
      · exact hi
      · rw [List.getElem?_append_right (by simpa using hi)] at h2
        rw [List.getElem?_replicate] at h2
        split at h2 <;> cases h2
    have ha : vs[i]? = some v := by
      unfold start at h2
      rw [List.getElem?_append_left (by simpa using hi), List.getElem?_map] at h2
      cases e : vs[i]? with
      | none => rw [e] at h2; cases h2
      | some a => rw [e] at h2; cases h2; rfl
    obtain ⟨u, hu, rv⟩ := r.get ha
    have hp : ps[i]? = some y := by
      rw [← S.pre, List.getElem?_take_of_lt (by omega)]; exact h1
    have ndP : ps.Nodup := by rw [← S.pre]; exact S.nd.sublist (List.take_sublist _ _)
    refine ⟨u, rv, ?_⟩
    rcases S.par y (List.mem_of_getElem? hp) with k | k
    · exact .inl ⟨k, bindL_get ndP hp hu k⟩
    · obtain ⟨c, e⟩ := cell_has (n := s.heap.objs.size + 1) k
      refine .inr ⟨.inl k, c, e, ?_⟩
      have q := x.cell y c e
      rw [bindC_get ndP hp hu (by show scope.names.lookup y ≠ _; rw [k]; decide)] at q
      exact q
  · exact e0.hok.fresh (Nat.le_of_lt (x.above y c (PySem.mem_of_lookup h)))
  · unfold start
    show _ = N.length
    rw [List.length_append, List.length_map, List.length_replicate]
    omega

theorem fn_of {CX : CXT} {P : Program} {w : World} {K : PySem.W.Frag} {mg : Str → Option Value} {base : Heap} {k : Nat} {f : Addr} {name qual : Str} {params : Arguments} {body : List Stmt} {scope : Scope} {dV kV doc pm cdv ct oc : Value} {an od : Option Addr}
    {osl : Array (Option Value)} {N ps : List Str} {sp : Sp} (lk : K.lookup f = some ⟨oc, od, .func (PySem.W.fnOf name qual params body scope dV kV doc pm an cdv ct), osl⟩) (hcd : PySem.W.codeIn K cdv qual = true) (S : FnScope N ps scope)
    (len : ∀ vs H Q E, sp vs H Q E → vs.length = ps.length)
    (hbody : ∀ (A : Around) (outer : List Env) (s : Shared) (H : Hp) (vs : List V) (Q : VK) (E : XK), Room k (A.deeper (envOfC qual scope s.heap.objs.size f cdv)) → sp vs H Q E →
      ∃ t, PSs (cxOf CX P w K mg base N qual scope f cdv A outer s H E) body t ∧ t { nx := fun _ H' => Q .non H', rt := Q } (start N vs) H) :
    FnOk P w K mg base CX (k + 1) f (PySem.W.fnOf name qual params body scope dV kV doc pm an cdv ct) ps sp := by
  refine ⟨len, fun A outer s H args us vs Q E hr e0 hb r hsp => ?_⟩
  have hl := len _ _ _ _ hsp
  have KX : K.In s.heap := e0.mod.kin.keeps fun b o e => (e0.bs b o e).1
  have lim : s.heap.NoLimit := e0.mod.nolimit.keeps fun b o e => (e0.bs b o e).1
  have hkind : ∀ y ∈ ps.zip us, scope.names.lookup y.1 = some .local ∨ (scope.names.lookup y.1 = some .cell ∧ ((cellsFrom (s.heap.objs.size + 1) scope.names []).lookup y.1).isSome = true) := fun ⟨n, v⟩ hy => by
    rcases S.par n (List.of_mem_zip hy).1 with q | q
    · exact .inl q
    · exact .inr ⟨q, PySem.W.cellsFrom_some _ _ _ (.inl q)⟩
  refine codeAny_call_function hr.depth (KX _ _ lk) rfl S.co S.gen rfl (PySem.W.codeRec_of KX hcd) (hb _ _ _ _ ?_)
  refine wpAny_newFunctionEnv_cells S.kind hkind fun env he s1 x => ?_
  subst he
  refine ⟨lim.keeps x.toInCall.keep, codeAny_func ?_⟩
  obtain ⟨t, ht, hq⟩ := hbody A outer s H vs Q E (hr.deeper _) hsp
  have I : Inv (cxOf CX P w K mg base N qual scope f cdv A outer s H E) [] (start N vs) H s1 := inv_start S hr.hd e0 hl r x
  refine wpAny_mono (ht [] s1 (start N vs) H _ I hq) (fun fl s' hs => ?_) fun e s' hs => hs
  have fin : ∀ {σ' : St} {H' : Hp} {v : V} {u : Value}, Inv (cxOf CX P w K mg base N qual scope f cdv A outer s H E) [] σ' H' s' → RelV v u → Q v H' → CE outer P w H s Q u s' :=
    fun {σ' H' v u} J rv q => ⟨v, H', J.os, J.bare, J.base, J.hok, rv, q⟩
  cases fl with
  | ret u =>
    obtain ⟨v, σ', H', J, rv, q⟩ := hs
    exact fin J rv q
  | next =>
    obtain ⟨σ', H', J, q⟩ := hs
    exact fin (v := V.non) (u := Value.none) J rfl q
  | brk =>
    obtain ⟨_, _, _, q⟩ := hs
    exact False.elim q
  | cont =>
    obtain ⟨_, _, _, q⟩ := hs
    exact False.elim q
end L2

namespace L2
open PySem PySem.Spec PyProof.Rows
section
variable {X : Cx} {x : Str} {p pos : Pos} {e : Expr} {es : List Expr} {t : TA} {id T : String} {r : List V → Hp → VK → Prop}

def tCB (r : List V → Hp → VK → Prop) (t : TA) : TE := fun σ H Q => t σ H fun vs H1 => r vs H1 Q
theorem pe_callB (hc : CallR X (.builtin id) r) (hg : Gl X x) (hm : X.mg x = none) (hv : bootBuiltins x = some (.builtin id)) (ha : PA X (e :: es) t) (hn : x ≠ "__name__" := by decide) (hdb : (x == ("__debug__" : Str)) = false := by decide)
    (he : starEach (e :: es) X.env = (false, eval e X.env) :: starEach es X.env := by rfl) (hpl : (backTo pos (starEach es X.env)).any (·.1) = false := by rfl) : PE X (.Call (.Name x p) (e :: es) [] pos) (tCB r t) := by
  intro pins s σ H Q I h
  refine wpAny_Call_Name_kw (ld_blt I hg hm hv ?_ hn hdb)
  exact PyProof.Rows.callWith_builtin1 (thn (ha pos pins s σ H _ I h) fun us s1 ⟨vs, H1, I1, r1, q1⟩ => hc pins s1 σ H1 vs us Q I1 r1 q1) he hpl
theorem pe_callTy (hc : CallR X (.type T) r) (hg : Gl X x) (hm : X.mg x = none) (hv : bootBuiltins x = some (.type T)) (ha : PA X (e :: es) t) (hn : x ≠ "__name__" := by decide) (hdb : (x == ("__debug__" : Str)) = false := by decide)
    (he : starEach (e :: es) X.env = (false, eval e X.env) :: starEach es X.env := by rfl) (hpl : (backTo pos (starEach es X.env)).any (·.1) = false := by rfl) : PE X (.Call (.Name x p) (e :: es) [] pos) (tCB r t) := by
  intro pins s σ H Q I h
  refine wpAny_Call_Name_kw (ld_blt I hg hm hv ?_ hn hdb)
  exact PyProof.Rows.callWith_type1 (thn (ha pos pins s σ H _ I h) fun us s1 ⟨vs, H1, I1, r1, q1⟩ => hc pins s1 σ H1 vs us Q I1 r1 q1) he hpl
end
end L2

namespace HT
open PySem PyProof.Rows

section
open PySem.SeqAt
open PySem.AutoSeq1 (wpAny_loadPart')
open PySem.MeetsSeq PySem.MeetsSeq2 PySem.MeetsSeq3

end

section
variable {prog : Program} {w : World} {A : Around} {E : Value → Shared → Prop} {s : Shared}

theorem cat_tup {t b : Addr} {vs ws : List Value} {Q : Value → Shared → Prop} (ht : IsTup s.heap t vs.toArray) (hb : IsTup s.heap b ws.toArray) (hv : vs ≠ [])
    (h1 : ws = [] → Q (.ref t) s) (h2 : ws ≠ [] → Q (.ref s.heap.objs.size) { s with heap := s.heap.push { cls := .type "tuple", data := .seq (vs ++ ws).toArray } })
    (hsz : vs.length + ws.length ≤ sizeLine) : wpAny (model prog w) A (binaryOp .Add (.ref t) (.ref b)) Q E s := by
  obtain ⟨⟨cls, dd, data, sl⟩, ho, hc, n, hd⟩ := id ht
  obtain ⟨⟨cls2, dd2, data2, sl2⟩, ho2, hc2, n2, hd2⟩ := id hb
  simp only at hc hd hc2 hd2
  subst hc hd hc2 hd2
  have e : vs.toArray ++ ws.toArray = (vs ++ ws).toArray := by simp
  by_cases hw : ws = []
  · exact concat_meets ⟨_, ho, rfl⟩ ⟨_, ho2, rfl⟩ noFill_tuple_add seq_tuple_add PySem.F.slot_tuple_add PySem.F.entry_tuple_add (PySem.F.args_tuple_add_2 _ _)
      (tuple_addW1 t b vs.toArray ws.toArray n n2 dd dd2 sl sl2 (by simpa using hv) (by simp [hw])) ⟨ho, ho2, h1 hw⟩
  · refine concat_meets ⟨_, ho, rfl⟩ ⟨_, ho2, rfl⟩ noFill_tuple_add seq_tuple_add PySem.F.slot_tuple_add PySem.F.entry_tuple_add (PySem.F.args_tuple_add_2 _ _)
      (tuple_addW2 t b vs.toArray ws.toArray n n2 dd dd2 sl sl2 (by simpa using hv) (by simpa using hw) (by rw [List.size_toArray, List.size_toArray]; exact hsz)) ⟨ho, ho2, ?_⟩
    rw [e]
    exact h2 hw

def sIx (n d : Nat) : Option Int → Nat
  | none => d
  | some v => if v < 0 then (v + (n : Int)).toNat else min v.toNat n
theorem sIx_none (n d : Nat) : sIx n d none = d := rfl
theorem sIx_nat (n d k : Nat) : sIx n d (some (k : Int)) = min k n := by
  show (if (k : Int) < 0 then ((k : Int) + (n : Int)).toNat else min (k : Int).toNat n) = min k n
  rw [if_neg (by omega), Int.toNat_natCast]
theorem sIx_le (n d : Nat) (hd : d ≤ n) (o : Option Int) : sIx n d o ≤ n := by
  cases o with
  | none => exact hd
  | some v =>
    show (if v < 0 then (v + (n : Int)).toNat else min v.toNat n) ≤ n
    by_cases hv : v < 0
    · rw [if_pos hv]; omega
    · rw [if_neg hv]; exact Nat.min_le_right _ _
theorem clip_eq (v : Int) (n d : Nat) : (if v < 0 then max (v + (n : Int)) 0 else min v (n : Int)) = ((sIx n d (some v) : Nat) : Int) := by
  show (if v < 0 then max (v + (n : Int)) 0 else min v (n : Int)) = (((if v < 0 then (v + (n : Int)).toNat else min v.toNat n) : Nat) : Int)
  by_cases hv : v < 0
  · simp only [if_pos hv]; omega
  · simp only [if_neg hv]; omega
theorem adjust_gen (lo hi : Option Int) (n : Nat) : Builtin.Slice.sliceAdjust lo hi 1 (n : Int) = (((sIx n 0 lo : Nat) : Int), ((sIx n n hi : Nat) : Int)) := by
  have h1 : ¬ ((1 : Int) < 0) := by omega
  unfold Builtin.Slice.sliceAdjust
  simp only [h1, if_false]
  refine Prod.ext ?_ ?_
  · cases lo with
    | none => rfl
    | some v => exact clip_eq v n 0
  · cases hi with
    | none => rfl
    | some v => exact clip_eq v n n
theorem places_gen (i j : Nat) : Builtin.Slice.slicePlaces (i : Int) (j : Int) 1 = j - i := by
  unfold Builtin.Slice.slicePlaces
  have h1 : (1 : Int) > 0 := by omega
  simp only [h1, if_true, Int.ediv_one]
  split <;> omega
theorem slicePart_ {v : Value} {o : Option Int} {Q : Option Int → Shared → Prop} (p : IsPart v o) (h : Q o s) : wpAny (model prog w) A (Builtin.Slice.slicePartIndex v) Q E s := by
  cases p with
  | none => exact slicePart_none h
  | int i t => exact slicePart_int h
theorem sliceApplied_gen {sl : Addr} {vl vu : Value} {lo hi : Option Int} {n : Nat} {Q : Int × Int × Nat → Shared → Prop} (hs : s.heap.IsSliceOf sl vl vu .none) (pl : IsPart vl lo) (pu : IsPart vu hi)
    (h : Q (((sIx n 0 lo : Nat) : Int), 1, sIx n n hi - sIx n 0 lo) s) : wpAny (model prog w) A (Builtin.Slice.sliceApplied (.ref sl) (pure (n : Int))) Q E s := by
  obtain ⟨os, hos, hcs, hds⟩ := id hs
  unfold Builtin.Slice.sliceApplied Builtin.Slice.sliceFields
  refine wpAny_bind (wpAny_bind (wpAny_field hos hds (x := vl) rfl (wpAny_bind (wpAny_field hos hds (x := vu) rfl (wpAny_bind (wpAny_field hos hds (x := .none) rfl (wpAny_pure ?_)))))))
  refine wpAny_bind (slicePart_none ?_)
  show wpAny _ _ (if ((1 : Int) == 0) = true then _ else _) _ _ s
  rw [if_neg (by decide)]
  refine wpAny_bind (slicePart_ pl (wpAny_bind (slicePart_ pu (wpAny_bind (wpAny_pure ?_)))))
  show wpAny _ _ (match Builtin.Slice.sliceAdjust lo hi 1 (n : Int) with | (lo, hi) => pure (lo, (1 : Int), Builtin.Slice.slicePlaces lo hi 1)) _ _ s
  rw [adjust_gen lo hi n]
  show wpAny _ _ (pure (((sIx n 0 lo : Nat) : Int), (1 : Int), Builtin.Slice.slicePlaces ((sIx n 0 lo : Nat) : Int) ((sIx n n hi : Nat) : Int) 1)) _ _ s
  rw [places_gen]
  exact wpAny_pure h
theorem pick_gen (xs : Array Value) (i k : Nat) : ((List.range k).filterMap fun (m : Nat) => xs[((i : Int) + (m : Int) * 1).toNat]?).toArray = ((xs.toList.drop i).take k).toArray := by
  have e : (fun (m : Nat) => xs[((i : Int) + (m : Int) * 1).toNat]?) = fun m => xs[i + m]? := by
    funext m
    have : ((i : Int) + (m : Int) * 1).toNat = i + m := by omega
    rw [this]
  rw [e]
  have := pick_run xs i k
  rw [List.filterMap_map] at this
  have e2 : ((fun x => xs[x]?) ∘ fun x => i + x) = fun m => xs[i + m]? := rfl
  rw [e2] at this
  rw [this]

theorem getItem_tuple_cut {t sl : Addr} {items : Array Value} {vl vu : Value} {lo hi : Option Int} {Q : Value → Shared → Prop} (ht : IsTup s.heap t items) (hs : s.heap.IsSliceOf sl vl vu .none) (pl : IsPart vl lo) (pu : IsPart vu hi)
    (hw : ¬ (sIx items.size 0 lo = 0 ∧ sIx items.size items.size hi = items.size))
    (h : Q (.ref s.heap.objs.size) { s with heap := s.heap.push { cls := .type "tuple", data := .seq ((items.toList.drop (sIx items.size 0 lo)).take (sIx items.size items.size hi - sIx items.size 0 lo)).toArray } })
    (hsz : items.size ≤ sizeLine) : wpAny (model prog w) A (getItem (.ref t) (.ref sl)) Q E s := by
  have htake : sizeOk (.seq ((items.toList.drop (sIx items.size 0 lo)).take (sIx items.size items.size hi - sIx items.size 0 lo)).toArray) := by
    show ((items.toList.drop (sIx items.size 0 lo)).take (sIx items.size items.size hi - sIx items.size 0 lo)).toArray.size ≤ sizeLine
    rw [List.size_toArray, List.length_take, List.length_drop, Array.length_toList]
    omega
  have hj : sIx items.size items.size hi ≤ items.size := sIx_le _ _ (Nat.le_refl _) hi
  obtain ⟨os, hos, hcs, hds⟩ := id hs
  have hTs : s.TypeIs (.ref sl) "slice" := ⟨os, hos, hcs⟩
  unfold getItem
  try with_reducible refine wpAny_holding ?_
  first | refine wpAny_bind (wpAny_pure ?_) | skip
  refine wpAny_bind (wpAny_sequenceKey ht.typeIs (by decide) ?_)
  refine wpAny_bind (wpAny_callSpecial?_slot (name := Str.ofString "__getitem__") ht.typeIs PyProof.Rows.slot_tuple_getitem
    (wpAny_call_entry PyProof.Rows.slot_tuple_getitem ht.typeIs entry_tuple_getitem ?_ (args_tuple_getitem _ _)))
  show wpAny _ _ (Builtin.Tuple.tupleItemsOf (.ref t) >>= _) _ _ s
  refine wpAny_bind (tupleItemsOf_ ht ?_)
  refine wpAny_bind (wpAny_typeOf hTs ?_)
  rw [if_pos (by decide)]
  refine wpAny_bind (sliceApplied_gen hs pl pu ?_)
  have hno : ¬ ((((sIx items.size 0 lo : Nat) : Int) == 0 && (1 : Int) == 1 && (sIx items.size items.size hi - sIx items.size 0 lo) == items.size) = true) := by
    intro q
    rw [Bool.and_eq_true, Bool.and_eq_true] at q
    have q1 : ((sIx items.size 0 lo : Nat) : Int) = 0 := eq_of_beq q.1.1
    have q2 : sIx items.size items.size hi - sIx items.size 0 lo = items.size := eq_of_beq q.2
    exact hw ⟨by omega, by omega⟩
  show wpAny _ _ (if (((sIx items.size 0 lo : Nat) : Int) == 0 && (1 : Int) == 1 && (sIx items.size items.size hi - sIx items.size 0 lo) == items.size) = true then _ else _) _ _ s
  rw [if_neg hno, pick_gen]
  first
    | exact wpAny_bind (m := Builtin.Tuple.tupleExact _) (wpAny_newObj_type (wpAny_pure ⟨_, rfl, wpAny_pure h⟩) htake)
    | exact wpAny_bind (m := Builtin.Tuple.tupleExact _) (wpAny_newObj_type (wpAny_bind (wpAny_pure (wpAny_pure ⟨_, rfl, wpAny_pure h⟩))) htake)
    | exact wpAny_bind (wpAny_bind (m := Builtin.Tuple.tupleExact _) (wpAny_newObj_type (wpAny_pure (wpAny_pure ⟨_, rfl, wpAny_pure h⟩)) htake))
    | exact wpAny_bind (wpAny_bind (m := Builtin.Tuple.tupleExact _) (wpAny_newObj_type (wpAny_pure ⟨_, rfl, wpAny_pure h⟩) htake))
end
end HT

namespace L2
open PySem PySem.Spec PyProof.Rows

abbrev TO := St → Hp → (Option Int → Hp → Prop) → Prop
def PO (X : Cx) (e : Option Expr) (t : TO) : Prop :=
  ∀ (pins : List (Addr × Obj)) (s : Shared) (σ : St) (H : Hp) (Q : Option Int → Hp → Prop), Inv X pins σ H s → t σ H Q →
    wpAny (model X.prog X.w) X.A (evalPart e X.env) (fun u s' => ∃ o H', Inv X pins σ H' s' ∧ IsPart u o ∧ Q o H') X.xe s
def tNoPart : TO := fun _ H Q => Q none H
def tPart (t : TE) : TO := fun σ H Q => t σ H fun x H1 => ∃ i, x = .int i ∧ Q (some i) H1

section
variable {X : Cx} {e : Expr} {te : TE} {lo hi : Option Expr} {tl th : TO} {pos p2 : Pos}

theorem po_none : PO X none tNoPart := by
  intro pins s σ H Q I h
  rw [evalPart_none]
  exact wpAny_pure ⟨none, H, I, .none, h⟩
theorem po_some (h : PE X e te) : PO X (some e) (tPart te) := by
  intro pins s σ H Q I hw
  rw [evalPart_some]
  refine thn (h pins s σ H _ I hw) fun u s1 ⟨x, H1, I1, r1, q1⟩ => ?_
  obtain ⟨i, rfl, q⟩ := q1
  obtain ⟨t, rfl⟩ := r1
  exact ⟨some i, H1, I1, .int i t, q⟩

def SlR (X : Cx) (r : V → Option Int → Option Int → Hp → VK → Prop) : Prop :=
  ∀ (pins : List (Addr × Obj)) (s : Shared) (σ : St) (H : Hp) (x : V) (v vl vu : Value) (lo hi : Option Int) (sl : Addr) (Q : VK), Inv X pins σ H s → RelV x v → s.heap.IsSliceOf sl vl vu .none → IsPart vl lo → IsPart vu hi → r x lo hi H Q →
    ∃ T id, typeLookup (.type T) "__getitem__" = pure (some (.builtin id)) ∧ s.TypeIs v T ∧ wpAny (model X.prog X.w) X.A (getItem v (.ref sl)) (EP X pins σ Q) X.xe s
theorem SlR.or {r r' : V → Option Int → Option Int → Hp → VK → Prop} (h : SlR X r) (h' : SlR X r') : SlR X (fun x lo hi H Q => r x lo hi H Q ∨ r' x lo hi H Q) := by
  intro pins s σ H x v vl vu lo hi sl Q I rx hs pl pu q
  rcases q with q | q
  · exact h pins s σ H x v vl vu lo hi sl Q I rx hs pl pu q
  · exact h' pins s σ H x v vl vu lo hi sl Q I rx hs pl pu q
def tSl (r : V → Option Int → Option Int → Hp → VK → Prop) (te : TE) (tl th : TO) : TE := fun σ H Q => te σ H fun x H1 => tl σ H1 fun l H2 => th σ H2 fun u H3 => r x l u H3 Q
theorem pe_slice {r : V → Option Int → Option Int → Hp → VK → Prop} (hr : SlR X r) (he : PE X e te) (hl : PO X lo tl) (hu : PO X hi th) : PE X (.Subscript e (.Slice lo hi none p2) pos) (tSl r te tl th) := by
  intro pins s σ H Q I h
  refine Subscript_ (thn (he pins s σ H _ I h) fun v s1 ⟨x, H1, I1, r1, q1⟩ => ?_)
  refine wpAny_Slice (thn (hl pins s1 σ H1 _ I1 q1) fun vl s2 ⟨l, H2, I2, pl, q2⟩ => thn (hu pins s2 σ H2 _ I2 q2) fun vu s3 ⟨u, H3, I3, pu, q3⟩ => ?_)
  rw [evalPart_none]
  refine wpAny_pure ?_
  have I4 : Inv X pins σ H3 { s3 with heap := s3.heap.push { cls := .type "slice", data := .fields #[vl, vu, .none] } } := I3.kept (t' := s3.toks) fun b ob q => Heap.get?_push_of_some _ q
  obtain ⟨T, id, hT, ht, hg⟩ := hr pins { s3 with heap := s3.heap.push { cls := .type "slice", data := .fields #[vl, vu, .none] } } σ H3 x v vl vu l u s3.heap.objs.size Q I4 r1 (Heap.IsSliceOf.new ..) pl pu q3
  show wpAny (model X.prog X.w) X.A (subscriptTail e (.Slice lo hi none p2) v (.ref s3.heap.objs.size)) (EP X pins σ Q) X.xe { s3 with heap := s3.heap.push { cls := .type "slice", data := .fields #[vl, vu, .none] } }
  exact tail_any (ops := [.ref s3.heap.objs.size, v]) ht hT hg (by with_unfolding_all rfl)

def cutV (xs : List V) (lo hi : Option Int) : List V := (xs.drop (HT.sIx xs.length 0 lo)).take (HT.sIx xs.length xs.length hi - HT.sIx xs.length 0 lo)
theorem cutV_length (xs : List V) (lo hi : Option Int) : (cutV xs lo hi).length ≤ xs.length := by
  unfold cutV
  rw [List.length_take, List.length_drop]
  omega
def rSlT (K : PySem.W.Frag) : V → Option Int → Option Int → Hp → VK → Prop := fun x lo hi H Q => ∃ a xs, x = .ref a ∧ SqT K H a xs ∧
  ¬ (HT.sIx xs.length 0 lo = 0 ∧ HT.sIx xs.length xs.length hi = xs.length) ∧ ∀ p, H p = none → Q (.ref p) (upd H p (.tup (cutV xs lo hi)))
theorem sl_tup : SlR X (rSlT X.K) := by
  intro pins s σ H x v vl vu lo hi sl Q I rx hs pl pu h
  obtain ⟨a, xs, rfl, hx, hw, q⟩ := h
  cases rx
  obtain ⟨its, r, ht, hz⟩ := I.tuple hx
  have hlen : its.toArray.size = xs.length := by rw [List.size_toArray]; exact r.length.symm
  refine ⟨"tuple", _, PyProof.Rows.slot_tuple_getitem.lookup, ht.typeIs, ?_⟩
  refine HT.getItem_tuple_cut ht hs pl pu (by rw [hlen]; exact hw) ?_ (by rw [hlen]; exact hz)
  rw [hlen]
  refine ⟨.ref s.heap.objs.size, _, I.laid (t' := s.toks) (o := .tup (cutV xs lo hi)) (fun b ob q => Heap.get?_push_of_some _ q) (Nat.le_refl _) ?_, rfl, q _ (I.hok.fresh (Nat.le_refl _))⟩
  exact ⟨Nat.le_trans (cutV_length xs lo hi) hz, _, (r.drop (HT.sIx xs.length 0 lo)).take (HT.sIx xs.length xs.length hi - HT.sIx xs.length 0 lo), IsTup.new _ _⟩

def rCatT (K : PySem.W.Frag) : R2 := fun x y H Q => ∃ a b xs ys, x = .ref a ∧ y = .ref b ∧ SqT K H a xs ∧ SqT K H b ys ∧ xs ≠ [] ∧ xs.length + ys.length ≤ sizeLine ∧
  (ys = [] → Q (.ref a) H) ∧ (ys ≠ [] → ∀ p, H p = none → Q (.ref p) (upd H p (.tup (xs ++ ys))))
theorem Vals.nil_iff {xs : List V} {us : List Value} (r : Vals xs us) : us = [] ↔ xs = [] := by
  cases r with
  | nil => simp
  | cons _ _ => simp
theorem op_catT : OpR X (binaryOp .Add) (rCatT X.K) := by
  intro pins s σ H x y v u Q I rx ry h
  obtain ⟨a, b, xs, ys, rfl, rfl, ha, hb, hx, hz, q1, q2⟩ := h
  cases rx
  cases ry
  obtain ⟨its, r1, p1, _⟩ := I.tuple ha
  obtain ⟨its2, r2, p2, _⟩ := I.tuple hb
  refine HT.cat_tup p1 p2 (fun z => hx (r1.nil_iff.mp z)) (fun z => ⟨.ref a, H, I, rfl, q1 (r2.nil_iff.mp z)⟩) (fun z => ?_) (by rw [← r1.length, ← r2.length]; exact hz)
  refine ⟨.ref s.heap.objs.size, _, I.laid (t' := s.toks) (o := .tup (xs ++ ys)) (fun b ob q => Heap.get?_push_of_some _ q) (Nat.le_refl _) ?_, rfl, q2 (fun w => z (r2.nil_iff.mpr w)) _ (I.hok.fresh (Nat.le_refl _))⟩
  exact ⟨by rw [List.length_append]; exact hz, _, r1.append r2, IsTup.new _ _⟩
end
end L2

namespace L2
open PySem PySem.Spec PyProof.Rows

def ixN (n : Nat) (i : Int) : Option Nat := if 0 ≤ i then (if i < n then some i.toNat else none) else if -(n : Int) ≤ i then some (i + n).toNat else none
def atI {α : Type} (xs : List α) (i : Int) : Option α := (ixN xs.length i).bind fun j => xs[j]?
theorem ixN_seq {n : Nat} {i : Int} {j : Nat} (h : ixN n i = some j) : seqIndex? i n = some j ∧ j < n ∧ -(n : Int) ≤ i ∧ i < n := by
  unfold ixN at h
  by_cases h0 : 0 ≤ i
  · rw [if_pos h0] at h
    by_cases h1 : i < n
    · rw [if_pos h1] at h
      have e : i.toNat = j := Option.some.inj h
      exact ⟨by rw [seqIndex_of h0 h1, e], by omega, by omega, h1⟩
    · rw [if_neg h1] at h; cases h
  · rw [if_neg h0] at h
    by_cases h1 : -(n : Int) ≤ i
    · rw [if_pos h1] at h
      have e : (i + n).toNat = j := Option.some.inj h
      exact ⟨by rw [seqIndex_neg (by omega) h1, e], by omega, h1, by omega⟩
    · rw [if_neg h1] at h; cases h
theorem atI_get {α : Type} {xs : List α} {i : Int} {v : α} (h : atI xs i = some v) : ∃ j, seqIndex? i xs.length = some j ∧ xs[j]? = some v ∧ j < xs.length ∧ -(xs.length : Int) ≤ i ∧ i < xs.length := by
  unfold atI at h
  cases e : ixN xs.length i with
  | none => rw [e] at h; cases h
  | some j =>
    rw [e] at h
    obtain ⟨h1, h2, h3, h4⟩ := ixN_seq e
    exact ⟨j, h1, h, h2, h3, h4⟩
theorem atI_nat {α : Type} {xs : List α} {j : Nat} {v : α} (h : xs[j]? = some v) : atI xs (j : Int) = some v := by
  have hj : j < xs.length := (List.getElem?_eq_some_iff.mp h).1
  have e : ixN xs.length (j : Int) = some j := by
    unfold ixN
    rw [if_pos (by omega), if_pos (by omega)]; simp
  unfold atI; rw [e]; exact h
def PlainIx (b : Expr) : Prop := ∀ o i, subscripted b false o i = operate [o, i] (getItem o i)
def IxR (X : Cx) (r : R2) : Prop :=
  ∀ (value slice : Expr) (pins : List (Addr × Obj)) (s : Shared) (σ : St) (H : Hp) (x y : V) (v u : Value) (Q : VK), Inv X pins σ H s → RelV x v → RelV y u → r x y H Q →
    subscripted slice false v u = operate [v, u] (getItem v u) → wpAny (model X.prog X.w) X.A (subscriptTail value slice v u) (EP X pins σ Q) X.xe s
def MtR (X : Cx) (id : String) (r : V → List V → Hp → VK → Prop) : Prop :=
  ∀ (pins : List (Addr × Obj)) (s : Shared) (σ : St) (H : Hp) (x : V) (xs : List V) (v : Value) (us : List Value) (Q : VK), Inv X pins σ H s → RelV x v → Vals xs us → r x xs H Q →
    wpAny (model X.prog X.w) X.A (call (.builtin id) (v :: us)) (EP X pins σ Q) X.xe s
section
variable {X : Cx} {a b : Expr} {ta tb : TE} {pos : Pos}
theorem IxR.or {r r' : R2} (h : IxR X r) (h' : IxR X r') : IxR X (fun x y H Q => r x y H Q ∨ r' x y H Q) := by
  intro value slice pins s σ H x y v u Q I rx ry q hs
  rcases q with q | q
  · exact h value slice pins s σ H x y v u Q I rx ry q hs
  · exact h' value slice pins s σ H x y v u Q I rx ry q hs
theorem MtR.or {id : String} {r r' : V → List V → Hp → VK → Prop} (h : MtR X id r) (h' : MtR X id r') : MtR X id (fun x xs H Q => r x xs H Q ∨ r' x xs H Q) := by
  intro pins s σ H x xs v us Q I rx rs q
  rcases q with q | q
  · exact h pins s σ H x xs v us Q I rx rs q
  · exact h' pins s σ H x xs v us Q I rx rs q
theorem pe_ix {r : R2} (hr : IxR X r) (ha : PE X a ta) (hb : PE X b tb) (hs : PlainIx b) : PE X (.Subscript a b pos) (tOp r ta tb) := by
  intro pins s σ H Q I h
  exact Subscript_ (binT ha hb I h fun v u s2 x y H2 I2 rx ry q => hr a b pins s2 σ H2 x y v u Q I2 rx ry q (hs _ _))

def rIxL (K : PySem.W.Frag) : R2 := fun x y H Q => ∃ p xs i v, x = .ref p ∧ y = .int i ∧ SqL K H p xs ∧ atI xs i = some v ∧ Q v H
def rIxT (K : PySem.W.Frag) : R2 := fun x y H Q => ∃ p xs i v, x = .ref p ∧ y = .int i ∧ SqT K H p xs ∧ atI xs i = some v ∧ Q v H
def rIxS : R2 := fun x y H Q => ∃ z i c, x = .str z ∧ y = .int i ∧ z.length ≤ sizeLine ∧ atI z.cps.toList i = some c ∧ Q (.str ⟨#[c]⟩) H
theorem ix_list : IxR X (rIxL X.K) := by
  intro value slice pins s σ H x y v u Q I rx ry h hs
  obtain ⟨p, xs, i, z, rfl, rfl, hq, he, q⟩ := h
  cases rx
  obtain ⟨t, rfl⟩ := ry
  obtain ⟨its, r, pl, hz⟩ := I.list hq
  obtain ⟨j, h1, h2, h3, h4, h5⟩ := atI_get he
  obtain ⟨w, ew, rw'⟩ := r.get h2
  have hl := r.length
  have hn := line63
  have fin : EP X pins σ Q w s := ⟨z, H, I, rw', q⟩
  by_cases h0 : 0 ≤ i
  · have hj : i.toNat = j := by
      rw [seqIndex_of h0 h5] at h1
      exact Option.some.inj h1
    exact item_listR pl.isList h0 (by omega) (by rw [hj]; simpa using ew) fin hs
  · have hj : (i + (its.toArray.size : Int)).toNat = j := by
      rw [seqIndex_neg (by omega) h4] at h1
      rw [List.size_toArray, ← hl]
      exact Option.some.inj h1
    exact subscriptTail_builtinR (x := w) pl.isList.typeIs slot_list_getitem.lookup
      (wpAny_getItem_list_neg (Q := fun r s' => r = w ∧ EP X pins σ Q r s') pl.isList (by omega) (by rw [List.size_toArray] <;> omega) (by omega) (by rw [hj]; simpa using ew) ⟨rfl, fin⟩) hs
theorem ix_tup : IxR X (rIxT X.K) := by
  intro value slice pins s σ H x y v u Q I rx ry h hs
  obtain ⟨p, xs, i, z, rfl, rfl, hq, he, q⟩ := h
  cases rx
  obtain ⟨t, rfl⟩ := ry
  obtain ⟨its, r, pl, hz⟩ := I.tuple hq
  obtain ⟨j, h1, h2, h3, h4, h5⟩ := atI_get he
  obtain ⟨w, ew, rw'⟩ := r.get h2
  have hl := r.length
  have hn := line63
  have fin : EP X pins σ Q w s := ⟨z, H, I, rw', q⟩
  exact subscriptTail_builtinR (x := w) pl.typeIs slot_tuple_getitem.lookup
    (getItem_tuple (j := j) (Q := fun r s' => r = w ∧ EP X pins σ Q r s') pl (by omega) (by omega) (by rw [List.size_toArray, ← hl]; exact h1) (by simpa using ew) ⟨rfl, fin⟩) hs
theorem ix_str : IxR X rIxS := by
  intro value slice pins s σ H x y v u Q I rx ry h hs
  obtain ⟨z, i, c, rfl, rfl, hz, he, q⟩ := h
  obtain ⟨t, rfl⟩ := rx
  obtain ⟨t', rfl⟩ := ry
  obtain ⟨j, h1, h2, h3, h4, h5⟩ := atI_get he
  have hl : z.cps.toList.length = z.length := by simp [Str.length]
  rw [hl] at h1 h4 h5
  have hn := line63
  exact tail_any (typeIs_str s z t) slot_str_getitem.lookup (getItem_str (c := c) (by
    have e1 : decide (i < -(2 ^ 63 : Int)) = false := decide_eq_false (by omega)
    have e2 : decide (i ≥ 2 ^ 63) = false := decide_eq_false (by omega)
    rw [e1, e2, Bool.or_false]) (by rw [h1]; simpa using h2) ⟨.str ⟨#[c]⟩, H, I.tok _, ⟨_, rfl⟩, q⟩) hs
def rIx (K : PySem.W.Frag) : R2 := fun x y H Q => rIxL K x y H Q ∨ rIxT K x y H Q ∨ rIxS x y H Q
theorem Inv.lst {pins : List (Addr × Obj)} {σ : St} {H : Hp} {s : Shared} {p : Addr} {xs : List V} (I : Inv X pins σ H s) (h : H p = some (.lst xs)) :
    ∃ (its : List Value) (n : Nat), Vals xs its ∧ s.heap.get? p = some { cls := .type "list", data := .seq its.toArray n } ∧ xs.length ≤ sizeLine := by
  obtain ⟨z, its, n, r, e⟩ := I.hok p _ h
  exact ⟨its, n, r, e, z⟩
theorem slice_bounds (lo hi : Option Int) (n : Nat) : (sliceBounds lo hi none n).1 = ((HT.sIx n 0 lo : Nat) : Int) ∧ (sliceBounds lo hi none n).2.1 = ((HT.sIx n n hi : Nat) : Int) ∧ (sliceBounds lo hi none n).2.2 = 1 := by
  refine ⟨?_, ?_, rfl⟩
  · cases lo with
    | none => simp [sliceBounds, HT.sIx]
    | some i =>
      simp only [sliceBounds, HT.sIx, Option.getD_none, show (1 : Int) > 0 by decide, if_true]
      by_cases h : i < 0
      · simp only [h, if_true] <;> omega
      · simp only [h, if_false] <;> omega
  · cases hi with
    | none => simp [sliceBounds, HT.sIx]
    | some i =>
      simp only [sliceBounds, HT.sIx, Option.getD_none, show (1 : Int) > 0 by decide, if_true]
      by_cases h : i < 0
      · simp only [h, if_true] <;> omega
      · simp only [h, if_false] <;> omega
theorem slicePick_cut (its : List Value) (lo hi : Option Int) : slicePick its.toArray lo hi none = ((its.drop (HT.sIx its.length 0 lo)).take (HT.sIx its.length its.length hi - HT.sIx its.length 0 lo)).toArray := by
  obtain ⟨h1, h2, h3⟩ := slice_bounds lo hi its.toArray.size
  unfold slicePick
  rw [h1, h2, h3]
  simp only [sliceRange_one, pick_run, List.size_toArray] <;> rfl
def rSlL (K : PySem.W.Frag) : V → Option Int → Option Int → Hp → VK → Prop := fun x lo hi H Q => ∃ a xs, x = .ref a ∧ SqL K H a xs ∧ ∀ p, H p = none → Q (.ref p) (upd H p (.lst (cutV xs lo hi)))
theorem sl_list : SlR X (rSlL X.K) := by
  intro pins s σ H x v vl vu lo hi sl Q I rx hs pl pu h
  obtain ⟨a, xs, rfl, hx, q⟩ := h
  cases rx
  obtain ⟨its, r, ht, hz⟩ := I.list hx
  have hlen := r.length
  refine ⟨"list", _, slot_list_getitem.lookup, ht.isList.typeIs, ?_⟩
  refine wpAny_getItem_list_slice ht.isList hs pl pu .none (by simp) ?_ (by rw [List.size_toArray] <;> omega)
  rw [slicePick_cut, ← hlen]
  refine ⟨.ref s.heap.objs.size, _, I.laid (t' := s.toks) (o := .lst (cutV xs lo hi)) (fun b ob q => Heap.get?_push_of_some _ q) (Nat.le_refl _) ?_, rfl, q _ (I.hok.fresh (Nat.le_refl _))⟩
  exact ⟨Nat.le_trans (cutV_length xs lo hi) hz, _, 0, (r.drop (HT.sIx xs.length 0 lo)).take (HT.sIx xs.length xs.length hi - HT.sIx xs.length 0 lo), Heap.get?_push_size _ rfl⟩

def flatV : V → Bool
  | .non => true
  | .bl _ => true
  | .int _ => true
  | .str _ => true
  | _ => false
def eqV : V → V → Bool
  | .non, .non => true
  | .bl a, .bl b => a == b
  | .bl a, .int b => (if a then 1 else 0) == b
  | .int a, .bl b => a == (if b then 1 else 0)
  | .int a, .int b => a == b
  | .str a, .str b => a == b
  | _, _ => false
theorem eqAt_V {A : Around} {s : Shared} {y x : V} {u v : Value} (ry : RelV y u) (rx : RelV x v) (fy : flatV y = true) (fx : flatV x = true) : SeqAt.EqAt A s u v (eqV y x) := by
  cases y with
  | non =>
    cases ry
    cases x with
    | non => cases rx; exact SeqAt.EqAt.same _
    | bl b => cases rx; exact SeqAt.EqAt.none_bool b
    | int b => obtain ⟨t, rfl⟩ := rx; exact SeqAt.EqAt.none_int b t
    | str b => obtain ⟨t, rfl⟩ := rx; exact SeqAt.EqAt.none_str b t
    | _ => exact absurd (show false = true from fx) Bool.false_ne_true
  | bl a =>
    cases ry
    cases x with
    | non => cases rx; exact SeqAt.EqAt.bool_none a
    | bl b => cases rx; exact SeqAt.EqAt.bool_bool a b
    | int b => obtain ⟨t, rfl⟩ := rx; exact SeqAt.EqAt.bool_int a b t
    | str b => obtain ⟨t, rfl⟩ := rx; exact SeqAt.EqAt.bool_str a b t
    | _ => exact absurd (show false = true from fx) Bool.false_ne_true
  | int a =>
    obtain ⟨t', rfl⟩ := ry
    cases x with
    | non => cases rx; exact SeqAt.EqAt.int_none a t'
    | bl b => cases rx; exact SeqAt.EqAt.int_bool a t' b
    | int b => obtain ⟨t, rfl⟩ := rx; exact SeqAt.EqAt.int_int a t' b t
    | str b => obtain ⟨t, rfl⟩ := rx; exact SeqAt.EqAt.int_str a t' b t
    | _ => exact absurd (show false = true from fx) Bool.false_ne_true
  | str a =>
    obtain ⟨t', rfl⟩ := ry
    cases x with
    | non => cases rx; exact SeqAt.EqAt.str_none a t'
    | bl b => cases rx; exact SeqAt.EqAt.str_bool a t' b
    | int b => obtain ⟨t, rfl⟩ := rx; exact SeqAt.EqAt.str_int a t' b t
    | str b => obtain ⟨t, rfl⟩ := rx; exact SeqAt.EqAt.str_str a t' b t
    | _ => exact absurd (show false = true from fx) Bool.false_ne_true
  | _ => exact absurd (show false = true from fy) Bool.false_ne_true
def eqU (x : V) (u : Value) : Bool := match u with
  | .none => eqV .non x
  | .bool b => eqV (.bl b) x
  | .int i _ => eqV (.int i) x
  | .str z _ => eqV (.str z) x
  | _ => false
theorem eqU_of {x y : V} {u : Value} (r : RelV y u) (f : flatV y = true) : eqU x u = eqV y x := by
  cases y with
  | non => cases r; rfl
  | bl b => cases r; rfl
  | int i => obtain ⟨t, rfl⟩ := r; rfl
  | str z => obtain ⟨t, rfl⟩ := r; rfl
  | _ => exact absurd (show false = true from f) Bool.false_ne_true
theorem any_eqU {x : V} : ∀ {xs : List V} {us : List Value}, Vals xs us → xs.all flatV = true → us.any (eqU x) = xs.any fun y => eqV y x
  | _, _, .nil, _ => rfl
  | y :: xs, u :: us, .cons r t, f => by
    rw [List.all_cons, Bool.and_eq_true] at f
    rw [List.any_cons, List.any_cons, eqU_of r f.1, any_eqU t f.2]
theorem mem_eqAt {A : Around} {s : Shared} {x : V} {v : Value} (rx : RelV x v) (fx : flatV x = true) : ∀ {xs : List V} {us : List Value}, Vals xs us → xs.all flatV = true → ∀ u ∈ us, SeqAt.EqAt A s u v (eqU x u)
  | _, _, .nil, _ => fun u hu => by cases hu
  | y :: xs, u :: us, .cons r t, f => fun u' hu => by
    rw [List.all_cons, Bool.and_eq_true] at f
    rcases List.mem_cons.mp hu with rfl | hu
    · rw [eqU_of r f.1]; exact eqAt_V r rx f.1 fx
    · exact mem_eqAt rx fx t f.2 u' hu
def inV (x : V) (xs : List V) : Bool := xs.any fun y => eqV y x
def rIn (K : PySem.W.Frag) (neg : Bool) : R2 := fun x y H Q => ∃ p xs, y = .ref p ∧ (SqL K H p xs ∨ SqT K H p xs) ∧ flatV x = true ∧ xs.all flatV = true ∧ Q (.bl (if neg then !inV x xs else inV x xs)) H
theorem op_in_seq : OpR X (compareOp .In) (rIn X.K false) := by
  intro pins s σ H x y v u Q I rx ry h
  obtain ⟨p, xs, rfl, hq, fx, fs, q⟩ := h
  cases ry
  rcases hq with hq | hq
  · obtain ⟨its, r, pl, hz⟩ := I.list hq
    refine SeqAt.in_listAt (eqU x) pl.isList (fun w hw => mem_eqAt rx fx r fs w (by simpa using hw)) ⟨.bl _, H, I, rfl, ?_⟩
    rw [show its.toArray.any (eqU x) = its.any (eqU x) by simp, any_eqU r fs]
    exact q
  · obtain ⟨its, r, pl, hz⟩ := I.tuple hq
    refine SeqAt.in_tupleAt (eqU x) pl (fun w hw => mem_eqAt rx fx r fs w (by simpa using hw)) ⟨.bl _, H, I, rfl, ?_⟩
    rw [show its.toArray.any (eqU x) = its.any (eqU x) by simp, any_eqU r fs]
    exact q
theorem call_len_seq : CallR X (.builtin "len") (fun xs H Q => ∃ p ys, xs = [.ref p] ∧ (SqL X.K H p ys ∨ SqT X.K H p ys) ∧ Q (.int ys.length) H) := by
  intro pins s σ H xs us Q I r h
  obtain ⟨p, ys, rfl, hq, q⟩ := h
  obtain ⟨u, rfl, rx⟩ := vals1 r
  cases rx
  have hn := line63
  rcases hq with hq | hq
  · obtain ⟨its, r', pl, hz⟩ := I.list hq
    have hlen := r'.length
    exact Calls.call_len_list pl.isList (by simp only [List.size_toArray] <;> omega) ⟨.int ys.length, H, I.tok _, ⟨s.toks + 1, by rw [List.size_toArray, hlen]⟩, q⟩
  · obtain ⟨its, r', pl, hz⟩ := I.tuple hq
    have hlen := r'.length
    exact len_tuple pl (by simp only [List.size_toArray] <;> omega) ⟨.int ys.length, H, I.tok _, ⟨s.toks + 1, by rw [List.size_toArray, hlen]⟩, q⟩
theorem CallR.or {f : Value} {r r' : List V → Hp → VK → Prop} (h : CallR X f r) (h' : CallR X f r') : CallR X f (fun xs H Q => r xs H Q ∨ r' xs H Q) := by
  intro pins s σ H xs us Q I rs q
  rcases q with q | q
  · exact h pins s σ H xs us Q I rs q
  · exact h' pins s σ H xs us Q I rs q
theorem call_list_of : CallR X (.type "list") (fun xs H Q => ∃ p ys, xs = [.ref p] ∧ (SqL X.K H p ys ∨ SqT X.K H p ys) ∧ ∀ l, H l = none → Q (.ref l) (upd H l (.lst ys))) := by
  intro pins s σ H xs us Q I r h
  obtain ⟨p, ys, rfl, hq, q⟩ := h
  obtain ⟨u, rfl, rx⟩ := vals1 r
  cases rx
  have fin : ∀ (its : List Value), Vals ys its → ys.length ≤ sizeLine → ∀ (h' : Heap) (c' : Nat), (∀ b o', s.heap.get? b = some o' → h'.get? b = some o') →
      h'.get? s.heap.objs.size = some { cls := .type "list", dict := none, data := .seq its.toArray c', slots := #[] } → EP X pins σ Q (.ref s.heap.objs.size) { s with heap := h' } := fun its r' hz h' c' kp e =>
    ⟨.ref s.heap.objs.size, _, I.laid (t' := s.toks) kp (Nat.le_refl _) (show ObjOk X.prog X.w _ h' _ (.lst ys) from ⟨hz, its, c', r', e⟩), rfl, q _ (I.hok.fresh (Nat.le_refl _))⟩
  rcases hq with hq | hq
  · obtain ⟨its, r', pl, hz⟩ := I.list hq
    have hlen := r'.length
    obtain ⟨o, ho, hc, n, hd⟩ := pl.isList
    exact call_list_seq p (.inl rfl) ho hc hd (fun h' c' kp e => fin its r' hz h' c' kp e) (by simp only [List.size_toArray] <;> omega)
  · obtain ⟨its, r', pl, hz⟩ := I.tuple hq
    have hlen := r'.length
    obtain ⟨o, ho, hc, n, hd⟩ := pl
    exact call_list_seq p (.inr rfl) ho hc hd (fun h' c' kp e => fin its r' hz h' c' kp e) (by simp only [List.size_toArray] <;> omega)
theorem call_tuple_of : CallR X (.type "tuple") (fun xs H Q => ∃ p ys, xs = [.ref p] ∧ ((SqL X.K H p ys ∧ ∀ l, H l = none → Q (.ref l) (upd H l (.tup ys))) ∨ (SqT X.K H p ys ∧ Q (.ref p) H))) := by
  intro pins s σ H xs us Q I r h
  obtain ⟨p, ys, rfl, h⟩ := h
  obtain ⟨u, rfl, rx⟩ := vals1 r
  cases rx
  rcases h with ⟨hq, q⟩ | ⟨hq, q⟩
  · obtain ⟨its, r', pl, hz⟩ := I.list hq
    have hlen := r'.length
    refine call_tuple_list pl.isList (fun h' kp => ?_) (by simp only [List.size_toArray] <;> omega)
    have I1 : Inv X pins σ H { s with heap := h' } := I.kept (t' := s.toks) kp
    have I2 : Inv X pins σ (upd H h'.objs.size (.tup ys)) { s with heap := h'.push { cls := .type "tuple", data := .seq its.toArray } } :=
      I1.laid (t' := s.toks) (fun b o e => Heap.get?_push_of_some _ e) (Nat.le_refl _) (show ObjOk X.prog X.w _ _ _ (.tup ys) from ⟨hz, its, r', IsTup.new _ _⟩)
    exact ⟨.ref h'.objs.size, _, I2, rfl, q _ (I1.hok.fresh (Nat.le_refl _))⟩
  · obtain ⟨its, r', pl, hz⟩ := I.tuple hq
    exact call_tuple_same pl ⟨.ref p, H, I, rfl, q⟩

def tyV (K : PySem.W.Frag) (T : String) (x : V) (H : Hp) : Prop := match x with
  | .str _ => T = "str"
  | .int _ => T = "int"
  | .ref p => (T = "list" ∧ ∃ xs, SqL K H p xs) ∨ (T = "tuple" ∧ ∃ o, K.lookup p = some o ∧ o.cls = .type "tuple" ∧ o.dict = none) ∨
      (T = "dict" ∧ ((∃ kvs, H p = some (.dK kvs)) ∨ ∃ kvs, H p = some (.dT kvs))) ∨ (T = "set" ∧ ∃ S n, H p = some (.set S n))
  | _ => False
theorem tyV_is {pins : List (Addr × Obj)} {σ : St} {H : Hp} {s : Shared} {T : String} {x : V} {v : Value} (I : Inv X pins σ H s) (r : RelV x v) (ty : tyV X.K T x H) :
    s.TypeIs v T ∧ ∀ a, v = .ref a → ∃ ob, s.heap.get? a = some ob ∧ ob.dict = none := by
  cases x with
  | str z =>
    obtain ⟨t, rfl⟩ := r
    cases (show T = "str" from ty)
    exact ⟨typeIs_str s z t, fun _ e => nomatch e⟩
  | int i =>
    obtain ⟨t, rfl⟩ := r
    cases (show T = "int" from ty)
    exact ⟨typeIs_int s i t, fun _ e => nomatch e⟩
  | ref p =>
    cases r
    rcases ty with ⟨rfl, xs, hq⟩ | ⟨rfl, o, hk, hc, hd⟩ | ⟨rfl, hk⟩ | ⟨rfl, S, n, hk⟩
    · obtain ⟨its, _, pl, _⟩ := I.list hq
      refine ⟨pl.isList.typeIs, fun a e => ?_⟩
      cases e
      obtain ⟨o, n, e, c, hd, _⟩ := pl
      exact ⟨o, e, hd⟩
    · refine ⟨⟨o, I.kIn p o hk, hc⟩, fun a e => ?_⟩
      cases e
      exact ⟨o, I.kIn _ o hk, hd⟩
    · have z : ∃ o, s.heap.get? p = some o ∧ o.ExactDict := by
        rcases hk with ⟨kvs, hk⟩ | ⟨kvs, hk⟩
        · obtain ⟨_, _, _, _, o, _, _, e, ex, _⟩ := I.hok p _ hk
          exact ⟨o, e, ex⟩
        · obtain ⟨_, _, _, _, o, _, _, e, ex, _⟩ := I.hok p _ hk
          exact ⟨o, e, ex⟩
      obtain ⟨o, e, ex⟩ := z
      refine ⟨⟨o, e, ex.1⟩, fun a e2 => ?_⟩
      cases e2
      exact ⟨o, e, ex.2.1⟩
    · obtain ⟨o, _, _, _, e, ex, _⟩ := I.hok p _ hk
      refine ⟨⟨o, e, ex.1⟩, fun a e2 => ?_⟩
      cases e2
      exact ⟨o, e, ex.2.1⟩
  | _ => exact False.elim ty
def tBM0 (K : PySem.W.Frag) (T : String) (r : V → List V → Hp → VK → Prop) (to : TE) : TE := fun σ H Q => to σ H fun x H1 => tyV K T x H1 ∧ r x [] H1 Q
def tBM (K : PySem.W.Frag) (T : String) (r : V → List V → Hp → VK → Prop) (to : TE) (t : TA) : TE := fun σ H Q => to σ H fun x H1 => tyV K T x H1 ∧ t σ H1 fun xs H2 => r x xs H2 Q
variable {o e : Expr} {es : List Expr} {to : TE} {t : TA} {name : Str} {apos cpos : Pos} {T id : String} {r : V → List V → Hp → VK → Prop}
theorem pe_bm (pa : PlainAttrs T) (slot : Slot T name id) (hty : typeOf (.builtin id) = pure (.type "method_descriptor")) (hm : MtR X id r) (ho : PE X o to) (ha : PA X (e :: es) t)
    (hbase : attributeBase o name X.env (eval o X.env) = eval o X.env := by rfl)
    (hfew : ((backTo cpos (starEach (e :: es) X.env)).all (fun x => !x.1) && (backToKw cpos (keywordEach [] X.env)).all (fun x => x.1.isSome)
      && decide ((e :: es).length + ([] : List Keyword).length + (if ([] : List Keyword).isEmpty then 0 else 1) < 30)) = true := by rfl)
    (hline : (apos.endLine == cpos.line) = true := by rfl) (hs : starEach (e :: es) X.env = (false, eval e X.env) :: starEach es X.env := by rfl) (hplain : (backTo cpos (starEach es X.env)).any (·.1) = false := by rfl) :
    PE X (.Call (.Attribute o name apos) (e :: es) [] cpos) (tBM X.K T r to t) := by
  intro pins s σ H Q I h
  refine wpAny_Call_method_late hbase hfew hline rfl (thn (ho pins s σ H _ I h) fun v s1 ⟨x, H1, I1, r1, ty, q1⟩ => ?_)
  obtain ⟨h1, h2⟩ := tyV_is I1 r1 ty
  refine ⟨T, id, pa, slot, hty, h1, h2, ?_⟩
  have hA := ha cpos pins s1 σ H1 _ I1 q1
  rw [hs] at hA ⊢
  refine Calls.callWith_builtin (by show (false || (backTo cpos (starEach es X.env)).any (·.1)) = false; rw [hplain] <;> rfl) (Calls.evalArgs_plain ?_)
  exact thn hA fun us s2 ⟨vs, H2, I2, r2, q2⟩ => hm pins s2 σ H2 x vs v us Q I2 r1 r2 q2
/- xs.append(e), list.index on a module's tuple .. are MtR facts of 06m -/
end
end L2

namespace L2
open PySem PySem.Spec PyProof.Rows

def MtM (X : Cx) (id : String) (r : V → List V → Hp → VK → Prop) : Prop :=
  ∀ (pins : List (Addr × Obj)) (s : Shared) (σ : St) (H : Hp) (x : V) (xs : List V) (v : Value) (us : List Value) (Q : VK), Inv X pins σ H s → RelV x v → Vals xs us → r x xs H Q →
    wpAny (model X.prog X.w) X.A (call (.builtin id) (v :: us)) (EP X pins σ Q) X.xe s

theorem Vals.one : ∀ {x : V} {us : List Value}, Vals [x] us → ∃ u, us = [u] ∧ RelV x u
  | _, _, .cons r .nil => ⟨_, rfl, r⟩
theorem Vals.two : ∀ {x y : V} {us : List Value}, Vals [x, y] us → ∃ u v, us = [u, v] ∧ RelV x u ∧ RelV y v
  | _, _, _, .cons r (.cons q .nil) => ⟨_, _, rfl, r, q⟩
theorem Vals.zero : ∀ {us : List Value}, Vals [] us → us = []
  | _, .nil => rfl
theorem Vals.reverse {xs : List V} {us : List Value} (h : Vals xs us) : Vals xs.reverse us.reverse := by
  induction h with
  | nil => exact .nil
  | cons r t ih => rw [List.reverse_cons, List.reverse_cons]; exact Vals.append ih (.cons r .nil)
section
variable {X : Cx} {pins : List (Addr × Obj)} {σ : St} {H : Hp} {s : Shared} {l b : Addr} {xs ys zs : List V}

theorem Inv.lset {its its' : List Value} {n : Nat} {f : Array Value → Array Value} {t' : Nat} (I : Inv X pins σ H s) (hH : H l = some (.lst xs))
    (e : s.heap.get? l = some { cls := .type "list", data := .seq its.toArray n }) (hf : f its.toArray = its'.toArray) (hv : Vals ys its') (hz : ys.length ≤ sizeLine) :
    Inv X pins σ (upd H l (.lst ys)) { s with heap := s.heap.update l (Obj.mapSeq f), toks := t' } := by
  have q := PySem.IsL.update e f
  rw [hf] at q
  refine I.write (x := l) (e := l) (by rw [hH]; exact trivial) (.inl rfl) (fun b' u hb hu => (Heap.get?_update_other s.heap (Obj.mapSeq f) (Ne.symm hb)).trans hu) ⟨_, q⟩ ?_
  exact ⟨hz, its', _, hv, q⟩
theorem Inv.lnew {its : List Value} {t' : Nat} (I : Inv X pins σ H s) (hv : Vals ys its) (hz : ys.length ≤ sizeLine) :
    Inv X pins σ (upd H s.heap.objs.size (.lst ys)) { s with heap := s.heap.push { cls := .type "list", data := .seq its.toArray }, toks := t' } :=
  I.laid (fun _ _ q => Heap.get?_push_of_some _ q) (Nat.le_refl _) ⟨hz, its, 0, hv, Heap.get?_push_size _ rfl⟩
theorem Inv.fresh (I : Inv X pins σ H s) : H s.heap.objs.size = none := I.hok.fresh (Nat.le_refl _)
theorem Inv.lstM (I : Inv X pins σ H s) (hH : H l = some (.lst xs)) : xs.length ≤ sizeLine ∧ ∃ (its : List Value) (n : Nat), Vals xs its ∧ xs.length = its.length ∧ s.heap.get? l = some { cls := .type "list", data := .seq its.toArray n } := by
  obtain ⟨z, its, n, r, e⟩ := I.hok l _ hH
  exact ⟨z, its, n, r, r.length, e⟩

theorem notLongL {n : Nat} (h : n ≤ sizeLine) : Builtin.List.listTooLong n = false := by
  unfold Builtin.List.listTooLong
  exact decide_eq_false (by omega)
end

section
variable {X : Cx}

def rAppend : V → List V → Hp → VK → Prop := fun x vs H Q => ∃ l xs y, x = .ref l ∧ vs = [y] ∧ H l = some (.lst xs) ∧ xs.length < sizeLine ∧ Q .non (upd H l (.lst (xs ++ [y])))
theorem mt_append : MtM X "list.append" rAppend := by
  intro pins s σ H x vs v us Q I rx rv h
  obtain ⟨l, xs, y, rfl, rfl, hH, hz, q⟩ := h
  cases rx
  obtain ⟨u, rfl, ru⟩ := rv.one
  obtain ⟨z, its, n, r, hl, e⟩ := I.lstM hH
  refine call_meets F.slot_list_append ⟨_, e, rfl⟩ F.entry_list_append (F.args_list_append_2 _ _) (PySem.list_append l its.toArray n u (by rw [List.size_toArray]; omega)) ⟨e, ?_⟩
  refine ⟨.non, _, I.lset (its' := its ++ [u]) hH e (by simp) (r.append (.cons ru .nil)) ?_, rfl, q⟩
  rw [List.length_append, List.length_singleton]
  omega

def rExtend : V → List V → Hp → VK → Prop := fun x vs H Q => ∃ l b xs zs, x = .ref l ∧ vs = [.ref b] ∧ H l = some (.lst xs) ∧ H b = some (.lst zs) ∧ xs.length + zs.length ≤ sizeLine ∧ Q .non (upd H l (.lst (xs ++ zs)))
theorem mt_extend : MtM X "list.extend" rExtend := by
  intro pins s σ H x vs v us Q I rx rv h
  obtain ⟨l, b, xs, zs, rfl, rfl, hH, hB, hz, q⟩ := h
  cases rx
  obtain ⟨u, rfl, ru⟩ := rv.one
  cases ru
  obtain ⟨z, its, n, r, hl, e⟩ := I.lstM hH
  obtain ⟨z2, its2, n2, r2, hl2, e2⟩ := I.lstM hB
  have hsz : its.toArray.size + its2.toArray.size ≤ sizeLine := by rw [List.size_toArray, List.size_toArray]; omega
  have hlong : ¬ (!its.toArray.isEmpty && Builtin.List.listTooLong (its.toArray.size + its2.toArray.size)) = true := by
    rw [notLongL hsz, Bool.and_false]
    exact Bool.false_ne_true
  refine call_meets F.slot_list_extend ⟨_, e, rfl⟩ F.entry_list_extend (F.args_list_extend_2 _ _)
    (AutoSeq1.list_extend_list_list_0 l its.toArray n b its2.toArray n2 hlong (by rw [List.size_toArray]; omega) (by omega)) ⟨e, e2, ?_⟩
  refine ⟨.non, _, I.lset (its' := its ++ its2) hH e (by simp) (r.append r2) ?_, rfl, q⟩
  rw [List.length_append]
  omega

def rCat : R2 := fun x y H Q => ∃ l b xs zs, x = .ref l ∧ y = .ref b ∧ H l = some (.lst xs) ∧ H b = some (.lst zs) ∧ xs.length + zs.length ≤ sizeLine ∧ ∀ p, H p = none → Q (.ref p) (upd H p (.lst (xs ++ zs)))
theorem op_cat : OpR X (binaryOp .Add) rCat := by
  intro pins s σ H x y v u Q I rx ry h
  obtain ⟨l, b, xs, zs, rfl, rfl, hH, hB, hz, q⟩ := h
  cases rx
  cases ry
  obtain ⟨z, its, n, r, hl, e⟩ := I.lstM hH
  obtain ⟨z2, its2, n2, r2, hl2, e2⟩ := I.lstM hB
  refine PySem.P.add_list e e2 ?_ (by rw [List.size_toArray, List.size_toArray]; omega)
  have ea : its.toArray ++ its2.toArray = (its ++ its2).toArray := by simp
  rw [ea]
  exact ⟨.ref _, _, I.lnew (t' := s.toks) (r.append r2) (by rw [List.length_append]; omega), rfl, q _ I.fresh⟩
end

section
variable {prog : Program} {w : World} {A : Around} {E : Value → Shared → Prop} {s : Shared}
theorem bounds_run {a c n : Nat} (hac : a ≤ c) (hc : c ≤ n) : sliceBounds (some (a : Int)) (some (c : Int)) none n = ((a : Int), (c : Int), 1) := by
  simp only [sliceBounds, Option.getD_none]
  have h1 : ¬ ((a : Int) < 0) := by omega
  have h2 : ¬ ((c : Int) < 0) := by omega
  simp only [h1, h2, if_false, show (1 : Int) > 0 by decide, if_true]
  congr 1
  · omega
  · congr 1; omega
set_option maxRecDepth 100000 in
/-- list.__setitem__ with a slice of step one and another list -/
theorem setItem_slice {l b sl : Addr} {items new : Array Value} {n n2 : Nat} {vl vu : Value} {a c : Nat} {Q : Unit → Shared → Prop}
    (e : s.heap.get? l = some { cls := .type "list", data := .seq items n }) (e2 : s.heap.get? b = some { cls := .type "list", data := .seq new n2 }) (hne : l ≠ b)
    (hs : s.heap.IsSliceOf sl vl vu .none) (pl : IsPart vl (some (a : Int))) (pu : IsPart vu (some (c : Int))) (hac : a ≤ c) (hc : c ≤ items.size)
    (hsz : items.size + new.size ≤ sizeLine) (h : Q () { s with heap := s.heap.update l (Obj.mapSeq fun xs => xs.extract 0 a ++ new ++ xs.extract c xs.size) }) :
    wpAny (model prog w) A (setItem (.ref l) (.ref sl) (.ref b)) Q E s := by
  have hl : s.heap.IsList l items := PySem.IsL.isList e
  have hb : s.heap.IsList b new := PySem.IsL.isList e2
  obtain ⟨os, hos, hcs, hds⟩ := id hs
  have hTs : s.TypeIs (.ref sl) "slice" := ⟨os, hos, hcs⟩
  have hstep : ¬ ((rawPart none == rawInt 0) = true) := Bool.false_ne_true
  have hsame : Builtin.List.listSameRef (.ref l) (.ref b) = false := by
    unfold Builtin.List.listSameRef
    exact beq_eq_false_iff_ne.mpr hne
  have hmax : (max (a : Int) (c : Int)).toNat = c := by omega
  have hz' : ((fun xs : Array Value => xs.extract 0 a ++ new ++ xs.extract c xs.size) items).size ≤ sizeLine + 1 := by
    simp only [Array.size_append, Array.size_extract]
    omega
  unfold setItem
  try with_reducible refine wpAny_holding ?_
  first | refine wpAny_bind (wpAny_pure ?_) | skip
  refine wpAny_bind (wpAny_sequenceKey hl.typeIs (by decide) ?_)
  refine wpAny_bind (wpAny_callSpecial?_slot (name := Str.ofString "__setitem__") hl.typeIs slot_list_setitem
    (wpAny_call_entry slot_list_setitem hl.typeIs entry_list_setitem ?_ (args_list_setitem _ _ _)))
  show wpAny _ _ (Builtin.List.listSubscript? (.ref sl) >>= _) _ _ s
  refine wpAny_bind ?_
  unfold Builtin.List.listSubscript?
  refine wpAny_bind (wpAny_specialOf hTs slice_no_index ?_)
  simp only [Option.isNone_none, if_true]
  refine wpAny_pure ?_
  show wpAny _ _ (typeOf (.ref sl) >>= _) _ _ s
  refine wpAny_bind (wpAny_typeOf hTs ?_)
  first
    | rw [if_neg (by decide)]
    | refine PySem.W.KFB.if_not (by decide) ?_
  rw [listSliceParts_eq]
  refine wpAny_bind (wpAny_bind (wpAny_field hos hds (x := .none) rfl (wpAny_bind (wpAny_listPart .none ?_))))
  rw [if_neg hstep]
  refine wpAny_bind (wpAny_field hos hds (x := vl) rfl (wpAny_bind (wpAny_listPart pl ?_)))
  refine wpAny_bind (wpAny_field hos hds (x := vu) rfl (wpAny_bind (wpAny_listPart pu (wpAny_pure ?_))))
  first
    | simp only [hsame, Bool.false_eq_true, if_false]
    | refine PySem.W.KFB.if_not hsame ?_
    | (dsimp only
       rw [if_neg (by rw [hsame]; exact Bool.false_ne_true)])
  refine wpAny_bind (m := Builtin.List.listAllItems (.ref b) "must assign iterable to extended slice") ?_
  unfold Builtin.List.listAllItems
  refine wpAny_bind (wpAny_typeOf hb.typeIs ?_)
  first
    | refine PySem.W.KFB.if_so (by decide) ?_
    | rw [if_pos (by decide)]
    | simp only [beq_self_eq_true, Bool.true_or, if_true]
  unfold Builtin.List.listItems
  refine wpAny_bind (wpAny_seqItems e2 rfl (wpAny_pure ?_))
  refine wpAny_bind (wpAny_bind (wpAny_seqItems e rfl (wpAny_pure ?_)))
  refine wpAny_bind (wpAny_of_eq ((sliceIndices_raw (some (a : Int)) (some (c : Int)) none items.size (by simp)).trans (congrArg (pure : Int × Int × Int → Sem (Int × Int × Int)) (bounds_run hac hc))) ?_)
  show wpAny _ _ (if ((1 : Int) == 1) = true then _ else _) _ _ s
  rw [if_pos (by decide)]
  refine wpAny_bind (wpAny_rule ?_)
  first
    | simp only [notLongL hsz, Bool.false_eq_true, if_false]
    | refine PySem.W.KFB.if_not (notLongL hsz) ?_
  first | refine wpAny_bind (wpAny_pure ?_) | skip
  show wpAny _ _ (updateSeq l (fun xs => xs.extract 0 ((a : Int)).toNat ++ new ++ xs.extract (max (a : Int) (c : Int)).toNat xs.size) >>= _) _ _ s
  rw [hmax, Int.toNat_natCast]
  refine wpAny_bind (wpAny_updateSeq (hz := Nat.le_trans (Nat.le_add_right _ _) hsz) (_hz' := hz') e rfl ?_)
  refine wpAny_bind (wpAny_letGo ?_)
  first
    | exact wpAny_bind (wpAny_pure (wpAny_pure ⟨.none, rfl, wpAny_pure h⟩))
    | exact wpAny_pure ⟨.none, rfl, wpAny_pure h⟩
end

section
variable {X : Cx}
end
end L2

namespace Att
open PySem PySem.W PySem.Calls PyProof.Rows

theorem ints_of_wellAll {P : Params} {h : Heap} : ∀ (ns : List Int) (vs : List Value), WellAll P h vs (ns.map WData.int) → IntsAre vs ns := by
  intro ns
  induction ns with
  | nil =>
    intro vs w
    rw [List.map_nil] at w
    cases w
    exact .nil
  | cons n ns ih =>
    intro vs w
    rw [List.map_cons] at w
    cases w with
    | cons a b =>
      cases a
      exact .cons _ _ (ih _ b)

theorem script_of {l : OpenLaw} {n : Nat} (hn : l.most = some n) {P : Params} {h : Heap} {args : List WData} {vals : List Value}
    (hpre : l.row.toRowW.claim.pre args = true) (hwl : WellAll P h vals args) :
    ∃ a vs ns, vals = [Value.ref a] ∧ args = [WData.list (ns.map WData.int)] ∧ h.get? a = some { cls := .type "list", data := .seq vs.toArray } ∧ IntsAre vs ns ∧ ns.length ≤ n := by
  have hsh : WShape.hasAll [] args [.list .int] = true := (pre_splitW hpre).1
  have hc : l.pre.holds [] { args := args } = true := (pre_splitW hpre).2
  obtain ⟨d, r, rfl, h1, h2⟩ := hasAllW_cons hsh
  obtain rfl := hasAllW_nil h2
  obtain ⟨xs, rfl, h3⟩ := hasW_list h1
  obtain ⟨ns, rfl⟩ := items_int h3
  have hlen : ns.length ≤ n := by
    unfold OpenLaw.pre at hc
    have h4 : (WTm.not (.lt (.lit (.int (n : Int))) (.len (.arg 0)))).holds [] { args := [.list (ns.map .int)] } = true := by
      have h4 := (holds_andW hc).1
      rw [hn] at h4
      exact h4
    have h5 := condW_of h4 (w_not (w_lt w_lit (w_len_list (w_arg rfl))))
    rw [List.length_map] at h5
    refine Nat.le_of_not_lt fun q => ?_
    have q' : (n : Int) < ((ns.length : Nat) : Int) := by omega
    first
      | (rw [decide_eq_true q'] at h5; exact absurd h5 (by decide))
      | (simp at h5; omega)
  cases hwl with
  | cons w1 w2 =>
    cases w2
    cases w1 with
    | list ho hall => exact ⟨_, _, ns, rfl, rfl, ho, ints_of_wellAll ns _ hall, hlen⟩

theorem post_true (l : OpenLaw) (args : List WData) : l.row.toRowW.claim.post args (.bool true) args = true :=
  postW_of (r := l.row.toRowW) (X := (true == true))
    (show WShape.has [] (.bool true) .bool = true by first | rfl | decide | simp [WShape.has, WShape.arms, WShape.armsAll])
    (show (WTm.eq .res (.lit (.bool true))).value [] { args := args, res := some (.bool true), after := args } = some (.bool (true == true)) from w_eq_bool (w_res rfl) w_lit) rfl

theorem attach_call {l : OpenLaw} {n : Nat} {q : Program} {loose : List Str} {XP : (Str → Option Value) → Heap → Prop} {YP : World → Heap → Prop} {d : DefRec}
    (hn : l.most = some n) (hdf : d.params.defaults = [])
    (call : ∀ (w : World) (s₀ s₁ : Shared) (mg mb : Str → Option Value) (fa : Addr) (o : Obj) (pm cd doc : Value) (a : Addr) (vs : List Value) (ns : List Int),
      Ground q loose [] XP w s₀ mg mb s₁.heap → YP w s₁.heap →
      s₁.heap.get? fa = some o → o.data = .func (docDef d.name d.params d.body d.scope pm cd doc) → s₁.heap.CodeRec cd d.name → mg d.name = some (.ref fa) →
      s₁.heap.get? a = some { cls := .type "list", data := .seq vs.toArray } → IntsAre vs ns → ns.length ≤ n → s₁.gens = #[] →
      codeAny (model l.prog w) callerA (.call (.ref fa) ⟨[.ref a], []⟩) (fun r s' => r = .ok (.ret (.bool true)) ∧ OldK s₁.heap s'.heap ∧ s'.os = s₁.os ∧ AllBare s'.gens) s₁) :
    WalkO q loose XP YP l.row.toRowW d [] (fun f vs => PySem.call f vs) := by
  intro w s₀ s₁ mg mb G Y fa o pm cd doc dV kV ho hd hcd hD hmg hg args vals as hpre hlay hrd hwl hlo
  obtain rfl : dV = .none := Dflts.none hD hdf
  obtain rfl : kV = .none := Dflts.noKw hD
  obtain ⟨a, vs, ns, rfl, rfl, hobj, hints, hlen⟩ := script_of hn hpre hwl
  refine enter_call (codeAny_mono (call w s₀ s₁ mg mb fa o pm cd doc a vs ns G Y ho (fd_plain hd) hcd hmg hobj hints hlen hg) fun r s' hq => ?_)
  obtain ⟨rfl, h2, h3, h4⟩ := hq
  exact ⟨.inl ⟨.bool true, .bool true, [], rfl, fun _ => rfl, .bool true, post_true l _, fun _ => ⟨List.Pairwise.nil, fun _ hm => (nomatch hm)⟩⟩, h2, h3, h4⟩

section
variable {prog : Program} {w : World} {A : Around} {E : Value → Shared → Prop} {s : Shared} {K : Frag}

def ledger (h : Heap) (L d : Addr) : List (Addr × Obj) := (List.range h.objs.size).filterMap fun a => if a = L ∨ a = d then none else (h.get? a).map fun o => (a, o)
end
end Att

namespace L2
open PySem PySem.Spec PyProof.Rows

theorem vals_ints : ∀ {vs : List Value} {ns : List Int}, IntsAre vs ns → Vals (ns.map V.int) vs
  | _, _, .nil => .nil
  | _, _, .cons n t h => .cons ⟨t, rfl⟩ (vals_ints h)

def Only (H : Hp) : Prop := ∀ b, H b = none ∨ ∃ o xs, H b = some (.frz o (.lst xs))

theorem law_call {P : Program} {w : World} {K : PySem.W.Frag} {mg mb : Str → Option Value} {CX : CXT} {k : Nat} {fa a : Addr} {fd : FuncData} {x : Str} {sp : Sp} {s₁ : Shared} {vs : List Value} {ns : List Int}
    (KX : K.In s₁.heap) (hns : s₁.heap.Ns mainGlobals mg) (hb : s₁.heap.Ns builtinsNs mb) (hbb : ∀ x : Str, x ≠ "__name__" → mb x = bootBuiltins x) (hlim : s₁.heap.NoLimit) (hg : s₁.gens = #[])
    (ha : s₁.heap.get? a = some { cls := .type "list", data := .seq vs.toArray }) (hi : IntsAre vs ns) (hl : ns.length ≤ sizeLine) (hr : Room k callerA)
    (F : ∀ base : Heap, K.In base → base.Ns mainGlobals mg → FnOk P w K mg base CX k fa fd [x] sp) (hbind : ∀ (s : Shared) (u : Value), BindsTo s fd ⟨[u], []⟩ [(x, u)])
    (hsp : ∀ H : Hp, Only H → SqL K H a (ns.map V.int) → sp [.ref a] H (fun v _ => v = .bl true) fun _ _ _ => False)
    (hCX : ∀ H e s', CX [] H s₁ (fun _ _ _ => False) e s' → False) :
    codeAny (model P w) callerA (.call (.ref fa) ⟨[.ref a], []⟩) (fun r s' => r = .ok (.ret (.bool true)) ∧ OldK s₁.heap s'.heap ∧ s'.os = s₁.os ∧ AllBare s'.gens) s₁ := by
  have rv := vals_ints hi
  have lenV := hi.length
  -- from an abstract heap in which nothing but the script may be tracked
  have core : ∀ H : Hp, Only H → SqL K H a (ns.map V.int) → HOk P w H s₁.heap → (∀ b, H b ≠ none → b = a) → (H a ≠ none → K.lookup a = none) →
      codeAny (model P w) callerA (.call (.ref fa) ⟨[.ref a], []⟩) (fun r s' => r = .ok (.ret (.bool true)) ∧ OldK s₁.heap s'.heap ∧ s'.os = s₁.os ∧ AllBare s'.gens) s₁ := by
    intro H hO hS hok hA hK
    have base_of : ∀ {b : Addr} {o : Obj}, s₁.heap.get? b = some o → H b = none → (hidT s₁.heap H).get? b = some o := fun e n => hidT_get e n
    have noA : ∀ {b : Addr} {o : Obj} {es : Array DictEntry} {ep : Nat}, s₁.heap.get? b = some o → o.data = .dict es ep → H b = none := fun {b o es ep} e d => by
      cases q : H b with
      | none => rfl
      | some u =>
        have e' : b = a := hA b (by rw [q]; simp)
        subst e'
        rw [ha] at e; cases e
        have d' : Data.seq vs.toArray _ = Data.dict es ep := d
        cases d'
    have nsK : ∀ {b : Addr} {m : Str → Option Value}, s₁.heap.Ns b m → (hidT s₁.heap H).Ns b m := fun {b m} ⟨o, es, ep, e, d, r⟩ => ⟨o, es, ep, base_of e (noA e d), d, r⟩
    have hKb : K.In (hidT s₁.heap H) := fun b o e => base_of (KX b o e) (by
      cases q : H b with
      | none => rfl
      | some u =>
        have e' : b = a := hA b (by rw [q]; simp)
        subst e'
        rw [hK (by rw [q]; simp)] at e; cases e)
    have hM : Mod K mg (hidT s₁.heap H) := ⟨hKb, nsK hns, ⟨mb, nsK hb, hbb⟩, let ⟨mc, h1, h2⟩ := hlim; ⟨mc, nsK h1, h2⟩⟩
    have e0 : Env0 P w K mg (hidT s₁.heap H) callerA [] s₁ H := ⟨rfl, hM, fun b o e => of_hidT e, Nat.le_of_eq (hidT_size _ _), trivial, fun b hb => absurd (show b ∈ ([] : List Addr) from hb) (by simp), hok, .of_eq hg⟩
    refine codeAny_mono ((F _ hKb (nsK hns)).run callerA [] s₁ H ⟨[.ref a], []⟩ [.ref a] [.ref a] _ _ hr e0 (hbind s₁ (.ref a)) (.cons rfl .nil) (hsp H hO hS)) fun r s' h => ?_
    cases r with
    | error e => exact (hCX H e s' h).elim
    | ok fl =>
      cases fl with
      | next => exact False.elim h
      | brk => exact False.elim h
      | cont => exact False.elim h
      | ret u =>
        obtain ⟨v, H', os, bare, un, hok', r', q⟩ := h
        have q' : v = .bl true := q
        subst q'
        obtain rfl : u = Value.bool true := r'
        refine ⟨rfl, OldK.of_keep fun b o e => ?_, os, bare⟩
        cases q : H b with
        | none => exact un.keep b o e q (by intro z; exact absurd (show b ∈ ([] : List Addr) from z) (by simp)) (by simp)
        | some u =>
          rcases hO b with z | ⟨ob, xs, z⟩
          · rw [q] at z; cases z
          · have z2 := un.frzs b ob _ z
            obtain ⟨e1, _⟩ := hok b _ z
            obtain ⟨e2, _⟩ := hok' b _ z2
            rw [e] at e1; cases e1
            exact e2
  cases hk : K.lookup a with
  | some o =>
    -- the script is one of the module's own objects
    have e := KX a o hk
    rw [ha] at e
    cases e
    refine core (fun _ => none) (fun _ => .inl rfl) (.inr ⟨_, vs.toArray, _, hk, rfl, rfl, rfl, by rw [List.size_toArray, lenV]; exact hl, by simpa using rv⟩) (fun b u z => by have z' : (none : Option HO) = some u := z; cases z') (fun b z => absurd rfl z) fun z => absurd rfl z
  | none =>
    refine core (fun b => if b = a then some (.frz { cls := .type "list", data := .seq vs.toArray } (.lst (ns.map V.int))) else none) (fun b => ?_) (.inl (.inr ⟨{ cls := .type "list", data := .seq vs.toArray }, if_pos rfl⟩)) (fun b u z => ?_) (fun b z => ?_) fun _ => hk
    · by_cases hb : b = a
      · exact .inr ⟨_, _, if_pos hb⟩
      · exact .inl (if_neg hb)
    · by_cases hb : b = a
      · have z' := (if_pos hb).symm.trans z
        cases z'
        subst hb
        exact ⟨ha, by rw [List.length_map]; exact hl, vs, _, rv, ha⟩
      · have z' := (if_neg hb).symm.trans z
        cases z'
    · by_cases hb : b = a
      · exact hb
      · exact absurd (if_neg hb) z
end L2

namespace L2
open PySem PySem.Spec PyProof.Rows

abbrev KOf {K : PySem.W.Frag} {h : Heap} (_ : K.In h) : PySem.W.Frag := K

theorem walk_of {l : PySem.W.OpenLaw} {n k : Nat} {q : Program} {loose : List Str} {XP : (Str → Option Value) → Heap → Prop} {YP : World → Heap → Prop} {d : DefRec} {K : Params → PySem.W.Frag} {CX : World → CXT} {sp : World → Sp} {x : Str}
    (hn : l.most = some n) (hn2 : n ≤ sizeLine) (hdf : d.params.defaults = []) (hr : Room k callerA)
    (hY : ∀ (w : World) (h : Heap), YP w h → (K w.params).In h)
    (F : ∀ (w : World) (mg : Str → Option Value) (fa : Addr) (h : Heap), (K w.params).In h → h.Ns mainGlobals mg → mg d.name = some (.ref fa) →
      ∃ fd : FuncData, (∀ (s : Shared) (u : Value), BindsTo s fd ⟨[u], []⟩ [(x, u)]) ∧
        ∀ base : Heap, (K w.params).In base → base.Ns mainGlobals mg → FnOk l.prog w (K w.params) mg base (CX w) k fa fd [x] (sp w))
    (hsp : ∀ (w : World) (H : Hp) (a : Addr) (ns : List Int), ns.length ≤ n → Only H → SqL (K w.params) H a (ns.map V.int) → sp w [.ref a] H (fun v _ => v = .bl true) fun _ _ _ => False)
    (hCX : ∀ (w : World) (H : Hp) (s : Shared) (e : Value) (s' : Shared), CX w [] H s (fun _ _ _ => False) e s' → False) :
    PySem.W.WalkO q loose XP YP l.row.toRowW d [] (fun f vs => PySem.call f vs) := by
  refine Att.attach_call hn hdf fun w s₀ s₁ mg mb fa o pm cd doc a vs ns G Y ho hd hcd hmg hobj hints hlen hg => ?_
  have KX := hY w _ Y
  obtain ⟨fd, hb, hF⟩ := F w mg fa _ KX G.T.g hmg
  exact law_call KX G.T.g G.T.b G.T.builtins G.T.nolimit hg hobj hints (Nat.le_trans hlen hn2) hr hF hb (fun H hO hS => hsp w H a ns hlen hO hS) fun H e s' => hCX w H s₁ e s'
end L2

/- THE LAST THEOREM (shape; LID, My.* are yours):
   My.Adr: a structure of the addresses that your layer names (classes, functions); My.Txt K t: a structure (Prop) of the equations over K;
   My.txt_mk : {K} {implicit addresses ..} (e1 : nsIn K mainGlobals "law" = some (some (.ref f))) (e2 : K.lookup f = some ⟨oc, od, .func (fnOf "law" "law" params body scope dV kV doc pm an cdv ct), sl⟩) (e3 : codeIn K cdv "law" = true) .. : ∃ t, My.Txt K t

set_option maxRecDepth 100000 in
set_option maxHeartbeats 0 in
theorem PySem.Challenge.cw_LID_holds : PySem.Challenge.rw_LID.Holds := by
  w_on; o_law; k_head; (case hw => w_witness2)
  k_fill
  refine L2.walk_of (l := PySem.Challenge.rw_LID) (n := 63) (k := 40) (x := "script") (CX := fun w => ..) (sp := fun _ => My.sp_law) rfl (by decide) rfl ⟨rfl, by decide, by decide⟩ (fun w h Y => PySem.W.kIn_of Y) ?F ?S ?C
  case F =>
    intro w mg fa h KX G hmg
    have T : ∃ t, My.Txt (L2.KOf KX) t := by
      dsimp only [L2.KOf]                          -- K must stand as «<heap const> w.params» for k_is
      refine' My.txt_mk ?e1 ?e2 ?e3 ..
      (case e1 => PySem.W.k_is)                    -- in the order: a name -> its address -> its object -> its parts
      (case e2 => PySem.W.k_is)
      ..
    obtain ⟨t, T⟩ := T
    have e0 := hmg.symm.trans (PySem.W.mg_of KX G T.law)
    cases e0                                       -- fa is the law's own address
    exact ⟨_, fun s u => .of_eq rfl, fun base kb nb => My.law_fn T kb nb⟩     -- if «.of_eq rfl» comes too early: refine' ⟨_, ?b, fun base kb nb => My.law_fn T kb nb⟩; exact fun s u => .of_eq rfl
  case S => exact fun w H a ns hl hO hS => ..
  case C => exact ..
(the tactic k_is has no namespace: write k_is) -/

namespace L2
open PySem PySem.Spec PyProof.Rows

def inClass (s : Stmt) (j : Nat) : Stmt := match s with
  | .ClassDef _ _ _ body _ _ _ _ _ _ _ => body.getD j (.Pass ⟨0, 0, 0, 0⟩)
  | _ => .Pass ⟨0, 0, 0, 0⟩
def defArgs (s : Stmt) : Arguments := match s with
  | .FunctionDef _ a _ _ _ _ _ _ _ _ => a
  | _ => { posonlyargs := [], args := [], vararg := none, kwonlyargs := [], kw_defaults := [], kwarg := none, defaults := [] }
def defBody (s : Stmt) : List Stmt := match s with
  | .FunctionDef _ _ b _ _ _ _ _ _ _ => b
  | _ => []
def defScope (s : Stmt) : Scope := match s with
  | .FunctionDef _ _ _ _ _ _ sc _ _ _ => sc
  | _ => { kind := .function, names := [], isGenerator := false, isCoroutine := false }

abbrev CX0 : CXT := fun _ _ _ _ _ _ => False
abbrev E0 : XK := fun _ _ _ => False
theorem pass0 {X : Cx} : Passes CX0 X E0 := fun _ _ _ _ _ _ _ h => h.elim

structure Fun (K : PySem.W.Frag) (x qual : Str) (st : Stmt) (f : Addr) (fd : FuncData) : Prop where
  ex : ∃ (oc : Value) (od : Option Addr) (kV doc pm : Value) (an : Option Addr) (cdv ct : Value) (osl : Array (Option Value)),
    fd = PySem.W.fnOf x qual (defArgs st) (defBody st) (defScope st) .none kV doc pm an cdv ct ∧ K.lookup f = some ⟨oc, od, .func fd, osl⟩ ∧ PySem.W.codeIn K cdv qual = true
  kp : PySem.W.keepIn K (.ref f) = true
section
variable {P : Program} {w : World} {K : PySem.W.Frag} {mg : Str → Option Value} {base : Heap}
theorem Fun.ok {x qual : Str} {st : Stmt} {f : Addr} {fd : FuncData} {N ps : List Str} {k : Nat} {sp : Sp} (F : Fun K x qual st f fd) (S : FnScope N ps (defScope st)) (len : ∀ vs H Q E, sp vs H Q E → vs.length = ps.length)
    (hbody : ∀ (cdv : Value) (A : Around) (outer : List Env) (s : Shared) (H : Hp) (vs : List V) (Q : VK) (E : XK), Room k (A.deeper (envOfC qual (defScope st) s.heap.objs.size f cdv)) → sp vs H Q E →
      ∃ t, PSs (cxOf CX0 P w K mg base N qual (defScope st) f cdv A outer s H E).nox (defBody st) t ∧ t { nx := fun _ H' => Q .non H', rt := Q } (start N vs) H) : FnOk P w K mg base CX0 (k + 1) f fd ps sp := by
  obtain ⟨oc, od, kV, doc, pm, an, cdv, ct, osl, rfl, lk, hcd⟩ := F.ex
  refine fn_of lk hcd S len fun A outer s H vs Q E hr hsp => ?_
  obtain ⟨t, h, q⟩ := hbody cdv A outer s H vs Q E hr hsp
  exact ⟨t, h.nox, q⟩
theorem Fun.binds {x qual : Str} {st : Stmt} {f : Addr} {fd : FuncData} {ps : List Str} (F : Fun K x qual st f fd)
    (h : ∀ (kV doc pm : Value) (an : Option Addr) (cdv ct : Value) (us : List Value), us.length = ps.length → bindArgs (PySem.W.fnOf x qual (defArgs st) (defBody st) (defScope st) .none kV doc pm an cdv ct) ⟨us, []⟩ = pure (ps.zip us)) : Binds K fd ps [] := by
  obtain ⟨oc, od, kV, doc, pm, an, cdv, ct, osl, rfl, lk, hcd⟩ := F.ex
  exact .all (h kV doc pm an cdv ct)
theorem fun_mk {x qual : Str} {st : Stmt} {f : Addr} {oc : Value} {od an : Option Addr} {osl : Array (Option Value)} {kV doc pm cdv ct : Value} (l : K.lookup f = some ⟨oc, od, .func (PySem.W.fnOf x qual (defArgs st) (defBody st) (defScope st) .none kV doc pm an cdv ct), osl⟩)
    (c : PySem.W.codeIn K cdv qual = true) (k : PySem.W.keepIn K (.ref f) = true) : Fun K x qual st f (PySem.W.fnOf x qual (defArgs st) (defBody st) (defScope st) .none kV doc pm an cdv ct) := ⟨⟨oc, od, kV, doc, pm, an, cdv, ct, osl, rfl, l, c⟩, k⟩
end
theorem hu_of {A : Around} {k : Nat} (hr : Room k A) : A.units + 1 < cLine := Nat.lt_of_le_of_lt (Nat.add_le_add_left (by decide : 1 ≤ 64) _) hr.units
section
variable {X : Cx}
theorem pv (i : Nat) {x : Str} {pos : Pos} (hN : X.N[i]? = some x := by rfl) (hv : Vis X.env.scope x := by first | exact Or.inl rfl | exact Or.inr (Or.inl rfl) | exact Or.inr (Or.inr rfl)) (hd : (x == ("__debug__" : Str)) = false := by decide)
    (hcd : (x == ("__classdict__" : Str)) = false := by decide) : PE X (.Name x pos) (tVar i) := pe_var hN hv hd hcd
end

theorem iteF {A B : Prop} (h : B) : if false = true then A else B := by
  rw [if_neg Bool.false_ne_true]
  exact h
theorem iteT {A B : Prop} (h : A) : if true = true then A else B := by
  rw [if_pos rfl]
  exact h
theorem ite2 {c A B : Prop} [Decidable c] (h1 : c → A) (h2 : ¬ c → B) : if c then A else B := by
  by_cases h : c
  · rw [if_pos h]
    exact h1 h
  · rw [if_neg h]
    exact h2 h
def Same (H H' : Hp) : Prop := ∀ b o, H b = some o → H' b = some o
theorem Same.refl (H : Hp) : Same H H := fun _ _ h => h
theorem Same.trans {H H1 H2 : Hp} (a : Same H H1) (b : Same H1 H2) : Same H H2 := fun c o h => b c o (a c o h)
theorem Same.free {H H' : Hp} (e : Same H H') {l : Addr} (h : H' l = Option.none) : H l = Option.none := by
  cases q : H l with
  | none => rfl
  | some o =>
    rw [e l o q] at h
    cases h
theorem Same.seq {K : PySem.W.Frag} {H H' : Hp} {a : Addr} {xs : List V} (e : Same H H') (h : SqL K H a xs) : SqL K H' a xs := by
  rcases h with (h | ⟨o, h⟩) | h
  · exact .inl (.inl (e _ _ h))
  · exact .inl (.inr ⟨o, e _ _ h⟩)
  · exact .inr h

end L2

set_option maxRecDepth 100000
set_option maxHeartbeats 4000000
namespace L2
open PySem PySem.Spec PyProof.Rows

theorem fls {α : Type} {M : Model} {A : Around} {t : Sem α} {Q : α → Shared → Prop} {E : Value → Shared → Prop} {s : Shared} (h : wpAny M A t Q (fun _ _ => False) s) : wpAny M A t Q E s :=
  wpAny_mono h (fun _ _ q => q) fun _ _ z => z.elim

section
variable {prog : Program} {w : World} {A : Around} {R : Result → Shared → Prop} {s : Shared}
theorem compLoop_own {elt target iter : Expr} {ifs : List Expr} {scope : Scope} {pos : Pos} {it acc : Value} {env : Env} (J : Nat → Shared → Prop)
    (turn : ∀ n s, J n s → wpAny (model prog w) A (pyNext it) (fun r s₁ => match r with
      | none => R (.ok .next) s₁
      | some v => wpAny (model prog w) A (letOwnedTupleGo target it v) (fun _ s₂ => wpAny (model prog w) A (assign target env v) (fun _ s₃ =>
          wpAny (model prog w) A (forIn ifs true fun c r => if r = true then do let ok ← isTrue c env (eval c env); pure (ForInStep.yield ok) else pure (ForInStep.yield r)) (fun ok s₄ =>
            if ok = true then wpAny (model prog w) A (eval elt env) (fun x s₅ =>
              wpAny (model prog w) A (call (.builtin "list.append") [acc, x]) (fun _ s₆ => ∃ m, m < n ∧ J m s₆) (fun _ _ => False) s₅) (fun _ _ => False) s₄
            else ∃ m, m < n ∧ J m s₄) (fun _ _ => False) s₃) (fun _ _ => False) s₂) (fun _ _ => False) s₁) (fun _ _ => False) s)
    (n : Nat) (h : J n s) :
    codeAny (model prog w) A (.compLoop (.ListComp elt [⟨target, iter, ifs, 0⟩] scope pos) 0 it acc env) R s := by
  refine codeAny_loop rfl J (fun n s hI => ?_) n h
  show wpAny _ A ((compTurn (.ListComp elt [⟨target, iter, ifs, 0⟩] scope pos) 0 it acc env).onRaise (fun x => do noteFrame x env; theTreesLotGoes x)) _ _ s
  refine wpAny_noted (fls ?_)
  rw [compTurn_list]
  refine wpAny_bind (wpAny_standAt (wpAny_bind (wpAny_mono (turn n s hI) (fun r s₁ h₁ => ?_) fun _ _ h' => h')))
  cases r with
  | none => exact wpAny_pure h₁
  | some v =>
    refine wpAny_bind (wpAny_mono h₁ (fun _ s₂ h₂ => wpAny_bind (wpAny_mono h₂ (fun _ s₃ h₃ => wpAny_bind (wpAny_mono h₃ (fun ok s₄ h₄ => ?_) fun _ _ h' => h')) fun _ _ h' => h')) fun _ _ h' => h')
    cases ok with
    | false => exact wpAny_pure ⟨rfl, h₄⟩
    | true => exact wpAny_bind (wpAny_bind (wpAny_mono h₄ (fun x s₅ h₅ => wpAny_bind (wpAny_mono h₅ (fun _ s₆ h₆ => wpAny_pure (wpAny_pure ⟨rfl, h₆⟩)) fun _ _ h' => h')) fun _ _ h' => h'))
end

def clOf (scope : Scope) (env : Env) : List (Str × Addr) := (scope.names.filter fun y => y.2 == .free).reverse.map fun y => (y.1, (env.cells.lookup y.1).getD 0)
theorem closureFor_clOf {scope : Scope} {env : Env} (h : ∀ y ∈ scope.names, y.2 = .free → ∃ c, env.cells.lookup y.1 = some c) : closureFor scope env = pure (clOf scope env) := by
  unfold closureFor clOf
  have key : ∀ (l : List (Str × NameKind)) (cs : List (Str × Addr)), (∀ y ∈ l, y.2 = .free → ∃ c, env.cells.lookup y.1 = some c) →
      (forIn l cs (fun x r => match x with
        | (name, kind) => if (kind == NameKind.free) = true then do let a ← cellOf env name; pure (ForInStep.yield ((name, a) :: r)) else pure (ForInStep.yield r)) : Sem (List (Str × Addr))) =
        pure ((l.filter fun y => y.2 == .free).reverse.map (fun y => (y.1, (env.cells.lookup y.1).getD 0)) ++ cs) := by
    intro l
    induction l with
    | nil => intro cs _; rfl
    | cons y l ih =>
      intro cs hl
      obtain ⟨n, k⟩ := y
      have ih' := fun cs => ih cs fun y hy => hl y (List.mem_cons_of_mem _ hy)
      rw [List.forIn_cons]
      by_cases hk : k = .free
      · subst hk
        obtain ⟨c, hc⟩ := hl (n, .free) List.mem_cons_self rfl
        have e : cellOf env n = pure c := by unfold cellOf; rw [hc]
        simp only [beq_self_eq_true, if_true, e, pure_bind]
        rw [ih']
        rw [List.filter_cons_of_pos (by rfl), List.reverse_cons, List.map_append, List.append_assoc]
        simp [hc]
      · have hb : (k == NameKind.free) = false := by simpa using hk
        simp only [hb, Bool.false_eq_true, if_false, pure_bind]
        rw [ih', List.filter_cons_of_neg (by simp [hb])]
  have := key scope.names [] h
  rw [List.append_nil] at this
  first
    | exact this
    | (rw [this]; rfl)
    | (simp only [bind_pure]; exact this)

theorem lookup_map_snd {f : Str → Addr} {x : Str} {c : Addr} : ∀ {l : List (Str × NameKind)}, (l.map fun y => (y.1, f y.1)).lookup x = some c → c = f x ∧ ∃ k, (x, k) ∈ l
  | [], h => by simp at h
  | (n, k) :: l, h => by
    rw [List.map_cons, List.lookup_cons] at h
    cases e : x == n with
    | true =>
      rw [e] at h
      have e' : x = n := by simpa using e
      subst e'
      exact ⟨(Option.some.inj h).symm, k, List.mem_cons_self⟩
    | false =>
      rw [e] at h
      obtain ⟨h1, k', h2⟩ := lookup_map_snd h
      exact ⟨h1, k', List.mem_cons_of_mem _ h2⟩
theorem lookup_map_has {f : Str → Addr} {x : Str} {k : NameKind} : ∀ {l : List (Str × NameKind)}, (x, k) ∈ l → (l.map fun y => (y.1, f y.1)).lookup x = some (f x)
  | [], h => nomatch h
  | (n, k') :: l, h => by
    rw [List.map_cons, List.lookup_cons]
    cases e : x == n with
    | true =>
      have e' : x = n := by simpa using e
      subst e'
      rfl
    | false =>
      rcases List.mem_cons.mp h with q | q
      · cases q
        simp at e
      · exact lookup_map_has q
theorem clOf_sub {scope : Scope} {env : Env} (h : ∀ y ∈ scope.names, y.2 = .free → ∃ c, env.cells.lookup y.1 = some c) {x : Str} {c : Addr} (e : (clOf scope env).lookup x = some c) : env.cells.lookup x = some c := by
  obtain ⟨h1, k, h2⟩ := lookup_map_snd (f := fun x => (env.cells.lookup x).getD 0) e
  have h3 := List.mem_filter.mp (List.mem_reverse.mp h2)
  obtain ⟨c', hc⟩ := h (x, k) h3.1 (by simpa using h3.2)
  have hc' : env.cells.lookup x = some c' := hc
  rw [hc'] at h1 ⊢
  rw [h1]
  rfl
theorem clOf_has {scope : Scope} {env : Env} {x : Str} (h : (x, NameKind.free) ∈ scope.names) : (clOf scope env).lookup x = some ((env.cells.lookup x).getD 0) :=
  lookup_map_has (f := fun x => (env.cells.lookup x).getD 0) (k := .free) (List.mem_reverse.mpr (List.mem_filter.mpr ⟨h, rfl⟩))

theorem relabel_lookup {scope : Scope} {env : Env} {x : Str} : (relabel scope env).names.lookup x = (scope.names.lookup x).map fun k => if (k == .free && env.scope.kind == .function && env.kindOf x == some .cell) = true then .cell else k := by
  unfold relabel
  show List.lookup x (scope.names.map _) = _
  induction scope.names with
  | nil => rfl
  | cons y l ih =>
    obtain ⟨n, k⟩ := y
    rw [List.map_cons]
    show List.lookup x ((if (k == NameKind.free && env.scope.kind == ScopeKind.function && env.kindOf n == some NameKind.cell) = true then (n, NameKind.cell) else (n, k)) :: _) = _
    cases e : x == n with
    | true =>
      have e' : x = n := by simpa using e
      subst e'
      by_cases hc : (k == NameKind.free && env.scope.kind == ScopeKind.function && env.kindOf x == some NameKind.cell) = true
      · rw [if_pos hc, List.lookup_cons, List.lookup_cons, e]
        show some _ = some (if _ then _ else _)
        rw [if_pos hc]
      · rw [if_neg hc, List.lookup_cons, List.lookup_cons, e]
        show some _ = some (if _ then _ else _)
        rw [if_neg hc]
    | false =>
      by_cases hc : (k == NameKind.free && env.scope.kind == ScopeKind.function && env.kindOf n == some NameKind.cell) = true
      · rw [if_pos hc, List.lookup_cons, List.lookup_cons, e]
        exact ih
      · rw [if_neg hc, List.lookup_cons, List.lookup_cons, e]
        exact ih

def compCx (X : Cx) (N : List Str) (scope : Scope) (C : Addr) (s : Shared) (H : Hp) (fp : List Addr) : Cx where
  prog := X.prog
  w := X.w
  K := X.K
  mg := X.mg
  base := X.base
  A := X.A
  N := N
  s₀ := s
  H₀ := H
  env := compEnvC scope (clOf scope X.env) C X.env
  outer := X.stack
  stack := X.stack
  ex := fp
  fn := fun _ => false
  calm := X.calm
  pn := []
  xe := fun _ _ => False

def compSt (own : Nat) (caps : List Nat) (σ : St) : St := List.replicate own none ++ caps.map fun j => (σ[j]?).getD none
structure CompOk (X : Cx) (N : List Str) (scope : Scope) (own : Nat) (caps : List Nat) : Prop where
  kind : scope.kind = .function
  names : ∀ y ∈ scope.names, y.2 = .local → scope.names.lookup y.1 = some .local
  nocell : ∀ y ∈ scope.names, y.2 ≠ .cell
  free : ∀ y ∈ scope.names, y.2 = .free → X.env.kindOf y.1 = some .cell ∨ X.env.kindOf y.1 = some .free
  len : N.length = own + caps.length
  cap : ∀ (i j : Nat) (x : Str), caps[i]? = some j → N[own + i]? = some x → X.N[j]? = some x ∧ scope.names.lookup x = some .free

theorem CompOk.cells {X : Cx} {N : List Str} {scope : Scope} {own : Nat} {caps : List Nat} (O : CompOk X N scope own caps) (ok : X.Ok) : ∀ y ∈ scope.names, y.2 = .free → ∃ c, X.env.cells.lookup y.1 = some c :=
  fun y hy hf => ok.has y.1 (O.free y hy hf)

section
variable {X : Cx} {pins : List (Addr × Obj)} {σ : St} {H : Hp} {s : Shared} {N : List Str} {scope : Scope} {own : Nat} {caps : List Nat}
theorem Inv.block {h₁ : Heap} {tk : Nat} {fp : List Addr} (O : CompOk X N scope own caps) (I : Inv X pins σ H s) (hf : ∀ b ∈ fp, FpOk X pins H b) (hlt : ∀ b ∈ fp, b < s.heap.objs.size) {m : Str → Option Value} (hns : h₁.Ns s.heap.objs.size m)
    (hk : ∀ b o, s.heap.get? b = some o → h₁.get? b = some o) : Inv (compCx X N scope s.heap.objs.size s H fp) [] (compSt own caps σ) H { s with heap := h₁, toks := tk } := by
  have hcl := O.cells I.ok
  have sub : ∀ x c, (clOf scope X.env).lookup x = some c → X.env.cells.lookup x = some c := fun x c e => clOf_sub hcl e
  have stk : ∀ b ∈ fp, b ∉ frs X.stack := fun b hb z => by
    obtain ⟨_, f1, f2, _⟩ := hf b hb
    rcases List.mem_cons.mp (I.stkSub b z) with q | q
    · exact f1 q
    · exact f2 q
  have nocl : ∀ x, (relabel scope X.env).names.lookup x = some .cell ∨ (relabel scope X.env).names.lookup x = some .free → (x, NameKind.free) ∈ scope.names := fun x hx => by
    rw [relabel_lookup] at hx
    cases e : scope.names.lookup x with
    | none => rw [e] at hx; rcases hx with hx | hx <;> cases hx
    | some k =>
      have hm := PySem.mem_of_lookup e
      have hc := O.nocell _ hm
      cases k with
      | free => exact hm
      | cell => exact absurd rfl hc
      | _ => rw [e] at hx; rcases hx with hx | hx <;> simp at hx
  have ok : (compCx X N scope s.heap.objs.size s H fp).Ok :=
    { mod := I.ok.mod
      kind := O.kind
      glob := I.ok.glob
      blt := I.ok.blt
      above := Nat.le_refl _
      inj := fun x y c h1 h2 => I.ok.inj x y c (sub x c h1) (sub y c h2)
      has := fun x hx => ⟨_, clOf_has (nocl x hx)⟩
      cab := fun x c h _ => by cases h
      hd := I.ok.hd
      frames := I.ok.frames
      stk := .inl rfl
      exf := fun b hb => ⟨Nat.ne_of_lt (hlt b hb), fun x c e => (hf b hb).2.2.2.2.1 x c (sub x c e)⟩
      bs := I.bs
      bsz := Nat.le_trans I.ok.bsz I.sz
      noex := fun b o e hb => by
        rcases (hf b hb).2.2.2.1 with z | z
        · exact I.ok.noex b o e z
        · exact absurd (Nat.lt_of_lt_of_le (Heap.lt_size e) (Nat.le_trans I.ok.bsz z)) (Nat.lt_irrefl _)
      exfs := stk
      funs := I.stack
      frf := I.stkFree }
  have hC : H s.heap.objs.size = none := I.hok.fresh (Nat.le_refl _)
  refine ⟨ok, rfl, I.bare, Un.kept hk, ⟨m, hns, fun i x v h1 h2 h3 => ?_⟩, fun x c e => ?_, hC, fun x c e => I.freeC x c (sub x c e), fun p hp => absurd (show p ∈ ([] : List (Addr × Obj)) from hp) (by simp), I.hok.kept hk, ?_⟩
  · -- a name of the def
    have hi : own ≤ i := by
      by_cases q : own ≤ i
      · exact q
      · unfold compSt at h2
        rw [List.getElem?_append_left (by simp; omega), List.getElem?_replicate] at h2
        split at h2 <;> cases h2
    obtain ⟨k, rfl⟩ : ∃ k, i = own + k := ⟨i - own, by omega⟩
    unfold compSt at h2
    rw [List.getElem?_append_right (by simp), List.length_replicate, Nat.add_sub_cancel_left, List.getElem?_map] at h2
    cases e : caps[k]? with
    | none => rw [e] at h2; cases h2
    | some j =>
      rw [e] at h2
      have h2' : (σ[j]?).getD none = some v := Option.some.inj h2
      obtain ⟨e1, e2⟩ := O.cap k j x e h1
      have e3 := PySem.mem_of_lookup e2
      have hkd := O.free _ e3 rfl
      have h4 : σ[j]? = some (some v) := by
        cases q : σ[j]? with
        | none => rw [q] at h2'; cases h2'
        | some o => rw [q] at h2'; rw [show o = some v from h2']
      have hvis : Vis X.env.scope x := .inr hkd
      obtain ⟨mo, _, hl⟩ := I.loc
      obtain ⟨u, r, l⟩ := hl j x v e1 h4 hvis
      refine ⟨u, r, .inr ⟨?_, ?_⟩⟩
      · show (relabel scope X.env).names.lookup x = some .cell ∨ (relabel scope X.env).names.lookup x = some .free
        rw [relabel_lookup, e2]
        show some (if _ then NameKind.cell else NameKind.free) = _ ∨ some (if _ then NameKind.cell else NameKind.free) = _
        split
        · exact .inl rfl
        · exact .inr rfl
      · rcases l with ⟨q, _⟩ | ⟨_, c, hc, z⟩
        · have hkd' : X.env.kindOf x = some .cell ∨ X.env.kindOf x = some .free := hkd
          rw [q] at hkd'
          rcases hkd' with hkd' | hkd' <;> cases hkd'
        · refine ⟨c, ?_, z.keeps hk⟩
          show (clOf scope X.env).lookup x = some c
          rw [clOf_has e3, hc]
          rfl
  · obtain ⟨v, z⟩ := I.cell x c (sub x c e)
    exact ⟨v, z.keeps hk⟩
  · show (compSt own caps σ).length = N.length
    unfold compSt
    rw [List.length_append, List.length_replicate, List.length_map, O.len]

theorem Inv.blockEnd {fp : List Addr} {σ' : St} {H' : Hp} {s' : Shared} (I : Inv X pins σ H s) (hf : ∀ b ∈ fp, FpOk X pins H b) (J : Inv (compCx X N scope s.heap.objs.size s H fp) [] σ' H' s') : Inv X pins σ H' s' :=
  I.call' (ch := fp) J.os J.base J.hok J.bare fun b hb => ⟨(hf b hb).2.2.2.1, (hf b hb).2.1, (hf b hb).2.2.2.2.1, (hf b hb).2.2.2.2.2⟩
theorem Inv.off {h' : Heap} {C : Addr} (I : Inv X pins σ H s) (hC : H C = none) (hL : C ≠ X.env.locals) (h1 : X.s₀.heap.objs.size ≤ C) (h2 : ∀ x c, X.env.cells.lookup x = some c → c ≠ C) (h3 : ∀ p ∈ X.pn ++ pins, p.1 ≠ C) (sb : Heap.SameBut C s.heap h') :
    Inv X pins σ H { s with heap := h' } :=
  I.turned (t' := s.toks) (it := C) (fun b o hb e => (sb.2 b hb).trans e) hC hL (.inr h1) h2 h3
end

def PIfs (X : Cx) (ifs : List Expr) (t : TT) : Prop :=
  ∀ (pins : List (Addr × Obj)) (s : Shared) (σ : St) (H : Hp) (Q : Bool → Hp → Prop), Inv X pins σ H s → t σ H Q →
    wpAny (model X.prog X.w) X.A (forIn ifs true fun c r => if r = true then do let ok ← isTrue c X.env (eval c X.env); pure (ForInStep.yield ok) else pure (ForInStep.yield r)) (TP X pins σ Q) X.xe s
def tYes : TT := fun _ H Q => Q true H
theorem pf_nil {X : Cx} : PIfs X [] tYes := fun _ _ _ H _ I h => wpAny_tests_nil ⟨H, I, h⟩
def tComp (wi : TI) (g : TG) (tc : TT) (te : TE) (own : Nat) (caps : List Nat) : TE := fun σ H Q => wi σ H fun J H1 => ∀ D, H1 D = none → ∃ W : Nat → Nat → St → Hp → Prop, (∃ m, W 0 m (compSt own caps σ) (upd H1 D (.lst []))) ∧ ∀ i m σ' H', W i m σ' H' →
  (J.stop i H' ∧ Q (.ref D) H') ∨ (J.go i H' ∧ ∃ N : St → Hp → Prop, (∀ σ'' H'', N σ'' H'' → ∃ m', m' < m ∧ W (i + 1) m' σ'' H'') ∧ ∀ x H2, J.yld i H' x H2 → g x σ' H2 fun σ3 H3 => tc σ3 H3 fun b H4 =>
    if b = true then te σ3 H4 fun y H5 => ∃ ys, H5 D = some (.lst ys) ∧ ys.length < sizeLine ∧ N σ3 (upd H5 D (.lst (ys ++ [y]))) else N σ3 H4)

section
variable {X : Cx} {N : List Str} {scope : Scope} {own : Nat} {caps : List Nat} {tg iter elt : Expr} {ifs : List Expr} {wi : TI} {g : TG} {tc : TT} {te : TE} {pos : Pos}
theorem comp_run {use : Option (Value → Sem Unit)} {QQ : Value → Shared → Prop} (O : CompOk X N scope own caps) (hc : X.calm = true) (hi : PI X tg iter wi) (hg : ∀ C s H fp, PG (compCx X N scope C s H fp) tg g) (ht : ∀ C s H fp, PIfs (compCx X N scope C s H fp) ifs tc)
    (he : ∀ C s H fp, PE (compCx X N scope C s H fp) elt te) (hs : ∀ x, foldedSetIterable iter X.env x = pure x)
    {pins : List (Addr × Obj)} {s : Shared} {σ : St} {H : Hp} {Q : VK} (I : Inv X pins σ H s) (h : tComp wi g tc te own caps σ H Q)
    (fin : ∀ D C H' s' m, Inv X pins σ H' s' → Q (.ref D) H' → s'.heap.Ns C m → H' C = none → C ≠ X.env.locals → X.s₀.heap.objs.size ≤ C → (∀ x c, X.env.cells.lookup x = some c → c ≠ C) → (∀ p ∈ X.pn ++ pins, p.1 ≠ C) →
      compPost (model X.prog X.w) X.A X.xe use QQ (.ref D) C (.ok .next) s') :
    wpAny (model X.prog X.w) X.A (comprehension (.ListComp elt [⟨tg, iter, ifs, 0⟩] scope pos) scope X.env (firstIterPos [⟨tg, iter, ifs, 0⟩] pos) (newList []) false (eval iter X.env) use) QQ X.xe s := by
  refine wpAny_comprehension_free (use := use) rfl hs (closureFor_clOf (O.cells I.ok)) O.kind O.names (thn (hi pins s σ H _ I h) fun v s1 h1 => thn h1 fun itv s2 h2 => ?_)
  obtain ⟨it, fp, tn, J, H2, e, I2, T, st2, f2, q⟩ := h2
  subst e
  refine wpAny_newObj_type (wpAny_newFunctionEnv O.nocell (by intro y hy; simp at hy) (fun h₁ hns hsb => ?_) O.kind)
  dsimp only at hns hsb ⊢
  have hD : H2 s2.heap.objs.size = none := I2.hok.fresh (Nat.le_refl _)
  obtain ⟨W, ⟨m0, w0⟩, turn⟩ := q s2.heap.objs.size hD
  have I3 : Inv X pins σ (upd H2 s2.heap.objs.size (.lst [])) { s2 with heap := s2.heap.push { cls := .type "list", dict := none, data := .seq ([] : List Value).toArray } } :=
    I2.lnew (its := []) (t' := s2.toks) .nil (Nat.zero_le _)
  generalize hs3 : ({ s2 with heap := s2.heap.push { cls := .type "list", dict := none, data := .seq ([] : List Value).toArray } } : Shared) = s3 at I3
  have hsz3 : s3.heap.objs.size = s2.heap.objs.size + 1 := by rw [← hs3]; exact Heap.size_push ..
  have hns' : h₁.Ns s3.heap.objs.size (fun x => ([] : List (Str × Value)).reverse.lookup x) := by rw [← hs3]; exact hns
  have hk : ∀ b o, s3.heap.get? b = some o → h₁.get? b = some o := fun b o e => by
    rw [← hs3] at e
    exact hsb.extBut b o (Nat.ne_of_lt (Heap.lt_size e)) (Heap.get?_push_of_some _ e)
  have f3 : ∀ b ∈ fp, FpOk X pins (upd H2 s2.heap.objs.size (.lst [])) b := fun b hb => by
    obtain ⟨o, ho, _⟩ := T.obj _ _ st2 b hb
    exact ⟨by rw [upd_ne (Nat.ne_of_lt (Heap.lt_size ho))]; exact (f2 b hb).1, (f2 b hb).2⟩
  have hlt : ∀ b ∈ fp, b < s3.heap.objs.size := fun b hb => by
    obtain ⟨o, ho, _⟩ := T.obj _ _ st2 b hb
    rw [hsz3]
    exact Nat.lt_succ_of_lt (Heap.lt_size ho)
  have st3 : tn 0 h₁ := T.keep _ _ _ st2 fun b hb o e => hk b o (by rw [← hs3]; exact Heap.get?_push_of_some _ e)
  have C3 : ∀ tk, Inv (compCx X N scope s3.heap.objs.size s3 (upd H2 s2.heap.objs.size (.lst [])) fp) [] (compSt own caps σ) (upd H2 s2.heap.objs.size (.lst [])) { s3 with heap := h₁, toks := tk } := fun tk => I3.block O f3 hlt hns' hk
  have nf3 : ∀ b ∈ fp, (upd H2 s2.heap.objs.size (.lst [])) b = none := fun b hb => (f3 b hb).1
  have hCL : s3.heap.objs.size ≠ X.env.locals := Nat.ne_of_gt I3.lt
  have hC1 : X.s₀.heap.objs.size ≤ s3.heap.objs.size := I3.sz
  have hC2 : ∀ x c, X.env.cells.lookup x = some c → c ≠ s3.heap.objs.size := fun x c e => by
    obtain ⟨v, z⟩ := I3.cell x c e
    exact Nat.ne_of_lt z.lt
  have hC3 : ∀ p ∈ X.pn ++ pins, p.1 ≠ s3.heap.objs.size := fun p hp => Nat.ne_of_lt (Heap.lt_size (I3.pin p hp).1)
  have hst : ∀ {H' : Hp}, (∀ b ∈ fp, H' b = none) → ∀ b ∈ fp, FpOk (compCx X N scope s3.heap.objs.size s3 (upd H2 s2.heap.objs.size (.lst [])) fp) [] H' b := fun hn b hb => by
    refine ⟨hn b hb, Nat.ne_of_lt (hlt b hb), fun z => ?_, .inl hb, fun x c e => (f3 b hb).2.2.2.2.1 x c (clOf_sub (O.cells I.ok) e), fun p hp => absurd (show p ∈ ([] : List (Addr × Obj)) from hp) (by simp)⟩
    exact (C3 0).ok.exfs b hb z
  have loop : ∀ s4 : Shared, (∃ tk, s4 = { s3 with heap := h₁, toks := tk }) →
      codeAny (model X.prog X.w) X.A (.compLoop (.ListComp elt [⟨tg, iter, ifs, 0⟩] scope pos) 0 (.ref it) (.ref s2.heap.objs.size) (compEnvC scope (clOf scope X.env) s3.heap.objs.size X.env))
        (compPost (model X.prog X.w) X.A X.xe use QQ (.ref s2.heap.objs.size) s3.heap.objs.size) s4 := by
    rintro s4 ⟨tk, rfl⟩
    refine compLoop_own (fun n s' => ∃ i σ' H', Inv (compCx X N scope s3.heap.objs.size s3 (upd H2 s2.heap.objs.size (.lst [])) fp) [] σ' H' s' ∧ tn i s'.heap ∧ (∀ b ∈ fp, H' b = none) ∧ W i n σ' H') ?_ m0 ⟨0, _, _, C3 tk, st3, nf3, w0⟩
    rintro n s5 ⟨i, σ5, H5, I5, st5, fr5, w5⟩
    rcases turn i n σ5 H5 w5 with ⟨stop, qn⟩ | ⟨go, NN, hN, step⟩
    · refine thn (T.done (compCx X N scope s3.heap.objs.size s3 (upd H2 s2.heap.objs.size (.lst [])) fp) rfl rfl rfl hc i [] s5 σ5 H5 _ I5 (hst fr5) st5 stop) fun r s6 ⟨hr, I6⟩ => ?_
      subst hr
      obtain ⟨m6, hn6, _⟩ := id I6.loc
      exact fin _ _ H5 s6 m6 (I3.blockEnd f3 I6) qn hn6 I6.free hCL hC1 hC2 hC3
    · refine thn (T.item (compCx X N scope s3.heap.objs.size s3 (upd H2 s2.heap.objs.size (.lst [])) fp) rfl rfl rfl hc i [] s5 σ5 H5 _ I5 (hst fr5) st5 go) fun r s6 ⟨u, hr, h6⟩ => ?_
      subst hr
      refine thn h6 fun _ s7 ⟨x, H7, I7, r7, y7, st7, fr7⟩ => ?_
      have I7' := I7.pinned (hst fr7) (T.obj _ _ st7)
      refine thn (hg _ _ _ _ _ s7 σ5 H7 x u _ I7' r7 (step x H7 y7)) fun _ s8 ⟨σ8, H8, I8, q8⟩ => ?_
      refine thn (ht _ _ _ _ _ s8 σ8 H8 _ I8 q8) fun ok s9 ⟨H9, I9, q9⟩ => ?_
      have again : ∀ {s10 : Shared} {σ10 : St} {H10 : Hp}, Inv (compCx X N scope s3.heap.objs.size s3 (upd H2 s2.heap.objs.size (.lst [])) fp) ([] ++ pinsAt fp s7.heap) σ10 H10 s10 → NN σ10 H10 →
          ∃ m, m < n ∧ ∃ i σ' H', Inv (compCx X N scope s3.heap.objs.size s3 (upd H2 s2.heap.objs.size (.lst [])) fp) [] σ' H' s10 ∧ tn i s10.heap ∧ (∀ b ∈ fp, H' b = none) ∧ W i m σ' H' := fun {s10 σ10 H10} I10 n10 => by
        obtain ⟨m', hm, w10⟩ := hN σ10 H10 n10
        refine ⟨m', hm, i + 1, σ10, H10, I10.unpinned, T.keep _ _ _ st7 fun b hb o e => (I10.pin (b, o) (List.mem_append_right _ (List.mem_append_right _ (mem_pinsAt hb e)))).1, fun b hb => ?_, w10⟩
        obtain ⟨o, e, d⟩ := T.obj _ _ st7 b hb
        exact (I10.pin (b, o) (List.mem_append_right _ (List.mem_append_right _ (mem_pinsAt hb e)))).2.1
      cases ok with
      | false =>
        rw [if_neg Bool.false_ne_true] at q9 ⊢
        exact again I9 q9
      | true =>
        rw [if_pos rfl] at q9 ⊢
        refine thn (he _ _ _ _ _ s9 σ8 H9 _ I9 q9) fun y s10 ⟨vy, H10, I10, r10, ys, hys, hyl, q10⟩ => ?_
        refine thn (mt_append (X := compCx X N scope s3.heap.objs.size s3 (upd H2 s2.heap.objs.size (.lst [])) fp) _ s10 σ8 H10 (.ref s2.heap.objs.size) [vy] (.ref s2.heap.objs.size) [y] (fun _ H11 => NN σ8 H11) I10 rfl (.cons r10 .nil) ⟨_, ys, vy, rfl, rfl, hys, hyl, q10⟩) fun _ s11 ⟨_, H11, I11, _, q11⟩ => ?_
        exact again I11 q11
  subst hs3
  exact codeAny_compStart_list (loop _ ⟨_, rfl⟩) (T.self _ _ _ _ _ st3 (loop _ ⟨_, rfl⟩))

theorem pe_comp (O : CompOk X N scope own caps) (hc : X.calm = true) (hi : PI X tg iter wi) (hg : ∀ C s H fp, PG (compCx X N scope C s H fp) tg g) (ht : ∀ C s H fp, PIfs (compCx X N scope C s H fp) ifs tc)
    (he : ∀ C s H fp, PE (compCx X N scope C s H fp) elt te) (hs : ∀ x, foldedSetIterable iter X.env x = pure x := by intro _; rfl) : PE X (.ListComp elt [⟨tg, iter, ifs, 0⟩] scope pos) (tComp wi g tc te own caps) := by
  intro pins s σ H Q I h
  rw [eval_ListComp]
  refine comp_run (use := none) O hc hi hg ht he hs I h fun D C H' s' m I' q hn h0 h1 h2 h3 h4 => ?_
  exact ⟨m, hn, fun h' sb => ⟨.ref D, H', I'.off h0 h1 h2 h3 h4 sb, rfl, q⟩⟩
end
end L2

set_option maxRecDepth 100000
set_option maxHeartbeats 4000000
namespace PySem
open Sem (wp)
section
variable {prog : Program} {w : World} {A : Around} {E : Value → Shared → Prop} {s : Shared}

theorem nextOf_tup {I T : Addr} {k : Nat} {vals : Array Value} {y : Value} {Q : Value → Shared → Prop} (st : s.heap.IsTupleIter I T k) (tp : s.heap.IsTuple T vals) (hy : vals[k]? = some y)
    (hQ : ∀ h', h'.IsTupleIter I T (k + 1) → Heap.SameBut I s.heap h' → Q y { s with heap := h' }) : wpAny (model prog w) A (Builtin.SmallTypes.nextOf (.ref I)) Q E s := by
  obtain ⟨oI, eI, cI, dI⟩ := id st
  obtain ⟨oT, eT, _, nT, dT⟩ := tp
  unfold Builtin.SmallTypes.nextOf
  refine wpAny_bind (wpAny_callSpecial?_slot (name := Str.ofString "__next__") st.typeIs F.slot_tuple_iterator_next (wpAny_call_entry F.slot_tuple_iterator_next st.typeIs F.entry_tuple_iterator_next ?_ (F.args_tuple_iterator_next_1 _)))
  show wpAny _ _ (field (.ref I) 0 >>= _) _ _ s
  refine wpAny_bind (wpAny_field eI dI (x := .ref T) rfl ?_)
  show wpAny _ _ (if (Value.ref T == Value.none) = true then _ else _) _ _ s
  rw [if_neg (show ¬ ((Value.ref T == Value.none) = true) from Bool.false_ne_true)]
  show wpAny _ _ (field (.ref I) 1 >>= _) _ _ s
  refine wpAny_bind (wpAny_field eI dI (x := .int k 0) rfl ?_)
  show wpAny _ _ (seqItems? (.ref T) >>= _) _ _ s
  refine wpAny_bind (wpAny_seqItems eT dT ?_)
  simp only [Int.toNat_natCast, hy]
  refine wpAny_bind (wpAny_setField eI dI (by simp) (wpAny_pure ⟨y, rfl, wpAny_pure (hQ _ ?_ (Heap.SameBut.update ..))⟩))
  exact ⟨_, Heap.get?_update_self _ eI (Obj.isFreed_of_fields (Obj.data_mapFields dI _)), (Obj.cls_mapFields ..).trans cI, by rw [Obj.data_mapFields dI]; simp [rawInt]⟩

theorem nextOf_tup_end {I T : Addr} {k : Nat} {vals : Array Value} {Q : Value → Shared → Prop} (hh : A.handled = none) (st : s.heap.IsTupleIter I T k) (tp : s.heap.IsTuple T vals) (hy : vals[k]? = none)
    (hE : ∀ h' e, Heap.ExtBut I s.heap h' → (∃ o, h'.get? e = some o ∧ o.cls = .type "StopIteration") → E (.ref e) { s with heap := h' }) : wpAny (model prog w) A (Builtin.SmallTypes.nextOf (.ref I)) Q E s := by
  obtain ⟨oI, eI, cI, dI⟩ := id st
  obtain ⟨oT, eT, _, nT, dT⟩ := tp
  unfold Builtin.SmallTypes.nextOf
  refine wpAny_bind (wpAny_callSpecial?_slot (name := Str.ofString "__next__") st.typeIs F.slot_tuple_iterator_next (wpAny_call_entry F.slot_tuple_iterator_next st.typeIs F.entry_tuple_iterator_next ?_ (F.args_tuple_iterator_next_1 _)))
  show wpAny _ _ (field (.ref I) 0 >>= _) _ _ s
  refine wpAny_bind (wpAny_field eI dI (x := .ref T) rfl ?_)
  show wpAny _ _ (if (Value.ref T == Value.none) = true then _ else _) _ _ s
  rw [if_neg (show ¬ ((Value.ref T == Value.none) = true) from Bool.false_ne_true)]
  show wpAny _ _ (field (.ref I) 1 >>= _) _ _ s
  refine wpAny_bind (wpAny_field eI dI (x := .int k 0) rfl ?_)
  show wpAny _ _ (seqItems? (.ref T) >>= _) _ _ s
  refine wpAny_bind (wpAny_seqItems eT dT ?_)
  simp only [Int.toNat_natCast, hy]
  refine wpAny_bind (wpAny_rule (wpAny_bind (wpAny_setField eI dI (by simp) ?_)))
  show wpAny _ _ (newExc (.type "StopIteration") [] >>= _) _ _ _
  refine wpAny_bind ?_
  simp only [newExc, newTuple]
  refine wpAny_bind (wpAny_newObj_type ?_ (by size_fits))
  refine wpAny_bind (m := firstArgMember _ _) (wpAny_of_eq (a := Value.none) (by first | rfl | (simp only [firstArgMember]; rfl)) ?_)
  refine wpAny_newObj_type ?_ (by size_fits)
  simp only [raiseNew]
  refine wpAny_bind (wpAny_handled ?_)
  first | rw [show A.in1.handled = none from hh] | rw [hh]
  refine wpAny_bind (wpAny_pure (wpAny_throw ?_))
  exact hE _ _ (((Heap.SameBut.update ..).extBut.push _).push _) ⟨_, Heap.get?_push_size _ rfl, rfl⟩
end

theorem Heap.IsTuple.at2 {h h' : Heap} {a : Addr} {vals : Array Value} (x : h.IsTuple a vals) (e : ∀ o, h.get? a = some o → h'.get? a = some o) : h'.IsTuple a vals := let ⟨o, q, r⟩ := x; ⟨o, e o q, r⟩
theorem Heap.IsTupleIter.at2 {h h' : Heap} {a t : Addr} {i : Nat} (x : h.IsTupleIter a t i) (e : ∀ o, h.get? a = some o → h'.get? a = some o) : h'.IsTupleIter a t i := let ⟨o, q, r⟩ := x; ⟨o, e o q, r⟩
theorem Draws.tup {prog : Program} {w : World} {A : Around} (hh : A.handled = none) (I T : Addr) (hne : T ≠ I) (vals : Array Value) :
    Draws prog w A I [I, T] vals.size (fun i v => vals[i]? = some v) (fun i h => h.IsTupleIter I T i ∧ h.IsTuple T vals) where
  live := fun _ _ st => let ⟨o, ho, _⟩ := st.1; ⟨o, ho⟩
  frame := fun _ _ _ st hk => ⟨st.1.at2 fun o e => hk I (by simp) o e, st.2.at2 fun o e => hk T (by simp) o e⟩
  item := fun i s Q E hi st hQ => nextOf_tup st.1 st.2 (y := vals[i]) (by simp [hi]) fun h' st' sb => hQ _ h' s.toks (by simp [hi]) ⟨st', st.2.extBut sb.extBut hne⟩ sb
  done := fun s Q E st hE => nextOf_tup_end hh st.1 st.2 (by simp) hE

section
open AutoSeq1 (wpAny_loadPart')
variable {prog : Program} {w : World} {A : Around} {E : Value → Shared → Prop} {s : Shared}
end
end PySem

namespace L2
open PySem PySem.Spec PyProof.Rows
section
variable {X : Cx} {pins : List (Addr × Obj)} {σ : St} {H : Hp} {s : Shared}
theorem Inv.turnedL {h' : Heap} {t' : Nat} {ch : List Addr} (I : Inv X pins σ H s) (hf : ∀ b ∈ ch, FpOk X pins H b) (k : ∀ b o, b ∉ ch → s.heap.get? b = some o → h'.get? b = some o) : Inv X pins σ H { s with heap := h', toks := t' } := by
  have nit : ∀ b u, H b = some u → b ∉ ch := fun b u e z => by rw [(hf b z).1] at e; cases e
  refine I.step (g' := s.gens) (d' := s.drawn) (ch := ch) (fun b hb => ⟨(hf b hb).2.2.2.1, (hf b hb).2.1, (hf b hb).2.2.2.2.1, (hf b hb).2.2.2.2.2⟩) (fun b o _ _ hc e _ => k b o hc e) (fun b o _ _ hc e _ => ⟨o.slots, k b o hc e⟩) (fun _ _ _ _ n => n)
    (fun b o hc e => ⟨o, k b o hc e⟩) (fun _ _ e => e) (fun _ _ _ e => e) (fun b ps e => ⟨#[], by rw [e]; simp⟩) (fun m hm => ?_) (fun b u e => ?_) I.bare
  · obtain ⟨o, es, ep, ho, r⟩ := hm
    exact ⟨o, es, ep, k _ o (fun z => (hf _ z).2.1 rfl) ho, r⟩
  · refine (I.hok b u e).stay (fun c v hc q => k c v ?_ q) (fun _ q => q) fun _ _ q => q
    rcases hc with z | z
    · rw [z]; exact nit b u e
    · exact nit c _ z
theorem Inv.track {a : Addr} {o : HO} (I : Inv X pins σ H s) (ha : X.s₀.heap.objs.size ≤ a) (hn : H a = none) (hL : a ≠ X.env.locals) (hc : ∀ x c, X.env.cells.lookup x = some c → c ≠ a) (hp : ∀ p ∈ X.pn ++ pins, p.1 ≠ a)
    (new : ObjOk X.prog X.w (upd H a o) s.heap a o) : Inv X pins σ (upd H a o) s := by
  have ne : ∀ b ob, X.s₀.heap.get? b = some ob → b ≠ a := fun b ob e => Nat.ne_of_lt (Nat.lt_of_lt_of_le (Heap.lt_size e) ha)
  refine ⟨I.ok, I.os, I.bare, ⟨I.base.keep, I.base.slot, fun b ob e n hx => by rw [upd_ne (ne b ob e)]; exact I.base.free b ob e n hx, I.base.there, fun b xs e => ?_, fun b ob u e => ?_, fun b ps e => ?_⟩, I.loc, I.cell, by rw [upd_ne hL.symm]; exact I.free,
    fun x c e => by rw [upd_ne (hc x c e)]; exact I.freeC x c e, fun p hpp => ?_, fun b u e => ?_, I.len⟩
  · have q := I.base.tups b xs e
    rw [upd_ne (ne_of_none q hn)]; exact q
  · have q := I.base.frzs b ob u e
    rw [upd_ne (ne_of_none q hn)]; exact q
  · obtain ⟨more, q⟩ := I.base.tbls b ps e
    exact ⟨more, by rw [upd_ne (ne_of_none q hn)]; exact q⟩
  · obtain ⟨e1, n1, r⟩ := I.pin p hpp
    exact ⟨e1, by rw [upd_ne (hp p hpp)]; exact n1, r⟩
  · by_cases hb : b = a
    · subst hb; rw [upd_same] at e; cases e; exact new
    · rw [upd_ne hb] at e
      exact (I.hok b u e).stay (fun c v _ q => q) (fun c q => by rw [upd_ne (ne_of_none q hn)]; exact q) fun c xs q => by rw [upd_ne (ne_of_none q hn)]; exact q
theorem Inv.yields {h' : Heap} {t' : Nat} {ch : List Addr} {T : Addr} {xs : List V} {vals : List Value} (I : Inv X pins σ H s) (hf : ∀ b ∈ ch, FpOk X pins H b) (k : ∀ b o, b ∉ ch → s.heap.get? b = some o → h'.get? b = some o)
    (hT : s.heap.objs.size ≤ T) (tp : h'.IsTuple T vals.toArray) (r : Vals xs vals) (hz : xs.length ≤ sizeLine) : Inv X pins σ (upd H T (.tup xs)) { s with heap := h', toks := t' } := by
  have f : FpOk X pins H T := I.fpOk hT (I.hok.fresh hT)
  have I1 : Inv X pins σ H { s with heap := h', toks := t' } := I.turnedL hf k
  exact I1.track (Nat.le_trans I.sz hT) f.1 f.2.1 f.2.2.2.2.1 f.2.2.2.2.2 ⟨hz, vals, r, tp⟩
theorem fp_upd {ch : List Addr} {T : Addr} {o : HO} (hf : ∀ b ∈ ch, FpOk X pins H b) (hT : ∀ b ∈ ch, b ≠ T) : ∀ b ∈ ch, FpOk X pins (upd H T o) b := fun b hb => ⟨by rw [upd_ne (hT b hb)]; exact (hf b hb).1, (hf b hb).2⟩
end

def Ite (Sq : Hp → List V → Prop) : It :=
  ⟨fun i H => ∃ xs x, Sq H xs ∧ xs[i]? = some x, fun i H y H' => ∃ T, H T = none ∧ y = .ref T ∧ ∀ xs x, Sq H xs → xs[i]? = some x → H' = upd H T (.tup [.int i, x]), fun i H => ∃ xs, Sq H xs ∧ xs.length ≤ i⟩
theorem turn_enumL {P : Program} {w : World} {K : PySem.W.Frag} {elts : List Expr} {k : Nat} {tp : Pos} (a e it : Addr) (hei : e ≠ it) : Turn P w K (.Tuple elts k tp) (Ite fun H xs => SqL K H a xs) [e, it] e (fun i h => (∃ old, IsEnum h e it i old) ∧ h.IsListIter it a i) where
  mem := by simp
  obj := fun i h st b hb => by
    obtain ⟨⟨old, q⟩, o, q2, c, d⟩ := st
    rcases List.mem_cons.mp hb with rfl | hb
    · exact ⟨_, q, fun v z => by cases z⟩
    · rw [List.mem_singleton.mp hb]
      exact ⟨o, q2, fun v z => by rw [d] at z; cases z⟩
  keep := fun i h h' st kk => ⟨⟨st.1.choose, kk e (by simp) _ st.1.choose_spec⟩, st.2.at fun o q => kk it (by simp) o q⟩
  item := by
    intro X hP hw hK hc i pins s σ H E I hf st hg
    subst hP hw hK
    obtain ⟨xs, x, hq, hx⟩ := hg
    obtain ⟨⟨old, he⟩, hit⟩ := st
    obtain ⟨its, rv, p, hz⟩ := I.list hq
    obtain ⟨u, hu, ru⟩ := rv.get hx
    have hlen := rv.length
    have hi : i < its.toArray.size := by rw [List.size_toArray]; exact (List.getElem?_eq_some_iff.mp hu).1
    have hai : a ≠ it := fun z => by
      obtain ⟨o, q, c, d⟩ := hit
      obtain ⟨o', q', c', _⟩ := p.isList
      rw [z] at q'; rw [q] at q'; cases q'; rw [c] at c'; simp at c'
    have hae : e ≠ a := fun z => by
      obtain ⟨o', q', c', _⟩ := p.isList
      rw [← z, he] at q'; cases q'; simp at c'
    refine wpAny_pyNext_enum_itemD (Draws.list (A := X.A.in1) (I.ok.hd hc) it a hai its.toArray) he ⟨hit, p.isList⟩ hi hei (by simp [hei, hae]) fun y h' tk hy ho st' hT hsz hk => ?_
    have hyu : y = u := by
      have : its[i]? = some y := by simpa using hy
      rw [hu] at this; exact (Option.some.inj this).symm
    subst hyu
    have ne : ∀ b ∈ [e, it], b ≠ s.heap.objs.size := fun b hb => by
      rcases List.mem_cons.mp hb with rfl | hb
      · exact Nat.ne_of_lt (Heap.lt_size he)
      · rw [List.mem_singleton.mp hb]; obtain ⟨o, q, _⟩ := hit; exact Nat.ne_of_lt (Heap.lt_size q)
    have kk : ∀ b o, b ∉ [e, it] → s.heap.get? b = some o → h'.get? b = some o := fun b o hb q => hk b o (fun z => hb (by simp [z])) (fun z => hb (by simp [z])) q
    have I1 : Inv X pins σ (upd H s.heap.objs.size (.tup [.int i, x])) { s with heap := h', toks := tk + 1 } := I.yields (vals := [.int i tk, y]) hf kk (Nat.le_refl _) ⟨_, hT, rfl, _, rfl⟩ (.cons ⟨tk, rfl⟩ (.cons ru .nil)) (by show 2 ≤ sizeLine; decide)
    have hf1 := fp_upd (o := .tup [.int i, x]) hf ne
    refine ⟨_, rfl, wpAny_letOwnedTupleGo_enum ho fun h'' he'' sb => ?_⟩
    have I2 : Inv X pins σ (upd H s.heap.objs.size (.tup [.int i, x])) { s with heap := h'', toks := tk + 1 } := I1.turnedL (t' := tk + 1) hf1 fun b o hb q => (sb.2 b fun z => hb (by simp [z])).trans q
    refine ⟨.ref s.heap.objs.size, _, I2, rfl, ⟨_, I.hok.fresh (Nat.le_refl _), rfl, fun ys y' hy' hx' => ?_⟩, ⟨⟨_, by simpa using he''⟩, st'.1.at fun o q => (sb.2 it hei.symm).trans q⟩, fun b hb => (hf1 b hb).1⟩
    have := I.list_inj hy' hq
    subst this
    rw [hx] at hx'
    rw [Option.some.inj hx']
  done := by
    intro X hP hw hK hc i pins s σ H E I hf st hg
    subst hP hw hK
    obtain ⟨xs, hq, hx⟩ := hg
    obtain ⟨⟨old, he⟩, hit⟩ := st
    obtain ⟨its, rv, p, hz⟩ := I.list hq
    have hlen := rv.length
    have hai : a ≠ it := fun z => by
      obtain ⟨o, q, c, d⟩ := hit
      obtain ⟨o', q', c', _⟩ := p.isList
      rw [z] at q'; rw [q] at q'; cases q'; rw [c] at c'; simp at c'
    have D : Draws X.prog X.w X.A.in1 it [it, a] i (fun _ _ => False) (fun k h => k = i ∧ h.IsListIter it a i ∧ h.IsList a its.toArray) :=
      { live := fun _ _ st => let ⟨o, ho, _⟩ := st.2.1; ⟨o, ho⟩
        frame := fun _ _ _ st hk => ⟨st.1, st.2.1.at fun o q => hk it (by simp) o q, st.2.2.at fun o q => hk a (by simp) o q⟩
        item := fun k s Q E hk st _ => absurd st.1 (Nat.ne_of_lt hk)
        done := fun s Q E st hE => wpAny_nextOf_list_end (I.ok.hd hc) st.2.1 st.2.2 (by simp; omega) hE }
    refine wpAny_pyNext_enum_endD D he ⟨rfl, hit, p.isList⟩ fun h' eb => ⟨rfl, I.turnedL (t' := s.toks) (ch := [e, it]) hf fun b o hb q => eb b o (fun z => hb (by simp [z])) q⟩
  self := fun _ _ _ _ _ st h => wpAny_pyIter_enum st.1.choose_spec h
theorem boot_enumerate : bootBuiltins "enumerate" = some (.type "enumerate") := by decide +kernel
section
variable {X : Cx} {elts : List Expr} {k : Nat} {tp : Pos}
def iEnumL (K : PySem.W.Frag) (ta : TA) : TI := fun σ H R => ta σ H fun vs H1 => ∃ a, vs = [.ref a] ∧ (∃ xs, SqL K H1 a xs) ∧ R (Ite fun H xs => SqL K H a xs) H1
def iEnumT (K : PySem.W.Frag) (ta : TA) : TI := fun σ H R => ta σ H fun vs H1 => ∃ a, vs = [.ref a] ∧ (∃ xs, SqT K H1 a xs) ∧ R (Ite fun H xs => SqT K H a xs) H1
theorem pi_enumL {a : Expr} {ta : TA} {p pos : Pos} (hg : Gl X "enumerate") (hm : X.mg "enumerate" = none) (ha : PA X [a] ta) (hs : starEach [a] X.env = [(false, eval a X.env)] := by rfl) : PI X (.Tuple elts k tp) (.Call (.Name "enumerate" p) [a] [] pos) (iEnumL X.K ta) := by
  intro pins s σ H R I h
  refine Call_ (ld_blt I hg hm boot_enumerate (PyProof.Rows.callWith_type1 (thn (ha pos pins s σ H _ I h) fun us s1 ⟨vs, H1, I1, r1, q1⟩ => ?_) hs rfl))
  obtain ⟨l, e, ⟨xs, hq⟩, q⟩ := q1
  subst e
  obtain ⟨u, rfl, rx⟩ := vals1 r1
  cases rx
  obtain ⟨its, rv, pl, hz⟩ := I1.list hq
  refine call_enumerate_list pl.isList fun h' he hit hsz hk => wpAny_pyIter_enum he ?_
  refine ⟨_, [s1.heap.objs.size + 1, s1.heap.objs.size], _, _, H1, rfl, I1.kept (t' := s1.toks) hk, turn_enumL l _ _ (Nat.succ_ne_self _), ⟨⟨_, he⟩, hit⟩, fun b hb => ?_, q⟩
  rcases List.mem_cons.mp hb with rfl | hb
  · exact I1.fpOk (Nat.le_succ _) (I1.hok.fresh (Nat.le_succ _))
  · rw [List.mem_singleton.mp hb]; exact I1.fpOk (Nat.le_refl _) (I1.hok.fresh (Nat.le_refl _))
end
end L2

set_option maxRecDepth 100000
set_option maxHeartbeats 4000000
namespace PySem
open Sem (wp)
section
variable {prog : Program} {w : World} {A : Around} {E : Value → Shared → Prop} {s : Shared}

theorem zipT_item {z TI TO i1 i2 t1 t2 : Addr} {k : Nat} {xs ys : Array Value} {x y a b : Value} {Q : Value → Shared → Prop} (D : ZipApart z TI TO i1 i2 t1 t2) (Z0 : IsZip s.heap z TI TO .none) (PI0 : IsPair s.heap TI (.ref i1) (.ref i2)) (PO0 : IsPair s.heap TO a b)
    (w1 : s.heap.IsTupleIter i1 t1 k) (w2 : s.heap.IsTupleIter i2 t2 k) (p1 : s.heap.IsTuple t1 xs) (p2 : s.heap.IsTuple t2 ys) (ex : xs[k]? = some x) (ey : ys[k]? = some y)
    (fin : ∀ h', IsZip h' z TI TO (rawInt s.heap.objs.size) → IsPair h' TO x y → h'.IsTupleIter i1 t1 (k + 1) → h'.IsTupleIter i2 t2 (k + 1) → IsPair h' s.heap.objs.size x y →
      (∀ c o, c ≠ z → c ≠ TO → c ≠ i1 → c ≠ i2 → s.heap.get? c = some o → h'.get? c = some o) → Q (.ref s.heap.objs.size) { s with heap := h' }) :
    wpAny (model prog w) A (Builtin.«zip.__next__» ⟨[.ref z], []⟩) (fun fn s' => ∃ v, fn = .done (.ret v) ∧ Q v s') E s := by
  show wpAny _ _ (field (.ref z) 2 >>= _) _ _ _
  refine wpAny_bind (wpAny_field Z0 rfl (x := .bool false) rfl ?_)
  show wpAny _ _ (field (.ref z) 3 >>= _) _ _ _
  refine wpAny_bind (wpAny_field Z0 rfl (x := .ref TI) rfl (wpAny_bind (wpAny_seqItems PI0 rfl ?_)))
  show wpAny _ _ (Builtin.SmallTypes.ownedTupleIsFree (.ref z) >>= _) _ _ _
  refine wpAny_bind ?_
  unfold Builtin.SmallTypes.ownedTupleIsFree
  refine wpAny_bind (wpAny_field Z0 rfl (x := .none) rfl (wpAny_pure ?_))
  simp only [if_true]
  refine wpAny_bind (wpAny_rule (wpAny_bind (wpAny_field Z0 rfl (x := .ref TO) rfl ?_)))
  refine wpAny_bind (wpAny_setField_rec Z0 (by simp) fun g1 Z1 b1 => ?_)
  replace Z1 : IsZip g1 z TI TO .ellipsis := Z1
  refine wpAny_bind ?_
  simp only [List.zipIdx_cons, List.zipIdx_nil, List.forIn_cons, List.forIn_nil]
  refine wpAny_bind (wpAny_bind (wpAny_onRaise ?_))
  show wpAny _ _ (Builtin.SmallTypes.nextOf (.ref i1) >>= _) _ _ _
  refine wpAny_bind (nextOf_tup (w1.extBut b1.extBut D.i1z) (p1.extBut b1.extBut D.l1z) ex fun g2 v1 b2 => wpAny_pure ?_)
  have PO2 : IsPair g2 TO a b := b2.extBut _ _ D.TOi1 (b1.extBut _ _ D.TOz PO0)
  refine wpAny_bind (wpAny_seqItems PO2 rfl (wpAny_bind (wpAny_updateSeq_pair PO2 fun g3 PO3 b3 => ?_)))
  replace PO3 : IsPair g3 TO x b := PO3
  refine wpAny_bind (wpAny_letGo (wpAny_pure (wpAny_bind (wpAny_bind (wpAny_onRaise ?_)))))
  show wpAny _ _ (Builtin.SmallTypes.nextOf (.ref i2) >>= _) _ _ _
  have w2' : g3.IsTupleIter i2 t2 k := ((w2.extBut b1.extBut D.i2z).extBut b2.extBut D.i12.symm).extBut b3.extBut D.TOi2.symm
  have p2' : g3.IsTuple t2 ys := ((p2.extBut b1.extBut D.l2z).extBut b2.extBut D.l2i1).extBut b3.extBut D.l2TO
  refine wpAny_bind (nextOf_tup w2' p2' ey fun g4 v2 b4 => wpAny_pure ?_)
  have PO4 : IsPair g4 TO x b := b4.extBut _ _ D.TOi2 PO3
  refine wpAny_bind (wpAny_seqItems PO4 rfl (wpAny_bind (wpAny_updateSeq_pair PO4 fun g5 PO5 b5 => ?_)))
  replace PO5 : IsPair g5 TO x y := PO5
  refine wpAny_bind (wpAny_letGo (wpAny_pure (wpAny_pure ?_)))
  refine wpAny_bind (wpAny_seqItems PO5 rfl (wpAny_bind (wpAny_newTuple ?_)))
  have e5 : g5.objs.size = s.heap.objs.size := by rw [b5.1, b4.1, b3.1, b2.1, b1.1]
  have Z5 : IsZip g5 z TI TO .ellipsis := b5.extBut _ _ D.TOz.symm (b4.extBut _ _ D.i2z.symm (b3.extBut _ _ D.TOz.symm (b2.extBut _ _ D.i1z.symm Z1)))
  have k5 : ∀ c o, c ≠ z → c ≠ TO → c ≠ i1 → c ≠ i2 → s.heap.get? c = some o → g5.get? c = some o := fun c o c1 c2 c3 c4 q => b5.extBut _ _ c2 (b4.extBut _ _ c4 (b3.extBut _ _ c2 (b2.extBut _ _ c3 (b1.extBut _ _ c1 q))))
  have u1 : g5.IsTupleIter i1 t1 (k + 1) := ((v1.extBut b3.extBut D.TOi1.symm).extBut b4.extBut D.i12).extBut b5.extBut D.TOi1.symm
  have u2 : g5.IsTupleIter i2 t2 (k + 1) := v2.extBut b5.extBut D.TOi2.symm
  have lz : z < g5.objs.size := Heap.lt_size Z5
  show wpAny _ _ (Builtin.SmallTypes.ownedTupleHandOut (.ref z) (.ref g5.objs.size) >>= _) _ _ _
  refine wpAny_bind ?_
  unfold Builtin.SmallTypes.ownedTupleHandOut
  have Z6 : IsZip (g5.push { cls := .type "tuple", data := .seq #[x, y] }) z TI TO .ellipsis := Heap.get?_push_of_some _ Z5
  refine wpAny_bind (wpAny_setField_rec Z6 (by simp) fun g7 Z7 b7 => ?_)
  replace Z7 : IsZip g7 z TI TO (rawInt g5.objs.size) := Z7
  refine wpAny_setField_rec Z7 (by simp) fun g8 Z8 b8 => ?_
  replace Z8 : IsZip g8 z TI TO (rawInt g5.objs.size) := Z8
  have up : ∀ c o, c ≠ z → g5.get? c = some o → g8.get? c = some o := fun c o c1 q => b8.extBut _ _ c1 (b7.extBut _ _ c1 (Heap.get?_push_of_some _ q))
  have T8 : IsPair g8 g5.objs.size x y := b8.extBut _ _ (Nat.ne_of_gt lz) (b7.extBut _ _ (Nat.ne_of_gt lz) (Heap.get?_push_size _ rfl))
  rw [e5] at Z8 T8
  refine wpAny_pure ⟨_, rfl, ?_⟩
  show Q (.ref g5.objs.size) _
  rw [e5]
  exact fin g8 Z8 (up _ _ D.TOz PO5) (u1.at2 fun o q => up _ o D.i1z q) (u2.at2 fun o q => up _ o D.i2z q) T8 fun c o c1 c2 c3 c4 q => up c o c1 (k5 c o c1 c2 c3 c4 q)

theorem zipT_end {z TI TO i1 i2 t1 t2 : Addr} {k : Nat} {xs ys : Array Value} {a b : Value} {Q : Fin → Shared → Prop} (hh : A.handled = none) (D : ZipApart z TI TO i1 i2 t1 t2) (Z0 : IsZip s.heap z TI TO .none) (PI0 : IsPair s.heap TI (.ref i1) (.ref i2)) (PO0 : IsPair s.heap TO a b)
    (w1 : s.heap.IsTupleIter i1 t1 k) (w2 : s.heap.IsTupleIter i2 t2 k) (p1 : s.heap.IsTuple t1 xs) (p2 : s.heap.IsTuple t2 ys) (over : xs[k]? = none ∨ ys[k]? = none)
    (fin : ∀ h' e, (∀ c o, c ≠ z → c ≠ TO → c ≠ i1 → c ≠ i2 → s.heap.get? c = some o → h'.get? c = some o) → (∃ o, h'.get? e = some o ∧ o.cls = .type "StopIteration") → E (.ref e) { s with heap := h' }) :
    wpAny (model prog w) A (Builtin.«zip.__next__» ⟨[.ref z], []⟩) Q E s := by
  show wpAny _ _ (field (.ref z) 2 >>= _) _ _ _
  refine wpAny_bind (wpAny_field Z0 rfl (x := .bool false) rfl ?_)
  show wpAny _ _ (field (.ref z) 3 >>= _) _ _ _
  refine wpAny_bind (wpAny_field Z0 rfl (x := .ref TI) rfl (wpAny_bind (wpAny_seqItems PI0 rfl ?_)))
  show wpAny _ _ (Builtin.SmallTypes.ownedTupleIsFree (.ref z) >>= _) _ _ _
  refine wpAny_bind ?_
  unfold Builtin.SmallTypes.ownedTupleIsFree
  refine wpAny_bind (wpAny_field Z0 rfl (x := .none) rfl (wpAny_pure ?_))
  simp only [if_true]
  refine wpAny_bind (wpAny_rule (wpAny_bind (wpAny_field Z0 rfl (x := .ref TO) rfl ?_)))
  refine wpAny_bind (wpAny_setField_rec Z0 (by simp) fun g1 Z1 b1 => ?_)
  replace Z1 : IsZip g1 z TI TO .ellipsis := Z1
  refine wpAny_bind ?_
  simp only [List.zipIdx_cons, List.zipIdx_nil, List.forIn_cons, List.forIn_nil]
  refine wpAny_bind (wpAny_bind (wpAny_onRaise ?_))
  show wpAny _ _ (Builtin.SmallTypes.nextOf (.ref i1) >>= _) _ _ _
  cases ex : xs[k]? with
  | none =>
    refine wpAny_bind (nextOf_tup_end hh (w1.extBut b1.extBut D.i1z) (p1.extBut b1.extBut D.l1z) ex fun g2 e b2 ee => ?_)
    obtain ⟨oe, he, ce⟩ := ee
    have Z2 : IsZip g2 z TI TO .ellipsis := b2 _ _ D.i1z.symm Z1
    have nz : e ≠ z := fun q => by subst q; rw [Z2] at he; cases he; simp at ce
    exact wpAny_setField_rec Z2 (by simp) fun g3 _ b3 => fin g3 e (fun c o c1 _ c3 _ q => b3.extBut _ _ c1 (b2 _ _ c3 (b1.extBut _ _ c1 q))) ⟨oe, b3.extBut _ _ nz he, ce⟩
  | some x =>
    have ey : ys[k]? = none := by rcases over with q | q; rw [ex] at q; cases q; exact q
    refine wpAny_bind (nextOf_tup (w1.extBut b1.extBut D.i1z) (p1.extBut b1.extBut D.l1z) ex fun g2 v1 b2 => wpAny_pure ?_)
    have PO2 : IsPair g2 TO a b := b2.extBut _ _ D.TOi1 (b1.extBut _ _ D.TOz PO0)
    refine wpAny_bind (wpAny_seqItems PO2 rfl (wpAny_bind (wpAny_updateSeq_pair PO2 fun g3 PO3 b3 => ?_)))
    refine wpAny_bind (wpAny_letGo (wpAny_pure (wpAny_bind (wpAny_bind (wpAny_onRaise ?_)))))
    show wpAny _ _ (Builtin.SmallTypes.nextOf (.ref i2) >>= _) _ _ _
    have w2' : g3.IsTupleIter i2 t2 k := ((w2.extBut b1.extBut D.i2z).extBut b2.extBut D.i12.symm).extBut b3.extBut D.TOi2.symm
    have p2' : g3.IsTuple t2 ys := ((p2.extBut b1.extBut D.l2z).extBut b2.extBut D.l2i1).extBut b3.extBut D.l2TO
    refine wpAny_bind (nextOf_tup_end hh w2' p2' ey fun g4 e b4 ee => ?_)
    obtain ⟨oe, he, ce⟩ := ee
    have Z4 : IsZip g4 z TI TO .ellipsis := b4 _ _ D.i2z.symm (b3.extBut _ _ D.TOz.symm (b2.extBut _ _ D.i1z.symm Z1))
    have nz : e ≠ z := fun q => by subst q; rw [Z4] at he; cases he; simp at ce
    exact wpAny_setField_rec Z4 (by simp) fun g5 _ b5 => fin g5 e (fun c o c1 c2 c3 c4 q => b5.extBut _ _ c1 (b4 _ _ c4 (b3.extBut _ _ c2 (b2.extBut _ _ c3 (b1.extBut _ _ c1 q))))) ⟨oe, b5.extBut _ _ nz he, ce⟩

theorem next_zipT {z TI TO i1 i2 t1 t2 : Addr} {k : Nat} {xs ys : Array Value} {x y a b : Value} {Q : Option Value → Shared → Prop} (D : ZipApart z TI TO i1 i2 t1 t2) (Z0 : IsZip s.heap z TI TO .none) (PI0 : IsPair s.heap TI (.ref i1) (.ref i2)) (PO0 : IsPair s.heap TO a b)
    (w1 : s.heap.IsTupleIter i1 t1 k) (w2 : s.heap.IsTupleIter i2 t2 k) (p1 : s.heap.IsTuple t1 xs) (p2 : s.heap.IsTuple t2 ys) (ex : xs[k]? = some x) (ey : ys[k]? = some y)
    (fin : ∀ h', IsZip h' z TI TO (rawInt s.heap.objs.size) → IsPair h' TO x y → h'.IsTupleIter i1 t1 (k + 1) → h'.IsTupleIter i2 t2 (k + 1) → IsPair h' s.heap.objs.size x y →
      (∀ c o, c ≠ z → c ≠ TO → c ≠ i1 → c ≠ i2 → s.heap.get? c = some o → h'.get? c = some o) → Q (some (.ref s.heap.objs.size)) { s with heap := h' }) :
    wpAny (model prog w) A (pyNext (.ref z)) Q E s := by
  have ty : s.TypeIs (.ref z) "zip" := ⟨_, Z0, rfl⟩
  unfold pyNext
  exact wpAny_bind (wpAny_attempt (wpAny_callSpecial?_slot (name := Str.ofString "__next__") ty F.slot_zip_next (wpAny_call_entry F.slot_zip_next ty F.entry_zip_next
    (zipT_item D Z0 PI0 PO0 w1 w2 p1 p2 ex ey fun h' a1 a2 a3 a4 a5 a6 => wpAny_pure (fin h' a1 a2 a3 a4 a5 a6)) (F.args_zip_next_1 _))))
theorem next_zipT_end {z TI TO i1 i2 t1 t2 : Addr} {k : Nat} {xs ys : Array Value} {a b : Value} {Q : Option Value → Shared → Prop} (hh : A.handled = none) (D : ZipApart z TI TO i1 i2 t1 t2) (Z0 : IsZip s.heap z TI TO .none) (PI0 : IsPair s.heap TI (.ref i1) (.ref i2)) (PO0 : IsPair s.heap TO a b)
    (w1 : s.heap.IsTupleIter i1 t1 k) (w2 : s.heap.IsTupleIter i2 t2 k) (p1 : s.heap.IsTuple t1 xs) (p2 : s.heap.IsTuple t2 ys) (over : xs[k]? = none ∨ ys[k]? = none)
    (fin : ∀ h', (∀ c o, c ≠ z → c ≠ TO → c ≠ i1 → c ≠ i2 → s.heap.get? c = some o → h'.get? c = some o) → Q none { s with heap := h' }) : wpAny (model prog w) A (pyNext (.ref z)) Q E s := by
  have ty : s.TypeIs (.ref z) "zip" := ⟨_, Z0, rfl⟩
  unfold pyNext
  refine wpAny_bind (wpAny_attempt (wpAny_callSpecial?_slot (name := Str.ofString "__next__") ty F.slot_zip_next (wpAny_call_entry F.slot_zip_next ty F.entry_zip_next (zipT_end hh D Z0 PI0 PO0 w1 w2 p1 p2 over fun h' e hk he => ?_) (F.args_zip_next_1 _))))
  obtain ⟨o, ho, hc⟩ := he
  exact wpAny_bind (wpAny_isInstance (T := "StopIteration") (b := true) ⟨o, ho, hc⟩ isSubtype_stop (wpAny_pure (fin _ hk)))
end

abbrev zT1 (h : Heap) (t1 : Addr) : Heap := h.push { cls := .type "tuple_iterator", data := .fields #[.ref t1, .int 0 0] }
abbrev zT2 (h : Heap) (t1 t2 : Addr) : Heap := (zT1 h t1).push { cls := .type "tuple_iterator", data := .fields #[.ref t2, .int 0 0] }
abbrev zT3 (h : Heap) (t1 t2 : Addr) : Heap := (zT2 h t1 t2).push { cls := .type "tuple", data := .seq #[.ref h.objs.size, .ref (zT1 h t1).objs.size] }
abbrev zT4 (h : Heap) (t1 t2 : Addr) : Heap := (zT3 h t1 t2).push { cls := .type "tuple", data := .seq #[.none, .none] }
abbrev zT5 (h : Heap) (t1 t2 : Addr) : Heap := (zT4 h t1 t2).push { cls := .type "zip", data := .fields #[.none, .bool false, .bool false, .ref (zT2 h t1 t2).objs.size, .ref (zT3 h t1 t2).objs.size] }
theorem meets_zip_newT (t1 t2 : Addr) (xs ys : Array Value) :
    Meets (Builtin.«zip.__new__» ⟨[.type "zip", .ref t1, .ref t2], []⟩) (fun _ R s => s.heap.IsTuple t1 xs ∧ s.heap.IsTuple t2 ys ∧ R (.ok (.ret (.ref (zT4 s.heap t1 t2).objs.size))) { s with heap := zT5 s.heap t1 t2 }) :=
  .of_wp fun prog w A R s h => by
    obtain ⟨hp, g, d, tk, os⟩ := s; obtain ⟨q1, q2, h⟩ := h
    have hsub := sub_zip
    have T1 : Heap.IsTuple (Shared.heap ⟨hp, g, d, tk, os⟩) t1 xs := q1
    have T2 : Heap.IsTuple (Shared.heap ⟨hp.push { cls := .type "tuple_iterator", data := .fields #[.ref t1, .int 0 0] }, g, d, tk, os⟩) t2 ys := Heap.IsTuple.push q2 _
    wp_walk using wpAny_pyIter_tuple T1, wpAny_pyIter_tuple T2
    exact ⟨_, rfl, h⟩
section
variable {prog : Program} {w : World} {A : Around} {E : Value → Shared → Prop} {s : Shared}
theorem call_zipT {t1 t2 : Addr} {xs ys : Array Value} {Q : Value → Shared → Prop} (q1 : s.heap.IsTuple t1 xs) (q2 : s.heap.IsTuple t2 ys)
    (h : ∀ h', IsZip h' (s.heap.objs.size + 4) (s.heap.objs.size + 2) (s.heap.objs.size + 3) .none → IsPair h' (s.heap.objs.size + 2) (.ref s.heap.objs.size) (.ref (s.heap.objs.size + 1)) →
      IsPair h' (s.heap.objs.size + 3) .none .none → h'.IsTupleIter s.heap.objs.size t1 0 → h'.IsTupleIter (s.heap.objs.size + 1) t2 0 →
      (∀ c o, s.heap.get? c = some o → h'.get? c = some o) → Q (.ref (s.heap.objs.size + 4)) { s with heap := h' }) :
    wpAny (model prog w) A (call (.type "zip") [.ref t1, .ref t2]) Q E s := by
  refine callType_new F.called_zip (by decide) (F.typeCall_zip_2 _ _) (F.newCall_zip_2 _ _) (fun obj => F.args_object_init_3 obj _ _) F.entry_zip_new (meets_zip_newT t1 t2 xs ys) ⟨q1, q2, ?_⟩
  have z1 : (zT1 s.heap t1).objs.size = s.heap.objs.size + 1 := Heap.size_push ..
  have z2 : (zT2 s.heap t1 t2).objs.size = s.heap.objs.size + 2 := by rw [Heap.size_push, z1]
  have z3 : (zT3 s.heap t1 t2).objs.size = s.heap.objs.size + 3 := by rw [Heap.size_push, z2]
  have z4 : (zT4 s.heap t1 t2).objs.size = s.heap.objs.size + 4 := by rw [Heap.size_push, z3]
  have g5 : (zT5 s.heap t1 t2).get? (zT4 s.heap t1 t2).objs.size = some _ := Heap.get?_push_size _ rfl
  have g4 : (zT5 s.heap t1 t2).get? (zT3 s.heap t1 t2).objs.size = some _ := Heap.get?_push_of_some _ (Heap.get?_push_size _ rfl)
  have g3 : (zT5 s.heap t1 t2).get? (zT2 s.heap t1 t2).objs.size = some _ := Heap.get?_push_of_some _ (Heap.get?_push_of_some _ (Heap.get?_push_size _ rfl))
  have g2 : (zT5 s.heap t1 t2).get? (zT1 s.heap t1).objs.size = some _ := Heap.get?_push_of_some _ (Heap.get?_push_of_some _ (Heap.get?_push_of_some _ (Heap.get?_push_size _ rfl)))
  have g1 : (zT5 s.heap t1 t2).get? s.heap.objs.size = some _ := Heap.get?_push_of_some _ (Heap.get?_push_of_some _ (Heap.get?_push_of_some _ (Heap.get?_push_of_some _ (Heap.get?_push_size _ rfl))))
  show _ ∧ _
  rw [z2, z3, z4] at g5
  rw [z1, z2] at g3
  rw [z3] at g4
  rw [z1] at g2
  rw [z4]
  exact ⟨⟨_, g5, rfl⟩, h _ g5 g3 g4 ⟨_, g1, rfl, rfl⟩ ⟨_, g2, rfl, rfl⟩ fun c o q => Heap.get?_push_of_some _ (Heap.get?_push_of_some _ (Heap.get?_push_of_some _ (Heap.get?_push_of_some _ (Heap.get?_push_of_some _ q))))⟩
end
end PySem

namespace L2
open PySem PySem.Spec PyProof.Rows
def Itz (K : PySem.W.Frag) (a b : Addr) : It :=
  ⟨fun i H => ∃ xs ys x y, SqT K H a xs ∧ SqT K H b ys ∧ xs[i]? = some x ∧ ys[i]? = some y, fun i H v H' => ∃ T, H T = none ∧ v = .ref T ∧ ∀ xs ys x y, SqT K H a xs → SqT K H b ys → xs[i]? = some x → ys[i]? = some y → H' = upd H T (.tup [x, y]),
    fun i H => ∃ xs ys, SqT K H a xs ∧ SqT K H b ys ∧ (xs.length ≤ i ∨ ys.length ≤ i)⟩
theorem turn_zipT {P : Program} {w : World} {K : PySem.W.Frag} {elts : List Expr} {k : Nat} {tp : Pos} (a b z TI TO i1 i2 : Addr) (D : ZipApart z TI TO i1 i2 a b) :
    Turn P w K (.Tuple elts k tp) (Itz K a b) [z, TI, TO, i1, i2] z (fun i h => IsZip h z TI TO .none ∧ IsPair h TI (.ref i1) (.ref i2) ∧ (∃ u v, IsPair h TO u v) ∧ h.IsTupleIter i1 a i ∧ h.IsTupleIter i2 b i) where
  mem := by simp
  obj := fun i h st c hc => by
    obtain ⟨q1, q2, ⟨u, v, q3⟩, ⟨o4, q4, _, d4⟩, ⟨o5, q5, _, d5⟩⟩ := st
    simp only [List.mem_cons, List.not_mem_nil, or_false] at hc
    rcases hc with rfl | rfl | rfl | rfl | rfl
    · exact ⟨_, q1, fun v z => by cases z⟩
    · exact ⟨_, q2, fun v z => by cases z⟩
    · exact ⟨_, q3, fun v z => by cases z⟩
    · exact ⟨_, q4, fun v z => by rw [d4] at z; cases z⟩
    · exact ⟨_, q5, fun v z => by rw [d5] at z; cases z⟩
  keep := fun i h h' st kk => by
    obtain ⟨q1, q2, ⟨u, v, q3⟩, q4, q5⟩ := st
    exact ⟨kk z (by simp) _ q1, kk TI (by simp) _ q2, ⟨u, v, kk TO (by simp) _ q3⟩, q4.at2 fun o q => kk i1 (by simp) o q, q5.at2 fun o q => kk i2 (by simp) o q⟩
  item := by
    intro X hP hw hK hc i pins s σ H E I hf st hg
    subst hP hw hK
    obtain ⟨xs, ys, x, y, hqa, hqb, hx, hy⟩ := hg
    obtain ⟨q1, q2, ⟨u0, v0, q3⟩, q4, q5⟩ := st
    obtain ⟨ia, ra, pa, hza⟩ := I.tuple hqa
    obtain ⟨ib, rb, pb, hzb⟩ := I.tuple hqb
    have pa : s.heap.IsTuple a ia.toArray := pa
    have pb : s.heap.IsTuple b ib.toArray := pb
    obtain ⟨u, hu, ru⟩ := ra.get hx
    obtain ⟨v, hv, rv⟩ := rb.get hy
    refine next_zipT D q1 q2 q3 q4 q5 pa pb (x := u) (y := v) (by simpa using hu) (by simpa using hv) fun h' a1 a2 a3 a4 a5 kk => ?_
    have kf : ∀ c o, c ∉ [z, TI, TO, i1, i2] → s.heap.get? c = some o → h'.get? c = some o := fun c o hcc q => kk c o (fun e => hcc (by simp [e])) (fun e => hcc (by simp [e])) (fun e => hcc (by simp [e])) (fun e => hcc (by simp [e])) q
    have ne : ∀ c ∈ [z, TI, TO, i1, i2], c ≠ s.heap.objs.size := fun c hcc => by
      obtain ⟨o4, e4, _⟩ := q4
      obtain ⟨o5, e5, _⟩ := q5
      simp only [List.mem_cons, List.not_mem_nil, or_false] at hcc
      rcases hcc with rfl | rfl | rfl | rfl | rfl
      · exact Nat.ne_of_lt (Heap.lt_size q1)
      · exact Nat.ne_of_lt (Heap.lt_size q2)
      · exact Nat.ne_of_lt (Heap.lt_size q3)
      · exact Nat.ne_of_lt (Heap.lt_size e4)
      · exact Nat.ne_of_lt (Heap.lt_size e5)
    have I1 : Inv X pins σ (upd H s.heap.objs.size (.tup [x, y])) { s with heap := h', toks := s.toks } := I.yields (vals := [u, v]) hf kf (Nat.le_refl _) ⟨_, a5, rfl, _, rfl⟩ (.cons ru (.cons rv .nil)) (by show 2 ≤ sizeLine; decide)
    have hf1 := fp_upd (o := .tup [x, y]) hf ne
    refine ⟨_, rfl, wpAny_letOwnedTupleGo_zip a1 fun h'' Z2 sb => ?_⟩
    have I2 : Inv X pins σ (upd H s.heap.objs.size (.tup [x, y])) { s with heap := h'', toks := s.toks } := I1.turnedL (t' := s.toks) hf1 fun c o hcc q => (sb.2 c fun e => hcc (by simp [e])).trans q
    refine ⟨.ref s.heap.objs.size, _, I2, rfl, ⟨_, I.hok.fresh (Nat.le_refl _), rfl, fun xs' ys' x' y' hxs hys hx' hy' => ?_⟩, ⟨Z2, sb.extBut _ _ D.TIz (kk _ _ D.TIz D.TITO D.TIi1 D.TIi2 q2), ⟨u, v, sb.extBut _ _ D.TOz a2⟩, a3.extBut sb.extBut D.i1z, a4.extBut sb.extBut D.i2z⟩, fun c hcc => (hf1 c hcc).1⟩
    have e1 := I.tuple_inj hxs hqa
    have e2 := I.tuple_inj hys hqb
    subst e1 e2
    rw [hx] at hx'; rw [hy] at hy'
    rw [Option.some.inj hx', Option.some.inj hy']
  done := by
    intro X hP hw hK hc i pins s σ H E I hf st hg
    subst hP hw hK
    obtain ⟨xs, ys, hqa, hqb, over⟩ := hg
    obtain ⟨q1, q2, ⟨u0, v0, q3⟩, q4, q5⟩ := st
    obtain ⟨ia, ra, pa, hza⟩ := I.tuple hqa
    obtain ⟨ib, rb, pb, hzb⟩ := I.tuple hqb
    have la := ra.length
    have lb := rb.length
    refine next_zipT_end (I.ok.hd hc) D q1 q2 q3 q4 q5 (show s.heap.IsTuple a ia.toArray from pa) (show s.heap.IsTuple b ib.toArray from pb) ?_ fun h' kk => ⟨rfl, I.turnedL (t' := s.toks) hf fun c o hcc q => kk c o (fun e => hcc (by simp [e])) (fun e => hcc (by simp [e])) (fun e => hcc (by simp [e])) (fun e => hcc (by simp [e])) q⟩
    rcases over with q | q
    · exact .inl (by simp; omega)
    · exact .inr (by simp; omega)
  self := fun _ _ _ _ _ st h => wpAny_pyIter_zip st.1 h

section
variable {X : Cx} {elts : List Expr} {k : Nat} {tp : Pos}
def iZipT (K : PySem.W.Frag) (ta : TA) : TI := fun σ H R => ta σ H fun vs H1 => ∃ a b, vs = [.ref a, .ref b] ∧ (∃ xs, SqT K H1 a xs) ∧ (∃ ys, SqT K H1 b ys) ∧ R (Itz K a b) H1
theorem pi_zipT {a b : Expr} {ta : TA} {p pos : Pos} (hg : Gl X "zip") (hm : X.mg "zip" = none) (ha : PA X [a, b] ta) (hs : starEach [a, b] X.env = [(false, eval a X.env), (false, eval b X.env)] := by rfl) (hs2 : starEach [b] X.env = [(false, eval b X.env)] := by rfl) :
    PI X (.Tuple elts k tp) (.Call (.Name "zip" p) [a, b] [] pos) (iZipT X.K ta) := by
  intro pins s σ H R I h
  refine Call_ (ld_blt I hg hm boot_zip (PyProof.Rows.callWith_type1 (thn (ha pos pins s σ H _ I h) fun us s1 ⟨vs, H1, I1, r1, q1⟩ => ?_) (by rw [hs, hs2]) (by rw [hs2]; rfl)))
  obtain ⟨t1, t2, e, ⟨xs, hqa⟩, ⟨ys, hqb⟩, q⟩ := q1
  subst e
  obtain ⟨u, v, rfl, rx, ry⟩ := vals2 r1
  cases rx
  cases ry
  obtain ⟨ia, ra, pa, hza⟩ := I1.tuple hqa
  obtain ⟨ib, rb, pb, hzb⟩ := I1.tuple hqb
  have pa : s1.heap.IsTuple t1 ia.toArray := pa
  have pb : s1.heap.IsTuple t2 ib.toArray := pb
  have l1 : t1 < s1.heap.objs.size := by obtain ⟨o, q, _⟩ := pa; exact Heap.lt_size q
  have l2 : t2 < s1.heap.objs.size := by obtain ⟨o, q, _⟩ := pb; exact Heap.lt_size q
  refine call_zipT pa pb fun h' a1 a2 a3 a4 a5 kk => wpAny_pyIter_zip a1 ?_
  refine ⟨_, [s1.heap.objs.size + 4, s1.heap.objs.size + 2, s1.heap.objs.size + 3, s1.heap.objs.size, s1.heap.objs.size + 1], _, _, H1, rfl, I1.kept (t' := s1.toks) kk, turn_zipT t1 t2 _ _ _ _ _ (zipApart_new l1 l2), ⟨a1, a2, ⟨_, _, a3⟩, a4, a5⟩, fun c hc => ?_, q⟩
  have up : ∀ n, FpOk X pins H1 (s1.heap.objs.size + n) := fun n => I1.fpOk (Nat.le_add_right _ _) (I1.hok.fresh (Nat.le_add_right _ _))
  simp only [List.mem_cons, List.not_mem_nil, or_false] at hc
  rcases hc with rfl | rfl | rfl | rfl | rfl
  · exact up 4
  · exact up 2
  · exact up 3
  · exact up 0
  · exact up 1
end
end L2

set_option maxRecDepth 100000
set_option maxHeartbeats 4000000
namespace L2
open PySem PySem.Spec PyProof.Rows

section
variable {X : Cx}
def rIsiT (K : PySem.W.Frag) : List V → Hp → VK → Prop := fun xs H Q => ∃ x n t b, xs = [x, .ty n] ∧ TyOf K H x t ∧ PySem.W.kitOne K t (.type n) = some b ∧ Q (.bl b) H
theorem call_isiT : CallR X (.builtin "isinstance") (rIsiT X.K) := by
  intro pins s σ H xs us Q I r h
  obtain ⟨x, n, t, b, rfl, ty, e, q⟩ := h
  obtain ⟨u, v, rfl, rx, ry⟩ := vals2 r
  cases ry
  exact isinst_ok I rx ty e fun tk => ⟨.bl b, H, I.tok _, rfl, q⟩
theorem vals_bls {bs : List Bool} : ∀ {us : List Value}, Vals (bs.map V.bl) us → us = bs.map Value.bool := by
  induction bs with
  | nil => intro us r; cases r; rfl
  | cons b bs ih =>
    intro us r
    rw [List.map_cons] at r
    cases r with
    | cons r1 r2 =>
      cases (show _ = Value.bool b from r1)
      rw [ih r2]
      rfl
theorem all_range_get (bs : List Bool) : ((List.range bs.length).all fun i => bs.getD i true) = bs.all id := by
  rw [Bool.eq_iff_iff]
  simp only [List.all_eq_true, List.mem_range, id]
  constructor
  · intro h x hx
    obtain ⟨i, hi, rfl⟩ := List.mem_iff_getElem.mp hx
    have := h i hi
    simpa [List.getD, hi] using this
  · intro h i hi
    have := h bs[i] (List.getElem_mem hi)
    simpa [List.getD, hi] using this
def rAll (K : PySem.W.Frag) : List V → Hp → VK → Prop := fun xs H Q => ∃ (p : Addr) (bs : List Bool), xs = [.ref p] ∧ SqL K H p (bs.map V.bl) ∧ Q (.bl (bs.all id)) H
theorem call_all (hc : X.calm = true) : CallR X (.builtin "all") (rAll X.K) := by
  intro pins s σ H xs us Q I r h
  obtain ⟨p, bs, rfl, hq, q⟩ := h
  obtain ⟨u, rfl, rx⟩ := vals1 r
  cases rx
  obtain ⟨its, rv, pl, hz⟩ := I.list hq
  have hits := vals_bls rv
  have hl := pl.isList
  have hlt : p < s.heap.objs.size := by obtain ⟨o, e, _⟩ := hl; exact Heap.lt_size e
  have hh : X.A.in1.handled = none := I.ok.hd hc
  refine call_all_walk (wpAny_pyIter_list hl ?_)
  refine ⟨s.heap.objs.size, _, _, _, _, _, fun i => bs.getD i true, rfl, Walks.list hh s.heap.objs.size p (Nat.ne_of_lt hlt) its.toArray, ⟨⟨_, Heap.get?_push_size _ rfl, rfl, rfl⟩, hl.push _⟩, ?_, fun h' tk hk => ?_⟩
  · intro i v s' Q' E' hv hQ
    have e : v = .bool (bs.getD i true) := by
      have hv' : its[i]? = some v := by simpa using hv
      rw [hits, List.getElem?_map] at hv'
      cases e : bs[i]? with
      | none => rw [e] at hv'; cases hv'
      | some b => rw [e] at hv'; simp [List.getD, e]; exact (Option.some.inj hv').symm
    subst e
    first
      | exact wpAny_pure hQ
      | exact hQ
  · have e : its.toArray.size = bs.length := by rw [hits]; simp
    have I1 : Inv X pins σ H { s with heap := s.heap.push { cls := .type "list_iterator", data := .fields #[.ref p, .int 0 0] } } := I.kept (t' := s.toks) fun b o e => Heap.get?_push_of_some _ e
    have f : ∀ b ∈ [s.heap.objs.size], FpOk X pins H b := fun b hb => by rw [List.mem_singleton.mp hb]; exact I.fpOk (Nat.le_refl _) (I.hok.fresh (Nat.le_refl _))
    refine ⟨.bl (bs.all id), H, I1.turnedL (t' := tk) (ch := [s.heap.objs.size]) f fun b o hb e => hk b o hb e, ?_, q⟩
    show Value.bool _ = Value.bool _
    rw [e, all_range_get]

end
end L2

namespace HT
open PySem PyProof.Rows
section
variable {prog : Program} {w : World} {A : Around} {E : Value → Shared → Prop} {s : Shared}
theorem getItem_tuple_all {t sl : Addr} {items : Array Value} {vl vu : Value} {lo hi : Option Int} {Q : Value → Shared → Prop} (ht : IsTup s.heap t items) (hs : s.heap.IsSliceOf sl vl vu .none) (pl : IsPart vl lo) (pu : IsPart vu hi)
    (hw : sIx items.size 0 lo = 0 ∧ sIx items.size items.size hi = items.size) (h : Q (.ref t) s) : wpAny (model prog w) A (getItem (.ref t) (.ref sl)) Q E s := by
  obtain ⟨os, hos, hcs, hds⟩ := id hs
  have hTs : s.TypeIs (.ref sl) "slice" := ⟨os, hos, hcs⟩
  unfold getItem
  try with_reducible refine wpAny_holding ?_
  first | refine wpAny_bind (wpAny_pure ?_) | skip
  refine wpAny_bind (wpAny_sequenceKey ht.typeIs (by decide) ?_)
  refine wpAny_bind (wpAny_callSpecial?_slot (name := Str.ofString "__getitem__") ht.typeIs PyProof.Rows.slot_tuple_getitem (wpAny_call_entry PyProof.Rows.slot_tuple_getitem ht.typeIs entry_tuple_getitem ?_ (args_tuple_getitem _ _)))
  show wpAny _ _ (Builtin.Tuple.tupleItemsOf (.ref t) >>= _) _ _ s
  refine wpAny_bind (tupleItemsOf_ ht (wpAny_bind (wpAny_typeOf hTs ?_)))
  rw [if_pos (by decide)]
  refine wpAny_bind (sliceApplied_gen hs pl pu ?_)
  have yes : (((sIx items.size 0 lo : Nat) : Int) == 0 && (1 : Int) == 1 && (sIx items.size items.size hi - sIx items.size 0 lo) == items.size) = true := by
    rw [hw.1, hw.2]; simp
  show wpAny _ _ (if (((sIx items.size 0 lo : Nat) : Int) == 0 && (1 : Int) == 1 && (sIx items.size items.size hi - sIx items.size 0 lo) == items.size) = true then _ else _) _ _ s
  rw [if_pos yes]
  refine wpAny_bind (m := Builtin.Tuple.tupleIsExact _) ?_
  unfold Builtin.Tuple.tupleIsExact
  refine wpAny_bind (wpAny_typeOf ht.typeIs (wpAny_pure ?_))
  simp only [beq_self_eq_true, if_true]
  first
    | exact wpAny_bind (wpAny_rule (wpAny_pure ⟨_, rfl, wpAny_pure h⟩))
    | exact wpAny_bind (wpAny_rule (wpAny_bind (wpAny_pure (wpAny_pure ⟨_, rfl, wpAny_pure h⟩))))
    | exact wpAny_bind (wpAny_rule (wpAny_bind (wpAny_pure ⟨_, rfl, wpAny_pure h⟩)))
    | (trace_state; fail)
end
end HT

namespace L2
open PySem PySem.Spec PyProof.Rows
section
variable {X : Cx}
def rSlTA (K : PySem.W.Frag) : V → Option Int → Option Int → Hp → VK → Prop := fun x lo hi H Q => ∃ a xs, x = .ref a ∧ SqT K H a xs ∧ (cutV xs lo hi = xs → Q (.ref a) H) ∧ ∀ p, H p = none → Q (.ref p) (upd H p (.tup (cutV xs lo hi)))
theorem sl_tupA : SlR X (rSlTA X.K) := by
  intro pins s σ H x v vl vu lo hi sl Q I rx hs pl pu h
  obtain ⟨a, xs, rfl, hx, h1, h2⟩ := h
  by_cases hw : HT.sIx xs.length 0 lo = 0 ∧ HT.sIx xs.length xs.length hi = xs.length
  · have e : cutV xs lo hi = xs := by unfold cutV; rw [hw.1, hw.2]; simp
    cases rx
    obtain ⟨its, r, ht, hz⟩ := I.tuple hx
    have hlen : its.toArray.size = xs.length := by rw [List.size_toArray]; exact r.length.symm
    exact ⟨"tuple", _, PyProof.Rows.slot_tuple_getitem.lookup, ht.typeIs, HT.getItem_tuple_all ht hs pl pu (by rw [hlen]; exact hw) ⟨.ref a, H, I, rfl, h1 e⟩⟩
  · exact sl_tup pins s σ H (.ref a) v vl vu lo hi sl Q I rx hs pl pu ⟨a, xs, rfl, hx, hw, h2⟩
end

theorem comp_by {J : It} {g : TG} {tc : TT} {te : TE} {R : Hp → Prop} {σ : St} {H : Hp} {D : Addr} (n : Nat) (Pv : Nat → St → Hp → Prop) (h0 : Pv 0 σ H)
    (go : ∀ i σ H, i < n → Pv i σ H → J.go i H ∧ ∀ x H', J.yld i H x H' → g x σ H' fun σ3 H3 => tc σ3 H3 fun b H4 =>
      if b = true then te σ3 H4 fun y H5 => ∃ ys, H5 D = some (.lst ys) ∧ ys.length < sizeLine ∧ Pv (i + 1) σ3 (upd H5 D (.lst (ys ++ [y]))) else Pv (i + 1) σ3 H4) (stop : ∀ σ H, Pv n σ H → J.stop n H ∧ R H) :
    ∃ W : Nat → Nat → St → Hp → Prop, (∃ m, W 0 m σ H) ∧ ∀ i m σ H, W i m σ H →
      (J.stop i H ∧ R H) ∨ (J.go i H ∧ ∃ N : St → Hp → Prop, (∀ σ' H', N σ' H' → ∃ m', m' < m ∧ W (i + 1) m' σ' H') ∧ ∀ x H', J.yld i H x H' → g x σ H' fun σ3 H3 => tc σ3 H3 fun b H4 =>
        if b = true then te σ3 H4 fun y H5 => ∃ ys, H5 D = some (.lst ys) ∧ ys.length < sizeLine ∧ N σ3 (upd H5 D (.lst (ys ++ [y]))) else N σ3 H4) := by
  refine ⟨fun i m σ H => m = n - i ∧ i ≤ n ∧ Pv i σ H, ⟨n, by simp, Nat.zero_le _, h0⟩, ?_⟩
  rintro i m σ H ⟨rfl, hi, p⟩
  by_cases hlt : i < n
  · obtain ⟨q1, q2⟩ := go i σ H hlt p
    exact .inr ⟨q1, Pv (i + 1), fun σ' H' p' => ⟨n - (i + 1), by omega, rfl, hlt, p'⟩, q2⟩
  · have e : i = n := by omega
    subst e
    exact .inl (stop σ H p)

theorem Same.upd {H : Hp} {a : Addr} {o : HO} (h : H a = none) : Same H (upd H a o) := fun b u e => by rw [upd_ne (ne_of_none e h)]; exact e
theorem Same.tup {K : PySem.W.Frag} {H H' : Hp} {a : Addr} {xs : List V} (e : Same H H') (h : SqT K H a xs) : SqT K H' a xs := by
  rcases h with (h | ⟨o, h⟩) | h
  · exact .inl (.inl (e _ _ h))
  · exact .inl (.inr ⟨o, e _ _ h⟩)
  · exact .inr h
theorem Same.put {H H' : Hp} {a : Addr} {o : HO} (e : Same H H') (h : H a = none) : Same H (L2.upd H' a o) := fun b u q => by rw [upd_ne (ne_of_none q h)]; exact e b u q
def isFun : ScopeKind → Bool
  | .function => true
  | _ => false
theorem isFun_eq {k : ScopeKind} (h : isFun k = true) : k = .function := by
  cases k <;> first | rfl | cases h
def compChk (Nx : List Str) (scx : Scope) (N : List Str) (scope : Scope) (own : Nat) (caps : List Nat) : Bool :=
  isFun scope.kind && scope.names.all (fun y => (y.2 != .local || scope.names.lookup y.1 == some .local) && y.2 != .cell && (y.2 != .free || scx.names.lookup y.1 == some .cell || scx.names.lookup y.1 == some .free)) &&
    N.length == own + caps.length && (caps.zip (N.drop own)).all fun p => decide (Nx[p.1]? = some p.2) && scope.names.lookup p.2 == some .free
theorem compOk {X : Cx} {N : List Str} {scope : Scope} {own : Nat} {caps : List Nat} (Nx : List Str) (scx : Scope) (h : compChk Nx scx N scope own caps = true) (hN : X.N = Nx := by rfl) (hs : X.env.scope = scx := by rfl) : CompOk X N scope own caps := by
  unfold compChk at h
  simp only [Bool.and_eq_true, List.all_eq_true] at h
  obtain ⟨⟨⟨h1, h2⟩, h3⟩, h4⟩ := h
  refine ⟨isFun_eq h1, fun y hy hl => ?_, fun y hy hc => ?_, fun y hy hf => ?_, by simpa using h3, fun i j x e1 e2 => ?_⟩
  · have := (h2 y hy).1.1
    simpa [hl] using this
  · have := (h2 y hy).1.2
    simp [hc] at this
  · have := (h2 y hy).2
    show X.env.scope.names.lookup y.1 = some .cell ∨ X.env.scope.names.lookup y.1 = some .free
    rw [hs]
    simpa [hf] using this
  · have hm : (j, x) ∈ caps.zip (N.drop own) := by
      have e3 : (N.drop own)[i]? = some x := by rw [List.getElem?_drop]; exact e2
      exact List.mem_iff_getElem?.mpr ⟨i, by rw [List.getElem?_zip_eq_some]; exact ⟨e1, e3⟩⟩
    have := h4 _ hm
    rw [hN]
    exact ⟨of_decide_eq_true this.1, by simpa using this.2⟩

structure Cal (P : Program) (w : World) (K : PySem.W.Frag) (mg : Str → Option Value) (base : Heap) (k : Nat) (x : Str) (ps : List Str) (sp : Sp) : Prop where
  ex : ∃ f fd, FnOk P w K mg base CX0 k f fd ps sp ∧ mg x = some (.ref f) ∧ PySem.W.keepIn K (.ref f) = true ∧ Binds K fd ps []
structure Laid (K : PySem.W.Frag) (mg : Str → Option Value) (x : Str) (st : Stmt) (ps : List Str) : Prop where
  ex : ∃ f fd, Fun K x x st f fd ∧ mg x = some (.ref f) ∧ Binds K fd ps []
section
variable {P : Program} {w : World} {K : PySem.W.Frag} {mg : Str → Option Value} {base : Heap}
theorem Laid.cal {x : Str} {st : Stmt} {N ps : List Str} {k : Nat} {sp : Sp} (L : Laid K mg x st ps) (S : FnScope N ps (defScope st)) (len : ∀ vs H Q E, sp vs H Q E → vs.length = ps.length)
    (hbody : ∀ (f : Addr) (cdv : Value) (A : Around) (outer : List Env) (s : Shared) (H : Hp) (vs : List V) (Q : VK) (E : XK), Room k (A.deeper (envOfC x (defScope st) s.heap.objs.size f cdv)) → sp vs H Q E →
      ∃ t, PSs (cxOf CX0 P w K mg base N x (defScope st) f cdv A outer s H E).nox (defBody st) t ∧ t { nx := fun _ H' => Q .non H', rt := Q } (start N vs) H) : Cal P w K mg base (k + 1) x ps sp := by
  obtain ⟨f, fd, F, m, b⟩ := L.ex
  exact ⟨f, fd, F.ok S len (fun cdv A outer s H vs Q E hr h => hbody f cdv A outer s H vs Q E hr h), m, F.kp, b⟩
theorem laid_mk {h : Heap} {x : Str} {st : Stmt} {ps : List Str} {f : Addr} {oc : Value} {od an : Option Addr} {osl : Array (Option Value)} {kV doc pm cdv ct : Value} (X : K.In h) (G : h.Ns mainGlobals mg) (a : PySem.W.nsIn K mainGlobals x = some (some (.ref f)))
    (l : K.lookup f = some ⟨oc, od, .func (PySem.W.fnOf x x (defArgs st) (defBody st) (defScope st) .none kV doc pm an cdv ct), osl⟩) (c : PySem.W.codeIn K cdv x = true) (k : PySem.W.keepIn K (.ref f) = true)
    (hb : ∀ (kV doc pm : Value) (an : Option Addr) (cdv ct : Value) (us : List Value), us.length = ps.length → bindArgs (PySem.W.fnOf x x (defArgs st) (defBody st) (defScope st) .none kV doc pm an cdv ct) ⟨us, []⟩ = pure (ps.zip us)) : Laid K mg x st ps :=
  ⟨f, _, fun_mk l c k, PySem.W.mg_of X G a, (fun_mk l c k).binds hb⟩
end
section
variable {X : Cx} {k k' : Nat} {x : Str} {ps : List Str} {sp : Sp} {p pos : Pos} {e : Expr} {es : List Expr} {t : TA}
theorem pe_cal (c : Cal X.prog X.w X.K X.mg X.base k x ps sp) (hr : Room k' X.A) (hk : k ≤ k') (hg : Gl X x) (ha : PA X (e :: es) t) (hdb : (x == ("__debug__" : Str)) = false := by decide) (he : starEach (e :: es) X.env = (false, eval e X.env) :: starEach es X.env := by rfl)
    (hpl : (backTo pos (starEach es X.env)).any (·.1) = false := by rfl) : PE X (.Call (.Name x p) (e :: es) [] pos) (tCall sp [] E0 t) := by
  obtain ⟨f, fd, F, m, kp, b⟩ := c.ex
  exact pe_call F (hr.mono hk) hg m kp b .nil pass0 ha hdb he hpl
end
def tyS (H : Hp) : V → Option String
  | .non => some "NoneType"
  | .bl _ => some "bool"
  | .int _ => some "int"
  | .str _ => some "str"
  | .ref p => match H p with
    | some (.lst _) => some "list"
    | some (.tup _) => some "tuple"
    | some (.frz _ (.lst _)) => some "list"
    | _ => none
  | _ => none
def subS (a n : String) : Bool := a == n || (a == "bool" && n == "int")
def knownS (n : String) : Bool := n == "bool" || n == "int" || n == "str" || n == "list" || n == "tuple"
theorem kit_all (K : PySem.W.Frag) : ∀ a ∈ ["NoneType", "bool", "int", "str", "list", "tuple"], ∀ n ∈ ["bool", "int", "str", "list", "tuple"], PySem.W.kitOne K (.type a) (.type n) = some (subS a n) := by
  intro a ha n hn
  simp only [List.mem_cons, List.not_mem_nil, or_false] at ha hn
  rcases ha with rfl | rfl | rfl | rfl | rfl | rfl <;> rcases hn with rfl | rfl | rfl | rfl | rfl <;> kernel_rfl
theorem tyS_ty {K : PySem.W.Frag} {H : Hp} {x : V} {a : String} (h : tyS H x = some a) : TyOf K H x (.type a) ∧ a ∈ ["NoneType", "bool", "int", "str", "list", "tuple"] := by
  unfold tyS at h
  split at h
  · cases h; exact ⟨.non, by simp⟩
  · cases h; exact ⟨.bl _, by simp⟩
  · cases h; exact ⟨.int _, by simp⟩
  · cases h; exact ⟨.str _, by simp⟩
  · split at h
    · rename_i e; cases h; exact ⟨.lst e, by simp⟩
    · rename_i e; cases h; exact ⟨.tup e, by simp⟩
    · rename_i e; cases h; exact ⟨.frz e, by simp⟩
    · cases h
  · cases h
section
variable {X : Cx}
def rIsiS : List V → Hp → VK → Prop := fun xs H Q => ∃ x n a, xs = [x, .ty n] ∧ tyS H x = some a ∧ knownS n = true ∧ Q (.bl (subS a n)) H
theorem call_isiS : CallR X (.builtin "isinstance") rIsiS := by
  intro pins s σ H xs us Q I r h
  obtain ⟨x, n, a, rfl, ty, kn, q⟩ := h
  obtain ⟨t1, t2⟩ := tyS_ty (K := X.K) ty
  refine call_isiT pins s σ H _ us Q I r ⟨x, n, _, _, rfl, t1, kit_all X.K a t2 n ?_, q⟩
  unfold knownS at kn
  simp only [Bool.or_eq_true, beq_iff_eq] at kn
  simp only [List.mem_cons, List.not_mem_nil, or_false]
  rcases kn with (((kn | kn) | kn) | kn) | kn <;> simp [kn]
theorem tyS_tup {H : Hp} {p : Addr} {xs : List V} (h : H p = some (.tup xs)) : tyS H (.ref p) = some "tuple" := by simp only [tyS, h]
theorem tyS_lst {H : Hp} {p : Addr} {xs : List V} (h : H p = some (.lst xs)) : tyS H (.ref p) = some "list" := by simp only [tyS, h]
end
theorem bt_isinstance : bootBuiltins "isinstance" = some (.builtin "isinstance") := by decide +kernel
theorem bt_len : bootBuiltins "len" = some (.builtin "len") := by decide +kernel
theorem bt_all : bootBuiltins "all" = some (.builtin "all") := by decide +kernel
theorem bt_any : bootBuiltins "any" = some (.builtin "any") := by decide +kernel
theorem bt_min : bootBuiltins "min" = some (.builtin "min") := by decide +kernel
theorem bt_int : bootBuiltins "int" = some (.type "int") := by decide +kernel
theorem bt_bool : bootBuiltins "bool" = some (.type "bool") := by decide +kernel
theorem bt_str : bootBuiltins "str" = some (.type "str") := by decide +kernel
theorem bt_list : bootBuiltins "list" = some (.type "list") := by decide +kernel
theorem bt_tuple : bootBuiltins "tuple" = some (.type "tuple") := by decide +kernel
end L2

set_option maxRecDepth 100000
set_option maxHeartbeats 4000000
namespace L2
open PySem PySem.Spec PyProof.Rows

structure VMeth (P : Program) (w : World) (K : PySem.W.Frag) (mg : Str → Option Value) (base : Heap) (k : Nat) (C : Addr) (m : Str) (ps : List Str) (sp : Sp) : Prop where
  cl : Cls K C
  ex : ∃ f fd, Meth K C m f ∧ FnOk P w K mg base CX0 k f fd ps sp ∧ Binds K fd ps []
def tVM (P : Program) (w : World) (K : PySem.W.Frag) (mg : Str → Option Value) (base : Heap) (k : Nat) (m : Str) (ta : TE) (t : TA) : TE := fun σ H Q => ta σ H fun x H1 => ∃ a C dx fs ps sp, x = .ref a ∧ H1 a = some (.ins C dx fs) ∧ VMeth P w K mg base k C m ps sp ∧ fs.lookup m = none ∧
  t σ H1 fun vs H2 => sp (x :: vs) H2 Q E0
structure CMeth (K : PySem.W.Frag) (C : Addr) (m : Str) (f : Addr) : Prop where
  rd : PySem.W.readsIn K C (.type "type") = true
  fc : PySem.W.findCls K (.ref C) (.type "type") m = some (.val (.ref f))
  sg : PySem.W.specialIn K (.ref C) "__getattribute__" = some (some (.builtin "type.__getattribute__"))
  kp : PySem.W.keepIn K (.ref f) = true
structure CCal (P : Program) (w : World) (K : PySem.W.Frag) (mg : Str → Option Value) (base : Heap) (k : Nat) (x m : Str) (ps : List Str) (sp : Sp) : Prop where
  ex : ∃ C f fd, mg x = some (.ref C) ∧ CMeth K C m f ∧ FnOk P w K mg base CX0 k f fd ps sp ∧ Binds K fd ps []
structure Makes (P : Program) (w : World) (K : PySem.W.Frag) (mg : Str → Option Value) (base : Heap) (k : Nat) (x : Str) (C : Addr) (ps : List Str) (sp : Sp) : Prop where
  ex : ∃ f fd, Mk K C f ∧ FnOk P w K mg base CX0 k f fd ps sp ∧ Binds K fd ps []
  at_ : mg x = some (.ref C)
section
variable {X : Cx} {k k' : Nat} {C : Addr} {ps : List Str} {sp : Sp} {x m : Str} {p pos apos : Pos} {e o : Expr} {es : List Expr} {ta : TE} {t : TA}
theorem pe_vm0 {pl : Sem Bool} (hr : Room k X.A) (he : PE X o ta)
    (ht : eval (.Call (.Attribute o m apos) [] [] pos) X.env = (do
      let ov ← eval o X.env
      standAt apos.atName
      let (f, first) ← holding [ov] (getMethod ov m pl)
      callWith pos f first (backTo pos (starEach [] X.env)) (backToKw pos (keywordEach [] X.env))) := by rfl) :
    PE X (.Call (.Attribute o m apos) [] [] pos) (tVM X.prog X.w X.K X.mg X.base k m ta tNil) := by
  intro pins s σ H Q I h
  refine PySem.W.methodCall_KW (pl := pl) (thn (he pins s σ H _ I h) fun u s1 ⟨x, H1, I1, rx, a, C, dx, fs, ps, sp, ex, ea, vm, l, q⟩ => ?_) ht
  subst ex
  obtain rfl : u = Value.ref a := rx
  obtain ⟨f, fd, hm, F, hb⟩ := vm.ex
  refine getmeth_ok I1 ea vm.cl hm l ?_
  exact PySem.W.callWith_K0 (first := [.ref a]) I1.kIn hm.kp (run_fn (us := [.ref a]) (vs := [.ref a]) (ds := []) (dvs := []) F hr hb .nil pass0 I1 (.cons rfl .nil) q)
theorem pe_cc {pl : Sem Bool} {op : Pos} (c : CCal X.prog X.w X.K X.mg X.base k x m ps sp) (hr : Room k' X.A) (hk : k ≤ k') (hg : Gl X x) (ha : PA X (e :: es) t) (hdb : (x == ("__debug__" : Str)) = false := by decide)
    (hst : starEach (e :: es) X.env = (false, eval e X.env) :: starEach es X.env := by rfl) (hpl : (backTo pos (starEach es X.env)).any (·.1) = false := by rfl)
    (ht : eval (.Call (.Attribute (.Name x op) m apos) (e :: es) [] pos) X.env = (do
      let ov ← eval (.Name x op) X.env
      standAt apos.atName
      let (f, first) ← holding [ov] (getMethod ov m pl)
      callWith pos f first (backTo pos (starEach (e :: es) X.env)) (backToKw pos (keywordEach [] X.env))) := by rfl) :
    PE X (.Call (.Attribute (.Name x op) m apos) (e :: es) [] pos) (tCall sp [] E0 t) := by
  intro pins s σ H Q I h
  obtain ⟨C, f, fd, hm, cm, F, hb⟩ := c.ex
  refine PySem.W.methodCall_KW (pl := pl) (ld_glob I hg hm ?_ hdb) ht
  refine PySem.W.method_cls I.kIn cm.sg (PySem.W.cls_value I.kIn cm.rd cm.fc rfl ?_)
  have I1 := I.tok (s.toks + 1)
  refine PySem.W.callWith_K (first := []) (h₀ := X.base) I.ok.mod.kin cm.kp (thn (ha pos pins _ σ H _ I1 h) fun us s2 ⟨vs, H2, I2, r, q2⟩ => ⟨I2.kIn, ?_⟩) hst hpl
  exact run_fn F (hr.mono hk) hb .nil pass0 I2 r q2
theorem pe_mak (c : Makes X.prog X.w X.K X.mg X.base k x C ps sp) (hr : Room k' X.A) (hk : k + 1 ≤ k') (hg : Gl X x) (ha : PA X (e :: es) t) (hdb : (x == ("__debug__" : Str)) = false := by decide) (he : starEach (e :: es) X.env = (false, eval e X.env) :: starEach es X.env := by rfl)
    (hpl : (backTo pos (starEach es X.env)).any (·.1) = false := by rfl) : PE X (.Call (.Name x p) (e :: es) [] pos) (tMake C sp [] E0 t) := by
  obtain ⟨f, fd, M, F, b⟩ := c.ex
  exact pe_make M F (hr.mono hk) hg c.at_ b .nil pass0 ha hdb he hpl
theorem pe_mak0 (c : Makes X.prog X.w X.K X.mg X.base k x C ps sp) (hr : Room k' X.A) (hk : k + 1 ≤ k') (hg : Gl X x) (hdb : (x == ("__debug__" : Str)) = false := by decide) : PE X (.Call (.Name x p) [] [] pos) (tMake C sp [] E0 tNil) := by
  obtain ⟨f, fd, M, F, b⟩ := c.ex
  exact pe_make0 M F (hr.mono hk) hg c.at_ b .nil pass0 hdb

theorem eqV_refl {x : V} (h : flatV x = true) : eqV x x = true := by
  cases x <;> first | rfl | (simp [eqV]; done) | (simp [flatV] at h)
theorem call_str_any : CallR X (.type "str") (fun xs H Q => (∃ z, xs = [.str z] ∧ Q (.str z) H) ∨ ∃ i, xs = [.int i] ∧ i.natAbs.log2 < 1920 ∧ Q (.str (toString i)) H) := by
  intro pins s σ H xs us Q I r h
  rcases h with ⟨z, rfl, q⟩ | h
  · obtain ⟨u, rfl, t, rfl⟩ := vals1 r
    exact PySem.P.str_of_str ⟨.str z, H, I, ⟨_, rfl⟩, q⟩
  · exact call_str_int pins s σ H xs us Q I r h
theorem strsAre_of {ts : List Str} : ∀ {us : List Value}, Vals (ts.map V.str) us → StrsAre us ts := by
  induction ts with
  | nil => intro us r; cases r; exact .nil
  | cons z ts ih =>
    intro us r
    rw [List.map_cons] at r
    cases r with
    | cons r1 r2 =>
      obtain ⟨t, e⟩ := r1
      subst e
      exact .cons z t (ih r2)
def rJoin (K : PySem.W.Frag) : V → List V → Hp → VK → Prop := fun x vs H Q => ∃ z p ts, x = .str z ∧ vs = [.ref p] ∧ SqL K H p (ts.map V.str) ∧ z.length ≤ 16 ∧ (ts.map (·.length)).sum + ts.length ≤ 1048576 ∧ Q (.str (Txt.join z ts)) H
theorem mt_join : MtR X "str.join" (rJoin X.K) := by
  intro pins s σ H x vs v us Q I rx rv h
  obtain ⟨z, p, ts, rfl, rfl, hq, hz, hw, q⟩ := h
  obtain ⟨t, rfl⟩ := rx
  obtain ⟨u, rfl, ru⟩ := rv.one
  cases ru
  obtain ⟨its, r, pl, _⟩ := I.list hq
  exact join_listW pl.isList (strsAre_of r) hz hw fun t' k => ⟨.str _, H, I.tok _, ⟨_, rfl⟩, q⟩
end
section
variable {X : Cx} {e o : Expr} {es : List Expr} {ta : TE} {t : TA} {pos apos : Pos} {m f : Str}
theorem ix_listK (K : PySem.W.Frag) (h : X.K = K := by rfl) : IxR X (rIxL K) := by subst h; exact ix_list
theorem ix_tupK (K : PySem.W.Frag) (h : X.K = K := by rfl) : IxR X (rIxT K) := by subst h; exact ix_tup
theorem sl_listK (K : PySem.W.Frag) (h : X.K = K := by rfl) : SlR X (rSlL K) := by subst h; exact sl_list
theorem sl_tupAK (K : PySem.W.Frag) (h : X.K = K := by rfl) : SlR X (rSlTA K) := by subst h; exact sl_tupA
theorem op_catTK (K : PySem.W.Frag) (h : X.K = K := by rfl) : OpR X (binaryOp .Add) (rCatT K) := by subst h; exact op_catT
theorem pg_tupK {k : Nat} {g : TGs} {n : Nat} (K : PySem.W.Frag) (hc : X.calm = true) (h : PGs X es g) (hK : X.K = K := by rfl) (hn : (assignEach es X.env).length = n := by rfl) (hst : (assignEach es X.env).findIdx? (·.1) = none := by rfl) : PG X (.Tuple es k pos) (gTup K n g) := by
  subst hK
  exact pg_tup hc h hn hst
theorem pe_fldK (K : PySem.W.Frag) (he : PE X e ta) (hb : attributeBase e f X.env (eval e X.env) = eval e X.env) (hK : X.K = K := by rfl) : PE X (.Attribute e f pos) (tFld K ta f) := by
  subst hK
  exact pe_fld he hb
end
end L2

set_option maxRecDepth 100000
set_option maxHeartbeats 4000000
namespace L2
open PySem PySem.Spec PyProof.Rows
section
variable {X : Cx} {pos : Pos}
def gLst (K : PySem.W.Frag) (n : Nat) (t : TGs) : TG := fun v σ H Q => ∃ a xs, v = .ref a ∧ SqL K H a xs ∧ xs.length = n ∧ t xs σ H Q
theorem pg_lst {es : List Expr} {k : Nat} {t : TGs} {n : Nat} (hc : X.calm = true) (h : PGs X es t)
    (hn : (assignEach es X.env).length = n := by rfl) (hst : (assignEach es X.env).findIdx? (·.1) = none := by rfl) : PG X (.Tuple es k pos) (gLst X.K n t) := by
  intro pins s σ H v u Q I r hw
  obtain ⟨a, xs, e1, hq, hl, hw⟩ := hw
  subst e1
  cases r
  obtain ⟨its, rv, ht, hz⟩ := I.list hq
  have hn' : (assignEach es X.env).length = its.toArray.size := by simp [hn, ← hl, rv.length]
  rw [PyProof.Rows.assign_Tuple]
  refine wpAny_bind (wpAny_standAt ?_)
  unfold unpack
  rw [hn', hst]
  refine wpAny_bind (wpAny_holding (PySem.W.kun_itemsOf (I.ok.hd hc) ht.isList fun h' hx => ?_))
  have I1 : Inv X pins σ H { s with heap := h' } := I.kept (t' := s.toks) fun b o e => hx b o (Nat.ne_of_lt (Heap.lt_size e)) e
  exact h pins _ σ H xs _ Q I1 (by simpa using rv) hw
end

def rLen (K : PySem.W.Frag) : List V → Hp → VK → Prop := fun xs H Q => ∃ p ys, xs = [.ref p] ∧ (SqL K H p ys ∨ SqT K H p ys) ∧ Q (.int ys.length) H
def rTupOf (K : PySem.W.Frag) : List V → Hp → VK → Prop := fun xs H Q => ∃ p ys, xs = [.ref p] ∧ ((SqL K H p ys ∧ ∀ l, H l = none → Q (.ref l) (upd H l (.tup ys))) ∨ (SqT K H p ys ∧ Q (.ref p) H))
def rLstOf (K : PySem.W.Frag) : List V → Hp → VK → Prop := fun xs H Q => ∃ p ys, xs = [.ref p] ∧ (SqL K H p ys ∨ SqT K H p ys) ∧ ∀ l, H l = none → Q (.ref l) (upd H l (.lst ys))
def rMax2 : List V → Hp → VK → Prop := fun xs H Q => ∃ i j, xs = [.int i, .int j] ∧ Q (.int (if j > i then j else i)) H
def rMin2 : List V → Hp → VK → Prop := fun xs H Q => ∃ i j, xs = [.int i, .int j] ∧ Q (.int (if j < i then j else i)) H
def rInt1 : List V → Hp → VK → Prop := fun xs H Q => (∃ i, xs = [.int i] ∧ Q (.int i) H) ∨ ∃ k, xs = [.bl k] ∧ Q (.int (if k then 1 else 0)) H
def rStr1 : List V → Hp → VK → Prop := fun xs H Q => (∃ z, xs = [.str z] ∧ Q (.str z) H) ∨ ∃ i, xs = [.int i] ∧ i.natAbs.log2 < 1920 ∧ Q (.str (toString i)) H
section
variable {X : Cx}
theorem lenK (K : PySem.W.Frag) (h : X.K = K := by rfl) : CallR X (.builtin "len") (rLen K) := by subst h; exact call_len_seq
theorem tupOfK (K : PySem.W.Frag) (h : X.K = K := by rfl) : CallR X (.type "tuple") (rTupOf K) := by subst h; exact call_tuple_of
theorem lstOfK (K : PySem.W.Frag) (h : X.K = K := by rfl) : CallR X (.type "list") (rLstOf K) := by subst h; exact call_list_of
theorem min2 (hc : X.calm = true) : CallR X (.builtin "min") rMin2 := call_min2 hc
theorem int1 : CallR X (.type "int") rInt1 := call_int1
theorem str1 : CallR X (.type "str") rStr1 := call_str_any
end
section
variable {σ : St} {H : Hp} {Q : VK} {B : Bool → Hp → Prop} {L : List V → Hp → Prop} {ta tb : TE} {t : TA} {c d : TT} {nx bk ct : St → Hp → Prop} {rt : VK} {g : TG} {K : PySem.W.Frag}
theorem r_var {i : Nat} {v : V} (h : σ[i]? = some (some v)) (q : Q v H) : tVar i σ H Q := ⟨v, h, q⟩
theorem r_c {v : V} (q : Q v H) : tC v σ H Q := q
theorem r_op {r : R2} (q : ta σ H fun x H1 => tb σ H1 fun y H2 => r x y H2 Q) : tOp r ta tb σ H Q := q
theorem r_un {r : V → Hp → VK → Prop} (q : ta σ H fun x H1 => r x H1 Q) : tUn r ta σ H Q := q
theorem r_I0 {f : Int → Int → V} {i j : Int} (q : Q (f i j) H) : rI0 f (.int i) (.int j) H Q := ⟨i, j, rfl, rfl, q⟩
theorem r_I {C : Int → Int → Prop} {f : Int → Int → V} {i j : Int} (h : C i j) (q : Q (f i j) H) : rI C f (.int i) (.int j) H Q := ⟨i, j, rfl, rfl, h, q⟩
theorem r_U {f : Int → V} {i : Int} (q : Q (f i) H) : rU f (.int i) H Q := ⟨i, rfl, q⟩
theorem r_isN (q : ta σ H fun x H1 => Q (.bl (decide (x = .non))) H1) : tIsN ta σ H Q := q
theorem r_notN (q : ta σ H fun x H1 => Q (.bl (!decide (x = .non))) H1) : tNotN ta σ H Q := q
theorem r_B (q : ta σ H fun x H1 => ∃ k, x = .bl k ∧ B k H1) : tB ta σ H B := q
theorem r_test (q : ta σ H fun x H1 => ∃ k, x = .bl k ∧ B k H1) : tTest ta σ H B := q
theorem r_bl {b : Bool} {P : Bool → Prop} (q : P b) : ∃ k, V.bl b = V.bl k ∧ P k := ⟨b, rfl, q⟩
theorem r_and (q : c σ H fun k H1 => if k = true then d σ H1 B else B false H1) : tAnd c d σ H B := q
theorem r_or (q : c σ H fun k H1 => if k = true then B true H1 else d σ H1 B) : tOr c d σ H B := q
theorem r_not (q : c σ H fun k H1 => B (!k) H1) : tNot c σ H B := q
theorem r_andV (q : ta σ H fun x H1 => ∃ k, x = .bl k ∧ if k = true then tb σ H1 Q else Q (.bl false) H1) : tAndV ta tb σ H Q := q
theorem r_orV (q : ta σ H fun x H1 => ∃ k, x = .bl k ∧ if k = true then Q (.bl true) H1 else tb σ H1 Q) : tOrV ta tb σ H Q := q
theorem r_notV (q : ta σ H fun x H1 => ∃ k, x = .bl k ∧ Q (.bl (!k)) H1) : tNotV ta σ H Q := q
theorem r_if (q : c σ H fun k H1 => if k = true then ta σ H1 Q else tb σ H1 Q) : tIf c ta tb σ H Q := q
theorem r_cons (q : ta σ H fun x H1 => t σ H1 fun xs H2 => L (x :: xs) H2) : tCons ta t σ H L := q
theorem r_nil (q : L [] H) : tNil σ H L := q
theorem r_tup (q : t σ H fun xs H1 => xs.length ≤ sizeLine ∧ ∀ p, H1 p = none → Q (.ref p) (upd H1 p (.tup xs))) : tTup t σ H Q := q
theorem r_lst (q : t σ H fun xs H1 => xs.length ≤ sizeLine ∧ ∀ p, H1 p = none → Q (.ref p) (upd H1 p (.lst xs))) : tLst t σ H Q := q
theorem r_al {n : Nat} {P : Prop} (h : Nat.ble n sizeLine = true) (q : P) : n ≤ sizeLine ∧ P := ⟨Nat.le_of_ble_eq_true h, q⟩
theorem r_call {sp : Sp} {E : XK} (q : t σ H fun vs H1 => sp (vs ++ []) H1 Q E) : tCall sp [] E t σ H Q := q
theorem r_cb {r : List V → Hp → VK → Prop} (q : t σ H fun vs H1 => r vs H1 Q) : tCB r t σ H Q := q
theorem r_bm {T : String} {r : V → List V → Hp → VK → Prop} (q : ta σ H fun x H1 => tyV K T x H1 ∧ t σ H1 fun xs H2 => r x xs H2 Q) : tBM K T r ta t σ H Q := q
theorem r_sl {r : V → Option Int → Option Int → Hp → VK → Prop} {tl th : TO} (q : ta σ H fun x H1 => tl σ H1 fun l H2 => th σ H2 fun u H3 => r x l u H3 Q) : tSl r ta tl th σ H Q := q
theorem r_np {P : Option Int → Hp → Prop} (q : P none H) : tNoPart σ H P := q
theorem r_pt {P : Option Int → Hp → Prop} (q : ta σ H fun x H1 => ∃ i, x = .int i ∧ P (some i) H1) : tPart ta σ H P := q
theorem r_int {i : Int} {P : Int → Prop} (q : P i) : ∃ k, V.int i = V.int k ∧ P k := ⟨i, rfl, q⟩
theorem r_eqI {i j : Int} (q : Q (.bl (decide (i = j))) H) : rEq (.int i) (.int j) H Q := ⟨rfl, by rw [show decide (V.int i = V.int j) = decide (i = j) by simp]; exact q⟩
theorem r_eqS {i j : Str} (q : Q (.bl (decide (i = j))) H) : rEq (.str i) (.str j) H Q := ⟨rfl, by rw [show decide (V.str i = V.str j) = decide (i = j) by simp]; exact q⟩
theorem r_eqB {i j : Bool} (q : Q (.bl (decide (i = j))) H) : rEq (.bl i) (.bl j) H Q := ⟨rfl, by rw [show decide (V.bl i = V.bl j) = decide (i = j) by simp]; exact q⟩
theorem r_neI {i j : Int} (q : Q (.bl (!decide (i = j))) H) : rNe (.int i) (.int j) H Q := ⟨rfl, by rw [show decide (V.int i = V.int j) = decide (i = j) by simp]; exact q⟩
theorem r_neS {i j : Str} (q : Q (.bl (!decide (i = j))) H) : rNe (.str i) (.str j) H Q := ⟨rfl, by rw [show decide (V.str i = V.str j) = decide (i = j) by simp]; exact q⟩
theorem r_neB {i j : Bool} (q : Q (.bl (!decide (i = j))) H) : rNe (.bl i) (.bl j) H Q := ⟨rfl, by rw [show decide (V.bl i = V.bl j) = decide (i = j) by simp]; exact q⟩
theorem r_ixT {p : Addr} {xs : List V} {i : Int} {v : V} (h : SqT K H p xs) (e : atI xs i = some v) (q : Q v H) : rIxT K (.ref p) (.int i) H Q := ⟨p, xs, i, v, rfl, rfl, h, e, q⟩
theorem r_ixL {p : Addr} {xs : List V} {i : Int} {v : V} (h : SqL K H p xs) (e : atI xs i = some v) (q : Q v H) : rIxL K (.ref p) (.int i) H Q := ⟨p, xs, i, v, rfl, rfl, h, e, q⟩
theorem r_lenT {p : Addr} {xs : List V} (h : SqT K H p xs) (q : Q (.int xs.length) H) : rLen K [.ref p] H Q := ⟨p, xs, rfl, .inr h, q⟩
theorem r_lenL {p : Addr} {xs : List V} (h : SqL K H p xs) (q : Q (.int xs.length) H) : rLen K [.ref p] H Q := ⟨p, xs, rfl, .inl h, q⟩
theorem r_catT {p q : Addr} {xs ys : List V} (h1 : SqT K H p xs) (h2 : SqT K H q ys) (h : xs ≠ []) (hy : ys ≠ []) (hz : Nat.ble (xs.length + ys.length) sizeLine = true) (k : ∀ r, H r = none → Q (.ref r) (upd H r (.tup (xs ++ ys)))) : rCatT K (.ref p) (.ref q) H Q :=
  ⟨p, q, xs, ys, rfl, rfl, h1, h2, h, Nat.le_of_ble_eq_true hz, fun e => (hy e).elim, fun _ => k⟩
theorem r_lenU {p : Addr} {xs : List V} (h : SqL K H p xs ∨ SqT K H p xs) (q : Q (.int xs.length) H) : rLen K [.ref p] H Q := ⟨p, xs, rfl, h, q⟩
theorem r_ixU {p : Addr} {xs : List V} {i : Int} {v : V} (h : SqL K H p xs ∨ SqT K H p xs) (e : atI xs i = some v) (q : Q v H) : rIx K (.ref p) (.int i) H Q := by
  rcases h with h | h
  · exact .inl (r_ixL h e q)
  · exact .inr (.inl (r_ixT h e q))
theorem atI0 {v : V} {l : List V} : atI (v :: l) 0 = some v := atI_nat (j := 0) rfl
theorem atI_off {xs : List V} {j : Nat} {v : V} (h : xs[j]? = some v) : atI xs (0 + (j : Int)) = some v := by rw [Int.zero_add]; exact atI_nat h
theorem take_snoc {α β : Type} (f : α → β) (xs : List α) {i : Nat} (hi : i < xs.length) : (xs.take i).map f ++ [f xs[i]] = (xs.take (i + 1)).map f := by rw [List.take_succ_eq_append_getElem hi, List.map_append]; rfl
theorem r_isi {x : V} {n a : String} {b : Bool} (h : tyS H x = some a) (k : knownS n = true) (e : subS a n = b) (q : Q (.bl b) H) : rIsiS [x, .ty n] H Q := ⟨x, n, a, rfl, h, k, by rw [e]; exact q⟩
theorem r_isi_ib {i : Int} (q : Q (.bl false) H) : rIsiS [.int i, .ty "bool"] H Q := r_isi rfl (by decide +kernel) (by decide +kernel) q
theorem r_isi_ii {i : Int} (q : Q (.bl true) H) : rIsiS [.int i, .ty "int"] H Q := r_isi rfl (by decide +kernel) (by decide +kernel) q
theorem r_isi_bb {i : Bool} (q : Q (.bl true) H) : rIsiS [.bl i, .ty "bool"] H Q := r_isi rfl (by decide +kernel) (by decide +kernel) q
theorem r_isi_bi {i : Bool} (q : Q (.bl true) H) : rIsiS [.bl i, .ty "int"] H Q := r_isi rfl (by decide +kernel) (by decide +kernel) q
theorem r_isi_ss {i : Str} (q : Q (.bl true) H) : rIsiS [.str i, .ty "str"] H Q := r_isi rfl (by decide +kernel) (by decide +kernel) q
theorem r_isi_sb {i : Str} (q : Q (.bl false) H) : rIsiS [.str i, .ty "bool"] H Q := r_isi rfl (by decide +kernel) (by decide +kernel) q
theorem r_isi_si {i : Str} (q : Q (.bl false) H) : rIsiS [.str i, .ty "int"] H Q := r_isi rfl (by decide +kernel) (by decide +kernel) q
theorem r_isi_st {i : Str} (q : Q (.bl false) H) : rIsiS [.str i, .ty "tuple"] H Q := r_isi rfl (by decide +kernel) (by decide +kernel) q
theorem r_isi_it {i : Int} (q : Q (.bl false) H) : rIsiS [.int i, .ty "tuple"] H Q := r_isi rfl (by decide +kernel) (by decide +kernel) q
theorem r_isi_bt {i : Bool} (q : Q (.bl false) H) : rIsiS [.bl i, .ty "tuple"] H Q := r_isi rfl (by decide +kernel) (by decide +kernel) q
theorem r_isi_is {i : Int} (q : Q (.bl false) H) : rIsiS [.int i, .ty "str"] H Q := r_isi rfl (by decide +kernel) (by decide +kernel) q
theorem r_isi_bs {i : Bool} (q : Q (.bl false) H) : rIsiS [.bl i, .ty "str"] H Q := r_isi rfl (by decide +kernel) (by decide +kernel) q
theorem r_isi_nl (q : Q (.bl false) H) : rIsiS [.non, .ty "list"] H Q := r_isi rfl (by decide +kernel) (by decide +kernel) q
theorem r_isi_tt {p : Addr} {xs : List V} (h : H p = some (.tup xs)) (q : Q (.bl true) H) : rIsiS [.ref p, .ty "tuple"] H Q := r_isi (tyS_tup h) (by decide +kernel) (by decide +kernel) q
theorem r_isi_tl {p : Addr} {xs : List V} (h : H p = some (.tup xs)) (q : Q (.bl false) H) : rIsiS [.ref p, .ty "list"] H Q := r_isi (tyS_tup h) (by decide +kernel) (by decide +kernel) q
theorem r_isi_ll {p : Addr} {xs : List V} (h : H p = some (.lst xs)) (q : Q (.bl true) H) : rIsiS [.ref p, .ty "list"] H Q := r_isi (tyS_lst h) (by decide +kernel) (by decide +kernel) q
theorem r_isi_lt {p : Addr} {xs : List V} (h : H p = some (.lst xs)) (q : Q (.bl false) H) : rIsiS [.ref p, .ty "tuple"] H Q := r_isi (tyS_lst h) (by decide +kernel) (by decide +kernel) q
theorem r_seq {t u : TS} (q : t ⟨u ⟨nx, rt, bk, ct⟩, rt, bk, ct⟩ σ H) : tSeq t u ⟨nx, rt, bk, ct⟩ σ H := q
theorem r_asg (q : ta σ H fun x H1 => g x σ H1 nx) : tAsg ta g ⟨nx, rt, bk, ct⟩ σ H := q
theorem r_name {i : Nat} {v : V} {N : St → Hp → Prop} (q : N (σ.set i (some v)) H) : gName i v σ H N := q
theorem r_ifS {t u : TS} {D : Ends} (q : c σ H fun k H1 => if k = true then t D σ H1 else u D σ H1) : tIfS c t u D σ H := q
theorem r_ret (q : ta σ H rt) : tRet ta ⟨nx, rt, bk, ct⟩ σ H := q
theorem r_retN (q : rt .non H) : tRetN ⟨nx, rt, bk, ct⟩ σ H := q
theorem r_next (q : nx σ H) : tNext ⟨nx, rt, bk, ct⟩ σ H := q
theorem r_drop (q : ta σ H fun _ H1 => nx σ H1) : tDrop ta ⟨nx, rt, bk, ct⟩ σ H := q
theorem r_sub {to ti : TE} {ts : TSet} {v : V} {N : St → Hp → Prop} (q : to σ H fun o H1 => ti σ H1 fun i H2 => ts o i v H2 fun H3 => N σ H3) : gSub to ti ts v σ H N := q
theorem r_augS {to ti te : TE} {tget : V → V → Hp → VK → Prop} {tip : TIp} {tset : TSet} (q : to σ H fun o H1 => ti σ H1 fun i H2 => tget o i H2 fun x H3 => te σ H3 fun y H4 => tip x y H4 fun z H5 => tset o i z H5 fun H6 => nx σ H6) : tAugS to ti te tget tip tset ⟨nx, rt, bk, ct⟩ σ H := q
theorem r_ipI {f : Int → Int → Int} {i j : Int} (q : Q (.int (f i j)) H) : ipI f (.int i) (.int j) H Q := ⟨i, j, rfl, rfl, q⟩
theorem r_gT {n : Nat} {gs : TGs} {p : Addr} {xs : List V} {N : St → Hp → Prop} (h : SqT K H p xs) (e : xs.length = n) (q : gs xs σ H N) : gTup K n gs (.ref p) σ H N := ⟨p, xs, rfl, h, e, q⟩
theorem r_gL {n : Nat} {gs : TGs} {p : Addr} {xs : List V} {N : St → Hp → Prop} (h : SqL K H p xs) (e : xs.length = n) (q : gs xs σ H N) : gLst K n gs (.ref p) σ H N := ⟨p, xs, rfl, h, e, q⟩
theorem r_gc {gs : TGs} {v : V} {vs : List V} {N : St → Hp → Prop} (q : g v σ H fun σ' H' => gs vs σ' H' N) : gCons g gs (v :: vs) σ H N := ⟨v, vs, rfl, q⟩
theorem r_gn {N : St → Hp → Prop} (q : N σ H) : gNil [] σ H N := ⟨rfl, q⟩
theorem r_app {p : Addr} {xs : List V} {y : V} (h : H p = some (.lst xs)) (hz : xs.length < sizeLine) (q : Q .non (upd H p (.lst (xs ++ [y])))) : rAppend (.ref p) [y] H Q := ⟨p, xs, y, rfl, rfl, h, hz, q⟩
theorem r_tyL {p : Addr} {xs : List V} {P : Prop} (h : H p = some (.lst xs)) (q : P) : tyV K "list" (.ref p) H ∧ P := ⟨.inl ⟨rfl, _, SqL.of h⟩, q⟩
theorem ifd {p : Prop} [Decidable p] {A B : Prop} (h1 : p → A) (h2 : ¬ p → B) : if decide p = true then A else B := by
  by_cases h : p
  · rw [if_pos (decide_eq_true h)]; exact h1 h
  · rw [if_neg (by simp [h])]; exact h2 h
theorem if_else {p : Prop} [Decidable p] {A B : Prop} (hB : B) (h1 : B → p → A) : if decide p = true then A else B := ifd (h1 hB) fun _ => hB
theorem r_max2 {x y : Int} (q : Q (.int (if y > x then y else x)) H) : rMax2 [.int x, .int y] H Q := ⟨x, y, rfl, q⟩
theorem r_min2 {x y : Int} (q : Q (.int (if y < x then y else x)) H) : rMin2 [.int x, .int y] H Q := ⟨x, y, rfl, q⟩
theorem r_inti {x : Int} (q : Q (.int x) H) : rInt1 [.int x] H Q := .inl ⟨x, rfl, q⟩
theorem r_intb {x : Bool} (q : Q (.int (if x then 1 else 0)) H) : rInt1 [.bl x] H Q := .inr ⟨x, rfl, q⟩
theorem r_strs {x : Str} (q : Q (.str x) H) : rStr1 [.str x] H Q := .inl ⟨x, rfl, q⟩
theorem r_stri {x : Int} (h : x.natAbs.log2 < 1920) (q : Q (.str (toString x)) H) : rStr1 [.int x] H Q := .inr ⟨x, rfl, h, q⟩
theorem r_tol {p : Addr} {ys : List V} (h : SqL K H p ys) (q : ∀ l, H l = none → Q (.ref l) (upd H l (.tup ys))) : rTupOf K [.ref p] H Q := ⟨p, ys, rfl, .inl ⟨h, q⟩⟩
theorem r_tot {p : Addr} {ys : List V} (h : SqT K H p ys) (q : Q (.ref p) H) : rTupOf K [.ref p] H Q := ⟨p, ys, rfl, .inr ⟨h, q⟩⟩
theorem r_lof {p : Addr} {ys : List V} (h : SqL K H p ys ∨ SqT K H p ys) (q : ∀ l, H l = none → Q (.ref l) (upd H l (.lst ys))) : rLstOf K [.ref p] H Q := ⟨p, ys, rfl, h, q⟩
theorem ifnT {A B : Prop} (h : B) : if (!true) = true then A else B := iteF h
theorem ifnF {A B : Prop} (h : A) : if (!false) = true then A else B := iteT h
theorem up_keep {a b : Addr} {o u : HO} (h : H b = some u) (n : H a = none) : upd H a o b = some u := by rw [upd_ne (ne_of_none h n)]; exact h
theorem up_oth {a b : Addr} {o u : HO} (h : H b = some u) (n : b ≠ a) : upd H a o b = some u := by rw [upd_ne n]; exact h
end
section
variable {σ : St} {H : Hp} {g : TG} {tb : TS} {nx bk ct : St → Hp → Prop} {rt : VK} {t : TA} {wi : TI}
theorem r_for (q : wi σ H fun J H1 => ∃ W : Nat → Nat → St → Hp → Prop, (∃ m, W 0 m σ H1) ∧ ∀ i m σ H, W i m σ H →
    (J.stop i H ∧ nx σ H) ∨ (J.go i H ∧ ∃ N : St → Hp → Prop, (∀ σ' H', N σ' H' → ∃ m', m' < m ∧ W (i + 1) m' σ' H') ∧ ∀ x H', J.yld i H x H' → g x σ H' fun σ2 H2 => tb ⟨N, rt, nx, N⟩ σ2 H2)) : tFor wi g tb ⟨nx, rt, bk, ct⟩ σ H := q
def rRg (R : It → Hp → Prop) : List V → Hp → Prop := fun vs H1 => ∃ j : Int, vs = [.int j] ∧ -(2 ^ 62) ≤ j ∧ j < 2 ^ 62 ∧ R (Itr 0 j.toNat) H1
def rRg2 (R : It → Hp → Prop) : List V → Hp → Prop := fun vs H1 => ∃ i j : Int, vs = [.int i, .int j] ∧ (-(2 ^ 62) ≤ i ∧ i < 2 ^ 62 ∧ -(2 ^ 62) ≤ j ∧ j < 2 ^ 62) ∧ R (Itr i (j - i).toNat) H1
theorem r_rng1 {R : It → Hp → Prop} (q : t σ H (rRg R)) : iRng1 t σ H R := q
theorem r_rng2 {R : It → Hp → Prop} (q : t σ H (rRg2 R)) : iRng2 t σ H R := q
theorem r_comp {tc : TT} {te : TE} {own : Nat} {caps : List Nat} {Q : VK} (q : wi σ H fun J H1 => ∀ D, H1 D = none → ∃ W : Nat → Nat → St → Hp → Prop, (∃ m, W 0 m (compSt own caps σ) (upd H1 D (.lst []))) ∧ ∀ i m σ' H', W i m σ' H' →
    (J.stop i H' ∧ Q (.ref D) H') ∨ (J.go i H' ∧ ∃ N : St → Hp → Prop, (∀ σ'' H'', N σ'' H'' → ∃ m', m' < m ∧ W (i + 1) m' σ'' H'') ∧ ∀ x H2, J.yld i H' x H2 → g x σ' H2 fun σ3 H3 => tc σ3 H3 fun b H4 =>
      if b = true then te σ3 H4 fun y H5 => ∃ ys, H5 D = some (.lst ys) ∧ ys.length < sizeLine ∧ N σ3 (upd H5 D (.lst (ys ++ [y]))) else N σ3 H4)) : tComp wi g tc te own caps σ H Q := q
theorem r_yes {B : Bool → Hp → Prop} (q : B true H) : tYes σ H B := q
theorem r_iL {K : PySem.W.Frag} {tl : TE} {R : It → Hp → Prop} (q : tl σ H fun x H1 => ∃ a, x = .ref a ∧ (∃ xs, SqL K H1 a xs) ∧ R (Itl K a) H1) : iList K tl σ H R := q
theorem r_iT {K : PySem.W.Frag} {tl : TE} {R : It → Hp → Prop} (q : tl σ H fun x H1 => ∃ a, x = .ref a ∧ (∃ xs, SqT K H1 a xs) ∧ R (Itt K a) H1) : iTup K tl σ H R := q
theorem r_eL {K : PySem.W.Frag} {R : It → Hp → Prop} (q : t σ H fun vs H1 => ∃ a, vs = [.ref a] ∧ (∃ xs, SqL K H1 a xs) ∧ R (Ite fun H xs => SqL K H a xs) H1) : iEnumL K t σ H R := q
theorem r_eT {K : PySem.W.Frag} {R : It → Hp → Prop} (q : t σ H fun vs H1 => ∃ a, vs = [.ref a] ∧ (∃ xs, SqT K H1 a xs) ∧ R (Ite fun H xs => SqT K H a xs) H1) : iEnumT K t σ H R := q
theorem r_refL {K : PySem.W.Frag} {p : Addr} {xs : List V} {R : Addr → Prop} (h : SqL K H p xs) (q : R p) : ∃ a, V.ref p = .ref a ∧ (∃ xs, SqL K H a xs) ∧ R a := ⟨p, rfl, ⟨xs, h⟩, q⟩
theorem r_refT {K : PySem.W.Frag} {p : Addr} {xs : List V} {R : Addr → Prop} (h : SqT K H p xs) (q : R p) : ∃ a, V.ref p = .ref a ∧ (∃ xs, SqT K H a xs) ∧ R a := ⟨p, rfl, ⟨xs, h⟩, q⟩
theorem r_refL1 {K : PySem.W.Frag} {p : Addr} {xs : List V} {R : Addr → Prop} (h : SqL K H p xs) (q : R p) : ∃ a, [V.ref p] = [.ref a] ∧ (∃ xs, SqL K H a xs) ∧ R a := ⟨p, rfl, ⟨xs, h⟩, q⟩
theorem r_refT1 {K : PySem.W.Frag} {p : Addr} {xs : List V} {R : Addr → Prop} (h : SqT K H p xs) (q : R p) : ∃ a, [V.ref p] = [.ref a] ∧ (∃ xs, SqT K H a xs) ∧ R a := ⟨p, rfl, ⟨xs, h⟩, q⟩
theorem r_rg {j : Int} {R : It → Hp → Prop} (h : -1000000 ≤ j ∧ j ≤ 1000000) (q : R (Itr 0 j.toNat) H) : rRg R [.int j] H := ⟨j, rfl, by omega, by omega, q⟩
theorem r_rg2 {i j : Int} {R : It → Hp → Prop} (h : (-1000000 ≤ i ∧ i ≤ 1000000) ∧ -1000000 ≤ j ∧ j ≤ 1000000) (q : R (Itr i (j - i).toNat) H) : rRg2 R [.int i, .int j] H := ⟨i, j, rfl, by omega, q⟩
end

section
variable {J : It} {g : TG} {tb : TS} {nx : St → Hp → Prop} {rt : VK} {σ : St} {H : Hp} {K : PySem.W.Frag} {a : Addr} {xs : List V} {tc : TT} {te : TE} {R : Hp → Prop} {D : Addr}
abbrev ForG (J : It) (g : TG) (tb : TS) (nx : St → Hp → Prop) (rt : VK) (σ : St) (H : Hp) : Prop := ∃ W : Nat → Nat → St → Hp → Prop, (∃ m, W 0 m σ H) ∧ ∀ i m σ H, W i m σ H →
    (J.stop i H ∧ nx σ H) ∨ (J.go i H ∧ ∃ N : St → Hp → Prop, (∀ σ' H', N σ' H' → ∃ m', m' < m ∧ W (i + 1) m' σ' H') ∧ ∀ x H', J.yld i H x H' → g x σ H' fun σ2 H2 => tb ⟨N, rt, nx, N⟩ σ2 H2)
theorem for_by2 (n : Nat) (Pv : Nat → St → Hp → Prop) (h0 : Pv 0 σ H)
    (go : ∀ i σ H, i < n → Pv i σ H → J.go i H ∧ ∀ x H', J.yld i H x H' → g x σ H' fun σ2 H2 => tb ⟨Pv (i + 1), rt, nx, Pv (i + 1)⟩ σ2 H2) (stop : ∀ σ H, Pv n σ H → J.stop n H ∧ nx σ H) : ForG J g tb nx rt σ H := by
  refine ⟨fun i m σ H => m = n - i ∧ i ≤ n ∧ Pv i σ H, ⟨n, by simp, Nat.zero_le _, h0⟩, ?_⟩
  rintro i m σ H ⟨rfl, hi, p⟩
  by_cases hlt : i < n
  · obtain ⟨q1, q2⟩ := go i σ H hlt p
    exact .inr ⟨q1, Pv (i + 1), fun σ' H' p' => ⟨n - (i + 1), by omega, rfl, hlt, p'⟩, q2⟩
  · have e : i = n := by omega
    subst e
    exact .inl (stop σ H p)
theorem for_rng {lo : Int} {n : Nat} (Pv : Nat → St → Hp → Prop) (h0 : Pv 0 σ H) (go : ∀ i σ H, i < n → Pv i σ H → g (.int (lo + (i : Nat))) σ H fun σ2 H2 => tb ⟨Pv (i + 1), rt, nx, Pv (i + 1)⟩ σ2 H2) (stop : ∀ σ H, Pv n σ H → nx σ H) : ForG (Itr lo n) g tb nx rt σ H :=
  for_by2 n Pv h0 (fun i σ H hi p => ⟨hi, fun x H' ⟨e1, e2⟩ => by subst e1 e2; exact go i σ _ hi p⟩) fun σ H p => ⟨Nat.le_refl _, stop σ H p⟩
theorem for_lst (xs : List V) (Pv : Nat → St → Hp → Prop) (h0 : Pv 0 σ H) (hl : ∀ i σ H, Pv i σ H → SqL K H a xs) (go : ∀ i x σ H, xs[i]? = some x → Pv i σ H → g x σ H fun σ2 H2 => tb ⟨Pv (i + 1), rt, nx, Pv (i + 1)⟩ σ2 H2) (stop : ∀ σ H, Pv xs.length σ H → nx σ H) : ForG (Itl K a) g tb nx rt σ H :=
  for_by2 xs.length Pv h0 (fun i σ H hi p => ⟨⟨xs, xs[i], hl i σ H p, by simp [hi]⟩, fun x H' ⟨e1, e2⟩ => by subst e1; exact go i x σ _ (e2 xs (hl i σ _ p)) p⟩) fun σ H p => ⟨⟨xs, hl _ σ H p, Nat.le_refl _⟩, stop σ H p⟩
theorem for_tpl (xs : List V) (Pv : Nat → St → Hp → Prop) (h0 : Pv 0 σ H) (hl : ∀ i σ H, Pv i σ H → SqT K H a xs) (go : ∀ i x σ H, xs[i]? = some x → Pv i σ H → g x σ H fun σ2 H2 => tb ⟨Pv (i + 1), rt, nx, Pv (i + 1)⟩ σ2 H2) (stop : ∀ σ H, Pv xs.length σ H → nx σ H) : ForG (Itt K a) g tb nx rt σ H :=
  for_by2 xs.length Pv h0 (fun i σ H hi p => ⟨⟨xs, xs[i], hl i σ H p, by simp [hi]⟩, fun x H' ⟨e1, e2⟩ => by subst e1; exact go i x σ _ (e2 xs (hl i σ _ p)) p⟩) fun σ H p => ⟨⟨xs, hl _ σ H p, Nat.le_refl _⟩, stop σ H p⟩
theorem for_enu {Sq : Hp → List V → Prop} (xs : List V) (Pv : Nat → St → Hp → Prop) (h0 : Pv 0 σ H) (hl : ∀ i σ H, Pv i σ H → Sq H xs) (go : ∀ i x σ H T, xs[i]? = some x → Pv i σ H → H T = none → g (.ref T) σ (upd H T (.tup [.int (i : Nat), x])) fun σ2 H2 => tb ⟨Pv (i + 1), rt, nx, Pv (i + 1)⟩ σ2 H2)
    (stop : ∀ σ H, Pv xs.length σ H → nx σ H) : ForG (Ite Sq) g tb nx rt σ H :=
  for_by2 xs.length Pv h0 (fun i σ H hi p => ⟨⟨xs, xs[i], hl i σ H p, by simp [hi]⟩, fun x H' ⟨T, hT, e1, e2⟩ => by
    have hx : xs[i]? = some xs[i] := by simp [hi]
    have e3 := e2 xs xs[i] (hl i σ _ p) hx
    subst e1 e3
    exact go i _ σ _ T hx p hT⟩) fun σ H p => ⟨⟨xs, hl _ σ H p, Nat.le_refl _⟩, stop σ H p⟩
abbrev CompG (J : It) (g : TG) (tc : TT) (te : TE) (R : Hp → Prop) (D : Addr) (σ : St) (H : Hp) : Prop := ∃ W : Nat → Nat → St → Hp → Prop, (∃ m, W 0 m σ H) ∧ ∀ i m σ H, W i m σ H →
      (J.stop i H ∧ R H) ∨ (J.go i H ∧ ∃ N : St → Hp → Prop, (∀ σ' H', N σ' H' → ∃ m', m' < m ∧ W (i + 1) m' σ' H') ∧ ∀ x H', J.yld i H x H' → g x σ H' fun σ3 H3 => tc σ3 H3 fun b H4 =>
        if b = true then te σ3 H4 fun y H5 => ∃ ys, H5 D = some (.lst ys) ∧ ys.length < sizeLine ∧ N σ3 (upd H5 D (.lst (ys ++ [y]))) else N σ3 H4)
theorem comp_lst (xs : List V) (Pv : Nat → St → Hp → Prop) (h0 : Pv 0 σ H) (hl : ∀ i σ H, Pv i σ H → SqL K H a xs) (go : ∀ i x σ H, xs[i]? = some x → Pv i σ H → g x σ H fun σ3 H3 => tc σ3 H3 fun b H4 =>
      if b = true then te σ3 H4 fun y H5 => ∃ ys, H5 D = some (.lst ys) ∧ ys.length < sizeLine ∧ Pv (i + 1) σ3 (upd H5 D (.lst (ys ++ [y]))) else Pv (i + 1) σ3 H4) (stop : ∀ σ H, Pv xs.length σ H → R H) : CompG (Itl K a) g tc te R D σ H :=
  comp_by xs.length Pv h0 (fun i σ H hi p => ⟨⟨xs, xs[i], hl i σ H p, by simp [hi]⟩, fun x H' ⟨e1, e2⟩ => by subst e1; exact go i x σ _ (e2 xs (hl i σ _ p)) p⟩) fun σ H p => ⟨⟨xs, hl _ σ H p, Nat.le_refl _⟩, stop σ H p⟩
theorem comp_tpl (xs : List V) (Pv : Nat → St → Hp → Prop) (h0 : Pv 0 σ H) (hl : ∀ i σ H, Pv i σ H → SqT K H a xs) (go : ∀ i x σ H, xs[i]? = some x → Pv i σ H → g x σ H fun σ3 H3 => tc σ3 H3 fun b H4 =>
      if b = true then te σ3 H4 fun y H5 => ∃ ys, H5 D = some (.lst ys) ∧ ys.length < sizeLine ∧ Pv (i + 1) σ3 (upd H5 D (.lst (ys ++ [y]))) else Pv (i + 1) σ3 H4) (stop : ∀ σ H, Pv xs.length σ H → R H) : CompG (Itt K a) g tc te R D σ H :=
  comp_by xs.length Pv h0 (fun i σ H hi p => ⟨⟨xs, xs[i], hl i σ H p, by simp [hi]⟩, fun x H' ⟨e1, e2⟩ => by subst e1; exact go i x σ _ (e2 xs (hl i σ _ p)) p⟩) fun σ H p => ⟨⟨xs, hl _ σ H p, Nat.le_refl _⟩, stop σ H p⟩
end

section
variable {X : Cx} {pos : Pos} {tg : Expr} {es : List Expr} {e o l : Expr} {ta te tl : TE} {t : TA} {K : PySem.W.Frag}
theorem pi_listK (K : PySem.W.Frag) (hl : PE X l tl) (h : X.K = K := by rfl) : PI X tg l (iList K tl) := by subst h; exact pi_list hl
theorem pi_tupK (K : PySem.W.Frag) (hl : PE X l tl) (h : X.K = K := by rfl) : PI X tg l (iTup K tl) := by subst h; exact pi_tup hl
theorem pi_enumLK {elts : List Expr} {k : Nat} {tp : Pos} {a : Expr} {p pos : Pos} (K : PySem.W.Frag) (hg : Gl X "enumerate") (hm : X.mg "enumerate" = none) (ha : PA X [a] t) (h : X.K = K := by rfl) (hs : starEach [a] X.env = [(false, eval a X.env)] := by rfl) : PI X (.Tuple elts k tp) (.Call (.Name "enumerate" p) [a] [] pos) (iEnumL K t) := by subst h; exact pi_enumL hg hm ha hs
theorem pi_zipTK {elts : List Expr} {k : Nat} {tp : Pos} {a b : Expr} {p pos : Pos} (K : PySem.W.Frag) (hg : Gl X "zip") (hm : X.mg "zip" = none) (ha : PA X [a, b] t) (h : X.K = K := by rfl) (hs : starEach [a, b] X.env = [(false, eval a X.env), (false, eval b X.env)] := by rfl) (hs2 : starEach [b] X.env = [(false, eval b X.env)] := by rfl) :
    PI X (.Tuple elts k tp) (.Call (.Name "zip" p) [a, b] [] pos) (iZipT K t) := by subst h; exact pi_zipT hg hm ha hs hs2
theorem pg_lstK {k : Nat} {gs : TGs} {n : Nat} (K : PySem.W.Frag) (hc : X.calm = true) (h : PGs X es gs) (hK : X.K = K := by rfl) (hn : (assignEach es X.env).length = n := by rfl) (hst : (assignEach es X.env).findIdx? (·.1) = none := by rfl) : PG X (.Tuple es k pos) (gLst K n gs) := by subst hK; exact pg_lst hc h hn hst
theorem op_in_seqK (K : PySem.W.Frag) (h : X.K = K := by rfl) : OpR X (compareOp .In) (rIn K false) := by subst h; exact op_in_seq
theorem call_allK (K : PySem.W.Frag) (hc : X.calm = true) (h : X.K = K := by rfl) : CallR X (.builtin "all") (rAll K) := by subst h; exact call_all hc
theorem mt_joinK (K : PySem.W.Frag) (h : X.K = K := by rfl) : MtR X "str.join" (rJoin K) := by subst h; exact mt_join
theorem line_big : 1000000 < sizeLine := by decide
end

def TSame (H H' : Hp) : Prop := ∀ p xs, H p = some (.tup xs) → H' p = some (.tup xs)
theorem TSame.refl (H : Hp) : TSame H H := fun _ _ h => h
theorem TSame.trans {H H1 H2 : Hp} (a : TSame H H1) (b : TSame H1 H2) : TSame H H2 := fun p xs h => b p xs (a p xs h)
theorem Same.ts {H H' : Hp} (s : Same H H') : TSame H H' := fun p _ h => s p _ h
theorem TSame.new {H : Hp} {a : Addr} {o : HO} (h : H a = none) : TSame H (upd H a o) := (Same.upd h).ts
theorem TSame.lst {H : Hp} {a : Addr} {ys : List V} {o : HO} (h : H a = some (.lst ys)) : TSame H (upd H a o) := fun p xs e => by rw [upd_ne (ne_of e h (by intro z; cases z))]; exact e
end L2

set_option maxRecDepth 100000
set_option maxHeartbeats 4000000
namespace Ce
open PySem L2
def bit (x : Int) (t : Nat) : Bool := decide (x / 2 ^ t % 2 = 1)
def cnt (P : Nat → Bool) : Nat → Nat
  | 0 => 0
  | n + 1 => cnt P n + (if P n = true then 1 else 0)
theorem set_map {α : Type} (f : Nat → α) (n j : Nat) (v : α) : ((List.range n).map f).set j v = (List.range n).map fun k => if k = j then v else f k := by
  apply List.ext_getElem?
  intro i
  rw [List.getElem?_set]
  simp only [List.getElem?_map, List.length_map, List.length_range]
  by_cases h : j = i
  · subst h
    by_cases hj : j < n
    · simp [hj]
    · simp [hj]
  · have h' : ¬ i = j := fun e => h e.symm
    by_cases hi : i < n
    · simp [h, h', hi]
    · simp [h, hi]
def dP (ds : Nat → Option Int) (op k : Int) (w : Nat) : Bool := decide (ds w = some k) && bit op w
theorem way_ne {room r rooms : Int} (h0 : 0 ≤ room) (h1 : room < rooms) (r0 : 0 ≤ r) (r1 : r < rooms - 1) : (room + 1 + r) % rooms ≠ room := by
  by_cases h : room + 1 + r < rooms
  · rw [Int.emod_eq_of_lt (by omega) h]; omega
  · have e : (room + 1 + r) % rooms = room + 1 + r - rooms := by
      have := Int.add_emod_right (room + 1 + r - rooms) rooms
      rw [Int.sub_add_cancel] at this
      rw [this, Int.emod_eq_of_lt (by omega) (by omega)]
    omega
theorem mod_lo (x : Int) {n : Int} (h : 0 < n) : 0 ≤ x % n := Int.emod_nonneg _ (by omega)
theorem mod_hi (x : Int) {n : Int} (h : 0 < n) : x % n < n := Int.emod_lt_of_pos _ h
theorem mod_nat (x : Int) (n : Nat) (h : 0 < n) : ∃ j : Nat, j < n ∧ x % (n : Int) = (j : Int) := ⟨(x % n).toNat, by have := mod_lo x (n := n) (by omega); have := mod_hi x (n := n) (by omega); omega, by have := mod_lo x (n := n) (by omega); omega⟩

inductive Gt where
  | plain | door (k : Int) | need (k : Int) | bar (b : Int) | wade (h k : Int) | float (h : Int)
def Gt.vs : Gt → List V
  | .plain => [.str "plain"]
  | .door k => [.str "door", .int k]
  | .need k => [.str "need", .int k]
  | .bar b => [.str "bar", .int b]
  | .wade h k => [.str "wade", .int h, .int k]
  | .float h => [.str "float", .int h]
def Gt.ok : Gt → Prop
  | .plain => True
  | .door k => 0 ≤ k ∧ k < 12
  | .need k => 0 ≤ k ∧ k < 12
  | .bar b => 0 ≤ b ∧ b < 8
  | .wade h k => (0 ≤ h ∧ h < 10) ∧ 0 ≤ k ∧ k < 12
  | .float h => 0 ≤ h ∧ h < 10
def Gt.dk : Gt → Option Int
  | .door k => some k
  | _ => none
def Gt.word : Gt → Str
  | .plain => "plain"
  | .door _ => "door"
  | .need _ => "need"
  | .bar _ => "bar"
  | .wade _ _ => "wade"
  | .float _ => "float"
def Gt.ns : Gt → List Int
  | .plain => []
  | .door k => [k]
  | .need k => [k]
  | .bar b => [b]
  | .wade h k => [h, k]
  | .float h => [h]
theorem Gt.vs_eq (g : Gt) : g.vs = .str g.word :: g.ns.map V.int := by cases g <;> rfl
theorem Gt.flat (g : Gt) : g.vs.all flatV = true := by cases g <;> rfl
theorem Gt.ns_len (g : Gt) : g.ns.length ≤ 2 := by cases g <;> simp [Gt.ns]
structure Way where
  a : Int
  b : Int
  g : Gt
  back : Bool
structure Cl where
  rooms : Int
  fst : Int
  lst : Int
  ways : List Way
  things : List (Int × Int)
  levers : List (Int × Int)
  wheels : List (Int × Int)
  bars : Int
  water : Int
structure ClOk (C : Cl) : Prop where
  r1 : 1 ≤ C.rooms
  r2 : C.rooms ≤ 14
  f : 0 ≤ C.fst ∧ C.fst < C.rooms
  l : 0 ≤ C.lst ∧ C.lst < C.rooms
  wl : C.ways.length ≤ 20
  tl : C.things.length ≤ 8
  ll : C.levers.length ≤ 4
  vl : C.wheels.length ≤ 4
  w : ∀ x ∈ C.ways, (0 ≤ x.a ∧ x.a < C.rooms) ∧ (0 ≤ x.b ∧ x.b < C.rooms) ∧ x.a ≠ x.b ∧ x.g.ok
  t : ∀ x ∈ C.things, (0 ≤ x.1 ∧ x.1 < C.rooms) ∧ 0 ≤ x.2 ∧ x.2 < 12
  lv : ∀ x ∈ C.levers, (0 ≤ x.1 ∧ x.1 < C.rooms) ∧ 1 ≤ x.2 ∧ x.2 ≤ 255
  wh : ∀ x ∈ C.wheels, (0 ≤ x.1 ∧ x.1 < C.rooms) ∧ 0 ≤ x.2 ∧ x.2 ≤ 9
  b : 0 ≤ C.bars ∧ C.bars ≤ 255
  wa : 0 ≤ C.water ∧ C.water ≤ 9
def PairAt (H : Hp) (p : Addr) (x : Int × Int) : Prop := H p = some (.tup [.int x.1, .int x.2])
def WayAt (H : Hp) (p : Addr) (x : Way) : Prop := ∃ g, H p = some (.tup [.int x.a, .int x.b, .ref g, .bl x.back]) ∧ H g = some (.tup x.g.vs)
def Rows {α : Type} (At : Hp → Addr → α → Prop) (H : Hp) (ps : List Addr) (xs : List α) : Prop := ps.length = xs.length ∧ ∀ (i : Nat) (p : Addr) (x : α), ps[i]? = some p → xs[i]? = some x → At H p x
def TupOf {α : Type} (At : Hp → Addr → α → Prop) (H : Hp) (q : Addr) (xs : List α) : Prop := ∃ ps, H q = some (.tup (ps.map V.ref)) ∧ Rows At H ps xs
def LstOf {α : Type} (At : Hp → Addr → α → Prop) (H : Hp) (q : Addr) (xs : List α) : Prop := ∃ ps, H q = some (.lst (ps.map V.ref)) ∧ Rows At H ps xs
section
variable {α : Type} {At : Hp → Addr → α → Prop} {H H' : Hp} {ps : List Addr} {xs : List α} {p q : Addr} {x : α}
theorem PairAt.mono (s : TSame H H') {p : Addr} {x : Int × Int} (h : PairAt H p x) : PairAt H' p x := s _ _ h
theorem WayAt.mono (s : TSame H H') {p : Addr} {x : Way} (h : WayAt H p x) : WayAt H' p x := let ⟨g, h1, h2⟩ := h; ⟨g, s _ _ h1, s _ _ h2⟩
theorem Rows.mono (m : ∀ p x, At H p x → At H' p x) (h : Rows At H ps xs) : Rows At H' ps xs := ⟨h.1, fun i p x h1 h2 => m p x (h.2 i p x h1 h2)⟩
theorem Rows.nil : Rows At H [] [] := ⟨rfl, fun i p x h _ => by simp at h⟩
theorem Rows.snoc (h : Rows At H ps xs) (hx : At H p x) : Rows At H (ps ++ [p]) (xs ++ [x]) := by
  refine ⟨by simp [h.1], fun i q y h1 h2 => ?_⟩
  by_cases hi : i < ps.length
  · rw [List.getElem?_append_left hi] at h1
    rw [List.getElem?_append_left (by rw [← h.1]; exact hi)] at h2
    exact h.2 i q y h1 h2
  · have e : i = ps.length := by
      have := (List.getElem?_eq_some_iff.mp h1).1
      simp at this
      omega
    subst e
    rw [List.getElem?_append_right (Nat.le_refl _)] at h1
    rw [List.getElem?_append_right (by rw [h.1]; exact Nat.le_refl _), ← h.1] at h2
    simp at h1 h2
    rw [← h1, ← h2]
    exact hx
theorem Rows.get (h : Rows At H ps xs) {i : Nat} (hi : i < xs.length) : ∃ p, (ps.map V.ref)[i]? = some (.ref p) ∧ At H p xs[i] := by
  have hp : i < ps.length := by rw [h.1]; exact hi
  exact ⟨ps[i], by simp [hp], h.2 i _ _ (by simp [hp]) (by simp [hi])⟩
theorem TupOf.mono (s : TSame H H') (m : ∀ p x, At H p x → At H' p x) (h : TupOf At H q xs) : TupOf At H' q xs := let ⟨ps, h1, h2⟩ := h; ⟨ps, s _ _ h1, h2.mono m⟩
theorem TupOf.get (h : TupOf At H q xs) : ∃ vs, H q = some (.tup vs) ∧ vs.length = xs.length ∧ ∀ i (hi : i < xs.length), ∃ p, vs[i]? = some (.ref p) ∧ At H p xs[i] := by
  obtain ⟨ps, h1, h2⟩ := h
  exact ⟨_, h1, by simp [h2.1], fun i hi => h2.get hi⟩
end
structure ClAt (H : Hp) (c : Addr) (C : Cl) : Prop where
  ex : ∃ w t l v, H c = some (.tup [.int C.rooms, .int C.fst, .int C.lst, .ref w, .ref t, .ref l, .ref v, .int C.bars, .int C.water]) ∧ TupOf WayAt H w C.ways ∧ TupOf PairAt H t C.things ∧ TupOf PairAt H l C.levers ∧ TupOf PairAt H v C.wheels
theorem ClAt.mono {H H' : Hp} (s : TSame H H') {c : Addr} {C : Cl} (h : ClAt H c C) : ClAt H' c C := by
  obtain ⟨w, t, l, v, h0, h1, h2, h3, h4⟩ := h.ex
  exact ⟨w, t, l, v, s _ _ h0, h1.mono s (fun _ _ => WayAt.mono s), h2.mono s (fun _ _ => PairAt.mono s), h3.mono s (fun _ _ => PairAt.mono s), h4.mono s (fun _ _ => PairAt.mono s)⟩
def WOk (r : Int) (x : Way) : Prop := (0 ≤ x.a ∧ x.a < r) ∧ (0 ≤ x.b ∧ x.b < r) ∧ x.a ≠ x.b ∧ x.g.ok
def POk (r lo hi : Int) (x : Int × Int) : Prop := (0 ≤ x.1 ∧ x.1 < r) ∧ lo ≤ x.2 ∧ x.2 ≤ hi
structure Apart (L l0 l1 l2 l3 : Addr) : Prop where
  L0 : L ≠ l0
  L1 : L ≠ l1
  L2 : L ≠ l2
  L3 : L ≠ l3
  e01 : l0 ≠ l1
  e02 : l0 ≠ l2
  e03 : l0 ≠ l3
  e12 : l1 ≠ l2
  e13 : l1 ≠ l3
  e23 : l2 ≠ l3
structure Grown {α : Type} (At : Hp → Addr → α → Prop) (ok : α → Prop) (most : Nat) (H : Hp) (l : Addr) : Prop where
  ex : ∃ xs : List α, LstOf At H l xs ∧ xs.length ≤ most ∧ ∀ x ∈ xs, ok x
section
variable {α : Type} {At : Hp → Addr → α → Prop} {ok : α → Prop} {most : Nat} {H H' : Hp} {l m : Addr}
theorem Grown.at (g : Grown At ok most H l) : ∃ xs, H l = some (.lst xs) ∧ xs.length ≤ most := by
  obtain ⟨xs, ⟨ps, h1, h2⟩, h3, _⟩ := g.ex
  exact ⟨_, h1, by rw [List.length_map, h2.1]; exact h3⟩
theorem Grown.none (h : H l = some (.lst [])) : Grown At ok most H l := ⟨[], ⟨[], h, Rows.nil⟩, Nat.zero_le _, fun _ h => by simp at h⟩
theorem Grown.stay (g : Grown At ok most H l) (mo : ∀ p x, At H p x → At H' p x) (e : H' l = H l) : Grown At ok most H' l := by
  obtain ⟨xs, ⟨ps, h1, h2⟩, h3, h4⟩ := g.ex
  exact ⟨xs, ⟨ps, by rw [e]; exact h1, h2.mono mo⟩, h3, h4⟩
theorem Grown.same (g : Grown At ok most H l) (mo : ∀ p x, At H p x → At H' p x) (s : Same H H') : Grown At ok most H' l := by
  obtain ⟨xs, ⟨ps, h1, h2⟩, h3, h4⟩ := g.ex
  exact ⟨xs, ⟨ps, s _ _ h1, h2.mono mo⟩, h3, h4⟩
theorem Grown.app (g : Grown At ok most H l) {ys : List V} {p : Addr} {x : α} (mo : ∀ q x, At H q x → At (upd H l (.lst (ys ++ [.ref p]))) q x) (hy : H l = some (.lst ys)) (hl : ys.length < most) (hx : At H p x) (hok : ok x) : Grown At ok most (upd H l (.lst (ys ++ [.ref p]))) l := by
  obtain ⟨xs, ⟨ps, h1, h2⟩, h3, h4⟩ := g.ex
  rw [h1] at hy
  have e : ps.map V.ref = ys := by
    have := Option.some.inj hy
    injection this
  subst e
  refine ⟨xs ++ [x], ⟨ps ++ [p], by rw [upd_same, List.map_append]; rfl, (h2.mono mo).snoc (mo _ _ hx)⟩, ?_, fun z hz => ?_⟩
  · rw [List.length_append, ← h2.1]
    rw [List.length_map] at hl
    exact hl
  · rcases List.mem_append.mp hz with hz | hz
    · exact h4 z hz
    · rw [List.mem_singleton.mp hz]; exact hok
end
structure Four (H : Hp) (r : Int) (L l0 l1 l2 l3 : Addr) : Prop where
  hL : H L = some (.lst [.ref l0, .ref l1, .ref l2, .ref l3])
  g0 : Grown WayAt (WOk r) 20 H l0
  g1 : Grown PairAt (POk r 0 11) 8 H l1
  g2 : Grown PairAt (POk r 1 255) 4 H l2
  g3 : Grown PairAt (POk r 0 9) 4 H l3
section
variable {H H' : Hp} {r : Int} {L l0 l1 l2 l3 p : Addr} {ys : List V}
theorem Four.same (F : Four H r L l0 l1 l2 l3) (s : Same H H') : Four H' r L l0 l1 l2 l3 :=
  ⟨s _ _ F.hL, F.g0.same (fun _ _ => WayAt.mono s.ts) s, F.g1.same (fun _ _ => PairAt.mono s.ts) s, F.g2.same (fun _ _ => PairAt.mono s.ts) s, F.g3.same (fun _ _ => PairAt.mono s.ts) s⟩
theorem Four.way (A : Apart L l0 l1 l2 l3) (F : Four H r L l0 l1 l2 l3) (hy : H l0 = some (.lst ys)) (hl : ys.length < 20) {x : Way} (hx : WayAt H p x) (ok : WOk r x) : Four (upd H l0 (.lst (ys ++ [.ref p]))) r L l0 l1 l2 l3 := by
  have ts : TSame H (upd H l0 (.lst (ys ++ [.ref p]))) := TSame.lst hy
  exact ⟨by rw [upd_ne A.L0]; exact F.hL, F.g0.app (fun _ _ => WayAt.mono ts) hy hl hx ok, F.g1.stay (fun _ _ => PairAt.mono ts) (upd_ne A.e01.symm), F.g2.stay (fun _ _ => PairAt.mono ts) (upd_ne A.e02.symm), F.g3.stay (fun _ _ => PairAt.mono ts) (upd_ne A.e03.symm)⟩
theorem Four.thing (A : Apart L l0 l1 l2 l3) (F : Four H r L l0 l1 l2 l3) (hy : H l1 = some (.lst ys)) (hl : ys.length < 8) {x : Int × Int} (hx : PairAt H p x) (ok : POk r 0 11 x) : Four (upd H l1 (.lst (ys ++ [.ref p]))) r L l0 l1 l2 l3 := by
  have ts : TSame H (upd H l1 (.lst (ys ++ [.ref p]))) := TSame.lst hy
  exact ⟨by rw [upd_ne A.L1]; exact F.hL, F.g0.stay (fun _ _ => WayAt.mono ts) (upd_ne A.e01), F.g1.app (fun _ _ => PairAt.mono ts) hy hl hx ok, F.g2.stay (fun _ _ => PairAt.mono ts) (upd_ne A.e12.symm), F.g3.stay (fun _ _ => PairAt.mono ts) (upd_ne A.e13.symm)⟩
theorem Four.lever (A : Apart L l0 l1 l2 l3) (F : Four H r L l0 l1 l2 l3) (hy : H l2 = some (.lst ys)) (hl : ys.length < 4) {x : Int × Int} (hx : PairAt H p x) (ok : POk r 1 255 x) : Four (upd H l2 (.lst (ys ++ [.ref p]))) r L l0 l1 l2 l3 := by
  have ts : TSame H (upd H l2 (.lst (ys ++ [.ref p]))) := TSame.lst hy
  exact ⟨by rw [upd_ne A.L2]; exact F.hL, F.g0.stay (fun _ _ => WayAt.mono ts) (upd_ne A.e02), F.g1.stay (fun _ _ => PairAt.mono ts) (upd_ne A.e12), F.g2.app (fun _ _ => PairAt.mono ts) hy hl hx ok, F.g3.stay (fun _ _ => PairAt.mono ts) (upd_ne A.e23.symm)⟩
theorem Four.wheel (A : Apart L l0 l1 l2 l3) (F : Four H r L l0 l1 l2 l3) (hy : H l3 = some (.lst ys)) (hl : ys.length < 4) {x : Int × Int} (hx : PairAt H p x) (ok : POk r 0 9 x) : Four (upd H l3 (.lst (ys ++ [.ref p]))) r L l0 l1 l2 l3 := by
  have ts : TSame H (upd H l3 (.lst (ys ++ [.ref p]))) := TSame.lst hy
  exact ⟨by rw [upd_ne A.L3]; exact F.hL, F.g0.stay (fun _ _ => WayAt.mono ts) (upd_ne A.e03), F.g1.stay (fun _ _ => PairAt.mono ts) (upd_ne A.e13), F.g2.stay (fun _ _ => PairAt.mono ts) (upd_ne A.e23), F.g3.app (fun _ _ => PairAt.mono ts) hy hl hx ok⟩
end
def tP (C : Cl) (tk k : Int) (t : Nat) : Bool := decide ((C.things.getD t (0, 0)).2 = k) && bit tk t
def dsOf (C : Cl) (w : Nat) : Option Int := (C.ways[w]?).bind fun x => x.g.dk
def hold (C : Cl) (tk op k : Int) : Int := (cnt (tP C tk k) C.things.length : Int) - (cnt (dP (dsOf C) op k) C.ways.length : Int)
def cl (f : Int → Int) : List V := (List.range 12).map fun k : Nat => V.int (f k)
structure StOk (C : Cl) (rm tk op b wt : Int) : Prop where
  hrm : 0 ≤ rm ∧ rm < C.rooms
  htk : 0 ≤ tk ∧ tk < 2 ^ C.things.length
  hop : 0 ≤ op ∧ op < 2 ^ C.ways.length
  dr : ∀ i, i < C.ways.length → bit op i = true → (dsOf C i).isSome = true
  hb : 0 ≤ b ∧ b ≤ 255
  hwt : 0 ≤ wt ∧ wt ≤ 9
  held : ∀ k, 0 ≤ k → k < 12 → 0 ≤ hold C tk op k
end Ce

set_option maxRecDepth 100000
set_option maxHeartbeats 4000000
namespace L2
open PySem PySem.Spec PyProof.Rows
section
variable {X : Cx}
end
section
variable {H : Hp} {Q : VK} {K : PySem.W.Frag} {σ : St}
theorem r_chain {r r' : R2} {ta tb tc : TE} (q : ta σ H fun x H1 => tb σ H1 fun y H2 => r x y H2 fun z H3 => ∃ k, z = .bl k ∧ (if k = true then tc σ H3 fun w' H4 => r' y w' H4 Q else Q (.bl false) H3)) : tChain r r' ta tb tc σ H Q := q
end
end L2

set_option maxRecDepth 100000
set_option maxHeartbeats 4000000
namespace Ce
open PySem L2
end Ce

set_option maxRecDepth 100000
set_option maxHeartbeats 4000000
namespace L2
open PySem PySem.Spec PyProof.Rows
structure LaidM (K : PySem.W.Frag) (C : Addr) (m qual : Str) (st : Stmt) (ps : List Str) : Prop where
  ex : ∃ f fd, Fun K m qual st f fd ∧ Meth K C m f ∧ Binds K fd ps []
structure LaidI (K : PySem.W.Frag) (mg : Str → Option Value) (x : Str) (C : Addr) (qual : Str) (st : Stmt) (ps : List Str) : Prop where
  ex : ∃ f fd, Fun K "__init__" qual st f fd ∧ Mk K C f ∧ Binds K fd ps []
  at_ : mg x = some (.ref C)
structure LaidC (K : PySem.W.Frag) (mg : Str → Option Value) (x m qual : Str) (st : Stmt) (ps : List Str) : Prop where
  ex : ∃ C f fd, mg x = some (.ref C) ∧ Fun K m qual st f fd ∧ CMeth K C m f ∧ Binds K fd ps []
structure Tyc (K : PySem.W.Frag) (C : Addr) : Prop where
  ha : PySem.W.findIn K (.ref C) "__class__" = some (some (.builtin "object.__class__"))
  hn : PySem.W.specialIn K (.builtin "object.__class__") "__get__" = some (some (.builtin "getset_descriptor.__get__"))
  htk : PySem.W.takesIn K (.builtin "object.__class__") = some true
  hm : PySem.W.mroIn K C (.type "object") = some true
section
variable {P : Program} {w : World} {K : PySem.W.Frag} {mg : Str → Option Value} {base : Heap}
theorem LaidM.vm {C : Addr} {m qual : Str} {st : Stmt} {N ps : List Str} {k : Nat} {sp : Sp} (L : LaidM K C m qual st ps) (cl : Cls K C) (S : FnScope N ps (defScope st)) (len : ∀ vs H Q E, sp vs H Q E → vs.length = ps.length)
    (hbody : ∀ (f : Addr) (cdv : Value) (A : Around) (outer : List Env) (s : Shared) (H : Hp) (vs : List V) (Q : VK) (E : XK), Room k (A.deeper (envOfC qual (defScope st) s.heap.objs.size f cdv)) → sp vs H Q E →
      ∃ t, PSs (cxOf CX0 P w K mg base N qual (defScope st) f cdv A outer s H E).nox (defBody st) t ∧ t { nx := fun _ H' => Q .non H', rt := Q } (start N vs) H) : VMeth P w K mg base (k + 1) C m ps sp := by
  obtain ⟨f, fd, F, hm, b⟩ := L.ex
  exact ⟨cl, f, fd, hm, F.ok S len (fun cdv A outer s H vs Q E hr h => hbody f cdv A outer s H vs Q E hr h), b⟩
theorem LaidI.makes {x : Str} {C : Addr} {qual : Str} {st : Stmt} {N ps : List Str} {k : Nat} {sp : Sp} (L : LaidI K mg x C qual st ps) (S : FnScope N ps (defScope st)) (len : ∀ vs H Q E, sp vs H Q E → vs.length = ps.length)
    (hbody : ∀ (f : Addr) (cdv : Value) (A : Around) (outer : List Env) (s : Shared) (H : Hp) (vs : List V) (Q : VK) (E : XK), Room k (A.deeper (envOfC qual (defScope st) s.heap.objs.size f cdv)) → sp vs H Q E →
      ∃ t, PSs (cxOf CX0 P w K mg base N qual (defScope st) f cdv A outer s H E).nox (defBody st) t ∧ t { nx := fun _ H' => Q .non H', rt := Q } (start N vs) H) : Makes P w K mg base (k + 1) x C ps sp := by
  obtain ⟨f, fd, F, M, b⟩ := L.ex
  exact ⟨⟨f, fd, M, F.ok S len (fun cdv A outer s H vs Q E hr h => hbody f cdv A outer s H vs Q E hr h), b⟩, L.at_⟩
theorem LaidC.cc {x m qual : Str} {st : Stmt} {N ps : List Str} {k : Nat} {sp : Sp} (L : LaidC K mg x m qual st ps) (S : FnScope N ps (defScope st)) (len : ∀ vs H Q E, sp vs H Q E → vs.length = ps.length)
    (hbody : ∀ (f : Addr) (cdv : Value) (A : Around) (outer : List Env) (s : Shared) (H : Hp) (vs : List V) (Q : VK) (E : XK), Room k (A.deeper (envOfC qual (defScope st) s.heap.objs.size f cdv)) → sp vs H Q E →
      ∃ t, PSs (cxOf CX0 P w K mg base N qual (defScope st) f cdv A outer s H E).nox (defBody st) t ∧ t { nx := fun _ H' => Q .non H', rt := Q } (start N vs) H) : CCal P w K mg base (k + 1) x m ps sp := by
  obtain ⟨C, f, fd, hm, F, cm, b⟩ := L.ex
  exact ⟨C, f, fd, hm, cm, F.ok S len (fun cdv A outer s H vs Q E hr h => hbody f cdv A outer s H vs Q E hr h), b⟩
end
def rFld (K : PySem.W.Frag) (f : Str) (x : V) (H : Hp) (Q : VK) : Prop := ∃ a C dx fs v, x = .ref a ∧ H a = some (.ins C dx fs) ∧ Cls K C ∧ NoAttr K C f ∧ fs.lookup f = some v ∧ Q v H
def rSetF (K : PySem.W.Frag) (f : Str) (x y : V) (H : Hp) (R : Hp → Prop) : Prop := ∃ a C dx fs, x = .ref a ∧ H a = some (.ins C dx fs) ∧ Cls K C ∧ NoAttr K C f ∧ fs.length < 1000 ∧ R (upd H a (.ins C dx (putF f y fs)))
def rVM (P : Program) (w : World) (K : PySem.W.Frag) (mg : Str → Option Value) (base : Heap) (k : Nat) (m : Str) (σ : St) (t : TA) (x : V) (H : Hp) (Q : VK) : Prop := ∃ a C dx fs ps sp, x = .ref a ∧ H a = some (.ins C dx fs) ∧ VMeth P w K mg base k C m ps sp ∧ fs.lookup m = none ∧ t σ H fun vs H2 => sp (x :: vs) H2 Q E0
section
variable {σ : St} {H : Hp} {Q : VK} {K : PySem.W.Frag} {ta tv : TE} {t : TA} {f m : Str} {nx bk ct : St → Hp → Prop} {rt : VK} {P : Program} {w : World} {mg : Str → Option Value} {base : Heap} {k : Nat}
theorem r_fld0 (q : ta σ H fun x H1 => rFld K f x H1 Q) : tFld K ta f σ H Q := q
theorem r_setf0 (q : tv σ H fun y H1 => ta σ H1 fun x H2 => rSetF K f x y H2 fun H3 => nx σ H3) : sFld K ta tv f ⟨nx, rt, bk, ct⟩ σ H := q
theorem r_vm0 (q : ta σ H fun x H1 => rVM P w K mg base k m σ t x H1 Q) : tVM P w K mg base k m ta t σ H Q := q
theorem r_fld {a C dx : Addr} {fs : List (Str × V)} {v : V} (h : H a = some (.ins C dx fs)) (c : Cls K C) (n : NoAttr K C f) (l : fs.lookup f = some v) (q : Q v H) : rFld K f (.ref a) H Q := ⟨a, C, dx, fs, v, rfl, h, c, n, l, q⟩
theorem r_setf {a C dx : Addr} {fs : List (Str × V)} {y : V} {R : Hp → Prop} (h : H a = some (.ins C dx fs)) (c : Cls K C) (n : NoAttr K C f) (l : fs.length < 1000) (q : R (upd H a (.ins C dx (putF f y fs)))) : rSetF K f (.ref a) y H R := ⟨a, C, dx, fs, rfl, h, c, n, l, q⟩
theorem r_vm {a C dx : Addr} {fs : List (Str × V)} {ps : List Str} {sp : Sp} (h : H a = some (.ins C dx fs)) (v : VMeth P w K mg base k C m ps sp) (l : fs.lookup m = none) (q : t σ H fun vs H2 => sp (.ref a :: vs) H2 Q E0) : rVM P w K mg base k m σ t (.ref a) H Q := ⟨a, C, dx, fs, ps, sp, rfl, h, v, l, q⟩
theorem r_make {C : Addr} {sp : Sp} {E : XK} (q : t σ H fun vs H1 => ∀ x dx, H1 x = none → H1 dx = none → dx ≠ x → sp (.ref x :: (vs ++ [])) (upd (upd H1 dx (.own x)) x (.ins C dx [])) (fun v H2 => v = .non ∧ Q (.ref x) H2) E) : tMake C sp [] E t σ H Q := q
end
section
variable {X : Cx}
theorem ps_fldK {o value : Expr} {ta tv : TE} {f : Str} {pos pos' : Pos} (K : PySem.W.Frag) (ha : PE X o ta) (hv : PE X value tv) (hs : swapsWith value (some (.Attribute o f pos')) pos.line X.env = pure false) (hK : X.K = K := by rfl) : PS X (.Assign [.Attribute o f pos'] value pos) (sFld K ta tv f) := by subst hK; exact ps_fld ha hv hs
end
theorem Same.ins {H H' : Hp} (s : Same H H') {a C dx : Addr} {fs : List (Str × V)} (h : H a = some (.ins C dx fs)) : H' a = some (.ins C dx fs) := s _ _ h
end L2

set_option maxRecDepth 100000
set_option maxHeartbeats 4000000
namespace L2
open PySem PySem.Spec PyProof.Rows
inductive Deq (K : PySem.W.Frag) (H : Hp) : Nat → V → V → Bool → Prop where
  | flat {n : Nat} {x y : V} (fx : flatV x = true) (fy : flatV y = true) : Deq K H n x y (eqV x y)
  | same {n : Nat} (a : Addr) : Deq K H n (.ref a) (.ref a) true
  | tup {n : Nat} {a b : Addr} {xs ys : List V} {e : Nat → Bool} (hne : a ≠ b) (ha : SqT K H a xs) (hb : SqT K H b ys) (h : ∀ j, j < xs.length → j < ys.length → Deq K H n (xs.getD j .non) (ys.getD j .non) (e j)) :
      Deq K H (n + 1) (.ref a) (.ref b) ((List.range (min xs.length ys.length)).all e && xs.length == ys.length)
  | lst {n : Nat} {a b : Addr} {xs ys : List V} {e : Nat → Bool} (hne : a ≠ b) (ha : SqL K H a xs) (hb : SqL K H b ys) (hl : xs.length = ys.length) (h : ∀ j, j < xs.length → j < ys.length → Deq K H n (xs.getD j .non) (ys.getD j .non) (e j)) :
      Deq K H (n + 1) (.ref a) (.ref b) ((List.range xs.length).all e)
  | lstn {n : Nat} {a b : Addr} {xs ys : List V} (hne : a ≠ b) (ha : SqL K H a xs) (hb : SqL K H b ys) (hl : xs.length ≠ ys.length) : Deq K H (n + 1) (.ref a) (.ref b) false
section
variable {X : Cx} {pins : List (Addr × Obj)} {σ : St} {H : Hp} {s : Shared}
end
section
variable {X : Cx}
end
section
variable {H : Hp} {Q : VK} {K : PySem.W.Frag} {n : Nat} {p q : Addr} {xs ys : List V}
theorem Deq.self {x : V} (h : flatV x = true ∨ ∃ a, x = .ref a) : Deq K H n x x true := by
  rcases h with h | ⟨a, rfl⟩
  · have := Deq.flat (K := K) (H := H) (n := n) h h
    rw [eqV_refl h] at this
    exact this
  · exact .same a
end
def tFs (ta tb : TE) : TE := fun σ H Q => ta σ H fun x H1 => ∃ z1 : Str, x = .str z1 ∧ z1.length ≤ sizeLine ∧ tb σ H1 fun y H2 => ∃ z2 : Str, y = .str z2 ∧ z1.length + z2.length ≤ sizeLine ∧ ∀ z : Str, z.length = z1.length + z2.length → Q (.str z) H2
def tFv (te : TE) : TE := fun σ H Q => te σ H fun x H1 => ∃ z : Str, x = .str z ∧ z.length ≤ sizeLine ∧ Q (.str z) H1
section
variable {X : Cx} {a b e : Expr} {ta tb te : TE} {pos : Pos}
theorem len_app (x y : Str) : (x ++ y).length = x.length + y.length := strLen_append x y
end
section
variable {σ : St} {H : Hp} {Q : VK} {ta tb te : TE}
theorem r_fv (q : te σ H fun x H1 => ∃ z : Str, x = .str z ∧ z.length ≤ sizeLine ∧ Q (.str z) H1) : tFv te σ H Q := q
theorem r_fs (q : ta σ H fun x H1 => ∃ z1 : Str, x = .str z1 ∧ z1.length ≤ sizeLine ∧ tb σ H1 fun y H2 => ∃ z2 : Str, y = .str z2 ∧ z1.length + z2.length ≤ sizeLine ∧ ∀ z : Str, z.length = z1.length + z2.length → Q (.str z) H2) : tFs ta tb σ H Q := q
end
end L2

set_option maxRecDepth 100000
set_option maxHeartbeats 4000000
namespace L2
open PySem PySem.Spec PyProof.Rows
structure FunD (K : PySem.W.Frag) (x : Str) (st : Stmt) (ds : List Value) (f : Addr) (fd : FuncData) : Prop where
  ex : ∃ (T : Addr) (o : Obj) (n : Nat) (oc : Value) (od : Option Addr) (kV doc pm : Value) (an : Option Addr) (cdv ct : Value) (osl : Array (Option Value)),
    fd = PySem.W.fnOf x x (defArgs st) (defBody st) (defScope st) (.ref T) kV doc pm an cdv ct ∧ K.lookup f = some ⟨oc, od, .func fd, osl⟩ ∧ PySem.W.codeIn K cdv x = true ∧ K.lookup T = some o ∧ o.data = .seq ds.toArray n
  kp : PySem.W.keepIn K (.ref f) = true
structure LaidD (K : PySem.W.Frag) (mg : Str → Option Value) (x : Str) (st : Stmt) (ds : List Value) : Prop where
  ex : ∃ f fd, FunD K x st ds f fd ∧ mg x = some (.ref f)
structure CalD (P : Program) (w : World) (K : PySem.W.Frag) (mg : Str → Option Value) (base : Heap) (k : Nat) (x : Str) (ps : List Str) (sp : Sp) (st : Stmt) (ds : List Value) : Prop where
  ex : ∃ f fd, FnOk P w K mg base CX0 k f fd ps sp ∧ mg x = some (.ref f) ∧ FunD K x st ds f fd
def BnD (x : Str) (st : Stmt) (ds : List Value) (args : Args) (binds : List (Str × Value)) : Prop :=
  ∀ (T : Addr) (kV doc pm : Value) (an : Option Addr) (cdv ct : Value), ∃ k, bindArgs (PySem.W.fnOf x x (defArgs st) (defBody st) (defScope st) (.ref T) kV doc pm an cdv ct) args = seqItems? (.ref T) >>= k ∧ k (some ds.toArray) = pure binds
section
variable {P : Program} {w : World} {K : PySem.W.Frag} {mg : Str → Option Value} {base : Heap} {x : Str} {st : Stmt} {ds : List Value}
theorem FunD.bind {f : Addr} {fd : FuncData} {args : Args} {binds : List (Str × Value)} {s : Shared} (F : FunD K x st ds f fd) (X : K.In s.heap) (h : BnD x st ds args binds) : BindsTo s fd args binds := by
  obtain ⟨T, o, n, oc, od, kV, doc, pm, an, cdv, ct, osl, rfl, lk, hcd, ho, hs⟩ := F.ex
  obtain ⟨k, h1, h2⟩ := h T kV doc pm an cdv ct
  exact PySem.W.binds_K X rfl ho hs h1 h2
theorem LaidD.cal {N ps : List Str} {k : Nat} {sp : Sp} (L : LaidD K mg x st ds) (S : FnScope N ps (defScope st)) (len : ∀ vs H Q E, sp vs H Q E → vs.length = ps.length)
    (hbody : ∀ (f : Addr) (cdv : Value) (A : Around) (outer : List Env) (s : Shared) (H : Hp) (vs : List V) (Q : VK) (E : XK), Room k (A.deeper (envOfC x (defScope st) s.heap.objs.size f cdv)) → sp vs H Q E →
      ∃ t, PSs (cxOf CX0 P w K mg base N x (defScope st) f cdv A outer s H E).nox (defBody st) t ∧ t { nx := fun _ H' => Q .non H', rt := Q } (start N vs) H) : CalD P w K mg base (k + 1) x ps sp st ds := by
  obtain ⟨f, fd, F, m⟩ := L.ex
  refine ⟨f, fd, ?_, m, F⟩
  obtain ⟨T, o, n, oc, od, kV, doc, pm, an, cdv, ct, osl, rfl, lk, hcd, ho, hs⟩ := F.ex
  refine fn_of lk hcd S len fun A outer s H vs Q E hr hsp => ?_
  obtain ⟨t, h, q⟩ := hbody f cdv A outer s H vs Q E hr hsp
  exact ⟨t, h.nox, q⟩
theorem laidD_mk {h : Heap} {f T : Addr} {oc : Value} {od an : Option Addr} {osl : Array (Option Value)} {kV doc pm cdv ct : Value} {o : Obj} {n : Nat} (X : K.In h) (G : h.Ns mainGlobals mg) (a : PySem.W.nsIn K mainGlobals x = some (some (.ref f)))
    (l : K.lookup f = some ⟨oc, od, .func (PySem.W.fnOf x x (defArgs st) (defBody st) (defScope st) (.ref T) kV doc pm an cdv ct), osl⟩) (c : PySem.W.codeIn K cdv x = true) (k : PySem.W.keepIn K (.ref f) = true)
    (ho : K.lookup T = some o) (hs : o.data = .seq ds.toArray n) : LaidD K mg x st ds :=
  ⟨f, _, ⟨⟨T, o, n, oc, od, kV, doc, pm, an, cdv, ct, osl, rfl, l, c, ho, hs⟩, k⟩, PySem.W.mg_of X G a⟩
end
section
variable {X : Cx} {k k' : Nat} {x : Str} {ps ks : List Str} {sp : Sp} {p pos : Pos} {e : Expr} {es : List Expr} {kws : List Keyword} {t tk : TA} {st : Stmt} {ds ds' : List Value} {dvs : List V}
theorem r_callD {sp : Sp} {E : XK} {σ : St} {H : Hp} {Q : VK} (q : t σ H fun vs H1 => sp (vs ++ dvs) H1 Q E) : tCall sp dvs E t σ H Q := q
theorem r_callK {sp : Sp} {E : XK} {σ : St} {H : Hp} {Q : VK} {gV : List V → List V → List V} (q : t σ H fun vs H1 => tk σ H1 fun zs H2 => sp (gV vs zs) H2 Q E) : tCallK sp gV E t tk σ H Q := q
theorem r_bm0 {K : PySem.W.Frag} {T : String} {r : V → List V → Hp → VK → Prop} {to : TE} {σ : St} {H : Hp} {Q : VK} (q : to σ H fun x H1 => tyV K T x H1 ∧ r x [] H1 Q) : tBM0 K T r to σ H Q := q
end
end L2

set_option maxRecDepth 100000
set_option maxHeartbeats 4000000
namespace HT
open PySem PyProof.Rows
section
variable {prog : Program} {w : World} {A : Around} {E : Value → Shared → Prop} {s : Shared}
theorem cat_tup0 {t b : Addr} {vs ws : List Value} {Q : Value → Shared → Prop} (ht : IsTup s.heap t vs.toArray) (hb : IsTup s.heap b ws.toArray) (hv : vs = []) (h : Q (.ref b) s) : wpAny (model prog w) A (binaryOp .Add (.ref t) (.ref b)) Q E s := by
  obtain ⟨⟨cls, dd, data, sl⟩, ho, hc, n, hd⟩ := id ht
  obtain ⟨⟨cls2, dd2, data2, sl2⟩, ho2, hc2, n2, hd2⟩ := id hb
  simp only at hc hd hc2 hd2
  subst hc hd hc2 hd2
  exact concat_meets ⟨_, ho, rfl⟩ ⟨_, ho2, rfl⟩ noFill_tuple_add seq_tuple_add PySem.F.slot_tuple_add PySem.F.entry_tuple_add (PySem.F.args_tuple_add_2 _ _)
      (tuple_addW0 t b vs.toArray ws.toArray n n2 dd dd2 sl sl2 (by simp [hv])) ⟨ho, ho2, h⟩
end
end HT
namespace L2
open PySem PySem.Spec PyProof.Rows
def rCatTA (K : PySem.W.Frag) : R2 := fun x y H Q => ∃ a b xs ys, x = .ref a ∧ y = .ref b ∧ SqT K H a xs ∧ SqT K H b ys ∧ xs.length + ys.length ≤ sizeLine ∧
  (xs = [] → Q (.ref b) H) ∧ (xs ≠ [] → ys = [] → Q (.ref a) H) ∧ (xs ≠ [] → ys ≠ [] → ∀ p, H p = none → Q (.ref p) (upd H p (.tup (xs ++ ys))))
section
variable {X : Cx}
theorem op_catTA (K : PySem.W.Frag) (hK : X.K = K := by rfl) : OpR X (binaryOp .Add) (rCatTA K) := by
  subst hK
  intro pins s σ H x y v u Q I rx ry h
  obtain ⟨a, b, xs, ys, e1, e2, ha, hb, hz, q0, q1, q2⟩ := h
  by_cases hx : xs = []
  · subst e1 e2
    cases rx
    cases ry
    obtain ⟨its, r1, p1, _⟩ := I.tuple ha
    obtain ⟨its2, r2, p2, _⟩ := I.tuple hb
    exact HT.cat_tup0 p1 p2 (r1.nil_iff.mpr hx) ⟨.ref b, H, I, rfl, q0 hx⟩
  · exact op_catT pins s σ H x y v u Q I rx ry ⟨a, b, xs, ys, e1, e2, ha, hb, hx, hz, q1 hx, q2 hx⟩
end
section
variable {H : Hp} {Q : VK} {K : PySem.W.Frag}
end
theorem int_len {i : Int} (h : i.natAbs.log2 < 1920) : (Str.ofString (toString i)).length ≤ 1921 := int_text_len_1921 h
end L2

set_option maxRecDepth 100000
set_option maxHeartbeats 4000000
namespace Ce
open PySem L2
def letsG (g : Gt) (f : Int → Int) (op : Bool) (bars wt : Int) : Bool := match g with
  | .plain => true
  | .door _ => op
  | .need k => decide (0 < f k)
  | .bar b => bit bars b.toNat
  | .wade h k => decide (wt ≤ h) || decide (0 < f k)
  | .float h => decide (h ≤ wt)
inductive Wd where
  | go | pull | take | turn | unlock
  deriving DecidableEq
def Wd.str : Wd → Str
  | .go => "go"
  | .pull => "pull"
  | .take => "take"
  | .turn => "turn"
  | .unlock => "unlock"
def Wd.part : Wd → Int
  | .go => 3
  | .pull => 5
  | .take => 4
  | .turn => 6
  | .unlock => 3
structure Sd where
  rm : Int
  tk : Int
  op : Int
  b : Int
  wt : Int
def Sd.vs (s : Sd) : List V := [.int s.rm, .int s.tk, .int s.op, .int s.b, .int s.wt]
def Sd.ok (C : Cl) (s : Sd) : Prop := StOk C s.rm s.tk s.op s.b s.wt
def enterB (x : Way) (rm : Int) : Bool := decide (rm = x.a) || (decide (rm = x.b) && x.back)
def canB (C : Cl) (s : Sd) (i : Nat) : Wd → Bool
  | .go => match C.ways[i]? with
    | some x => enterB x s.rm && letsG x.g (hold C s.tk s.op) (bit s.op i) s.b s.wt
    | none => false
  | .pull => match C.levers[i]? with
    | some x => decide (s.rm = x.1)
    | none => false
  | .take => match C.things[i]? with
    | some x => decide (s.rm = x.1) && !bit s.tk i
    | none => false
  | .turn => match C.wheels[i]? with
    | some x => decide (s.rm = x.1) && !decide (s.wt = x.2)
    | none => false
  | .unlock => match C.ways[i]? with
    | some x => match x.g.dk with
      | some k => (enterB x s.rm && !bit s.op i) && decide (0 < hold C s.tk s.op k)
      | none => false
    | none => false
def doneB (C : Cl) (s : Sd) (i : Nat) : Wd → Sd
  | .go => match C.ways[i]? with
    | some x => { s with rm := if s.rm = x.a then x.b else x.a }
    | none => s
  | .pull => match C.levers[i]? with
    | some x => { s with b := Builtin.bitXor s.b x.2 }
    | none => s
  | .take => { s with tk := s.tk + 2 ^ i }
  | .turn => match C.wheels[i]? with
    | some x => { s with wt := x.2 }
    | none => s
  | .unlock => { s with op := s.op + 2 ^ i }
def Cl.num (C : Cl) : Wd → Nat
  | .go => C.ways.length
  | .pull => C.levers.length
  | .take => C.things.length
  | .turn => C.wheels.length
  | .unlock => C.ways.length
def canD (C : Cl) (s : Sd) (d : Wd) (n : Int) : Bool := !decide (s.rm = C.lst) && (decide (0 ≤ n) && canB C s n.toNat d)
def doneD (C : Cl) (s : Sd) (d : Wd) (n : Int) : Sd := doneB C s n.toNat d
theorem canB_lt {C : Cl} {s : Sd} {i : Nat} {d : Wd} (h : canB C s i d = true) : i < C.num d := by
  cases d <;> simp only [canB] at h
  · cases e : C.ways[i]? with
    | none => rw [e] at h; simp at h
    | some x => exact (List.getElem?_eq_some_iff.mp e).1
  · cases e : C.levers[i]? with
    | none => rw [e] at h; simp at h
    | some x => exact (List.getElem?_eq_some_iff.mp e).1
  · cases e : C.things[i]? with
    | none => rw [e] at h; simp at h
    | some x => exact (List.getElem?_eq_some_iff.mp e).1
  · cases e : C.wheels[i]? with
    | none => rw [e] at h; simp at h
    | some x => exact (List.getElem?_eq_some_iff.mp e).1
  · cases e : C.ways[i]? with
    | none => rw [e] at h; simp at h
    | some x => exact (List.getElem?_eq_some_iff.mp e).1
theorem canD_of {C : Cl} {s : Sd} {d : Wd} {n : Int} (h : canD C s d n = true) : ¬ s.rm = C.lst ∧ ∃ i : Nat, n = (i : Int) ∧ i < C.num d ∧ canB C s i d = true := by
  unfold canD at h
  simp only [Bool.and_eq_true, Bool.not_eq_true', decide_eq_false_iff_not, decide_eq_true_eq] at h
  exact ⟨h.1, n.toNat, by omega, canB_lt h.2.2, h.2.2⟩
theorem go_of {C : Cl} {s : Sd} {i : Nat} (hc : canD C s .go (i : Int) = true) : ∃ x, C.ways[i]? = some x ∧ enterB x s.rm = true ∧ letsG x.g (hold C s.tk s.op) (bit s.op i) s.b s.wt = true ∧ ¬ s.rm = C.lst ∧ doneD C s .go (i : Int) = { s with rm := if s.rm = x.a then x.b else x.a } := by
  obtain ⟨hl, j, e, hi, hb⟩ := canD_of hc
  have e' : i = j := by omega
  subst e'
  have hi' : i < C.ways.length := hi
  have hx : C.ways[i]? = some C.ways[i] := List.getElem?_eq_getElem hi'
  simp only [canB, hx, Bool.and_eq_true] at hb
  exact ⟨C.ways[i], hx, hb.1, hb.2, hl, by unfold doneD; rw [Int.toNat_natCast]; simp [doneB, hi']⟩
structure Walk (C : Cl) (s0 : Sd) (row : List (Wd × Nat)) (sts : List Sd) : Prop where
  len : sts.length = row.length + 1
  fst : sts[0]? = some s0
  go : ∀ i x, row[i]? = some x → ∃ a, sts[i]? = some a ∧ a.ok C ∧ canD C a x.1 (x.2 : Int) = true ∧ sts[i + 1]? = some (doneD C a x.1 (x.2 : Int))
theorem Walk.nil {C : Cl} {s0 : Sd} : Walk C s0 [] [s0] := ⟨rfl, rfl, fun i x h => by simp at h⟩
theorem Walk.snoc {C : Cl} {s0 : Sd} {row : List (Wd × Nat)} {sts : List Sd} (W : Walk C s0 row sts) {cur : Sd} {x : Wd × Nat} (hl : sts[row.length]? = some cur) (ok : cur.ok C) (hc : canD C cur x.1 (x.2 : Int) = true) : Walk C s0 (row ++ [x]) (sts ++ [doneD C cur x.1 (x.2 : Int)]) := by
  refine ⟨by simp [W.len], ?_, fun i y h => ?_⟩
  · rw [List.getElem?_append_left (by rw [W.len]; omega)]; exact W.fst
  · by_cases hi : i < row.length
    · rw [List.getElem?_append_left hi] at h
      obtain ⟨a, h1, h2, h3, h4⟩ := W.go i y h
      refine ⟨a, ?_, h2, h3, ?_⟩
      · rw [List.getElem?_append_left (by rw [W.len]; omega)]; exact h1
      · rw [List.getElem?_append_left (by rw [W.len]; omega)]; exact h4
    · have e : i = row.length := by
        have := (List.getElem?_eq_some_iff.mp h).1
        simp at this
        omega
      subst e
      rw [List.getElem?_append_right (Nat.le_refl _)] at h
      simp at h
      subst h
      refine ⟨cur, ?_, ok, hc, ?_⟩
      · rw [List.getElem?_append_left (by rw [W.len]; omega)]; exact hl
      · rw [List.getElem?_append_right (by rw [W.len]; omega), W.len]
        simp
end Ce

set_option maxRecDepth 100000
set_option maxHeartbeats 4000000
namespace L2
open PySem PySem.Spec PyProof.Rows
section
variable {X : Cx} {o e : Expr} {es : List Expr} {m : Str} {apos pos : Pos} {k k' : Nat} {ta : TE} {t : TA}
end
end L2

set_option maxRecDepth 100000
set_option maxHeartbeats 4000000
namespace L2
open PySem PySem.Spec PyProof.Rows
section
variable {P : Program} {w : World} {H : Hp} {h : Heap} {a : Addr} {o : HO}
theorem ObjOk.there (x : ObjOk P w H h a o) : ∃ u, h.get? a = some u := by
  cases o with
  | lst xs => obtain ⟨_, _, _, _, e⟩ := x; exact ⟨_, e⟩
  | tup xs => obtain ⟨_, _, _, o, e, _⟩ := x; exact ⟨_, e⟩
  | dK kvs => obtain ⟨_, _, _, _, o, _, _, e, _⟩ := x; exact ⟨_, e⟩
  | dT kvs => obtain ⟨_, _, _, _, o, _, _, e, _⟩ := x; exact ⟨_, e⟩
  | set S n => obtain ⟨o, _, _, _, e, _⟩ := x; exact ⟨_, e⟩
  | ins C dx fs => obtain ⟨_, _, _, e, _⟩ := x; exact ⟨_, e⟩
  | own y => obtain ⟨_, e⟩ := x; exact ⟨_, e⟩
  | xd fs => obtain ⟨_, ⟨_, _, _, e, _⟩, _⟩ := x; exact ⟨_, e⟩
  | rng lo hi => obtain ⟨_, _, _, e⟩ := x; exact ⟨_, e⟩
  | frz ob u => obtain ⟨e, _⟩ := x; exact ⟨_, e⟩
  | tbl ps => exact ⟨_, x⟩
  | met f y => exact ⟨_, x⟩
  | ext φ => obtain ⟨_, ⟨_, e⟩, _⟩ := x; exact ⟨_, e⟩
theorem HOk.none_of (x : HOk P w H h) (e : h.get? a = none) : H a = none := by
  cases q : H a with
  | none => rfl
  | some o => obtain ⟨u, eu⟩ := (x a o q).there; rw [e] at eu; cases eu
end
section
variable {X : Cx} {pins : List (Addr × Obj)} {σ : St} {H : Hp} {s : Shared}
theorem Inv.frame_data (I : Inv X pins σ H s) {b : Addr} (hb : b ∈ frs X.stack) : ∃ o, s.heap.get? b = some o ∧ ∀ vs, o.data ≠ .fields vs := (I.stack.mem hb).2
theorem Inv.noted {h5 : Heap} {as : List Addr} (I : Inv X pins σ H s) (up : s.heap.UpToSlots h5) (keep : ∀ b o, s.heap.get? b = some o → b ∉ as → b ∉ frs X.stack → h5.get? b = some o)
    (hf : ∀ b ∈ as, ∀ o, s.heap.get? b = some o → ∃ vs, o.data = .fields vs) (h0 : ∀ b ∈ as, X.s₀.heap.get? b = none) (hH : ∀ b ∈ as, H b = none) (hp : ∀ b ∈ as, ∀ p ∈ X.pn ++ pins, p.1 ≠ b) : Inv X pins σ H { s with heap := h5 } := by
  have n0 : ∀ b o, X.s₀.heap.get? b = some o → b ∉ as := fun b o e hb => by rw [h0 b hb] at e; cases e
  have nl : ∀ b o, X.s₀.heap.get? b = some o → b ∉ X.fs → b ∉ frs X.stack := fun b o e hb hs => by
    rcases List.mem_cons.mp (I.stkSub b hs) with z | z
    · rw [z] at e
      exact absurd (Heap.lt_size e) (Nat.not_lt.mpr I.ok.above)
    · exact hb z
  obtain ⟨m, hn, hl⟩ := id I.loc
  refine ⟨I.ok, I.os, I.bare, ⟨fun b o e n hb hx => ?_, fun b o e n hb hx => ?_, I.base.free, fun b o e hx => ?_, I.base.tups, I.base.frzs, I.base.tbls⟩, ⟨m, up.ns hn, fun i x v e1 e2 e3 => ?_⟩, fun x c e => ?_, I.free, I.freeC, fun p hpp => ?_, fun b ob e => ?_, I.len⟩
  · exact keep b o (I.base.keep b o e n hb hx) (n0 b o e) (nl b o e hb)
  · obtain ⟨sl, e1⟩ := I.base.slot b o e n hb hx
    have hbs : b ∈ frs X.stack := by
      rcases I.ok.stk with z | ⟨z, _⟩
      · rw [z]; exact hb
      · rw [z]
        obtain ⟨env', h1, h2⟩ := List.mem_filterMap.mp hb
        exact List.mem_filterMap.mpr ⟨env', List.mem_cons_of_mem _ h1, h2⟩
    obtain ⟨o2, e2, d2⟩ := I.frame_data hbs
    rw [e1] at e2
    cases e2
    obtain ⟨sl2, e3⟩ := up b _ e1 d2
    exact ⟨sl2, e3⟩
  · obtain ⟨o', e1⟩ := I.base.there b o e hx
    by_cases hb : b ∈ frs X.stack
    · obtain ⟨o2, e2, d2⟩ := I.frame_data hb
      obtain ⟨sl2, e3⟩ := up b _ e2 d2
      exact ⟨_, e3⟩
    · exact ⟨_, keep b _ e1 (n0 b o e) hb⟩
  · obtain ⟨u, r, l⟩ := hl i x v e1 e2 e3
    refine ⟨u, r, ?_⟩
    rcases l with l | ⟨k1, c, k2, oc, k3, k4⟩
    · exact .inl l
    · obtain ⟨sl, k5⟩ := up c oc k3 (by intro vs z; rw [k4] at z; cases z)
      exact .inr ⟨k1, c, k2, _, k5, k4⟩
  · obtain ⟨v, oc, k3, k4⟩ := I.cell x c e
    obtain ⟨sl, k5⟩ := up c oc k3 (by intro vs z; rw [k4] at z; cases z)
    exact ⟨v, _, k5, k4⟩
  · obtain ⟨e, n, ne, nf, d⟩ := I.pin p hpp
    refine ⟨keep _ _ e (fun hb => hp _ hb p hpp rfl) (fun hb => ?_), n, ne, nf, d⟩
    rcases List.mem_cons.mp (I.stkSub _ hb) with z | z
    · exact ne z
    · exact nf z
  · refine (I.hok b ob e).stay (fun c u hc q => keep c u q (fun hb => ?_) (fun hb => ?_)) (fun _ q => q) fun _ _ q => q
    · have := hH c hb
      rcases hc with rfl | hc
      · rw [this] at e; cases e
      · rw [this] at hc; cases hc
    · have := I.stkFree c hb
      rcases hc with rfl | hc
      · rw [this] at e; cases e
      · rw [this] at hc; cases hc
end
structure Fly (h0 : Heap) (a : Addr) (cls : Value) (H : Hp) (h : Heap) : Prop where
  ex : ∃ oe vs T oT ts a0, h.get? a = some oe ∧ (oe.cls = cls ∧ vs[0]? = some a0) ∧ oe.data = .fields vs ∧ vs[1]? = some (.ref T) ∧ T ≠ a ∧ h.get? T = some oT ∧ oT.data = .fields ts ∧ ts[3]? = some .none ∧ h0.get? T = none ∧ H T = none
  new : h0.get? a = none
  free : H a = none
def CXf (P : Program) (w : World) : CXT := fun outer H s E e s' => ∃ a cls H', e = .ref a ∧ s'.os = s.os ∧ AllBare s'.gens ∧ Un (frs outer) [] H H' s.heap s'.heap ∧ HOk P w H' s'.heap ∧ Fly s.heap a cls H' s'.heap ∧ E cls none H'
section
variable {X : Cx} {pins : List (Addr × Obj)} {σ : St} {H H' : Hp} {s s' : Shared} {E : XK}
theorem frs_in (l : List Env) : ∀ env ∈ l, ∀ a, env.frame = some a → a ∈ frs l := fun env he a ha => List.mem_filterMap.mpr ⟨env, he, ha⟩
theorem Inv.zero (I : Inv X pins σ H s) {b : Addr} (e : s.heap.get? b = none) (hx : X.ex = []) : X.s₀.heap.get? b = none := by
  cases q : X.s₀.heap.get? b with
  | none => rfl
  | some o => obtain ⟨o', e'⟩ := I.base.there b o q (by rw [hx]; simp); rw [e] at e'; cases e'
end
section
variable {P : Program} {w : World} {K : PySem.W.Frag} {mg : Str → Option Value} {base : Heap} {N : List Str} {qual : Str} {scope : Scope} {f : Addr} {cd : Value} {A : Around} {outer : List Env} {s0 : Shared} {H0 : Hp} {E : XK}
theorem raise_xe {pins : List (Addr × Obj)} {σ : St} {H : Hp} {s : Shared} {h' : Heap} {e : Addr} {cls : Value} {args : List Value} (I : Inv (cxOf (CXf P w) P w K mg base N qual scope f cd A outer s0 H0 E) pins σ H s)
    (hx : Heap.MadeExcOf s.heap h' e cls args) (hE : E cls none H) : (cxOf (CXf P w) P w K mg base N qual scope f cd A outer s0 H0 E).xe (.ref e) { s with heap := h' } := by
  have st : (PySem.W.hideAll s.heap (frs (envOfC qual scope s0.heap.objs.size f cd :: outer))).StaysIn s.heap := fun b o q => PySem.W.of_hideAll _ q
  show wpAny _ _ (leaving _ (.ref e)) _ _ _
  refine wpAny_leaves_madeW (base := PySem.W.hideAll s.heap (frs (envOfC qual scope s0.heap.objs.size f cd :: outer))) (h := s.heap) I.ok.frames rfl st (PySem.W.funFrames_hide I.stack (frs_in _)) hx fun h2 t fl tup ht up => ?_
  obtain ⟨f1, f2, f3, oe, vs, T, oT, ts, k1, k2, k3, k4, k5, k6, k7, k8, k9⟩ := fl
  have up2 : s.heap.UpToSlots h2 := fun b o q n => up b o (hx.keeps b o q) n
  have keep : ∀ b o, s.heap.get? b = some o → b ∉ ([] : List Addr) → b ∉ frs (envOfC qual scope s0.heap.objs.size f cd :: outer) → h2.get? b = some o := fun b o q _ hb => f1 b o (PySem.W.hideAll_get _ q hb)
  have J := I.noted (as := []) up2 keep (fun b hb => by simp at hb) (fun b hb => by simp at hb) (fun b hb => by simp at hb) (fun b hb => by simp at hb)
  have hT : s.heap.get? T = none := by
    cases q : s.heap.get? T with
    | none => rfl
    | some o =>
      by_cases hb : T ∈ frs (envOfC qual scope s0.heap.objs.size f cd :: outer)
      · obtain ⟨o2, e2, d2⟩ := I.frame_data hb
        obtain ⟨sl, e3⟩ := up2 T o2 e2 d2
        rw [k7] at e3
        cases e3
        exact absurd k8 (d2 ts)
      · have := PySem.W.hideAll_get _ q hb
        rw [k5] at this; cases this
  exact ⟨e, cls, H, rfl, J.os, J.bare, J.base, J.hok, ⟨⟨oe, vs, T, oT, ts, _, k1, k2, k3, k4, k6, k7, k8, k9, I.zero hT rfl, I.hok.none_of hT⟩, I.zero hx.new rfl, I.hok.none_of hx.new⟩, hE⟩
theorem pass_xe : Passes (CXf P w) (cxOf (CXf P w) P w K mg base N qual scope f cd A outer s0 H0 E) E := by
  intro pins σ H s e s' I h
  obtain ⟨a, cls, H', rfl, os, bare, un, hok, fly, hE⟩ := h
  have J : Inv (cxOf (CXf P w) P w K mg base N qual scope f cd A outer s0 H0 E) pins σ H' s' := I.call' os un hok bare fun b z => absurd z (by simp)
  obtain ⟨oe, vs, T, oT, ts, a0, k1, k2, k3, k4, k6, k7, k8, k9, hT0, hTH⟩ := fly.ex
  have st : (PySem.W.hideAll s'.heap (a :: T :: frs (envOfC qual scope s0.heap.objs.size f cd :: outer))).StaysIn s'.heap := fun b o q => PySem.W.of_hideAll _ q
  show wpAny _ _ (leaving _ (.ref a)) _ _ _
  refine wpAny_leaves_onW (base := PySem.W.hideAll s'.heap (a :: T :: frs (envOfC qual scope s0.heap.objs.size f cd :: outer))) I.ok.frames rfl (cls := cls) (a0 := a0)
    ⟨st, PySem.W.hideAll_none _ List.mem_cons_self, PySem.W.funFrames_hide J.stack (fun env he b hb => List.mem_cons_of_mem _ (List.mem_cons_of_mem _ (frs_in _ env he b hb))), oe, vs, T, oT, ts, k1, k2, k3, k4, PySem.W.hideAll_none _ (List.mem_cons_of_mem _ List.mem_cons_self), k6, k7, k8, k9⟩ fun h2 fl up => ?_
  obtain ⟨f1, f2, f3, oe2, vs2, T2, oT2, ts2, j1, j2, j3, j4, j5, j6, j7, j8, j9⟩ := fl
  have keep : ∀ b o, s'.heap.get? b = some o → b ∉ ([a, T] : List Addr) → b ∉ frs (envOfC qual scope s0.heap.objs.size f cd :: outer) → h2.get? b = some o := fun b o q hb hc => f1 b o (PySem.W.hideAll_get _ q fun z => by
    rcases List.mem_cons.mp z with z | z
    · exact hb (by rw [z]; simp)
    · rcases List.mem_cons.mp z with z | z
      · exact hb (by rw [z]; simp)
      · exact hc z)
  have two : ∀ {p : Addr → Prop}, p a → p T → ∀ b ∈ ([a, T] : List Addr), p b := fun h1 h2 b hb => by
    rcases List.mem_cons.mp hb with rfl | hb
    · exact h1
    · rw [List.mem_singleton.mp hb]; exact h2
  have Z := J.noted (as := [a, T]) up keep (two (fun o q => by rw [k1] at q; cases q; exact ⟨_, k3⟩) (fun o q => by rw [k7] at q; cases q; exact ⟨_, k8⟩)) (two (I.zero fly.new rfl) (I.zero hT0 rfl)) (two fly.free hTH)
    (two (fun p hp z => by have := (I.pin p hp).1; rw [z, fly.new] at this; cases this) (fun p hp z => by have := (I.pin p hp).1; rw [z, hT0] at this; cases this))
  have hT2 : s0.heap.get? T2 = none ∧ H' T2 = none := by
    by_cases eT : T2 = T
    · rw [eT]; exact ⟨I.zero hT0 rfl, hTH⟩
    have hn : s'.heap.get? T2 = none := by
      cases q : s'.heap.get? T2 with
      | none => rfl
      | some o =>
        by_cases hb : T2 ∈ frs (envOfC qual scope s0.heap.objs.size f cd :: outer)
        · obtain ⟨o2, e2, d2⟩ := J.frame_data hb
          obtain ⟨sl, e3⟩ := up T2 o2 e2 d2
          rw [j7] at e3
          cases e3
          exact absurd j8 (d2 ts2)
        · have := PySem.W.hideAll_get (l := a :: T :: frs (envOfC qual scope s0.heap.objs.size f cd :: outer)) q (fun z => by
            rcases List.mem_cons.mp z with z | z
            · exact j6 z
            · rcases List.mem_cons.mp z with z | z
              · exact eT z
              · exact hb z)
          rw [j5] at this; cases this
    exact ⟨J.zero hn rfl, J.hok.none_of hn⟩
  exact ⟨a, cls, H', rfl, Z.os, Z.bare, Z.base, Z.hok, ⟨⟨oe2, vs2, T2, oT2, ts2, a0, j1, j2, j3, j4, j6, j7, j8, j9, hT2.1, hT2.2⟩, I.zero fly.new rfl, fly.free⟩, hE⟩
end
end L2

set_option maxRecDepth 100000
set_option maxHeartbeats 4000000
namespace L2
open PySem PySem.Spec PyProof.Rows
theorem exc_obj {K : PySem.W.Frag} {h : Heap} {C : Addr} {bmB : List Value} {newId : String} (X : K.In h) (q : PySem.W.excIn K C bmB newId = true) :
    ∃ bm N nm qn bs hd sn sub ab col dd k0 k1 k2 k3 k5 mN, h.get? C = some (excClassObj nm qn C N bs bm hd sn sub ab col dd k0 k1 k2 k3 k5 newId) ∧ h.Ns N mN ∧ mN "__init__" = none ∧ OwnTail h bmB bm := by
  unfold PySem.W.excIn at q
  split at q
  case h_2 => cases q
  case h_1 dd cd sl ho =>
    split at q
    case h_2 => cases q
    case h_1 C' bm k0 k1 k2 k3 n k5 hm hs =>
      rw [Bool.and_eq_true, Bool.and_eq_true, Bool.and_eq_true, Bool.and_eq_true, Bool.and_eq_true] at q
      obtain ⟨⟨⟨⟨⟨q1, q2⟩, q3⟩, q4⟩, q5⟩, q6⟩ := q
      have e1 : C' = C := by simpa using q1
      have e2 : n = newId := by simpa using q2
      have e3 : cd.hasDel = false := by simpa using q3
      have e6 : PySem.W.nsIn K cd.ns "__init__" = some none := by simpa using q6
      obtain ⟨a1, a2, a3, a4, a5, a6, a7, a8, a9, a10, a11⟩ := cd
      dsimp only at hm e3 e6 q4 q5
      have esl : sl = #[k0, k1, k2, k3, some (.builtin n), k5] := by
        cases sl
        rename_i l
        dsimp only at hs
        rw [hs]
      subst e1 e2 esl hm e3
      exact ⟨bm, a4, a1, a5, a2, a6, a7, a8, a9, a10, dd, k0, k1, k2, k3, k5, _, X _ _ ho, .of_isNs (PySem.W.isNs_of_in X q5), PySem.W.nsMap_none_of_in X q5 e6, PySem.W.tail_of_in X q4⟩
structure ExcC (K : PySem.W.Frag) (C : Addr) : Prop where
  ex : ∃ (newId initId : String) (bmB : List Value), ExcBaseFacts "ValueError" newId initId bmB ∧ PySem.W.excIn K C bmB newId = true ∧ bmB.contains (.type "BaseException") = true
def Raises (X : Cx) (E : XK) : Prop := ∀ (pins : List (Addr × Obj)) (σ : St) (H : Hp) (s : Shared) (h' : Heap) (e : Addr) (cls : Value) (args : List Value), Inv X pins σ H s → Heap.MadeExcOf s.heap h' e cls args → E cls none H → X.xe (.ref e) { s with heap := h' }
def tRaise (C : Addr) (E : XK) (t : TA) : TS := fun _ σ H => t σ H fun vs H1 => vs.length ≤ sizeLine ∧ E (.ref C) none H1
section
variable {X : Cx} {E : XK} {x : Str} {C : Addr} {e : Expr} {es : List Expr} {t : TA} {np cpos pos : Pos}
theorem ps_raise (hR : Raises X E) (hc : X.calm = true) (hg : Gl X x) (hm : X.mg x = some (.ref C)) (q : ExcC X.K C) (ha : PA X (e :: es) t) (hd : (x == ("__debug__" : Str)) = false := by decide)
    (he : starEach (e :: es) X.env = (false, eval e X.env) :: starEach es X.env := by rfl) (hpl : (backTo cpos (starEach (e :: es) X.env)).any (·.1) = false := by rfl) : PS X (.Raise (some (.Call (.Name x np) (e :: es) [] cpos)) none pos) (tRaise C E t) := by
  intro pins s σ H D I h
  obtain ⟨newId, initId, bmB, F, qi, hb⟩ := q.ex
  obtain ⟨bm, N, nm, qn, bs, hdd, sn, sub, ab, col, dd, k0, k1, k2, k3, k5, mN, hC, hN, hni, TL⟩ := exc_obj I.ok.mod.kin qi
  refine wpAny_Raise_call_subT (C := C) (nm := nm) (q := qn) (N := N) (bs := bs) (bm := bm) (hdct := hdd) (sn := sn) (sub := sub) (ab := ab) (col := col) (dd := dd) (k0 := k0) (k1 := k1) (k2 := k2) (k3 := k3) (k5 := k5) (mN := mN) F (TL.hasType hb) (I.ok.hd hc) hpl hni (ld_glob I hg hm ⟨rfl, ?_⟩ hd)
  have hq := ha cpos pins s σ H _ I h
  rw [he] at hq ⊢
  refine Calls.evalArgs_plain (thn hq fun us s1 ⟨vs, H1, I1, r, hl, hE⟩ => ?_)
  exact ⟨rfl, by rw [← r.length]; exact hl, I1.bk _ _ hC, hN.keeps I1.bk, TL.keeps I1.bk, fun h' ex hx => hR pins σ H1 s1 h' ex _ _ I1 hx hE⟩
end

structure FlyX (X : Cx) (pins : List (Addr × Obj)) (a : Addr) (cls : Value) (H : Hp) (h : Heap) : Prop where
  ex : ∃ oe vs T oT ts a0, h.get? a = some oe ∧ (oe.cls = cls ∧ vs[0]? = some a0) ∧ oe.data = .fields vs ∧ vs[1]? = some (.ref T) ∧ T ≠ a ∧ h.get? T = some oT ∧ oT.data = .fields ts ∧ ts[3]? = some .none ∧ X.s₀.heap.get? T = none ∧ H T = none ∧ ∀ p ∈ X.pn ++ pins, p.1 ≠ T
  new : X.s₀.heap.get? a = none
  free : H a = none
  pn : ∀ p ∈ X.pn ++ pins, p.1 ≠ a
def XP (X : Cx) (pins : List (Addr × Obj)) (σ : St) (Ex : Value → Hp → Prop) (e : Value) (s' : Shared) : Prop := ∃ a cls H', e = .ref a ∧ Inv X pins σ H' s' ∧ FlyX X pins a cls H' s'.heap ∧ Ex cls H'
theorem xp_of {X : Cx} {pins : List (Addr × Obj)} {σ : St} {H : Hp} {s s' : Shared} {E : XK} {e : Value} (I : Inv X pins σ H s) (hx : X.ex = []) (h : CXf X.prog X.w X.stack H s E e s') : XP X pins σ (fun cls H' => E cls none H') e s' := by
  obtain ⟨a, cls, H', rfl, os, bare, un, hok, fly, hE⟩ := h
  have J : Inv X pins σ H' s' := I.call' os un hok bare fun b z => absurd z (by simp)
  obtain ⟨oe, vs, T, oT, ts, a0, k1, k2, k3, k4, k6, k7, k8, k9, hT0, hTH⟩ := fly.ex
  exact ⟨a, cls, H', rfl, J, ⟨⟨oe, vs, T, oT, ts, a0, k1, k2, k3, k4, k6, k7, k8, k9, I.zero hT0 hx, hTH, fun p hp z => by have := (I.pin p hp).1; rw [z, hT0] at this; cases this⟩, I.zero fly.new hx, fly.free, fun p hp z => by have := (I.pin p hp).1; rw [z, fly.new] at this; cases this⟩, hE⟩
abbrev TEx := St → Hp → VK → (Value → Hp → Prop) → Prop
def PEx (X : Cx) (e : Expr) (t : TEx) : Prop :=
  ∀ (pins : List (Addr × Obj)) (s : Shared) (σ : St) (H : Hp) (Q : VK) (Ex : Value → Hp → Prop), Inv X pins σ H s → t σ H Q Ex → wpAny (model X.prog X.w) X.A (eval e X.env) (EP X pins σ Q) (XP X pins σ Ex) s
abbrev TSx := Ends → (St → Value → Hp → Prop) → St → Hp → Prop
def XS (X : Cx) (pins : List (Addr × Obj)) (Ex : St → Value → Hp → Prop) (e : Value) (s' : Shared) : Prop := ∃ σ, XP X pins σ (Ex σ) e s'
def PSx (X : Cx) (st : Stmt) (t : TSx) : Prop :=
  ∀ (pins : List (Addr × Obj)) (s : Shared) (σ : St) (H : Hp) (D : Ends) (Ex : St → Value → Hp → Prop), Inv X pins σ H s → t D Ex σ H → wpAny (model X.prog X.w) X.A (exec st X.env) (SP X pins D) (XS X pins Ex) s
def PSsx (X : Cx) (st : List Stmt) (t : TSx) : Prop :=
  ∀ (pins : List (Addr × Obj)) (s : Shared) (σ : St) (H : Hp) (D : Ends) (Ex : St → Value → Hp → Prop), Inv X pins σ H s → t D Ex σ H → wpAny (model X.prog X.w) X.A (execs st X.env) (SP X pins D) (XS X pins Ex) s
def xCall (sp : Sp) (dvs : List V) (t : TA) : TEx := fun σ H Q Ex => t σ H fun vs H1 => sp (vs ++ dvs) H1 Q fun cls _ H' => Ex cls H'
def xSet (i : Nat) (te : TEx) : TSx := fun D Ex σ H => te σ H (fun v H1 => D.nx (σ.set i (some v)) H1) (Ex σ)
section
variable {X : Cx} {k : Nat} {f : Addr} {fd : FuncData} {ps : List Str} {sp : Sp} {dvs : List V} {ds : List Value} {x : Str} {p pos : Pos} {e : Expr} {es : List Expr} {t : TA}
theorem run_fnX {pins : List (Addr × Obj)} {σ : St} {H : Hp} {s : Shared} {Q : VK} {E : XK} {us : List Value} {vs : List V} (F : FnOk X.prog X.w X.K X.mg X.base (CXf X.prog X.w) k f fd ps sp) (hr : Room k X.A) (hb : Binds X.K fd ps ds) (hd : Vals dvs ds) (hx : X.ex = [])
    (I : Inv X pins σ H s) (r : Vals vs us) (h : sp (vs ++ dvs) H Q E) : wpAny (model X.prog X.w) X.A (call (.ref f) us) (EP X pins σ Q) (XP X pins σ fun cls H' => E cls none H') s := by
  have r2 : Vals (vs ++ dvs) (us ++ ds) := r.append hd
  have hl : (us ++ ds).length = ps.length := by rw [← r2.length]; exact F.len _ _ _ _ h
  refine wpAny_call (codeAny_mono (F.run X.A X.stack s H ⟨us, []⟩ (us ++ ds) (vs ++ dvs) Q E hr I.env0 (hb s us I.kIn hl) r2 h) fun r s' hq => ?_)
  cases r with
  | error e => exact xp_of I hx hq
  | ok fl =>
    cases fl with
    | ret u => exact I.after hq
    | next => exact False.elim hq
    | brk => exact False.elim hq
    | cont => exact False.elim hq
theorem pex_call (F : FnOk X.prog X.w X.K X.mg X.base (CXf X.prog X.w) k f fd ps sp) (hr : Room k X.A) (hg : Gl X x) (hm : X.mg x = some (.ref f)) (hk : PySem.W.keepIn X.K (.ref f) = true) (hb : Binds X.K fd ps ds) (hd : Vals dvs ds) (hx : X.ex = [])
    (ha : PA X.nox (e :: es) t) (hdb : (x == ("__debug__" : Str)) = false := by decide) (he : starEach (e :: es) X.env = (false, eval e X.env) :: starEach es X.env := by rfl) (hpl : (backTo pos (starEach es X.env)).any (·.1) = false := by rfl) :
    PEx X (.Call (.Name x p) (e :: es) [] pos) (xCall sp dvs t) := by
  intro pins s σ H Q Ex I h
  refine wpAny_Call_Name_kw (ld_glob I hg hm ?_ hdb)
  refine PySem.W.callWith_K (h₀ := X.base) I.ok.mod.kin hk (wpAny_mono (ha pos pins s σ H _ (I.wish _) h) (fun us s1 ⟨vs, H1, I1, r, q⟩ => ⟨I1.kIn, ?_⟩) fun _ _ z => False.elim z) he hpl
  exact run_fnX F hr hb hd hx I1.unwish r q
theorem psx_set {i : Nat} {te : TEx} {pos' : Pos} (hN : X.N.Nodup) (hi : X.N[i]? = some x) (hx : Loc X.env.scope x) (he : PEx X e te) (hs : swapsWith e (some (.Name x pos')) pos.line X.env = pure false := by rfl) (hf : X.fn x = true ∨ X.env.scope.names.lookup x = some .local := by first | exact .inl rfl | exact .inr rfl | assumption) :
    PSx X (.Assign [.Name x pos'] e pos) (xSet i te) := by
  intro pins s σ H D Ex I h
  refine wpAny_Assign_Name (wpAny_mono (he pins s σ H _ _ I h) (fun v s1 ⟨y, H1, I1, r1, q1⟩ => ?_) fun _ _ z => ⟨σ, z⟩) hs
  exact store_ok I1 hN hi hx r1 (fun s2 I2 => ⟨_, H1, I2, q1⟩) hf
theorem pssx_one {st : Stmt} {t : TSx} (h1 : PSx X st t) : PSsx X [st] t := by
  intro pins s σ H D Ex I h
  refine wpAny_execs_cons (thn (h1 pins s σ H D Ex I h) fun f s1 q => ?_)
  cases f with
  | next => exact wpAny_execs_nil q
  | ret v => exact q
  | brk => exact q
  | cont => exact q
end
section
variable {X : Cx} {pins : List (Addr × Obj)} {σ : St} {H : Hp} {s : Shared} {v : Value}
end
end L2

set_option maxRecDepth 100000
set_option maxHeartbeats 4000000
namespace L2
open PySem PySem.Spec PyProof.Rows
def tJoin : List TE → Nat → TE
  | [], n => fun _ H Q => ∀ z : Str, z.length = n → Q (.str z) H
  | t :: ts, n => fun σ H Q => t σ H fun x H1 => ∃ z : Str, x = .str z ∧ n + z.length ≤ sizeLine ∧ tJoin ts (n + z.length) σ H1 Q
section
variable {X : Cx} {pos : Pos} {e : Expr} {te : TE}
theorem join_go : ∀ {es : List Expr} {ts : List TE}, Paired (PE X) es ts → ∀ (acc : Str) (pins : List (Addr × Obj)) (s : Shared) (σ : St) (H : Hp) (Q : VK), acc.length ≤ sizeLine → Inv X pins σ H s → tJoin ts acc.length σ H Q → wpAny (model X.prog X.w) X.A (joinParts acc (evalEach es X.env)) (EP X pins σ Q) X.xe s
  | _, _, .nil, acc, pins, s, σ, H, Q, hz, I, h => joinParts_nilE (joinParts_nil ⟨.str acc, H, I.tok _, ⟨_, rfl⟩, h acc rfl⟩ hz)
  | _, _, .cons p r, acc, pins, s, σ, H, Q, hz, I, h => by
    refine joinParts_consE (joinParts_cons (thn (p pins s σ H _ I h) fun v s1 ⟨x, H1, I1, rx, z, ez, hl, q⟩ => ?_))
    subst ez
    obtain ⟨t, rfl⟩ := rx
    have el : (acc ++ z).length = acc.length + z.length := len_app acc z
    exact ⟨by rw [el]; exact hl, join_go r (acc ++ z) pins s1 σ H1 Q (by rw [el]; exact hl) I1 (by rw [el]; exact q)⟩
theorem empty_len : Str.empty.length = 0 := by decide
theorem pe_join {a b : Expr} {es : List Expr} {ts : List TE} (h : Paired (PE X) (a :: b :: es) ts) : PE X (.JoinedStr (a :: b :: es) pos) (tJoin ts 0) := by
  intro pins s σ H Q I hw
  refine JoinedStr_many (join_go h Str.empty pins s σ H Q (by decide) I ?_)
  rw [empty_len]
  exact hw
def tFm (te : TE) : TE := fun σ H Q => te σ H fun x H1 => (∃ i, x = .int i ∧ i.natAbs.log2 < 1920 ∧ ∀ z : Str, z.length ≤ 1921 → Q (.str z) H1) ∨ ∃ y : Str, x = .str y ∧ y.length ≤ sizeLine ∧ Q (.str y) H1
theorem pe_fm (he : PE X e te) : PE X (.FormattedValue e (-1) none pos) (tFm te) := by
  intro pins s σ H Q I h
  refine FormattedValue_plain (thn (he pins s σ H _ I h) fun v s1 ⟨x, H1, I1, rx, q⟩ => ?_)
  rcases q with ⟨i, rfl, hi, q⟩ | ⟨y, rfl, hy, q⟩
  · obtain ⟨t, rfl⟩ := rx
    exact formatField_int_small hi ⟨.str _, H1, I1.tok _, ⟨_, rfl⟩, q _ (int_len hi)⟩
  · obtain ⟨t, rfl⟩ := rx
    exact formatField_str (fun t' tk => ⟨.str y, H1, I1.tok _, ⟨_, rfl⟩, q⟩) hy
def tFr (te : TE) : TE := fun σ H Q => te σ H fun x H1 => ∃ i, x = .int i ∧ i.natAbs.log2 < 1920 ∧ ∀ z : Str, z.length ≤ 1921 → Q (.str z) H1
theorem pe_fr (he : PE X e te) : PE X (.FormattedValue e 114 none pos) (tFr te) := by
  intro pins s σ H Q I h
  refine wpAny_FormattedValue_repr (thn (he pins s σ H _ I h) fun v s1 ⟨x, H1, I1, rx, i, ei, hi, q⟩ => ?_)
  subst ei
  obtain ⟨t, rfl⟩ := rx
  refine pyReprObj_int hi (formatField_str (fun t' tk => ⟨.str _, H1, I1.tok _, ⟨_, rfl⟩, q _ (int_len hi)⟩) (int_text_fits hi))
end
def ShowV : V → Prop
  | .int i => i.natAbs.log2 < 1920
  | .str y => (reprText y).length ≤ 2000
  | .bl _ => True
  | .non => True
  | _ => False
theorem shows_one {h : Heap} {x : V} {u : Value} (r : RelV x u) (hx : ShowV x) : ∃ d, Reads h u d [] ∧ d.showable = true ∧ d.hasDict = false ∧ d.shown.length ≤ 2000 ∧ d.depth = 0 := by
  cases x with
  | non => cases r; exact ⟨.none, .none, rfl, rfl, by decide +kernel, rfl⟩
  | bl b => cases r; exact ⟨.bool b, .bool b, rfl, rfl, by cases b <;> decide +kernel, rfl⟩
  | int i =>
    obtain ⟨t, rfl⟩ := r
    exact ⟨.int i, .int i t, by simp [PyData.showable]; exact hx, rfl, by have := int_len hx; show (Str.ofString (toString i)).length ≤ 2000; omega, rfl⟩
  | str y =>
    obtain ⟨t, rfl⟩ := r
    exact ⟨.str y, .str y t, rfl, rfl, hx, rfl⟩
  | byt b => exact hx.elim
  | flt b => exact hx.elim
  | ref a => exact hx.elim
  | ty n => exact hx.elim
theorem shows_all {h : Heap} : ∀ {xs : List V} {us : List Value}, Vals xs us → (∀ x ∈ xs, ShowV x) → ∃ ds, ReadsAll h us ds [] ∧ PyData.showableAll ds = true ∧ PyData.hasDictAll ds = false ∧ piled (PyData.shownAll ds) ≤ 2002 * xs.length ∧ (PyData.shownAll ds).length = xs.length ∧ PyData.depthAll ds = 0
  | _, _, .nil, _ => ⟨[], .nil, rfl, rfl, by simp [PyData.shownAll, piled], rfl, rfl⟩
  | _, _, .cons (a := x) r t, hx => by
    obtain ⟨d, k1, k2, k3, k4, k5⟩ := shows_one (h := h) r (hx x List.mem_cons_self)
    obtain ⟨ds, j1, j2, j3, j4, j5, j6⟩ := shows_all (h := h) t fun y hy => hx y (List.mem_cons_of_mem _ hy)
    refine ⟨d :: ds, ReadsAll.cons k1 j1, ?_, ?_, ?_, ?_, ?_⟩
    · show (d.showable && PyData.showableAll ds) = true
      rw [k2, j2]; rfl
    · show (d.hasDict || PyData.hasDictAll ds) = false
      rw [k3, j3]; rfl
    · show piled (d.shown :: PyData.shownAll ds) ≤ _
      rw [piled_cons, List.length_cons]
      omega
    · show (d.shown :: PyData.shownAll ds).length = _
      rw [List.length_cons, j5, List.length_cons]
    · show max d.depth (PyData.depthAll ds) = 0
      rw [k5, j6]; rfl
theorem tupleText_len {ts : List Str} : (tupleText ts).length ≤ piled ts + 4 := by
  unfold tupleText
  rw [len_app, len_app]
  have h1 : ((("(" : String) : Str)).length = 1 := by decide +kernel
  have h2 : ∀ b : Bool, ((((if b = true then ",)" else ")") : String) : Str)).length ≤ 2 := by intro b; cases b <;> decide +kernel
  have h3 := h2 (ts.length == 1)
  cases ts with
  | nil =>
    have e : (Str.join ((", " : String) : Str) []).length = 0 := by decide +kernel
    rw [e]
    omega
  | cons x r =>
    have := join_length_add (x :: r) (by simp)
    omega
section
variable {X : Cx} {pos : Pos} {e : Expr} {te : TE}
def tFt (te : TE) : TE := fun σ H Q => te σ H fun x H1 => ∃ p xs, x = .ref p ∧ H1 p = some (.tup xs) ∧ xs.length ≤ 20 ∧ (∀ y ∈ xs, ShowV y) ∧ ∀ z : Str, z.length ≤ 50000 → Q (.str z) H1
theorem pe_ft (hg : X.A.guards = some []) (hu : X.A.units + 8 < cLine) (he : PE X e te) : PE X (.FormattedValue e 114 none pos) (tFt te) := by
  intro pins s σ H Q I h
  refine wpAny_FormattedValue_repr (thn (he pins s σ H _ I h) fun v s1 ⟨x, H1, I1, rx, p, xs, ep, hp, hl, hx, q⟩ => ?_)
  subst ep
  cases rx
  obtain ⟨_, its, r, o, ho, hc, n, hd⟩ := (show ObjOk X.prog X.w H1 s1.heap p (.tup xs) from I1.hok p _ hp)
  obtain ⟨ds, j1, j2, j3, j4, j5, j6⟩ := shows_all (h := s1.heap) r hx
  have big := line_big
  have hz : (PyData.shown (.tuple ds)).length ≤ 50000 := by
    show (tupleText (PyData.shownAll ds)).length ≤ 50000
    have := tupleText_len (ts := PyData.shownAll ds)
    omega
  refine pyReprObj_of_reads (h₀ := s1.heap) (d := .tuple ds) (as := []) (.tuple ho hc hd (by simpa using j1)) (by show PyData.showableAll ds = true; exact j2) (fun z => by rw [show PyData.hasDict (.tuple ds) = PyData.hasDictAll ds from rfl, j3] at z; cases z) hg
    (by show X.A.units + (PyData.depthAll ds + 1) < cLine; rw [j6]; omega) (fun _ _ z => z) (fun h' u tk hk => ?_) (by omega)
  exact formatField_str (fun t' tk' => ⟨.str _, H1, (I1.kept (t' := tk') hk), ⟨_, rfl⟩, q _ hz⟩) (by omega)
end
end L2

set_option maxRecDepth 100000
set_option maxHeartbeats 4000000
namespace L2
open PySem PySem.Spec PyProof.Rows
structure Caught (X : Cx) (pins : List (Addr × Obj)) (a : Addr) (cls : Value) (σ : St) (H : Hp) (s : Shared) : Prop where
  inv : Inv X pins σ H s
  fly : FlyX X pins a cls H s.heap
section
variable {X : Cx} {pins : List (Addr × Obj)} {a : Addr} {cls : Value} {σ : St} {H : Hp} {s : Shared} {h' : Heap}
theorem Caught.opened (c : Caught X pins a cls σ H s) (hx : X.ex = []) : ∃ base a0, Heap.FlyingW base X.stack a cls a0 s.heap ∧ ∀ h5, Heap.FlyingW base X.stack a cls a0 h5 → s.heap.UpToSlots h5 → Caught X pins a cls σ H { s with heap := h5 } := by
  obtain ⟨J, fl⟩ := c
  obtain ⟨oe, vs, T, oT, ts', a0, j1, j2, j3, j4, j6, j7, j8, j9, hT0, hTH, hTp⟩ := fl.ex
  have st : (PySem.W.hideAll s.heap (a :: T :: frs X.stack)).StaysIn s.heap := fun b o w => PySem.W.of_hideAll _ w
  have two : ∀ {p : Addr → Prop}, p a → p T → ∀ b ∈ ([a, T] : List Addr), p b := fun h1 h2 b hb => by
    rcases List.mem_cons.mp hb with rfl | hb
    · exact h1
    · rw [List.mem_singleton.mp hb]; exact h2
  have ff := PySem.W.funFrames_hide (as := a :: T :: frs X.stack) J.stack (fun env he b hb => List.mem_cons_of_mem _ (List.mem_cons_of_mem _ (frs_in _ env he b hb)))
  refine ⟨_, a0, ⟨st, PySem.W.hideAll_none _ List.mem_cons_self, ff, oe, vs, T, oT, ts', j1, j2, j3, j4, PySem.W.hideAll_none _ (List.mem_cons_of_mem _ List.mem_cons_self), j6, j7, j8, j9⟩, fun h5 f up => ?_⟩
  obtain ⟨f1, f2, f3, oe2, vs2, T2, oT2, ts2, i1, i2, i3, i4, i5, i6, i7, i8, i9⟩ := f
  have Z : Inv X pins σ H { s with heap := h5 } := by
    refine J.noted (as := [a, T]) up (fun b o w hb hc => f1 b o (PySem.W.hideAll_get _ w fun y => ?_)) (two (fun o w => by rw [j1] at w; cases w; exact ⟨_, j3⟩) (fun o w => by rw [j7] at w; cases w; exact ⟨_, j8⟩)) (two fl.new hT0) (two fl.free hTH) (two fl.pn hTp)
    rcases List.mem_cons.mp y with y | y
    · exact hb (by rw [y]; simp)
    · rcases List.mem_cons.mp y with y | y
      · exact hb (by rw [y]; simp)
      · exact hc y
  have hT2 : X.s₀.heap.get? T2 = none ∧ H T2 = none ∧ ∀ p ∈ X.pn ++ pins, p.1 ≠ T2 := by
    by_cases eT : T2 = T
    · rw [eT]; exact ⟨hT0, hTH, hTp⟩
    have hn : s.heap.get? T2 = none := by
      cases q : s.heap.get? T2 with
      | none => rfl
      | some o =>
        by_cases hb : T2 ∈ frs X.stack
        · obtain ⟨o2, e2, d2⟩ := J.frame_data hb
          obtain ⟨sl, e3⟩ := up T2 o2 e2 d2
          rw [i7] at e3
          cases e3
          exact absurd i8 (d2 ts2)
        · have := PySem.W.hideAll_get (l := a :: T :: frs X.stack) q (fun z => by
            rcases List.mem_cons.mp z with z | z
            · exact i6 z
            · rcases List.mem_cons.mp z with z | z
              · exact eT z
              · exact hb z)
          rw [i5] at this; cases this
    exact ⟨J.zero hn hx, J.hok.none_of hn, fun p hp z => by have := (J.pin p hp).1; rw [z, hn] at this; cases this⟩
  exact ⟨Z, ⟨⟨oe2, vs2, T2, oT2, ts2, a0, i1, i2, i3, i4, i6, i7, i8, i9, hT2.1, hT2.2.1, hT2.2.2⟩, fl.new, fl.free, fl.pn⟩⟩
theorem Caught.kept {t' : Nat} (c : Caught X pins a cls σ H s) (k : ∀ b u, s.heap.get? b = some u → h'.get? b = some u) : Caught X pins a cls σ H { s with heap := h', toks := t' } := by
  obtain ⟨J, fl⟩ := c
  obtain ⟨oe, vs, T, oT, ts', a0, j1, j2, j3, j4, j6, j7, j8, j9, hT0, hTH, hTp⟩ := fl.ex
  exact ⟨J.kept k, ⟨⟨oe, vs, T, oT, ts', a0, k _ _ j1, j2, j3, j4, j6, k _ _ j7, j8, j9, hT0, hTH, hTp⟩, fl.new, fl.free, fl.pn⟩⟩
theorem Caught.type {M : Model} (c : Caught X pins a cls σ H s) : PySem.W.Looks M s.heap (typeOf (.ref a)) cls := by
  obtain ⟨oe, vs, T, oT, ts', a0, j1, j2, _⟩ := c.fly.ex
  exact j2.1 ▸ (PySem.W.Looks.ld j1).andThen .now
end
abbrev TH := Value → TS
def PH (X : Cx) (hs : List ExceptHandler) (t : TH) : Prop :=
  ∀ (pins : List (Addr × Obj)) (s : Shared) (σ : St) (H : Hp) (D : Ends) (a : Addr) (cls : Value), Caught X pins a cls σ H s → t cls D σ H → wpAny (model X.prog X.w) X.A (handleBy (.ref a) X.env hs) (SP X pins D) X.xe s
def tTryH (tb : TSx) (th : TH) : TS := fun D σ H => tb D (fun σ' cls H' => th cls D σ' H') σ H
theorem ps_tryH {X : Cx} {body : List Stmt} {h0 : ExceptHandler} {hs : List ExceptHandler} {tb : TSx} {th : TH} {pos : Pos} (hst : X.stack = X.env :: X.outer) (hfr : X.env.frame = some X.env.locals) (hx : X.ex = [])
    (hb : PSsx X body tb) (hh : PH X (h0 :: hs) th) : PS X (.Try body (h0 :: hs) [] [] pos) (tTryH tb th) := by
  intro pins s σ H D I h
  refine wpAny_Try_except (wpAny_mono (hb pins s σ H D _ I h) (fun f s1 z => ?_) (fun e s1 z => ?_))
  · cases f with
    | next => exact wpAny_execs_nil z
    | ret v => exact z
    | brk => exact z
    | cont => exact z
  · obtain ⟨σ', a, cls, H', rfl, J, fl, z⟩ := z
    obtain ⟨base, a0, fly, back⟩ := (Caught.mk J fl).opened hx
    rw [hst] at fly back
    refine wpAny_looks_onW (by rw [← hst]; exact I.ok.frames) hfr fly fun h4 held up4 => ?_
    refine wpAny_landsW held fun h5 fly5 up5 => ?_
    exact hh pins _ σ' H' D a cls (back h5 fly5 (up4.trans up5)) z
section
variable {M : Model} {K : PySem.W.Frag}
end
section
variable {X : Cx} {pins : List (Addr × Obj)} {σ : St} {H : Hp} {s : Shared} {A : Around} {E : Value → Shared → Prop}
end
section
variable {X : Cx}
end
section
variable {X : Cx} {pins : List (Addr × Obj)} {a : Addr} {cls : Value} {σ : St} {H : Hp} {s : Shared}
theorem Caught.track (c : Caught X pins a cls σ H s) : ∃ oe, oe.cls = cls ∧ Inv X pins σ (upd H a (.frz oe (.own a))) s := by
  obtain ⟨I, fl⟩ := c
  obtain ⟨oe, vs, T, oT, ts', a0, j1, j2, j3, _⟩ := fl.ex
  have same : ∀ {b : Addr} {o : HO}, H b = some o → upd H a (.frz oe (.own a)) b = some o := fun {b o} e => by
    rw [upd_ne (fun z => by rw [z, fl.free] at e; cases e)]; exact e
  have none' : ∀ {b : Addr}, b ≠ a → H b = none → upd H a (.frz oe (.own a)) b = none := fun {b} n e => by rw [upd_ne n]; exact e
  obtain ⟨m, hn, hl⟩ := id I.loc
  refine ⟨oe, j2.1, ⟨I.ok, I.os, I.bare, ⟨I.base.keep, I.base.slot, fun b o e n hx => none' (fun z => by rw [z, fl.new] at e; cases e) (I.base.free b o e n hx), I.base.there, fun b xs e => same (I.base.tups b xs e), fun b o u e => same (I.base.frzs b o u e), fun b ps e => ?_⟩, I.loc, I.cell, none' (fun z => ?_) I.free, fun x c e => none' (fun z => ?_) (I.freeC x c e), fun p hp => ?_, fun b o e => ?_, I.len⟩⟩
  · obtain ⟨more, e⟩ := I.base.tbls b ps e
    exact ⟨more, same e⟩
  · obtain ⟨o, es, ep, ho, hd, _⟩ := hn
    rw [z, j1] at ho
    cases ho
    rw [j3] at hd; cases hd
  · obtain ⟨v, oc, k3, k4⟩ := I.cell x c e
    rw [z, j1] at k3
    cases k3
    rw [j3] at k4; cases k4
  · obtain ⟨e, n, ne, nf, d⟩ := I.pin p hp
    exact ⟨e, none' (fl.pn p hp) n, ne, nf, d⟩
  · by_cases z : b = a
    · subst z
      rw [upd_same] at e
      cases e
      exact ⟨j1, ⟨_, j1⟩⟩
    · rw [upd_ne z] at e
      exact (I.hok b o e).stay (fun _ _ _ q => q) (fun _ q => same q) fun _ _ q => same q
theorem Inv.gone {i : Nat} {n : Str} {h' : Heap} {t' : Nat} {m : Str → Option Value} {v : Option Value} (I : Inv X pins σ H s) (hN : X.N.Nodup) (hi : X.N[i]? = some n) (hn0 : s.heap.Ns X.env.locals m) (hn : h'.Ns X.env.locals (fun x => if x = n then v else m x)) (hs : Heap.SameBut X.env.locals s.heap h') :
    Inv X pins (σ.set i none) H { s with heap := h', toks := t' } := by
  obtain ⟨m1, hn1, hl⟩ := id I.loc
  have hm : m1 = m := by
    obtain ⟨o1, es1, ep1, k1, k2, _, k4⟩ := hn1
    obtain ⟨o2, es2, ep2, l1, l2, _, l4⟩ := hn0
    rw [k1] at l1
    cases l1
    rw [k2] at l2
    cases l2
    exact funext fun x => (k4 x).symm.trans (l4 x)
  subst hm
  have hiσ : i < σ.length := by rw [I.len]; exact (List.getElem?_eq_some_iff.mp hi).1
  refine ⟨I.ok, I.os, I.bare, ⟨fun b o e n hb hx => ?_, fun b o e n hb hx => ?_, I.base.free, fun b o e hx => ?_, I.base.tups, I.base.frzs, I.base.tbls⟩, ⟨_, hn, fun j y v' e1 e2 e3 => ?_⟩, fun y c e => ?_, I.free, I.freeC, fun p hp => ?_, fun b ob e => ?_, by simpa using I.len⟩
  · exact (hs.2 b (Nat.ne_of_lt (Nat.lt_of_lt_of_le (Heap.lt_size e) I.ok.above))).trans (I.base.keep b o e n hb hx)
  · obtain ⟨sl, e1⟩ := I.base.slot b o e n hb hx
    exact ⟨sl, (hs.2 b (Nat.ne_of_lt (Nat.lt_of_lt_of_le (Heap.lt_size e) I.ok.above))).trans e1⟩
  · obtain ⟨o', e1⟩ := I.base.there b o e hx
    exact ⟨o', (hs.2 b (Nat.ne_of_lt (Nat.lt_of_lt_of_le (Heap.lt_size e) I.ok.above))).trans e1⟩
  · by_cases hj : j = i
    · subst hj
      rw [List.getElem?_set_self hiσ] at e2
      cases e2
    · rw [List.getElem?_set_ne (Ne.symm hj)] at e2
      obtain ⟨u', r', q⟩ := hl j y v' e1 e2 e3
      refine ⟨u', r', ?_⟩
      rcases q with ⟨k, e⟩ | ⟨k, c, e, z⟩
      · refine .inl ⟨k, ?_⟩
        have : y ≠ n := fun e => hj (nodup_ix hN e1 (e ▸ hi))
        simp [this, e]
      · exact .inr ⟨k, c, e, z.sameBut hs (I.cne y c e)⟩
  · obtain ⟨w', z⟩ := I.cell y c e
    exact ⟨w', z.sameBut hs (I.cne y c e)⟩
  · obtain ⟨e, n, ne, nf, d⟩ := I.pin p hp
    exact ⟨(hs.2 p.1 ne).trans e, n, ne, nf, d⟩
  · refine (I.hok b ob e).stay (fun c w' hc q => (hs.2 c ?_).trans q) (fun _ q => q) fun _ _ q => q
    rintro rfl
    rcases hc with rfl | hc
    · rw [I.free] at e; cases e
    · rw [I.free] at hc; cases hc
end
section
variable {K : PySem.W.Frag}
open PySem.W in
theorem isi_yes {M : Program} {w : World} {A : Around} {E : Value → Shared → Prop} {Q : Value → Shared → Prop} {s : Shared} {x t c : Value} (X : K.In s.heap) (LT : ∀ M, PySem.W.Looks M s.heap (typeOf x) t) (e : PySem.W.kitOne K t c = some true) (hx : x ≠ .builtin "__main__.__loader__#opaque") (h : Q (.bool true) s) :
    wpAny (model M w) A (call (.builtin "isinstance") [x, c]) Q E s := by
  obtain ⟨h0, g, d, tt, os⟩ := s
  refine call_isinstance_of ?_ hx
  have LT := LT (model M w)
  unfold kitOne at e
  unfold Builtin.«isinstance.nested»
  refine wpAny_bind (LT.at ?_)
  by_cases q : (t == c) = true
  · rw [if_pos q]
    repeat (first | refine wpAny_pure ?_ | refine wpAny_rule ?_ | refine wpAny_bind ?_)
    exact h
  · rw [if_neg q] at e
    rw [if_neg q]
    obtain ⟨hty, his, hsub⟩ := kit_cls (M := model M w) X e
    have LI : Looks (model M w) h0 (isInstance x c) true := LT.andThen hsub
    refine wpAny_bind (hty.at ?_)
    rw [if_pos (by decide)]
    k_delta "plainIsInstance"
    refine wpAny_bind (wpAny_bind (his.at ?_))
    simp only [Bool.not_true, Bool.false_eq_true, if_false]
    refine wpAny_bind (LI.at ?_)
    simp only [if_true]
    exact wpAny_pure (wpAny_pure h)
end
end L2

set_option maxRecDepth 100000
set_option maxHeartbeats 4000000
namespace L2
open PySem PySem.Spec PyProof.Rows
structure CalX (P : Program) (w : World) (K : PySem.W.Frag) (mg : Str → Option Value) (base : Heap) (k : Nat) (x : Str) (ps : List Str) (sp : Sp) : Prop where
  ex : ∃ f fd, FnOk P w K mg base (CXf P w) k f fd ps sp ∧ mg x = some (.ref f) ∧ PySem.W.keepIn K (.ref f) = true ∧ Binds K fd ps []
structure CalDX (P : Program) (w : World) (K : PySem.W.Frag) (mg : Str → Option Value) (base : Heap) (k : Nat) (x : Str) (ps : List Str) (sp : Sp) (st : Stmt) (ds : List Value) : Prop where
  ex : ∃ f fd, FnOk P w K mg base (CXf P w) k f fd ps sp ∧ mg x = some (.ref f) ∧ FunD K x st ds f fd
section
variable {P : Program} {w : World} {K : PySem.W.Frag} {mg : Str → Option Value} {base : Heap}
theorem Laid.calX {x : Str} {st : Stmt} {N ps : List Str} {k : Nat} {sp : Sp} (L : Laid K mg x st ps) (S : FnScope N ps (defScope st)) (len : ∀ vs H Q E, sp vs H Q E → vs.length = ps.length)
    (hbody : ∀ (f : Addr) (cdv : Value) (A : Around) (outer : List Env) (s : Shared) (H : Hp) (vs : List V) (Q : VK) (E : XK), Room k (A.deeper (envOfC x (defScope st) s.heap.objs.size f cdv)) → sp vs H Q E →
      ∃ t, PSs (cxOf (CXf P w) P w K mg base N x (defScope st) f cdv A outer s H E) (defBody st) t ∧ t { nx := fun _ H' => Q .non H', rt := Q } (start N vs) H) : CalX P w K mg base (k + 1) x ps sp := by
  obtain ⟨f, fd, F, m, b⟩ := L.ex
  refine ⟨f, fd, ?_, m, F.kp, b⟩
  obtain ⟨oc, od, kV, doc, pm, an, cdv, ct, osl, rfl, lk, hcd⟩ := F.ex
  exact fn_of lk hcd S len fun A outer s H vs Q E hr hsp => hbody f cdv A outer s H vs Q E hr hsp
theorem LaidD.calX {x : Str} {st : Stmt} {ds : List Value} {N ps : List Str} {k : Nat} {sp : Sp} (L : LaidD K mg x st ds) (S : FnScope N ps (defScope st)) (len : ∀ vs H Q E, sp vs H Q E → vs.length = ps.length)
    (hbody : ∀ (f : Addr) (cdv : Value) (A : Around) (outer : List Env) (s : Shared) (H : Hp) (vs : List V) (Q : VK) (E : XK), Room k (A.deeper (envOfC x (defScope st) s.heap.objs.size f cdv)) → sp vs H Q E →
      ∃ t, PSs (cxOf (CXf P w) P w K mg base N x (defScope st) f cdv A outer s H E) (defBody st) t ∧ t { nx := fun _ H' => Q .non H', rt := Q } (start N vs) H) : CalDX P w K mg base (k + 1) x ps sp st ds := by
  obtain ⟨f, fd, F, m⟩ := L.ex
  refine ⟨f, fd, ?_, m, F⟩
  obtain ⟨T, o, n, oc, od, kV, doc, pm, an, cdv, ct, osl, rfl, lk, hcd, ho, hs⟩ := F.ex
  exact fn_of lk hcd S len fun A outer s H vs Q E hr hsp => hbody f cdv A outer s H vs Q E hr hsp
end
section
variable {X : Cx} {k k' : Nat} {x : Str} {ps : List Str} {sp : Sp} {p pos : Pos} {e : Expr} {es : List Expr} {t : TA} {E : XK} {st : Stmt} {ds ds' : List Value} {dvs : List V}
theorem pe_calX (c : CalX X.prog X.w X.K X.mg X.base k x ps sp) (hx : Passes (CXf X.prog X.w) X E) (hr : Room k' X.A) (hk : k ≤ k') (hg : Gl X x) (ha : PA X (e :: es) t) (hdb : (x == ("__debug__" : Str)) = false := by decide) (he : starEach (e :: es) X.env = (false, eval e X.env) :: starEach es X.env := by rfl)
    (hpl : (backTo pos (starEach es X.env)).any (·.1) = false := by rfl) : PE X (.Call (.Name x p) (e :: es) [] pos) (tCall sp [] E t) := by
  obtain ⟨f, fd, F, m, kp, b⟩ := c.ex
  exact pe_call F (hr.mono hk) hg m kp b .nil hx ha hdb he hpl
theorem pe_calDX (c : CalDX X.prog X.w X.K X.mg X.base k x ps sp st ds) (hx : Passes (CXf X.prog X.w) X E) (hb : ∀ us : List Value, (us ++ ds').length = ps.length → BnD x st ds ⟨us, []⟩ (ps.zip (us ++ ds'))) (hd : Vals dvs ds') (hr : Room k' X.A) (hk : k ≤ k') (hg : Gl X x) (ha : PA X (e :: es) t)
    (hdb : (x == ("__debug__" : Str)) = false := by decide) (he : starEach (e :: es) X.env = (false, eval e X.env) :: starEach es X.env := by rfl)
    (hpl : (backTo pos (starEach es X.env)).any (·.1) = false := by rfl) : PE X (.Call (.Name x p) (e :: es) [] pos) (tCall sp dvs E t) := by
  obtain ⟨f, fd, F, m, D⟩ := c.ex
  exact pe_call F (hr.mono hk) hg m D.kp (fun s us hX hl => D.bind hX (hb us hl)) hd hx ha hdb he hpl
theorem pex_calX (c : CalX X.prog X.w X.K X.mg X.base k x ps sp) (hX : X.ex = []) (hr : Room k' X.A) (hk : k ≤ k') (hg : Gl X x) (ha : PA X.nox (e :: es) t) (hdb : (x == ("__debug__" : Str)) = false := by decide) (he : starEach (e :: es) X.env = (false, eval e X.env) :: starEach es X.env := by rfl)
    (hpl : (backTo pos (starEach es X.env)).any (·.1) = false := by rfl) : PEx X (.Call (.Name x p) (e :: es) [] pos) (xCall sp [] t) := by
  obtain ⟨f, fd, F, m, kp, b⟩ := c.ex
  exact pex_call F (hr.mono hk) hg m kp b .nil hX ha hdb he hpl
theorem pe_nox {te : TE} (h : PE X.nox e te) : PE X e te := fun pins s σ H Q I q => by
  refine wpAny_mono (h pins s σ H Q (I.wish _) q) (fun v s1 ⟨y, H1, I1, r1, q1⟩ => ⟨y, H1, I1.unwish, r1, q1⟩) fun _ _ z => False.elim z
theorem r_raise {C : Addr} {D : Ends} {σ : St} {H : Hp} (q : t σ H fun vs H1 => vs.length ≤ sizeLine ∧ E (.ref C) none H1) : tRaise C E t D σ H := q
end
section
variable {P : Program} {w : World} {K : PySem.W.Frag} {mg : Str → Option Value} {base : Heap} {N : List Str} {qual : Str} {scope : Scope} {f : Addr} {cd : Value} {A : Around} {outer : List Env} {s0 : Shared} {H0 : Hp} {E : XK}
theorem raises_xe : Raises (cxOf (CXf P w) P w K mg base N qual scope f cd A outer s0 H0 E) E := fun pins σ H s h' e cls args I hx hE => raise_xe I hx hE
end
section
variable {X : Cx}
theorem pass_no : Passes (CXf X.prog X.w) X E0 := fun _ _ _ _ _ _ _ h => by obtain ⟨a, cls, H', _, _, _, _, _, _, hE⟩ := h; exact hE.elim
end
def plainE : Expr → Bool
  | .Starred .. => false
  | _ => true
theorem starEach_plain {e : Expr} {es : List Expr} {env : Env} (h : plainE e = true) : starEach (e :: es) env = (false, eval e env) :: starEach es env := by
  cases e <;> first | rfl | cases h
theorem pa_c {X : Cx} {e : Expr} {es : List Expr} {te : TE} {t : TA} (ha : PE X e te) (hr : PA X es t) (h : plainE e = true := by rfl) : PA X (e :: es) (tCons te t) := pa_cons ha hr (starEach_plain h)
end L2

set_option maxRecDepth 100000
set_option maxHeartbeats 4000000
namespace L2
open PySem PySem.Spec PySem.Calls PyProof.Rows PySem.W Builtin Builtin.ObjectAttr Builtin.Getset_descriptor
structure ExcT (K : PySem.W.Frag) (C : Addr) : Prop where
  ga : PySem.W.findIn K (.ref C) "__getattribute__" = some (some (.builtin "BaseException.__getattribute__"))
  gh : PySem.W.findIn K (.ref C) "__getattr__" = some none
  ca : PySem.W.findIn K (.ref C) "__class__" = some (some (.builtin "object.__class__"))
  mo : PySem.W.mroIn K C (.type "object") = some true
  mb : PySem.W.mroIn K C (.type "BaseException") = some true
section
variable {prog : Program} {w : World} {A : Around} {E : Value → Shared → Prop} {h : Heap} {g : Array GenState} {d : PySem.Drawn} {t : Nat} {os : OsState} {K : PySem.W.Frag} {x C : Addr}
end
section
variable {X : Cx}
end
end L2

set_option maxRecDepth 100000
set_option maxHeartbeats 4000000
namespace L2
open PySem PySem.Spec PyProof.Rows
section
variable {X : Cx}
end
namespace RevT
section
variable {prog : Program} {w : World} {A : Around} {E : Value → Shared → Prop} {s : Shared} {J : Addr} {fp wr : List Addr} {G : Array GenState → Array GenState → Prop} {n : Nat} {P : Nat → Value → Prop} {St : Nat → Shared → Prop}
end
section
variable {prog : Program} {w : World} {A : Around} {E : Value → Shared → Prop} {s : Shared}
end
end RevT
section
variable {X : Cx} {e : Expr} {te : TE}
end
end L2

set_option maxRecDepth 100000
set_option maxHeartbeats 4000000
namespace L2
open PySem PySem.Spec PyProof.Rows
namespace MaxD
section
variable {prog : Program} {w : World} {A : Around} {R : Result → Shared → Prop} {J : Addr} {fp wr : List Addr} {G : Array GenState → Array GenState → Prop} {n : Nat} {P : Nat → Value → Prop} {St : Nat → Shared → Prop} {kw : List (Str × Value)}
theorem loop (Wk : WalksS prog w A.in1 J fp wr G n P St) (bt : Nat → Nat → Bool) (cm : CmpOf prog w A.in1 .Gt P bt) (B : Addr) (nf : B ∉ fp) :
    ∀ (k j : Nat) (s : Shared) (vb : Value) (c : Nat), n - (j + 1) = k → j + 1 ≤ n → St (j + 1) s → P (argBest bt j) vb →
    s.heap.get? B = some { cls := .type "list", dict := none, data := .seq #[vb, vb] c, slots := #[] } →
    (∀ v s', P (argBest bt (n - 1)) v → Moved (B :: wr) G s s' → R (.ok (.ret v)) s') → codeAny (model prog w) A (.builtin "max.loop" ⟨[.ref J, .none, .ref B], kw⟩) R s := by
  have nw : B ∉ wr := fun z => nf (Wk.sub _ z)
  have su : ∀ b ∈ wr, b ∈ B :: wr := fun b hb => List.mem_cons_of_mem _ hb
  have nm : (toString "max" ++ toString ".loop" : String) = "max.loop" := by decide
  have nB : ∀ {b : Addr}, b ∉ B :: wr → B ≠ b := fun hb z => hb (by rw [z]; exact List.mem_cons_self)
  intro k
  induction k with
  | zero =>
    intro j s vb c hk hj st pb at_ fin
    have hin : j + 1 = n := by omega
    refine codeAny_builtin F.entry_max_loop (by
      rw [Around.under_plainId F.plain_max_loop _]
      show wpAny _ A.in1 (seqItems? (.ref B) >>= _) _ _ s
      refine wpAny_bind (wpAny_seqItems at_ rfl ?_)
      show wpAny _ A.in1 (tryCatch (pyNext (.ref J)) _ >>= _) _ _ s
      refine wpAny_bind (wpAny_tryCatch (Wk.done s _ _ (hin ▸ st) fun s' mv => ?_))
      have at2 := mv.heap B _ nw at_
      show wpAny _ A.in1 (updateSeq B (fun _ => #[]) >>= _) _ _ _
      refine wpAny_bind (wpAny_updateSeq at2 rfl (wpAny_bind (wpAny_letGo (wpAny_pure ?_))))
      exact fin vb _ (by rw [← hin]; exact pb) ((mv.mono su).then_heap (tk := s'.toks) (Nat.le_refl _) fun b o hb e => (Heap.get?_update_other _ _ (nB hb)).trans e))
  | succ k ih =>
    intro j s vb c hk hj st pb at_ fin
    have hlt : j + 1 < n := by omega
    refine codeAny_builtin F.entry_max_loop (by
      rw [Around.under_plainId F.plain_max_loop _]
      show wpAny _ A.in1 (seqItems? (.ref B) >>= _) _ _ s
      refine wpAny_bind (wpAny_seqItems at_ rfl ?_)
      show wpAny _ A.in1 (tryCatch (pyNext (.ref J)) _ >>= _) _ _ s
      refine wpAny_bind (wpAny_tryCatch (Wk.item (j + 1) s _ _ hlt st fun v s' pv st' mv => ?_))
      have at2 := mv.heap B _ nw at_
      show wpAny _ A.in1 (tryCatch (holding [v, v] (richCompare .Gt v vb >>= _)) _ >>= _) _ _ _
      refine wpAny_bind (wpAny_tryCatch (wpAny_holding (wpAny_bind (cm (j + 1) (argBest bt j) v vb _ _ _ pv pb ?_))))
      refine wpAny_bind (wpAny_holding (wpAny_truthy_bool (wpAny_bind (wpAny_letGo (wpAny_pure ?_)))))
      cases hb : bt (j + 1) (argBest bt j) with
      | true =>
        simp only [if_true]
        refine wpAny_bind (wpAny_updateSeq at2 rfl (wpAny_bind (wpAny_letGo ?_)))
        rw [nm]
        refine wpAny_pure ⟨plainId_quiet F.plain_max_loop _, ih (j + 1) _ v _ (by omega) hlt (Wk.frame _ s' _ s'.toks st' (Nat.le_refl _) fun b hbf o e => (Heap.get?_update_other _ _ (fun z : B = b => nf (by rw [z]; exact hbf))).trans e) (by simp only [argBest, hb, if_true]; exact pv) (Heap.get?_update_self _ at2 rfl)
          fun v' s'' pv' mv' => fin v' s'' pv' (Moved.trans Wk.gtrans ((mv.mono su).then_heap (Nat.le_refl _) fun b o hb e => (Heap.get?_update_other _ _ (nB hb)).trans e) mv')⟩
      | false =>
        simp only [Bool.false_eq_true, if_false]
        refine wpAny_bind (wpAny_letGo ?_)
        rw [nm]
        exact wpAny_pure ⟨plainId_quiet F.plain_max_loop _, ih (j + 1) _ vb c (by omega) hlt st' (by simp only [argBest, hb, Bool.false_eq_true, if_false]; exact pb) at2 fun v' s'' pv' mv' => fin v' s'' pv' (Moved.trans Wk.gtrans (mv.mono su) mv')⟩)
theorem first {d : Value} {nmd : Str} (Wk : WalksS prog w A.in1 J fp wr G n P St) (bt : Nat → Nat → Bool) (cm : CmpOf prog w A.in1 .Gt P bt) (B : Addr) (nf : B ∉ fp) {s : Shared} {c : Nat} (st : St 0 s)
    (at_ : s.heap.get? B = some { cls := .type "list", dict := none, data := .seq #[] c, slots := #[] })
    (fin0 : n = 0 → ∀ s', Moved (B :: wr) G s s' → R (.ok (.ret d)) s') (fin : 0 < n → ∀ v s', P (argBest bt (n - 1)) v → Moved (B :: wr) G s s' → R (.ok (.ret v)) s') :
    codeAny (model prog w) A (.builtin "max.loop" ⟨[.ref J, .none, .ref B], [(nmd, d)]⟩) R s := by
  have nw : B ∉ wr := fun z => nf (Wk.sub _ z)
  have su : ∀ b ∈ wr, b ∈ B :: wr := fun b hb => List.mem_cons_of_mem _ hb
  have nm : (toString "max" ++ toString ".loop" : String) = "max.loop" := by decide
  have nB : ∀ {b : Addr}, b ∉ B :: wr → B ≠ b := fun hb z => hb (by rw [z]; exact List.mem_cons_self)
  refine codeAny_builtin F.entry_max_loop (by
    rw [Around.under_plainId F.plain_max_loop _]
    show wpAny _ A.in1 (seqItems? (.ref B) >>= _) _ _ s
    refine wpAny_bind (wpAny_seqItems at_ rfl ?_)
    show wpAny _ A.in1 (tryCatch (pyNext (.ref J)) _ >>= _) _ _ s
    by_cases hn : n = 0
    · refine wpAny_bind (wpAny_tryCatch (Wk.done s _ _ (hn ▸ st) fun s' mv => ?_))
      show wpAny _ A.in1 (rule _ >>= _) _ _ _
      exact wpAny_bind (wpAny_rule (wpAny_pure (fin0 hn s' (mv.mono su))))
    · refine wpAny_bind (wpAny_tryCatch (Wk.item 0 s _ _ (by omega) st fun v s' pv st' mv => ?_))
      have at2 := mv.heap B _ nw at_
      show wpAny _ A.in1 (updateSeq B (fun _ => #[v, v]) >>= _) _ _ _
      refine wpAny_bind (wpAny_updateSeq at2 rfl ?_)
      rw [nm]
      exact wpAny_pure ⟨plainId_quiet F.plain_max_loop _, loop Wk bt cm B nf _ 0 _ v _ rfl (by omega) (Wk.frame _ s' _ s'.toks st' (Nat.le_refl _) fun b hbf o e => (Heap.get?_update_other _ _ (fun z : B = b => nf (by rw [z]; exact hbf))).trans e) pv (Heap.get?_update_self _ at2 rfl) fun v' s'' pv' mv' => fin (by omega) v' s'' pv' (Moved.trans Wk.gtrans ((mv.mono su).then_heap (Nat.le_refl _) fun b o hb e => (Heap.get?_update_other _ _ (nB hb)).trans e) mv')⟩)
theorem tree_kw {id : String} {b : Builtin} {args : List Value} {E : Value → Shared → Prop} {s : Shared} {Q : Value → Shared → Prop} (hk : builtinKind id = none) (hp : plainId id = true) (hb : entryFor table id = some b) (ha : argsOk id ⟨args, kw⟩)
    (hc : wpAny (model prog w) A.in1 (b ⟨args, kw⟩) (fun fin s' => match fin with
      | .done f => (match (Except.ok f : Result) with | .ok (.ret v) => Q v s' | .ok _ => False | .error e => E e s')
      | .again c' => c'.quiet = true ∧ codeAny (model prog w) A c' (fun r s' => match r with | .ok (.ret v) => Q v s' | .ok _ => False | .error e => E e s') s') E s) :
    wpAny (model prog w) A (call (.builtin id) args kw) Q E s := by
  refine wpAny_call (codeAny_call_builtin hp hb ?_)
  simp only [checkBuiltinCall, hk]
  cases sg : Manifest.signature? id with
  | none => exact wpAny_pure hc
  | some sig =>
    simp only [argsOk, sg] at ha
    have e2 : Bind.checkArgs id sig ⟨args, kw⟩ = pure () := ha
    show wpAny _ A.in1 (Bind.checkArgs id sig ⟨args, kw⟩) _ _ s
    rw [e2]
    exact wpAny_pure hc
end
theorem args_maxD (a d : Value) : argsOk "max" ⟨[a], [(Str.ofString "default", d)]⟩ := by unfold argsOk; kernel_rfl
section
variable {prog : Program} {w : World} {A : Around} {E : Value → Shared → Prop} {s : Shared} {l : Addr} {xs : Array (Int × Tok)}
theorem call {d : Value} {Q : Value → Shared → Prop} (hh : A.handled = none) (hl : s.heap.IsList l (intItems xs))
    (h0 : xs.size = 0 → ∀ h' tk, (∀ b o, s.heap.get? b = some o → h'.get? b = some o) → Q d { s with heap := h', toks := tk })
    (h : 0 < xs.size → ∀ v h' tk, (intItems xs)[argBest (fun i j => decide (numAt xs i > numAt xs j)) (xs.size - 1)]? = some v → (∀ b o, s.heap.get? b = some o → h'.get? b = some o) → Q v { s with heap := h', toks := tk }) :
    wpAny (model prog w) A (PySem.call (.builtin "max") [.ref l] [(Str.ofString "default", d)]) Q E s := by
  have nm : (toString "max" ++ toString ".loop" : String) = "max.loop" := by decide
  refine tree_kw F.kind_max F.plain_max F.entry_max (args_maxD _ _) ?_
  show wpAny _ A.in1 (Builtin.Builtins.bindParams "max" ["key", "default"] 0 ⟨[], [(Str.ofString "default", d)]⟩ >>= _) _ _ s
  refine wpAny_bind (wpAny_of_eq (show Builtin.Builtins.bindParams "max" ["key", "default"] 0 ⟨[], [(Str.ofString "default", d)]⟩ = pure [none, some d] from rfl) ?_)
  refine wpAny_bind (wpAny_pure ?_)
  refine wpAny_bind (iter_intList hl fun s₂ e st hfp hlI => ?_)
  subst e
  refine wpAny_bind (wpAny_newObj_type ?_)
  rw [nm]
  have Wk := (Walks.list (prog := prog) (w := w) (A := A.in1) hh s.heap.objs.size l hlI (intItems xs)).toS
  have nf : (s.heap.push { cls := .type "list_iterator", data := .fields #[.ref l, .int 0 0] }).objs.size ∉ [s.heap.objs.size, l] := fun z => absurd (hfp _ z) (Nat.lt_irrefl _)
  have en : (intItems xs).size = xs.size := by simp [intItems]
  have out : ∀ s' : Shared, Moved [s.heap.objs.size] (fun a b => b = a) { s with heap := s.heap.push { cls := .type "list_iterator", data := .fields #[.ref l, .int 0 0] } } s' → ∃ h' tk, s' = { s with heap := h', toks := tk } ∧ ∀ b o, s.heap.get? b = some o → h'.get? b = some o := fun s' mv => by
    obtain ⟨m1, m2, m3, m4, m5⟩ := mv
    obtain ⟨h9, g9, d9, t9, o9⟩ := s'
    obtain ⟨h8, g8, d8, t8, o8⟩ := s
    dsimp only at m1 m2 m3 m4
    subst m2 m3 m4
    exact ⟨h9, t9, rfl, old_kept m1⟩
  refine wpAny_pure ⟨plainId_quiet F.plain_max_loop _, first (nmd := Str.ofString "default") Wk (fun i j => decide (numAt xs i > numAt xs j)) (CmpOf.ints_gt (numAt xs) (fun _ _ => intItems_at)) _ nf (Wk.frame 0 _ _ s.toks st (Nat.le_refl _) fun b _ o e => Heap.get?_push_of_some _ e) (Heap.get?_push_size _ rfl) (fun z s' mv => ?_) (fun z v s' pv mv => ?_)⟩
  · obtain ⟨h', tk, rfl, k⟩ := out s' (Moved.drop_new (tk := s.toks) mv (Nat.le_refl _))
    exact h0 (by omega) h' tk k
  · obtain ⟨h', tk, rfl, k⟩ := out s' (Moved.drop_new (tk := s.toks) mv (Nat.le_refl _))
    exact h (by omega) v h' tk (by rw [en] at pv; exact pv) k
end
end MaxD
section
variable {X : Cx} {e ed : Expr} {te td : TE}
end
section
variable {X : Cx}
end
mutual
inductive Shw (H : Hp) : V → PyData → Prop
  | str (z : Str) : Shw H (.str z) (.str z)
  | tup {p : Addr} {xs : List V} {ds : List PyData} (h : H p = some (.tup xs)) (a : ShwAll H xs ds) : Shw H (.ref p) (.tuple ds)
inductive ShwAll (H : Hp) : List V → List PyData → Prop
  | nil : ShwAll H [] []
  | cons {x : V} {xs : List V} {d : PyData} {ds : List PyData} (a : Shw H x d) (b : ShwAll H xs ds) : ShwAll H (x :: xs) (d :: ds)
end
section
variable {X : Cx} {pins : List (Addr × Obj)} {σ : St} {H : Hp} {s : Shared}
mutual
theorem Shw.reads (I : Inv X pins σ H s) : ∀ {x : V} {d : PyData}, Shw H x d → ∀ {u : Value}, RelV x u → Reads s.heap u d []
  | _, _, .str z, u, r => by obtain ⟨t, rfl⟩ := r; exact .str z t
  | _, _, .tup h a, u, r => by
    cases r
    obtain ⟨_, its, rv, o, ho, hc, n, hd⟩ := (show ObjOk X.prog X.w H s.heap _ (.tup _) from I.hok _ _ h)
    exact .tuple ho hc hd (by simpa using a.reads I rv)
theorem ShwAll.reads (I : Inv X pins σ H s) : ∀ {xs : List V} {ds : List PyData}, ShwAll H xs ds → ∀ {us : List Value}, Vals xs us → ReadsAll s.heap us ds []
  | _, _, .nil, us, r => by cases r; exact .nil
  | _, _, .cons a b, us, r => by
    cases r with
    | cons r1 r2 => exact ReadsAll.cons (as := []) (bs := []) (a.reads I r1) (b.reads I r2)
end
end
end L2

set_option maxRecDepth 100000
set_option maxHeartbeats 4000000
namespace L2
open PySem PySem.Spec PyProof.Rows
open AutoSeq1 (wpAny_loadPart')
namespace Tix
end Tix
section
variable {X : Cx}
end
end L2

set_option maxRecDepth 100000
set_option maxHeartbeats 4000000
namespace Pn
inductive Pl where
  | nd
  | one (w : Nat) (t : Pl)
  | two (w : Nat) (a b : Pl)
def Pl.dp : Pl → Nat
  | .nd => 0
  | .one _ t => t.dp + 1
  | .two _ a b => max a.dp b.dp + 1
def cP : Nat → Int
  | 0 => 1
  | d + 1 => 1 + 3 * cP d + 3 * cP d * cP d
def num : Nat → Pl → Int
  | _, .nd => 0
  | d, .one w t => 1 + (w : Int) * cP (d - 1) + num (d - 1) t
  | d, .two w a b => 1 + 3 * cP (d - 1) + (((w : Int) * cP (d - 1) + num (d - 1) a) * cP (d - 1) + num (d - 1) b)
def un : Nat → Int → Pl
  | 0, _ => .nd
  | d + 1, n => if n = 0 then .nd else if n - 1 < 3 * cP d then .one ((n - 1) / cP d).toNat (un d ((n - 1) % cP d))
    else .two ((n - 1 - 3 * cP d) / (cP d * cP d)).toNat (un d ((n - 1 - 3 * cP d) / cP d % cP d)) (un d ((n - 1 - 3 * cP d) % cP d))
open PySem L2
def w1 (w : Nat) : Str := if w = 0 then "walk" else if w = 1 then "drop" else "spare"
def w2 (w : Nat) : Str := if w = 0 then "lock" else if w = 1 then "door" else "bar"
def Pl.sz : Pl → Nat
  | .nd => 0
  | .one _ t => t.sz + 1
  | .two _ a b => a.sz + b.sz + 1
def Pl.kids : Pl → List Pl
  | .nd => []
  | .one _ t => [t]
  | .two _ a b => [a, b]
def Pl.word : Pl → Str
  | .nd => "end"
  | .one w _ => w1 w
  | .two w _ _ => w2 w
def Pl.is (H : Hp) : Pl → V → Prop
  | .nd, v => ∃ p, v = .ref p ∧ H p = some (.tup [.str "end"])
  | .one w t, v => ∃ p u, v = .ref p ∧ H p = some (.tup [.str (w1 w), u]) ∧ t.is H u
  | .two w a b, v => ∃ p u1 u2, v = .ref p ∧ H p = some (.tup [.str (w2 w), u1, u2]) ∧ a.is H u1 ∧ b.is H u2
theorem Pl.mono {H H' : Hp} (s : TSame H H') : ∀ {t : Pl} {v : V}, t.is H v → t.is H' v
  | .nd, _, ⟨p, e, h⟩ => ⟨p, e, s _ _ h⟩
  | .one _ _, _, ⟨p, u, e, h, a⟩ => ⟨p, u, e, s _ _ h, Pl.mono s a⟩
  | .two _ _ _, _, ⟨p, u1, u2, e, h, a, b⟩ => ⟨p, u1, u2, e, s _ _ h, Pl.mono s a, Pl.mono s b⟩
theorem Pl.opened {H : Hp} : ∀ {t : Pl} {v : V}, t.is H v → ∃ p us, v = .ref p ∧ H p = some (.tup (.str t.word :: us)) ∧ us.length = t.kids.length ∧ ∀ (i : Nat) (u : V), us[i]? = some u → ∃ k : Pl, t.kids[i]? = some k ∧ k.is H u
  | .nd, _, ⟨p, e, h⟩ => ⟨p, [], e, h, rfl, fun i u z => by simp at z⟩
  | .one _ t, _, ⟨p, u, e, h, a⟩ => ⟨p, [u], e, h, rfl, fun i v z => by
      match i, z with
      | 0, z => cases z; exact ⟨t, rfl, a⟩⟩
  | .two _ x y, _, ⟨p, u1, u2, e, h, a, b⟩ => ⟨p, [u1, u2], e, h, rfl, fun i v z => by
      match i, z with
      | 0, z => cases z; exact ⟨x, rfl, a⟩
      | 1, z => cases z; exact ⟨y, rfl, b⟩⟩
end Pn

set_option maxRecDepth 100000
set_option maxHeartbeats 4000000
namespace Pn
end Pn
namespace L2
open PySem PySem.Spec PyProof.Rows
open Builtin.Int (intBits)
section
variable {X : Cx}
end
theorem bits_in {x : Int} : ∀ l : List Int, x ∈ l → intBits x ≤ PySem.W.WData.weightAll (l.map PySem.W.WData.int)
  | [], h => by cases h
  | y :: l, h => by
    rw [List.map_cons, PySem.W.WData.weightAll]
    rcases List.mem_cons.mp h with rfl | h
    · have : PySem.W.WData.weight (.int x) = intBits x := by rw [PySem.W.WData.weight]; rfl
      omega
    · have := bits_in l h
      omega
theorem bits_of {ns : List Int} (h : PySem.W.WData.layableAll [.list (ns.map .int)] = true) : ∀ x ∈ ns, intBits x ≤ 1048576 := by
  intro x hx
  have h1 : PySem.W.WData.layable (.list (ns.map .int)) = true := by simpa [PySem.W.WData.layableAll] using h
  have h2 := of_decide_eq_true (Bool.and_eq_true_iff.mp h1).2
  have h3 : PySem.W.WData.weight (.list (ns.map .int)) = PySem.W.WData.weightAll (ns.map .int) := by rw [PySem.W.WData.weight]
  have := bits_in ns hx
  omega
open PySem PySem.W PySem.Calls PyProof.Rows Att in
/-- walk_of, where the promise may use that a script's numbers have bounded bits -/
theorem walk_ofB {l : PySem.W.OpenLaw} {n k : Nat} {q : Program} {loose : List Str} {XP : (Str → Option Value) → Heap → Prop} {YP : World → Heap → Prop} {d : DefRec} {K : Params → PySem.W.Frag} {CX : World → CXT} {sp : World → Sp} {x : Str}
    (hn : l.most = some n) (hn2 : n ≤ sizeLine) (hdf : d.params.defaults = []) (hr : Room k callerA)
    (hY : ∀ (w : World) (h : Heap), YP w h → (K w.params).In h)
    (F : ∀ (w : World) (mg : Str → Option Value) (fa : Addr) (h : Heap), (K w.params).In h → h.Ns mainGlobals mg → mg d.name = some (.ref fa) →
      ∃ fd : FuncData, (∀ (s : Shared) (u : Value), BindsTo s fd ⟨[u], []⟩ [(x, u)]) ∧
        ∀ base : Heap, (K w.params).In base → base.Ns mainGlobals mg → FnOk l.prog w (K w.params) mg base (CX w) k fa fd [x] (sp w))
    (hsp : ∀ (w : World) (H : Hp) (a : Addr) (ns : List Int), ns.length ≤ n → (∀ x ∈ ns, Builtin.Int.intBits x ≤ 1048576) → Only H → SqL (K w.params) H a (ns.map V.int) → sp w [.ref a] H (fun v _ => v = .bl true) fun _ _ _ => False)
    (hCX : ∀ (w : World) (H : Hp) (s : Shared) (e : Value) (s' : Shared), CX w [] H s (fun _ _ _ => False) e s' → False) :
    PySem.W.WalkO q loose XP YP l.row.toRowW d [] (fun f vs => PySem.call f vs) := by
  intro w s₀ s₁ mg mb G Y fa o pm cd doc dV kV ho hd hcd hD hmg hg args vals as hpre hlay hrd hwl hlo
  obtain rfl : dV = .none := Dflts.none hD hdf
  obtain rfl : kV = .none := Dflts.noKw hD
  obtain ⟨a, vs, ns, rfl, rfl, hobj, hints, hlen⟩ := script_of hn hpre hwl
  have hbits := bits_of hlay
  have KX := hY w _ Y
  obtain ⟨fd, hb, hF⟩ := F w mg fa _ KX G.T.g hmg
  have call : codeAny (model l.prog w) callerA (.call (.ref fa) ⟨[.ref a], []⟩) (fun r s' => r = .ok (.ret (.bool true)) ∧ OldK s₁.heap s'.heap ∧ s'.os = s₁.os ∧ AllBare s'.gens) s₁ :=
    law_call KX G.T.g G.T.b G.T.builtins G.T.nolimit hg hobj hints (Nat.le_trans hlen hn2) hr hF hb (fun H hO hS => hsp w H a ns hlen hbits hO hS) fun H e s' => hCX w H s₁ e s'
  refine enter_call (codeAny_mono call fun r s' hq => ?_)
  obtain ⟨rfl, h2, h3, h4⟩ := hq
  exact ⟨.inl ⟨.bool true, .bool true, [], rfl, fun _ => rfl, .bool true, post_true l _, fun _ => ⟨List.Pairwise.nil, fun _ hm => (nomatch hm)⟩⟩, h2, h3, h4⟩
end L2

set_option maxRecDepth 100000
set_option maxHeartbeats 4000000
namespace L2
open PySem PySem.Spec PyProof.Rows
section
variable {X : Cx} {e : Expr} {te : TE}
end
end L2

set_option maxRecDepth 100000
set_option maxHeartbeats 4000000
namespace PySem
open Sem (wp)
section
variable {prog : Program} {w : World} {A : Around} {E : Value → Shared → Prop} {s : Shared}

end

section
variable {prog : Program} {w : World} {A : Around} {E : Value → Shared → Prop} {s : Shared}
end
end PySem

namespace L2
open PySem PySem.Spec PyProof.Rows
section
variable {X : Cx} {elts : List Expr} {k : Nat} {tp : Pos}
end
end L2

set_option maxRecDepth 100000
set_option maxHeartbeats 4000000
namespace L2
open PySem PySem.Spec PyProof.Rows
open AutoSeq1
namespace Xtt
end Xtt
section
variable {X : Cx}
def tNotT (ta : TE) : TE := fun σ H Q => ta σ H fun x H1 => ∃ b, x = .bl b ∧ Q (.bl (!b)) H1
end
section
variable {σ : St} {H : Hp} {Q : VK} {K : PySem.W.Frag} {ta : TE} {nx bk ct : St → Hp → Prop} {rt : VK}
theorem r_aug {i : Nat} {x : V} {te : TE} {ti : TIp} (hv : σ[i]? = some (some x)) (q : te σ H fun y H1 => ti x y H1 fun z H2 => nx (σ.set i (some z)) H2) : tAug i te ti ⟨nx, rt, bk, ct⟩ σ H := ⟨x, hv, q⟩
theorem r_notT0 (q : ta σ H fun x H1 => ∃ b, x = .bl b ∧ Q (.bl (!b)) H1) : tNotT ta σ H Q := q
end
end L2

set_option maxRecDepth 100000
set_option maxHeartbeats 4000000
namespace L2
open PySem PySem.Spec PyProof.Rows
end L2
namespace L2
open PySem PySem.Spec PyProof.Rows
end L2
namespace L2
open PySem PySem.Spec PyProof.Rows
end L2
namespace L2
open PySem PySem.Spec PyProof.Rows
section
variable {X : Cx}

variable {a b : Expr} {ta tb : TE} {pos : Pos}
variable {tA tB' : TT} {rest : List Expr}
end
end L2
namespace L2
open PySem PySem.Spec PyProof.Rows
end L2
namespace L2
open PySem PySem.Spec PyProof.Rows
end L2
namespace L2
open PySem PySem.Spec PyProof.Rows
end L2
namespace L2
open PySem PySem.Spec PyProof.Rows
end L2
namespace L2
open PySem PySem.Spec PyProof.Rows
end L2
namespace L2
open PySem PySem.Spec PyProof.Rows
end L2
namespace L2
open PySem PySem.Spec PyProof.Rows
section
variable {κ : Type} [DecidableEq κ]
def valV (kvs : List (κ × V)) (k : κ) : Option V := (kvs.find? fun kv => decide (kv.1 = k)).map (·.2)
def putK (kvs : List (κ × V)) (k : κ) (v : V) : List (κ × V) :=
  if (kvs.any fun kv => decide (kv.1 = k)) = true then kvs.map (fun kv => if kv.1 = k then (kv.1, v) else kv) else kvs ++ [(k, v)]
theorem valV_pos {p : κ × V} {r : List (κ × V)} {k : κ} (e : p.1 = k) : valV (p :: r) k = some p.2 := by simp [valV, List.find?_cons, e]
theorem valV_neg {p : κ × V} {r : List (κ × V)} {k : κ} (e : ¬ p.1 = k) : valV (p :: r) k = valV r k := by simp [valV, List.find?_cons, e]
theorem valV_any (k : κ) : ∀ kvs : List (κ × V), (kvs.any fun kv => decide (kv.1 = k)) = (valV kvs k).isSome
  | [] => rfl
  | p :: r => by
    rw [List.any_cons]
    by_cases e : p.1 = k
    · simp only [valV_pos e, decide_eq_true e, Bool.true_or, Option.isSome_some]
    · rw [valV_neg e, decide_eq_false e, Bool.false_or]; exact valV_any k r
theorem RelO.isSome_eq {o : Option V} {u : Option Value} (r : RelO o u) : o.isSome = u.isSome := by
  cases o with
  | none => cases u with
    | none => rfl
    | some _ => exact (show False from r).elim
  | some _ => cases u with
    | none => exact (show False from r).elim
    | some _ => rfl
theorem KV.val {kvs : List (κ × V)} {vs : List (κ × Value)} (r : KV kvs vs) (k : κ) : RelO (valV kvs k) (valueAt vs k) := by
  unfold KV at r
  induction r with
  | nil => exact True.intro
  | @cons p q ps qs h t ih =>
    obtain ⟨h1, h2⟩ := h
    by_cases e : p.1 = k
    · have e' : q.1 = k := h1.symm.trans e
      have b : valueAt (q :: qs) k = some q.2 := by simp [valueAt, List.find?_cons, e']
      rw [valV_pos e, b]; exact h2
    · have e' : ¬ q.1 = k := fun z => e (h1.trans z)
      have b : valueAt (q :: qs) k = valueAt qs k := by simp [valueAt, List.find?_cons, e']
      rw [valV_neg e, b]; exact ih
theorem KV.any {kvs : List (κ × V)} {vs : List (κ × Value)} (r : KV kvs vs) (k : κ) : (kvs.any fun kv => decide (kv.1 = k)) = vs.any fun kv => decide (kv.1 = k) := by
  unfold KV at r
  induction r with
  | nil => rfl
  | cons h t ih => rw [List.any_cons, List.any_cons, ih, h.1]
theorem KV.repl {kvs : List (κ × V)} {vs : List (κ × Value)} (r : KV kvs vs) (k : κ) {y : V} {u : Value} (ry : RelV y u) :
    KV (kvs.map fun kv => if kv.1 = k then (kv.1, y) else kv) (vs.map fun kv => if kv.1 = k then (kv.1, u) else kv) := by
  unfold KV at r ⊢
  induction r with
  | nil => exact .nil
  | @cons p q ps qs h t ih =>
    rw [List.map_cons, List.map_cons]
    refine .cons ?_ ih
    obtain ⟨h1, h2⟩ := h
    by_cases e : p.1 = k
    · rw [if_pos e, if_pos (h1.symm.trans e)]; exact ⟨h1, ry⟩
    · rw [if_neg e, if_neg (fun z => e (h1.trans z))]; exact ⟨h1, h2⟩
theorem KV.put {kvs : List (κ × V)} {vs : List (κ × Value)} (r : KV kvs vs) (k : κ) {y : V} {u : Value} (ry : RelV y u) : KV (putK kvs k y) (stored vs k u) := by
  unfold putK stored
  rw [r.any k]
  by_cases e : (vs.any fun kv => decide (kv.1 = k)) = true
  · rw [if_pos e, if_pos e]; exact r.repl k ry
  · rw [if_neg e, if_neg e]; exact Paired.snoc r ⟨rfl, ry⟩
theorem KV.keys {kvs : List (κ × V)} {vs : List (κ × Value)} (r : KV kvs vs) : kvs.map (·.1) = vs.map (·.1) := by
  unfold KV at r
  induction r with
  | nil => rfl
  | cons h t ih => rw [List.map_cons, List.map_cons, ih, h.1]
theorem KV.length {kvs : List (κ × V)} {vs : List (κ × Value)} (r : KV kvs vs) : kvs.length = vs.length := Paired.length r
end
abbrev KT (H : Hp) : List (List Key × V) → List (List Key × Addr × Value) → Prop := Paired fun p q => p.1 = q.1 ∧ H q.2.1 = some (.tup (p.1.map kV)) ∧ RelV p.2 q.2.2
theorem KT.val {H : Hp} {kvs : List (List Key × V)} {xs : List (List Key × Addr × Value)} (r : KT H kvs xs) (k : List Key) : RelO (valV kvs k) ((atKey xs k).map (·.2)) := by
  induction r with
  | nil => exact True.intro
  | @cons p q ps qs h t ih =>
    obtain ⟨h1, _, h2⟩ := h
    by_cases e : p.1 = k
    · have e' : q.1 = k := h1.symm.trans e
      have b : atKey (q :: qs) k = some q.2 := by simp [atKey, List.find?_cons, e']
      rw [valV_pos e, b]; exact h2
    · have e' : ¬ q.1 = k := fun z => e (h1.trans z)
      have b : atKey (q :: qs) k = atKey qs k := by simp [atKey, List.find?_cons, e']
      rw [valV_neg e, b]; exact ih
theorem KT.repl {H : Hp} {kvs : List (List Key × V)} {xs : List (List Key × Addr × Value)} (r : KT H kvs xs) (k : List Key) {y : V} {u : Value} (ry : RelV y u) :
    KT H (kvs.map fun kv => if kv.1 = k then (kv.1, y) else kv) (xs.map (putAt k u)) := by
  induction r with
  | nil => exact .nil
  | @cons p q ps qs h t ih =>
    rw [List.map_cons, List.map_cons]
    refine .cons ?_ ih
    obtain ⟨h1, h2, h3⟩ := h
    unfold putAt
    by_cases e : p.1 = k
    · rw [if_pos e, if_pos (h1.symm.trans e)]; exact ⟨h1, h2, ry⟩
    · rw [if_neg e, if_neg (fun z => e (h1.trans z))]; exact ⟨h1, h2, h3⟩
theorem KT.put {H : Hp} {kvs : List (List Key × V)} {xs : List (List Key × Addr × Value)} (r : KT H kvs xs) (k : List Key) {b : Addr} {y : V} {u : Value} (hb : H b = some (.tup (k.map kV))) (ry : RelV y u) :
    KT H (putK kvs k y) (storedH xs k b u) := by
  have e : (kvs.any fun kv => decide (kv.1 = k)) = (atKey xs k).isSome := by
    rw [valV_any, (r.val k).isSome_eq, Option.isSome_map]
  unfold putK storedH
  rw [e]
  by_cases q : (atKey xs k).isSome = true
  · rw [if_pos q, if_pos q]; exact r.repl k ry
  · rw [if_neg q, if_neg q]; exact Paired.snoc r ⟨rfl, hb, ry⟩
theorem KT.keeps {H H' : Hp} {kvs : List (List Key × V)} {xs : List (List Key × Addr × Value)} (r : KT H kvs xs) (ht : ∀ b ys, H b = some (.tup ys) → H' b = some (.tup ys)) : KT H' kvs xs :=
  Paired.mapP r fun _ _ z => ⟨z.1, ht _ _ z.2.1, z.2.2⟩

section
variable {P : Program} {w : World} {H : Hp} {h : Heap} {a : Addr}
end
def DGet (H : Hp) (a : Addr) (y : V) (r : Option V) : Prop :=
  (∃ kvs k, Rd H a (.dK kvs) ∧ y = kV k ∧ r = valV kvs k) ∨ ∃ kvs k b, Rd H a (.dT kvs) ∧ y = .ref b ∧ H b = some (.tup (k.map kV)) ∧ r = valV kvs k
def DPut (H : Hp) (a : Addr) (y v : V) (H' : Hp) : Prop :=
  (∃ kvs k, H a = some (.dK kvs) ∧ y = kV k ∧ kvs.length < sizeLine ∧ H' = upd H a (.dK (putK kvs k v))) ∨
  ∃ kvs k b, H a = some (.dT kvs) ∧ y = .ref b ∧ H b = some (.tup (k.map kV)) ∧ kvs.length < sizeLine ∧ H' = upd H a (.dT (putK kvs k v))
theorem DGet.k {H : Hp} {a : Addr} {kvs : List (Key × V)} {k : Key} (e : H a = some (.dK kvs)) : DGet H a (kV k) (valV kvs k) := .inl ⟨kvs, k, .inl e, rfl, rfl⟩
theorem DGet.t {H : Hp} {a b : Addr} {kvs : List (List Key × V)} {k : List Key} (e : H a = some (.dT kvs)) (eb : H b = some (.tup (k.map kV))) : DGet H a (.ref b) (valV kvs k) := .inr ⟨kvs, k, b, .inl e, rfl, eb, rfl⟩
theorem DPut.k {H : Hp} {a : Addr} {kvs : List (Key × V)} {k : Key} {v : V} (e : H a = some (.dK kvs)) (hl : kvs.length < sizeLine) : DPut H a (kV k) v (upd H a (.dK (putK kvs k v))) := .inl ⟨kvs, k, e, rfl, hl, rfl⟩
theorem DPut.t {H : Hp} {a b : Addr} {kvs : List (List Key × V)} {k : List Key} {v : V} (e : H a = some (.dT kvs)) (eb : H b = some (.tup (k.map kV))) (hl : kvs.length < sizeLine) :
    DPut H a (.ref b) v (upd H a (.dT (putK kvs k v))) := .inr ⟨kvs, k, b, e, rfl, eb, hl, rfl⟩


section
variable {X : Cx} {pins : List (Addr × Obj)} {σ : St} {H : Hp} {s : Shared} {a : Addr} {y v : V} {u r : Value} {o : Option V} {A : Around} {E : Value → Shared → Prop}

theorem Inv.big (I : Inv X pins σ H s) : sysModules < s.heap.objs.size := by
  have h : mainGlobals < s.heap.objs.size := (I.mod.glob.keeps I.bk).lt
  exact Nat.lt_trans (by decide) h

end
section
variable {X : Cx} {o i e value : Expr} {pos pos' tpos : Pos} {td ty tv : TE}
end
def mergeK (kvs more : List (Key × V)) : List (Key × V) := more.foldl (fun acc kv => putK acc kv.1 kv.2) kvs
end L2
namespace Att
open PySem PySem.W PySem.Calls PyProof.Rows
end Att
namespace L2
open PySem PySem.Spec PyProof.Rows
end L2
namespace L2
open PySem PySem.Spec PyProof.Rows
end L2
namespace L2
open PySem PySem.Spec PyProof.Rows
end L2

set_option maxRecDepth 100000
set_option maxHeartbeats 4000000
namespace L2
open PySem PySem.Spec PyProof.Rows
def d3 (a1 b1 a2 b2 a3 b3 : Str) : List (Key × V) := mergeK [] [(.inr a1, .str b1), (.inr a2, .str b2), (.inr a3, .str b3)]
end L2

set_option maxRecDepth 100000
set_option maxHeartbeats 4000000
namespace L2
open PySem PySem.Spec PyProof.Rows
open Builtin.Str (occurrences partsBetween strKind)
section
variable {X : Cx}
def rSplit : V → List V → Hp → VK → Prop := fun x vs H Q => ∃ a b : Str, x = .str a ∧ vs = [.str b] ∧ (b.length == 0) = false ∧ a.length ≤ sizeLine ∧ (Txt.split a b).length ≤ sizeLine ∧ ∀ p, H p = none → Q (.ref p) (upd H p (.lst ((Txt.split a b).map V.str)))
theorem vals_strsFrom : ∀ (zs : List Str) (k : Nat), Vals (zs.map V.str) (strsFrom k zs)
  | [], _ => .nil
  | z :: zs, k => .cons ⟨_, rfl⟩ (vals_strsFrom zs (k + 1))
theorem mt_split : MtM X "str.split" rSplit := by
  intro pins s σ H x vs v us Q I rx rv h
  obtain ⟨a, b, rfl, rfl, hb, ha, hs, q⟩ := h
  obtain ⟨t, rfl⟩ := rx
  obtain ⟨u, rfl, ru⟩ := vals1 rv
  obtain ⟨t', rfl⟩ := ru
  have one : Txt.split a b = [a] → Q (.ref s.heap.objs.size) (upd H s.heap.objs.size (.lst [.str a])) := fun e => by
    have := q _ (I.hok.fresh (Nat.le_refl _))
    rw [e] at this
    exact this
  by_cases h1 : (decide (a.length < b.length) || decide (strKind a < strKind b)) = true
  · refine call_meets F.slot_str_split (typeIs_str _ _ _) F.entry_str_split (F.args_str_split_2 _ _) (meets_str_split_cannot_occur a b t t' h1) ?_
    exact ⟨.ref _, _, I.lnew (its := [.str a t]) (ys := [.str a]) (.cons ⟨_, rfl⟩ .nil) (by show 1 ≤ sizeLine; have := line_big; omega), rfl, one (if_pos h1)⟩
  have h1' : (decide (a.length < b.length) || decide (strKind a < strKind b)) = false := by simpa using h1
  by_cases hf : (occurrences a b 0 a.length (a.length + 1)).isEmpty = true
  · refine call_meets F.slot_str_split (typeIs_str _ _ _) F.entry_str_split (F.args_str_split_2 _ _) (meets_str_split_not_found a b t t' h1' hb hf) ?_
    exact ⟨.ref _, _, I.lnew (its := [.str a t]) (ys := [.str a]) (.cons ⟨_, rfl⟩ .nil) (by show 1 ≤ sizeLine; have := line_big; omega), rfl, one (by unfold Txt.split; rw [if_neg h1, if_pos hf])⟩
  · have es : Txt.split a b = partsBetween a (occurrences a b 0 a.length (a.length + 1)) b.length := by unfold Txt.split; rw [if_neg h1, if_neg hf]
    have hf' : (occurrences a b 0 a.length (a.length + 1)).isEmpty = false := by simpa using hf
    rw [es] at hs q
    refine call_meets F.slot_str_split (typeIs_str _ _ _) F.entry_str_split (F.args_str_split_2 _ _) (meets_str_split_sep a b t t' h1' hb hf' ha hs) ?_
    exact ⟨.ref _, _, I.lnew (vals_strsFrom _ _) (by rw [List.length_map]; exact hs), rfl, q _ (I.hok.fresh (Nat.le_refl _))⟩
def rIntT : List V → Hp → VK → Prop := fun xs H Q => ∃ (z : Str) (n : Int), xs = [.str z] ∧ PySem.intText? z = some n ∧ z.length ≤ 640 ∧ Q (.int n) H
theorem intT : CallR X (.type "int") rIntT := by
  intro pins s σ H xs us Q I r h
  obtain ⟨z, n, rfl, hn, hl, q⟩ := h
  obtain ⟨u, rfl, rx⟩ := vals1 r
  obtain ⟨t, rfl⟩ := rx
  exact PySem.W.KIN.call_text hn hl ⟨.int n, H, I.tok _, ⟨_, rfl⟩, q⟩
def rInS : R2 := fun x y H Q => ∃ a b : Str, x = .str a ∧ y = .str b ∧ Q (.bl (Txt.contains b a)) H
theorem op_inS : OpR X (compareOp .In) rInS := by
  intro pins s σ H x y v u Q I rx ry h
  obtain ⟨a, b, rfl, rfl, q⟩ := h
  obtain ⟨t, rfl⟩ := rx
  obtain ⟨t', rfl⟩ := ry
  exact PyProof.Rows.in_str ⟨.bl _, H, I, rfl, q⟩
def Its (x : Str) : It := ⟨fun i _ => i < x.cps.size, fun i H v H' => H' = H ∧ ∃ c, x.cps[i]? = some c ∧ v = .str ⟨#[c]⟩, fun i _ => x.cps.size ≤ i⟩
theorem turn_str {P : Program} {w : World} {K : PySem.W.Frag} {tg : Expr} (it : Addr) (x : Str) (t : Tok) : Turn P w K tg (Its x) [it] it (fun i h => h.IsStrIter it "str_ascii_iterator" x t i) where
  mem := by simp
  obj := fun i h st b hb => by
    have e : b = it := by simpa using hb
    subst e
    obtain ⟨o, e, c, d⟩ := st
    exact ⟨o, e, fun v z => by rw [d] at z; cases z⟩
  keep := fun i h h' st k => let ⟨o, ho, r⟩ := st; ⟨o, k it (by simp) o ho, r⟩
  item := by
    intro X hP hw hK hc i pins s σ H E I hf st hg
    subst hP hw hK
    have hi : i < x.cps.size := hg
    obtain ⟨f0, f1, f2, f3, f4, f5⟩ := hf it (by simp)
    refine wpAny_pyNext_ascii_item st (c := x.cps[i]) (by simp [hi]) fun h' st' sb => ?_
    have I1 : Inv X pins σ H { s with heap := h', toks := s.toks + 1 } := I.turned (t' := s.toks + 1) (fun b o hb e => (sb.2 b hb).trans e) f0 f1 f3 f4 f5
    obtain ⟨o, e, c, d⟩ := id st'
    exact ⟨_, rfl, go_of (s := { s with heap := h', toks := s.toks + 1 }) e c d (by decide) ⟨.str ⟨#[x.cps[i]]⟩, H, I1, ⟨_, rfl⟩, ⟨rfl, _, by simp [hi], rfl⟩, st', fun b hb => (hf b hb).1⟩⟩
  done := by
    intro X hP hw hK hc i pins s σ H E I hf st hg
    subst hP hw hK
    have hi : x.cps.size ≤ i := hg
    obtain ⟨f0, f1, f2, f3, f4, f5⟩ := hf it (by simp)
    exact wpAny_pyNext_ascii_end (I.ok.hd hc) st (by simp [hi]) fun h' eb => ⟨rfl, I.turned (t' := s.toks) (fun b o hb e => eb b o hb e) f0 f1 f3 f4 f5⟩
  self := fun _ _ _ _ _ st h => wpAny_pyIter_striter_ascii st h
def iStr (tl : TE) : TI := fun σ H R => tl σ H fun v H1 => ∃ z : Str, v = .str z ∧ z.cps.all (· < 128) = true ∧ R (Its z) H1
theorem pi_str {tg l : Expr} {tl : TE} (hl : PE X l tl) : PI X tg l (iStr tl) := by
  intro pins s σ H R I h
  refine thn (hl pins s σ H _ I h) fun v s1 ⟨x, H1, I1, r1, q1⟩ => ?_
  obtain ⟨z, e, ha, q⟩ := q1
  subst e
  obtain ⟨t, rfl⟩ := r1
  refine wpAny_pyIter_ascii ha ?_
  refine ⟨s1.heap.objs.size, [s1.heap.objs.size], _, _, H1, rfl, I1.kept (t' := s1.toks) fun b o e => Heap.get?_push_of_some _ e, turn_str _ z t, ⟨_, Heap.get?_push_size _ rfl, rfl, rfl⟩, fun b hb => ?_, q⟩
  have e : b = s1.heap.objs.size := by simpa using hb
  subst e
  exact I1.fpOk (Nat.le_refl _) (I1.hok.fresh (Nat.le_refl _))
theorem pi_strK {tg l : Expr} {tl : TE} (K : PySem.W.Frag) (hl : PE X l tl) : PI X tg l (iStr tl) := pi_str hl
end
section
variable {σ : St} {H : Hp} {Q : VK} {tl : TE} {g : TG} {tc : TT} {te : TE} {R : Hp → Prop} {D : Addr}
theorem r_iS {Rr : It → Hp → Prop} (q : tl σ H fun v H1 => ∃ z : Str, v = .str z ∧ z.cps.all (· < 128) = true ∧ Rr (Its z) H1) : iStr tl σ H Rr := q
theorem comp_str {z : Str} (Pv : Nat → St → Hp → Prop) (h0 : Pv 0 σ H) (go : ∀ i c σ H, z.cps[i]? = some c → Pv i σ H → g (.str ⟨#[c]⟩) σ H fun σ3 H3 => tc σ3 H3 fun b H4 =>
      if b = true then te σ3 H4 fun y H5 => ∃ ys, H5 D = some (.lst ys) ∧ ys.length < sizeLine ∧ Pv (i + 1) σ3 (upd H5 D (.lst (ys ++ [y]))) else Pv (i + 1) σ3 H4) (stop : ∀ σ H, Pv z.cps.size σ H → R H) : CompG (Its z) g tc te R D σ H :=
  comp_by z.cps.size Pv h0 (fun i σ H hi p => ⟨hi, fun x H' ⟨e1, c, e2, e3⟩ => by subst e1 e3; exact go i c σ _ e2 p⟩) fun σ H p => ⟨Nat.le_refl _, stop σ H p⟩
end
theorem ph_none {X : Cx} {hs : List ExceptHandler} : PH X hs (fun _ _ _ _ => False) := fun _ _ _ _ _ _ _ _ h => h.elim
end L2

set_option maxRecDepth 100000
set_option maxHeartbeats 4000000
namespace Tx
open PySem PySem.StrLaws Builtin Builtin.Str
theorem subAt_one (x : Str) (c i : Nat) : subAt x ⟨#[c]⟩ i = true ↔ x.cps.toList[i]? = some c := by
  rw [subAt_eq]
  exact take1_drop
theorem occ_count (x : Str) (c : Nat) : ∀ (n lo : Nat) (st : Array Nat × Nat), lo + n = x.length + 1 → st.fst.size ≤ lo → st.snd ≤ lo → (forIn (List.range' lo n) st (occBody x ⟨#[c]⟩ x.length (x.length + 1))).run.fst.size = st.fst.size + (x.cps.toList.drop lo).count c
  | 0, lo, st, h, _, _ => by
    have hl : x.cps.toList.length = x.length := by simp [Str.length]
    rw [List.drop_of_length_le (by omega)]
    rfl
  | n + 1, lo, st, h, h1, h2 => by
    have hl : x.cps.toList.length = x.length := by simp [Str.length]
    rw [List.range'_succ, List.forIn_cons]
    unfold occBody
    by_cases hc : x.cps.toList[lo]? = some c
    · have hlt : lo < x.cps.toList.length := (List.getElem?_eq_some_iff.mp hc).1
      have he : x.cps.toList[lo] = c := (List.getElem?_eq_some_iff.mp hc).2
      have c1 : ((st.fst.size < x.length + 1 ∧ st.snd ≤ lo) ∧ lo + (⟨#[c]⟩ : Str).length ≤ x.length) ∧ subAt x ⟨#[c]⟩ lo = true := ⟨⟨⟨by omega, h2⟩, by show lo + 1 ≤ x.length; omega⟩, (subAt_one x c lo).mpr hc⟩
      rw [if_pos c1]
      have ih := occ_count x c n (lo + 1) (st.fst.push lo, lo + (⟨#[c]⟩ : Str).length) (by omega) (by simp; omega) (by show lo + 1 ≤ lo + 1; omega)
      refine ih.trans ?_
      rw [List.drop_eq_getElem_cons hlt, he, List.count_cons_self]
      simp
      omega
    · have c2 : ¬ (((st.fst.size < x.length + 1 ∧ st.snd ≤ lo) ∧ lo + (⟨#[c]⟩ : Str).length ≤ x.length) ∧ subAt x ⟨#[c]⟩ lo = true) := fun z => hc ((subAt_one x c lo).mp z.2)
      rw [if_neg c2]
      have ih := occ_count x c n (lo + 1) (st.fst, st.snd) (by omega) (by show st.fst.size ≤ lo + 1; omega) (by show st.snd ≤ lo + 1; omega)
      refine ih.trans ?_
      by_cases hlt : lo < x.cps.toList.length
      · have he : x.cps.toList[lo] ≠ c := fun z => hc (by rw [List.getElem?_eq_getElem hlt, z])
        rw [List.drop_eq_getElem_cons hlt, List.count_cons_of_ne he]
      · rw [List.drop_of_length_le (by omega), List.drop_of_length_le (by omega)]
theorem occ_len (x : Str) (c : Nat) : (occurrences x ⟨#[c]⟩ 0 x.length (x.length + 1)).length = x.cps.toList.count c := by
  rw [occ_eq]
  have := occ_count x c (x.length + 1 - 0) 0 (#[], 0) (by omega) (Nat.le_refl _) (Nat.le_refl _)
  rw [List.drop_zero] at this
  simpa using this
theorem split_len (x : Str) {c : Nat} (hc : c < 256) : (Txt.split x ⟨#[c]⟩).length = x.cps.toList.count c + 1 := by
  have hl : x.cps.toList.length = x.length := by simp [Str.length]
  have k1 : Builtin.Str.strKind ⟨#[c]⟩ = 1 := by unfold Builtin.Str.strKind; rw [if_pos (by simpa using hc)]
  have ol := occ_len x c
  unfold Txt.split
  by_cases h1 : (decide (x.length < (⟨#[c]⟩ : Str).length) || decide (Builtin.Str.strKind x < Builtin.Str.strKind ⟨#[c]⟩)) = true
  · rw [if_pos h1]
    have : x.length = 0 := by
      rcases Bool.or_eq_true_iff.mp h1 with z | z
      · have : x.length < (⟨#[c]⟩ : Str).length := of_decide_eq_true z
        have e1 : (⟨#[c]⟩ : Str).length = 1 := rfl
        omega
      · rw [k1] at z
        have z : Builtin.Str.strKind x < 1 := by simpa using z
        unfold Builtin.Str.strKind at z
        split at z
        · omega
        · split at z <;> omega
    rw [List.length_eq_zero_iff.mp (by omega : x.cps.toList.length = 0)]
    rfl
  · rw [if_neg h1]
    by_cases h2 : (occurrences x ⟨#[c]⟩ 0 x.length (x.length + 1)).isEmpty = true
    · rw [if_pos h2]
      rw [List.isEmpty_iff.mp h2] at ol
      rw [← ol]
      rfl
    · rw [if_neg h2, ← ol]
      unfold partsBetween
      simp
def jl (c : Nat) : List (List Nat) → List Nat
  | [] => []
  | [x] => x
  | x :: y :: r => x ++ c :: jl c (y :: r)
theorem jl_join (c : Nat) : ∀ ws : List Str, (Str.join ⟨#[c]⟩ ws).cps.toList = jl c (ws.map fun w => w.cps.toList)
  | [] => rfl
  | [x] => rfl
  | x :: y :: r => by
    show (x ++ ⟨#[c]⟩ ++ Str.join ⟨#[c]⟩ (y :: r)).cps.toList = _
    rw [Str.cps_append, Str.cps_append, Array.toList_append, Array.toList_append, jl_join c (y :: r)]
    simp [jl]
theorem jl_count (c : Nat) : ∀ ps : List (List Nat), ps ≠ [] → (jl c ps).count c + 1 = ps.length + (ps.map fun p => p.count c).sum
  | [], h => absurd rfl h
  | [x], _ => by simp [jl]; omega
  | x :: y :: r, _ => by
    have ih := jl_count c (y :: r) (by simp)
    show (x ++ c :: jl c (y :: r)).count c + 1 = _
    rw [List.count_append, List.count_cons_self]
    simp only [List.map_cons, List.sum_cons, List.length_cons] at ih ⊢
    omega
theorem first_eq {c : Nat} : ∀ {p w A B : List Nat}, c ∉ p → c ∉ w → p ++ c :: A = w ++ c :: B → p = w ∧ A = B
  | [], [], A, B, _, _, h => by simp at h; exact ⟨rfl, h⟩
  | [], b :: w, A, B, _, hw, h => by
    simp at h
    exact absurd (by rw [h.1]; simp) hw
  | a :: p, [], A, B, hp, _, h => by
    simp at h
    exact absurd (by rw [← h.1]; simp) hp
  | a :: p, b :: w, A, B, hp, hw, h => by
    simp only [List.cons_append, List.cons.injEq] at h
    obtain ⟨e1, e2⟩ := first_eq (p := p) (w := w) (fun z => hp (List.mem_cons_of_mem _ z)) (fun z => hw (List.mem_cons_of_mem _ z)) h.2
    exact ⟨by rw [h.1, e1], e2⟩
theorem jl_inj {c : Nat} : ∀ {ps ws : List (List Nat)}, ps ≠ [] → ws ≠ [] → (∀ p ∈ ps, c ∉ p) → (∀ w ∈ ws, c ∉ w) → jl c ps = jl c ws → ps = ws
  | [], _, h, _, _, _, _ => absurd rfl h
  | _ :: _, [], _, h, _, _, _ => absurd rfl h
  | [p], [w], _, _, _, _, h => by rw [show p = w from h]
  | [p], w :: w2 :: r, _, _, hp, _, h => by
    have h : p = w ++ c :: jl c (w2 :: r) := h
    exact absurd (by rw [h]; simp) (hp p (by simp))
  | p :: p2 :: q, [w], _, _, _, hw, h => by
    have h : p ++ c :: jl c (p2 :: q) = w := h
    exact absurd (by rw [← h]; simp) (hw w (by simp))
  | p :: p2 :: q, w :: w2 :: r, _, _, hp, hw, h => by
    have h : p ++ c :: jl c (p2 :: q) = w ++ c :: jl c (w2 :: r) := h
    obtain ⟨e1, e2⟩ := first_eq (hp p (by simp)) (hw w (by simp)) h
    have ih := jl_inj (by simp) (by simp) (fun z hz => hp z (List.mem_cons_of_mem _ hz)) (fun z hz => hw z (List.mem_cons_of_mem _ hz)) e2
    rw [e1, ih]
theorem sum_zero : ∀ {l : List Nat}, l.sum = 0 → ∀ x ∈ l, x = 0
  | a :: l, h, x, hx => by
    rw [List.sum_cons] at h
    rcases List.mem_cons.mp hx with rfl | hx
    · omega
    · exact sum_zero (by omega) x hx
theorem map_cps_inj : ∀ {a b : List Str}, a.map (fun w => w.cps.toList) = b.map (fun w => w.cps.toList) → a = b
  | [], [], _ => rfl
  | x :: a, y :: b, h => by
    simp only [List.map_cons, List.cons.injEq] at h
    rw [map_cps_inj h.2, Str.ext' (Array.toList_inj.mp h.1)]
theorem split_join {c : Nat} (hc : c < 256) {ws : List Str} (h0 : ws ≠ []) (hf : ∀ w ∈ ws, c ∉ w.cps.toList) : Txt.split (Str.join ⟨#[c]⟩ ws) ⟨#[c]⟩ = ws := by
  have e := join_split (Str.join ⟨#[c]⟩ ws) ⟨#[c]⟩
  have l := split_len (Str.join ⟨#[c]⟩ ws) hc
  generalize hp : Txt.split (Str.join ⟨#[c]⟩ ws) ⟨#[c]⟩ = ps at e l ⊢
  have n0 : ps ≠ [] := fun z => by rw [z] at l; simp at l
  have ej : jl c (ps.map fun w => w.cps.toList) = jl c (ws.map fun w => w.cps.toList) := by rw [← jl_join, ← jl_join, e]
  have ct := jl_count c (ps.map fun w => w.cps.toList) (by simpa using n0)
  rw [jl_join] at l
  rw [ej, List.length_map] at ct
  have sz : ((ps.map fun w => w.cps.toList).map fun p => p.count c).sum = 0 := by omega
  refine map_cps_inj (jl_inj (c := c) (by simpa using n0) (by simpa using h0) (fun p hpm => ?_) (fun w hw => ?_) ej)
  · exact List.count_eq_zero.mp (sum_zero sz _ (List.mem_map.mpr ⟨p, hpm, rfl⟩))
  · obtain ⟨w', hw', rfl⟩ := List.mem_map.mp hw
    exact hf w' hw'
end Tx

set_option maxRecDepth 100000
set_option maxHeartbeats 4000000
namespace L2
open PySem PySem.Spec PyProof.Rows
section
variable {X : Cx}
theorem any_range_get (bs : List Bool) : ((List.range bs.length).any fun i => bs.getD i true) = bs.any id := by
  rw [Bool.eq_iff_iff]
  simp only [List.any_eq_true, List.mem_range, id]
  constructor
  · rintro ⟨i, hi, h⟩
    exact ⟨bs[i], List.getElem_mem hi, by simpa [List.getD, hi] using h⟩
  · rintro ⟨x, hx, h⟩
    obtain ⟨i, hi, rfl⟩ := List.mem_iff_getElem.mp hx
    exact ⟨i, hi, by simpa [List.getD, hi] using h⟩
def rAny (K : PySem.W.Frag) : List V → Hp → VK → Prop := fun xs H Q => ∃ (p : Addr) (bs : List Bool), xs = [.ref p] ∧ SqL K H p (bs.map V.bl) ∧ Q (.bl (bs.any id)) H
theorem call_any (hc : X.calm = true) : CallR X (.builtin "any") (rAny X.K) := by
  intro pins s σ H xs us Q I r h
  obtain ⟨p, bs, rfl, hq, q⟩ := h
  obtain ⟨u, rfl, rx⟩ := vals1 r
  cases rx
  obtain ⟨its, rv, pl, hz⟩ := I.list hq
  have hits := vals_bls rv
  have hl := pl.isList
  have hlt : p < s.heap.objs.size := by obtain ⟨o, e, _⟩ := hl; exact Heap.lt_size e
  have hh : X.A.in1.handled = none := I.ok.hd hc
  refine call_any_walk (wpAny_pyIter_list hl ?_)
  refine ⟨s.heap.objs.size, _, _, _, _, _, fun i => bs.getD i true, rfl, Walks.list hh s.heap.objs.size p (Nat.ne_of_lt hlt) its.toArray, ⟨⟨_, Heap.get?_push_size _ rfl, rfl, rfl⟩, hl.push _⟩, ?_, fun h' tk hk => ?_⟩
  · intro i v s' Q' E' hv hQ
    have e : v = .bool (bs.getD i true) := by
      have hv' : its[i]? = some v := by simpa using hv
      rw [hits, List.getElem?_map] at hv'
      cases e : bs[i]? with
      | none => rw [e] at hv'; cases hv'
      | some b => rw [e] at hv'; simp [List.getD, e]; exact (Option.some.inj hv').symm
    subst e
    first
      | exact wpAny_pure hQ
      | exact hQ
  · have e : its.toArray.size = bs.length := by rw [hits]; simp
    have I1 : Inv X pins σ H { s with heap := s.heap.push { cls := .type "list_iterator", data := .fields #[.ref p, .int 0 0] } } := I.kept (t' := s.toks) fun b o e => Heap.get?_push_of_some _ e
    have f : ∀ b ∈ [s.heap.objs.size], FpOk X pins H b := fun b hb => by rw [List.mem_singleton.mp hb]; exact I.fpOk (Nat.le_refl _) (I.hok.fresh (Nat.le_refl _))
    refine ⟨.bl (bs.any id), H, I1.turnedL (t' := tk) (ch := [s.heap.objs.size]) f fun b o hb e => hk b o hb e, ?_, q⟩
    show Value.bool _ = Value.bool _
    rw [e, any_range_get]
theorem call_anyK (K : PySem.W.Frag) (hc : X.calm = true) (h : X.K = K := by rfl) : CallR X (.builtin "any") (rAny K) := by subst h; exact call_any hc
end
end L2
namespace Tx
open PySem PySem.StrLaws Builtin Builtin.Str
def sI (n : Int) : Str := (toString n : String)
structure NumT (z : Str) (n : Int) : Prop where
  ne : ¬ z = ""
  dg : (z.cps.toList.all fun c => Txt.contains "0123456789" ⟨#[c]⟩) = true
  lead : z = "0" ∨ ∃ c, L2.atI z.cps.toList 0 = some c ∧ ¬ (⟨#[c]⟩ : Str) = "0"
  it : PySem.intText? z = some n
  len : z.length ≤ 3
  asc : z.cps.all (· < 128) = true
  fr : ∀ c ∈ z.cps.toList, 48 ≤ c ∧ c ≤ 57
def numB (n : Nat) : Bool :=
  let z := sI n
  !decide (z = "") && (z.cps.toList.all fun c => Txt.contains "0123456789" ⟨#[c]⟩) && (decide (z = "0") || match z.cps.toList with | [] => false | c :: _ => !decide ((⟨#[c]⟩ : Str) = "0"))
    && decide (PySem.intText? z = some (n : Int)) && decide (z.length ≤ 3) && z.cps.all (· < 128) && z.cps.toList.all fun c => decide (48 ≤ c) && decide (c ≤ 57)
theorem num_all : ((List.range 256).all numB) = true := by decide +kernel
theorem numT {n : Int} (h0 : 0 ≤ n) (h1 : n ≤ 255) : NumT (sI n) n := by
  obtain ⟨m, rfl⟩ : ∃ m : Nat, n = (m : Int) := ⟨n.toNat, by omega⟩
  have := List.all_eq_true.mp num_all m (by simp; omega)
  unfold numB at this
  simp only [Bool.and_eq_true, Bool.or_eq_true, Bool.not_eq_true', decide_eq_true_eq, decide_eq_false_iff_not] at this
  obtain ⟨⟨⟨⟨⟨⟨a, b⟩, c⟩, d⟩, e⟩, f⟩, g⟩ := this
  refine ⟨a, b, ?_, d, e, f, fun x hx => ?_⟩
  · rcases c with c | c
    · exact .inl c
    · refine .inr ?_
      cases hz : (sI (m : Int)).cps.toList with
      | nil => rw [hz] at c; exact absurd c (by simp)
      | cons y ys =>
        rw [hz] at c
        exact ⟨y, L2.atI_nat (xs := y :: ys) (j := 0) rfl, by simpa using c⟩
  · have := List.all_eq_true.mp g x hx
    simpa using this
theorem jn_eq (s : Str) (ws : List Str) : Txt.join s ws = Str.join s ws := glued_eq_join s ws
theorem jl_app (c : Nat) : ∀ {a b : List (List Nat)}, a ≠ [] → b ≠ [] → jl c (a ++ b) = jl c a ++ c :: jl c b
  | [], _, h, _ => absurd rfl h
  | [x], b, _, h => by
    match b, h with
    | y :: r, _ => rfl
  | x :: y :: r, b, _, h => by
    have ih := jl_app c (a := y :: r) (by simp) h
    show x ++ c :: jl c ((y :: r) ++ b) = (x ++ c :: jl c (y :: r)) ++ c :: jl c b
    rw [ih]
    simp
theorem str_ext {a b : Str} (h : a.cps.toList = b.cps.toList) : a = b := Str.ext' (Array.toList_inj.mp h)
theorem join_two {c : Nat} {a b : List Str} (ha : a ≠ []) (hb : b ≠ []) : Txt.join ⟨#[c]⟩ [Txt.join ⟨#[c]⟩ a, Txt.join ⟨#[c]⟩ b] = Txt.join ⟨#[c]⟩ (a ++ b) := by
  rw [jn_eq, jn_eq, jn_eq, jn_eq]
  refine str_ext ?_
  rw [jl_join, jl_join, List.map_append, jl_app c (by simpa using ha) (by simpa using hb)]
  show (Str.join ⟨#[c]⟩ a).cps.toList ++ c :: (Str.join ⟨#[c]⟩ b).cps.toList = _
  rw [jl_join, jl_join]
theorem split_jn {c : Nat} (hc : c < 256) {ws : List Str} (h0 : ws ≠ []) (hf : ∀ w ∈ ws, c ∉ w.cps.toList) : Txt.split (Txt.join ⟨#[c]⟩ ws) ⟨#[c]⟩ = ws := by
  rw [jn_eq]
  exact split_join hc h0 hf
theorem mem_jl {c x : Nat} : ∀ {ps : List (List Nat)}, x ∈ jl c ps → x = c ∨ ∃ p ∈ ps, x ∈ p
  | [], h => by simp [jl] at h
  | [p], h => .inr ⟨p, by simp, h⟩
  | p :: q :: r, h => by
    have h : x ∈ p ++ c :: jl c (q :: r) := h
    rcases List.mem_append.mp h with h | h
    · exact .inr ⟨p, by simp, h⟩
    · rcases List.mem_cons.mp h with h | h
      · exact .inl h
      · rcases mem_jl h with h | ⟨y, hy, h⟩
        · exact .inl h
        · exact .inr ⟨y, List.mem_cons_of_mem _ hy, h⟩
theorem mem_jn {c x : Nat} {ws : List Str} (h : x ∈ (Txt.join ⟨#[c]⟩ ws).cps.toList) : x = c ∨ ∃ w ∈ ws, x ∈ w.cps.toList := by
  rw [jn_eq, jl_join] at h
  rcases mem_jl h with h | ⟨p, hp, h⟩
  · exact .inl h
  · obtain ⟨w, hw, rfl⟩ := List.mem_map.mp hp
    exact .inr ⟨w, hw, h⟩
theorem sum_le {ws : List Str} {n : Nat} (h : ∀ w ∈ ws, w.length ≤ n) : (ws.map (·.length)).sum ≤ ws.length * n := by
  induction ws with
  | nil => simp
  | cons w ws ih =>
    have := h w (by simp)
    have := ih fun x hx => h x (List.mem_cons_of_mem _ hx)
    rw [List.map_cons, List.sum_cons, List.length_cons, Nat.succ_mul]
    omega
theorem jn_len {c : Nat} {ws : List Str} {n : Nat} (h : ∀ w ∈ ws, w.length ≤ n) : (Txt.join ⟨#[c]⟩ ws).length ≤ ws.length * (n + 1) := by
  rw [jn_eq]
  refine Nat.le_trans (join_length_le _ ws) ?_
  have e := sum_le h
  show _ + ws.length * 1 ≤ _
  have h2 : ws.length * (n + 1) = ws.length * n + ws.length := Nat.mul_succ _ _
  omega
open Ce
def wrd (b : Bool) : Str := if b = true then "way" else "drop"
def lnN (z : Str) (ns : List Int) : List Str := z :: ns.map sI
def lnP (z : Str) (x : Int × Int) : List Str := lnN z [x.1, x.2]
def lnW (x : Way) : List Str := lnN (wrd x.back) [x.a, x.b] ++ lnN x.g.word x.g.ns
def lns (C : Cl) : List (List Str) := [lnN "rooms" [C.rooms, C.fst, C.lst], lnN "bars" [C.bars], lnN "water" [C.water]] ++ (C.ways.map lnW ++ (C.things.map (lnP "thing") ++ (C.levers.map (lnP "lever") ++ C.wheels.map (lnP "wheel"))))
def lin (C : Cl) : List Str := (lns C).map (Txt.join " ")
def txt (C : Cl) : Str := Txt.join "\n" (lin C)
def Wd (z : Str) : Prop := z.length ≤ 5 ∧ ∀ c ∈ z.cps.toList, 48 ≤ c ∧ c < 128
theorem wd_lit {z : Str} (h : (decide (z.length ≤ 5) && z.cps.toList.all fun c => decide (48 ≤ c) && decide (c < 128)) = true) : Wd z := by
  simp only [Bool.and_eq_true, decide_eq_true_eq, List.all_eq_true] at h
  exact h
theorem wd_num {n : Int} (h0 : 0 ≤ n) (h1 : n ≤ 255) : Wd (sI n) := by
  have t := numT h0 h1
  exact ⟨by have := t.len; omega, fun c hc => by have := t.fr c hc; omega⟩
def In255 (ns : List Int) : Prop := ∀ n ∈ ns, 0 ≤ n ∧ n ≤ 255
theorem wd_lnN {z : Str} {ns : List Int} (hz : Wd z) (h : In255 ns) : ∀ x ∈ lnN z ns, Wd x := fun x hx => by
  rcases List.mem_cons.mp hx with rfl | hx
  · exact hz
  · obtain ⟨n, hn, rfl⟩ := List.mem_map.mp hx
    exact wd_num (h n hn).1 (h n hn).2
theorem wd_word (g : Gt) : Wd g.word := by
  cases g with
  | plain => exact wd_lit (z := "plain") (by decide +kernel)
  | door => exact wd_lit (z := "door") (by decide +kernel)
  | need => exact wd_lit (z := "need") (by decide +kernel)
  | bar => exact wd_lit (z := "bar") (by decide +kernel)
  | wade => exact wd_lit (z := "wade") (by decide +kernel)
  | float => exact wd_lit (z := "float") (by decide +kernel)
theorem wd_wrd (b : Bool) : Wd (wrd b) := by cases b <;> exact wd_lit (by decide +kernel)
theorem in_two {a b : Int} (h1 : 0 ≤ a ∧ a ≤ 255) (h2 : 0 ≤ b ∧ b ≤ 255) : In255 [a, b] := fun n hn => by
  simp at hn
  rcases hn with rfl | rfl
  · exact h1
  · exact h2
theorem in_ns {g : Gt} (h : g.ok) : In255 g.ns := fun n hn => by
  cases g <;> simp [Gt.ns] at hn <;> simp [Gt.ok] at h <;> first | omega | (rcases hn with rfl | rfl <;> omega)
theorem wd_line {C : Cl} (o : ClOk C) : ∀ ws ∈ lns C, ws ≠ [] ∧ ws.length ≤ 6 ∧ ∀ x ∈ ws, Wd x := by
  have r2 := o.r2
  have f := o.f
  have l := o.l
  have b := o.b
  have wa := o.wa
  intro ws h
  unfold lns at h
  simp only [List.mem_append, List.mem_cons, List.mem_map, List.not_mem_nil, or_false] at h
  rcases h with (rfl | rfl | rfl) | ⟨x, hx, rfl⟩ | ⟨x, hx, rfl⟩ | ⟨x, hx, rfl⟩ | ⟨x, hx, rfl⟩
  · exact ⟨by simp [lnN], by simp [lnN], wd_lnN (wd_lit (by decide +kernel)) fun n hn => by simp at hn; rcases hn with rfl | rfl | rfl <;> omega⟩
  · exact ⟨by simp [lnN], by simp [lnN], wd_lnN (wd_lit (by decide +kernel)) fun n hn => by simp at hn; omega⟩
  · exact ⟨by simp [lnN], by simp [lnN], wd_lnN (wd_lit (by decide +kernel)) fun n hn => by simp at hn; omega⟩
  · obtain ⟨⟨a0, a1⟩, ⟨b0, b1⟩, _, gk⟩ := o.w x hx
    have gl := x.g.ns_len
    refine ⟨by simp [lnW, lnN], by simp [lnW, lnN]; omega, fun y hy => ?_⟩
    rcases List.mem_append.mp hy with hy | hy
    · exact wd_lnN (wd_wrd _) (in_two (by omega) (by omega)) y hy
    · exact wd_lnN (wd_word _) (in_ns gk) y hy
  · obtain ⟨⟨a0, a1⟩, b0, b1⟩ := o.t x hx
    exact ⟨by simp [lnP, lnN], by simp [lnP, lnN], wd_lnN (wd_lit (by decide +kernel)) (in_two (by omega) (by omega))⟩
  · obtain ⟨⟨a0, a1⟩, b0, b1⟩ := o.lv x hx
    exact ⟨by simp [lnP, lnN], by simp [lnP, lnN], wd_lnN (wd_lit (by decide +kernel)) (in_two (by omega) (by omega))⟩
  · obtain ⟨⟨a0, a1⟩, b0, b1⟩ := o.wh x hx
    exact ⟨by simp [lnP, lnN], by simp [lnP, lnN], wd_lnN (wd_lit (by decide +kernel)) (in_two (by omega) (by omega))⟩
theorem lns_len {C : Cl} (o : ClOk C) : (lns C).length ≤ 39 := by
  have := o.wl
  have := o.tl
  have := o.ll
  have := o.vl
  unfold lns
  simp
  omega
theorem jn_small {ws : List Str} (h : ws.length ≤ 6 ∧ ∀ x ∈ ws, Wd x) : (Txt.join " " ws).length ≤ 36 :=
  Nat.le_trans (jn_len (c := 32) (n := 5) fun x hx => (h.2 x hx).1) (by omega)
theorem split_txt {C : Cl} (o : ClOk C) : Txt.split (txt C) "\n" = lin C := by
  refine split_jn (c := 10) (by omega) (by simp [lin, lns]) fun z hz hc => ?_
  obtain ⟨ws, hw, rfl⟩ := List.mem_map.mp hz
  rcases mem_jn (c := 32) hc with e | ⟨x, hx, e⟩
  · omega
  · have := ((wd_line o ws hw).2.2 x hx).2 _ e
    omega
theorem split_ln {ws : List Str} (h : ws ≠ [] ∧ ws.length ≤ 6 ∧ ∀ x ∈ ws, Wd x) : Txt.split (Txt.join " " ws) " " = ws := by
  refine split_jn (c := 32) (by omega) h.1 fun z hz hc => ?_
  have := (h.2.2 z hz).2 _ hc
  omega
theorem txt_len {C : Cl} (o : ClOk C) : (txt C).length ≤ 1443 := by
  refine Nat.le_trans (jn_len (c := 10) (n := 36) fun z hz => ?_) ?_
  · obtain ⟨ws, hw, rfl⟩ := List.mem_map.mp hz
    exact jn_small (wd_line o ws hw).2
  · have := lns_len o
    unfold lin
    rw [List.length_map]
    omega
end Tx

set_option maxRecDepth 100000
set_option maxHeartbeats 4000000
namespace Mine
open PySem L2
def top (i : Nat) : Stmt := PySem.Challenge.pw_delve_k81_cellars_written.main.body.getD i (.Pass ⟨0, 0, 0, 0⟩)
abbrev s__wall : Stmt := top 0
abbrev s_within : Stmt := top 10
abbrev s_changed : Stmt := top 11
abbrev s_gate_of : Stmt := top 20
abbrev s_is_gate : Stmt := top 21
abbrev s_tops_of : Stmt := top 22
abbrev s_cellar : Stmt := top 42
abbrev s_made_of : Stmt := top 43
abbrev s_check_number : Stmt := top 44
abbrev s_made_ways : Stmt := top 45
abbrev s_made_pairs : Stmt := top 46
abbrev s_made_rows : Stmt := top 47
abbrev s_shown : Stmt := top 52
abbrev s_read : Stmt := top 53
abbrev s_numbers_line : Stmt := top 54
abbrev s_way_line : Stmt := top 55
abbrev s_with_line : Stmt := top 56
abbrev s_with_row : Stmt := top 57
abbrev s_part_of : Stmt := top 58
abbrev s_way_of : Stmt := top 59
abbrev s_numbers_behind : Stmt := top 60
abbrev s_numbers_of : Stmt := top 61
abbrev s_is_number : Stmt := top 62
abbrev s__law_cell : Stmt := top 64
abbrev s__law_gate : Stmt := top 65
abbrev s__law_cellar : Stmt := top 66
abbrev s__law_lines : Stmt := top 67
abbrev s__law_alike : Stmt := top 68
abbrev s_law : Stmt := top 69
abbrev s_Gate_init : Stmt := inClass (top 13) 0
abbrev s_Gate_told : Stmt := inClass (top 13) 1
abbrev s_Gate_text : Stmt := inClass (top 13) 2
abbrev s_Plain_init : Stmt := inClass (top 14) 0
abbrev s_Door_init : Stmt := inClass (top 15) 0
abbrev s_Need_init : Stmt := inClass (top 16) 0
abbrev s_Bar_init : Stmt := inClass (top 17) 0
abbrev s_Wade_init : Stmt := inClass (top 18) 0
abbrev s_Float_init : Stmt := inClass (top 19) 0
theorem sc_within : FnScope ["number", "least", "most"] ["number", "least", "most"] (defScope s_within) := ⟨rfl, rfl, rfl, by decide +kernel, rfl, by decide +kernel, by decide +kernel⟩
theorem sc_changed : FnScope ["parts", "place", "part"] ["parts", "place", "part"] (defScope s_changed) := ⟨rfl, rfl, rfl, by decide +kernel, rfl, by decide +kernel, by decide +kernel⟩
theorem sc_gate_of : FnScope ["gate", "word"] ["gate"] (defScope s_gate_of) := ⟨rfl, rfl, rfl, by decide +kernel, rfl, by decide +kernel, by decide +kernel⟩
theorem sc_is_gate : FnScope ["thing", "tops", "numbers"] ["thing"] (defScope s_is_gate) := ⟨rfl, rfl, rfl, by decide +kernel, rfl, by decide +kernel, by decide +kernel⟩
theorem sc_tops_of : FnScope ["word"] ["word"] (defScope s_tops_of) := ⟨rfl, rfl, rfl, by decide +kernel, rfl, by decide +kernel, by decide +kernel⟩
theorem sc_cellar : FnScope ["rooms", "first", "last", "ways", "things", "levers", "wheels", "bars", "water"] ["rooms", "first", "last", "ways", "things", "levers", "wheels", "bars", "water"] (defScope s_cellar) := ⟨rfl, rfl, rfl, by decide +kernel, rfl, by decide +kernel, by decide +kernel⟩
theorem sc_made_of : FnScope ["parts"] ["parts"] (defScope s_made_of) := ⟨rfl, rfl, rfl, by decide +kernel, rfl, by decide +kernel, by decide +kernel⟩
theorem sc_check_number : FnScope ["name", "number", "least", "most"] ["name", "number", "least", "most"] (defScope s_check_number) := ⟨rfl, rfl, rfl, by decide +kernel, rfl, by decide +kernel, by decide +kernel⟩
theorem sc_made_ways : FnScope ["rooms", "ways", "made", "a", "b", "gate", "back"] ["rooms", "ways"] (defScope s_made_ways) := ⟨rfl, rfl, rfl, by decide +kernel, rfl, by decide +kernel, by decide +kernel⟩
theorem sc_made_pairs : FnScope ["name", "rooms", "pairs", "most_pairs", "least", "most", "made", "room", "number"] ["name", "rooms", "pairs", "most_pairs", "least", "most"] (defScope s_made_pairs) := ⟨rfl, rfl, rfl, by decide +kernel, rfl, by decide +kernel, by decide +kernel⟩
theorem sc_made_rows : FnScope ["name", "rows", "most", "made"] ["name", "rows", "most"] (defScope s_made_rows) := ⟨rfl, rfl, rfl, by decide +kernel, rfl, by decide +kernel, by decide +kernel⟩
theorem sc_shown : FnScope ["cellar", "lines"] ["cellar"] (defScope s_shown) := ⟨rfl, rfl, rfl, by decide +kernel, rfl, by decide +kernel, by decide +kernel⟩
theorem sc_read : FnScope ["text", "lines", "made", "number", "line"] ["text"] (defScope s_read) := ⟨rfl, rfl, rfl, by decide +kernel, rfl, by decide +kernel, by decide +kernel⟩
theorem sc_numbers_line : FnScope ["word", "numbers"] ["word", "numbers"] (defScope s_numbers_line) := ⟨rfl, rfl, rfl, by decide +kernel, rfl, by decide +kernel, by decide +kernel⟩
theorem sc_way_line : FnScope ["way", "word"] ["way"] (defScope s_way_line) := ⟨rfl, rfl, rfl, by decide +kernel, rfl, by decide +kernel, by decide +kernel⟩
theorem sc_with_line : FnScope ["made", "number", "words"] ["made", "number", "words"] (defScope s_with_line) := ⟨rfl, rfl, rfl, by decide +kernel, rfl, by decide +kernel, by decide +kernel⟩
theorem sc_with_row : FnScope ["made", "words", "part", "row"] ["made", "words"] (defScope s_with_row) := ⟨rfl, rfl, rfl, by decide +kernel, rfl, by decide +kernel, by decide +kernel⟩
theorem sc_part_of : FnScope ["word"] ["word"] (defScope s_part_of) := ⟨rfl, rfl, rfl, by decide +kernel, rfl, by decide +kernel, by decide +kernel⟩
theorem sc_way_of : FnScope ["words", "gate"] ["words"] (defScope s_way_of) := ⟨rfl, rfl, rfl, by decide +kernel, rfl, by decide +kernel, by decide +kernel⟩
theorem sc_numbers_behind : FnScope ["word", "words", "many"] ["word", "words", "many"] (defScope s_numbers_behind) := ⟨rfl, rfl, rfl, by decide +kernel, rfl, by decide +kernel, by decide +kernel⟩
theorem sc_numbers_of : FnScope ["words", "word"] ["words"] (defScope s_numbers_of) := ⟨rfl, rfl, rfl, by decide +kernel, rfl, by decide +kernel, by decide +kernel⟩
theorem sc_is_number : FnScope ["word"] ["word"] (defScope s_is_number) := ⟨rfl, rfl, rfl, by decide +kernel, rfl, by decide +kernel, by decide +kernel⟩
theorem sc__law_cell : FnScope ["_law_script", "_law_k"] ["_law_script", "_law_k"] (defScope s__law_cell) := ⟨rfl, rfl, rfl, by decide +kernel, rfl, by decide +kernel, by decide +kernel⟩
theorem sc__law_gate : FnScope ["_law_cell_here", "_law_kind", "_law_some"] ["_law_cell_here"] (defScope s__law_gate) := ⟨rfl, rfl, rfl, by decide +kernel, rfl, by decide +kernel, by decide +kernel⟩
theorem sc__law_cellar : FnScope ["_law_script", "_law_cell_here", "_law_rooms", "_law_lists", "_law_k", "_law_room", "_law_other", "_law_ways", "_law_things", "_law_levers", "_law_wheels", "_law_ends", "_law_more"] ["_law_script"] (defScope s__law_cellar) := ⟨rfl, rfl, rfl, by decide +kernel, rfl, by decide +kernel, by decide +kernel⟩
theorem sc__law_lines : FnScope ["_law_one", "_law_lines_here", "_law_way", "_law_k", "_law_pair"] ["_law_one"] (defScope s__law_lines) := ⟨rfl, rfl, rfl, by decide +kernel, rfl, by decide +kernel, by decide +kernel⟩
theorem sc__law_alike : FnScope ["_law_found", "_law_due", "_law_k"] ["_law_found", "_law_due"] (defScope s__law_alike) := ⟨rfl, rfl, rfl, by decide +kernel, rfl, by decide +kernel, by decide +kernel⟩
theorem sc_law : FnScope ["_law_script", "_law_one", "_law_lines_here", "_law_text", "_law_other"] ["_law_script"] (defScope s_law) := ⟨rfl, rfl, rfl, by decide +kernel, rfl, by decide +kernel, by decide +kernel⟩
theorem sc_Gate_init : FnScope ["self", "word", "numbers"] ["self", "word", "numbers"] (defScope s_Gate_init) := ⟨rfl, rfl, rfl, by decide +kernel, rfl, by decide +kernel, by decide +kernel⟩
theorem sc_Gate_told : FnScope ["self"] ["self"] (defScope s_Gate_told) := ⟨rfl, rfl, rfl, by decide +kernel, rfl, by decide +kernel, by decide +kernel⟩
theorem sc_Gate_text : FnScope ["self"] ["self"] (defScope s_Gate_text) := ⟨rfl, rfl, rfl, by decide +kernel, rfl, by decide +kernel, by decide +kernel⟩
theorem sc_Plain_init : FnScope ["self"] ["self"] (defScope s_Plain_init) := ⟨rfl, rfl, rfl, by decide +kernel, rfl, by decide +kernel, by decide +kernel⟩
theorem sc_Door_init : FnScope ["self", "kind"] ["self", "kind"] (defScope s_Door_init) := ⟨rfl, rfl, rfl, by decide +kernel, rfl, by decide +kernel, by decide +kernel⟩
theorem sc_Need_init : FnScope ["self", "kind"] ["self", "kind"] (defScope s_Need_init) := ⟨rfl, rfl, rfl, by decide +kernel, rfl, by decide +kernel, by decide +kernel⟩
theorem sc_Bar_init : FnScope ["self", "bar"] ["self", "bar"] (defScope s_Bar_init) := ⟨rfl, rfl, rfl, by decide +kernel, rfl, by decide +kernel, by decide +kernel⟩
theorem sc_Wade_init : FnScope ["self", "height", "kind"] ["self", "height", "kind"] (defScope s_Wade_init) := ⟨rfl, rfl, rfl, by decide +kernel, rfl, by decide +kernel, by decide +kernel⟩
theorem sc_Float_init : FnScope ["self", "height"] ["self", "height"] (defScope s_Float_init) := ⟨rfl, rfl, rfl, by decide +kernel, rfl, by decide +kernel, by decide +kernel⟩
structure Cs where
  Gate : Addr
  Plain : Addr
  Door : Addr
  Need : Addr
  Bar : Addr
  Wade : Addr
  Float : Addr
structure Txt (mg : Str → Option Value) (cs : Cs) : Prop where
  n_all : mg "all" = none
  n_any : mg "any" = none
  n_bool : mg "bool" = none
  n_enumerate : mg "enumerate" = none
  n_int : mg "int" = none
  n_isinstance : mg "isinstance" = none
  n_len : mg "len" = none
  n_list : mg "list" = none
  n_min : mg "min" = none
  n_range : mg "range" = none
  n_str : mg "str" = none
  n_tuple : mg "tuple" = none
  n_zip : mg "zip" = none
  e_ALL_BARS : ∃ t, mg "ALL_BARS" = some (.int 255 t)
  e_FIGURES : ∃ t, mg "FIGURES" = some (.str "0123456789" t)
  e_FIRST : ∃ t, mg "FIRST" = some (.int 1 t)
  e_FIRST_BARS : ∃ t, mg "FIRST_BARS" = some (.int 7 t)
  e_FIRST_LINES : ∃ t, mg "FIRST_LINES" = some (.int 3 t)
  e_FIRST_WATER : ∃ t, mg "FIRST_WATER" = some (.int 8 t)
  e_LAST : ∃ t, mg "LAST" = some (.int 2 t)
  e_LAST_BAR : ∃ t, mg "LAST_BAR" = some (.int 7 t)
  e_LAST_KIND : ∃ t, mg "LAST_KIND" = some (.int 11 t)
  e_LEVERS : ∃ t, mg "LEVERS" = some (.int 5 t)
  e_MOST_LEVERS : ∃ t, mg "MOST_LEVERS" = some (.int 4 t)
  e_MOST_ROOMS : ∃ t, mg "MOST_ROOMS" = some (.int 14 t)
  e_MOST_THINGS : ∃ t, mg "MOST_THINGS" = some (.int 8 t)
  e_MOST_WAYS : ∃ t, mg "MOST_WAYS" = some (.int 20 t)
  e_MOST_WHEELS : ∃ t, mg "MOST_WHEELS" = some (.int 4 t)
  e_ROOMS : ∃ t, mg "ROOMS" = some (.int 0 t)
  e_THINGS : ∃ t, mg "THINGS" = some (.int 4 t)
  e_TOP_HEIGHT : ∃ t, mg "TOP_HEIGHT" = some (.int 9 t)
  e_WAYS : ∃ t, mg "WAYS" = some (.int 3 t)
  e_WAY_A : ∃ t, mg "WAY_A" = some (.int 0 t)
  e_WAY_B : ∃ t, mg "WAY_B" = some (.int 1 t)
  e_WAY_BACK : ∃ t, mg "WAY_BACK" = some (.int 3 t)
  e_WAY_GATE : ∃ t, mg "WAY_GATE" = some (.int 2 t)
  e_WHEELS : ∃ t, mg "WHEELS" = some (.int 6 t)
  c_Gate : mg "Gate" = some (.ref cs.Gate)
  c_Plain : mg "Plain" = some (.ref cs.Plain)
  c_Door : mg "Door" = some (.ref cs.Door)
  c_Need : mg "Need" = some (.ref cs.Need)
  c_Bar : mg "Bar" = some (.ref cs.Bar)
  c_Wade : mg "Wade" = some (.ref cs.Wade)
  c_Float : mg "Float" = some (.ref cs.Float)
structure Tk (K : PySem.W.Frag) (mg : Str → Option Value) : Prop where
  NOTHING_MORE : ∃ p e0 e1 e2 e3, mg "NOTHING_MORE" = some (.ref p) ∧ (∀ H, SqT K H p [.ref e0, .ref e1, .ref e2, .ref e3, .int 0, .int 0]) ∧ (∀ H, SqT K H e0 []) ∧ (∀ H, SqT K H e1 []) ∧ (∀ H, SqT K H e2 []) ∧ (∀ H, SqT K H e3 []) ∧ ∃ o, K.lookup p = some o ∧ o.cls = .type "tuple" ∧ o.dict = none
structure Tcl (K : PySem.W.Frag) (cs : Cs) : Prop where
  cl_Plain : Cls K cs.Plain
  no_Plain_numbers : NoAttr K cs.Plain "numbers"
  no_Plain_word : NoAttr K cs.Plain "word"
  cl_Door : Cls K cs.Door
  no_Door_numbers : NoAttr K cs.Door "numbers"
  no_Door_word : NoAttr K cs.Door "word"
  cl_Need : Cls K cs.Need
  no_Need_kind : NoAttr K cs.Need "kind"
  no_Need_numbers : NoAttr K cs.Need "numbers"
  no_Need_word : NoAttr K cs.Need "word"
  cl_Bar : Cls K cs.Bar
  no_Bar_bar : NoAttr K cs.Bar "bar"
  no_Bar_numbers : NoAttr K cs.Bar "numbers"
  no_Bar_word : NoAttr K cs.Bar "word"
  cl_Wade : Cls K cs.Wade
  no_Wade_height : NoAttr K cs.Wade "height"
  no_Wade_kind : NoAttr K cs.Wade "kind"
  no_Wade_numbers : NoAttr K cs.Wade "numbers"
  no_Wade_word : NoAttr K cs.Wade "word"
  cl_Float : Cls K cs.Float
  no_Float_height : NoAttr K cs.Float "height"
  no_Float_numbers : NoAttr K cs.Float "numbers"
  no_Float_word : NoAttr K cs.Float "word"
structure Xs where
  NoCellar : Addr
structure Tx (K : PySem.W.Frag) (mg : Str → Option Value) (xs : Xs) : Prop where
  at_NoCellar : mg "NoCellar" = some (.ref xs.NoCellar)
  ex_NoCellar : ExcC K xs.NoCellar
  mo_NoCellar_0 : PySem.W.exmOne K (.ref xs.NoCellar) (.ref xs.NoCellar) = some true
-- ROOM 9
local macro_rules | `(tactic| walk_at "ne") => `(tactic| refine ifd (fun h => absurd h (by decide +kernel)) (fun _ => ?_))
local macro_rules | `(tactic| walk_at "eq") => `(tactic| refine ifd (fun _ => ?_) (fun h => absurd rfl h))
local macro_rules | `(tactic| walk_at "at") => `(tactic| first | rfl | exact atI0 | exact atI_off (by assumption) | exact atI_nat (by assumption) | assumption)
local macro_rules | `(tactic| walk_at "hp") => `(tactic| first | with_reducible assumption | with_reducible exact upd_same | ((with_reducible apply up_keep); (rotate_left; (with_reducible assumption)); walk_at "hp") | exact upd_same)
local macro_rules | `(tactic| walk_at "sq") => `(tactic| first | with_reducible assumption | ((with_reducible apply SqT.of); walk_at "hp") | ((with_reducible apply SqL.of); walk_at "hp") | ((with_reducible refine' Same.seq ?s ?h); (case h => with_reducible assumption); (case s => walk_at "sm")) | ((with_reducible refine' Same.tup ?s ?h); (case h => with_reducible assumption); (case s => walk_at "sm")))
local macro_rules | `(tactic| walk_at "sm") => `(tactic| first | with_reducible assumption | with_reducible exact Same.refl _ | ((with_reducible refine Same.trans ?_ (Same.upd (by assumption))); walk_at "sm"))
local macro_rules | `(tactic| walk_at "side") => `(tactic| first | assumption | omega | (exact ⟨by omega, by omega⟩) | (exact Or.inl ⟨by omega, by omega⟩) | (exact Or.inr ⟨by omega, by omega⟩) | (exact ⟨by omega, by omega, by omega⟩) | (exact ⟨by omega, by omega, by decide⟩) | (exact ⟨⟨by omega, by omega⟩, by omega, by omega⟩))
local macro_rules | `(tactic| walk_at "rd1") => `(tactic| first | ((with_reducible refine' r_var ?h ?_); (case h => rfl)) | with_reducible refine' r_op ?_ | with_reducible refine' r_c ?_ | with_reducible refine' r_cons ?_ | with_reducible refine' r_nil ?_ | with_reducible refine' r_seq ?_ | with_reducible refine' r_asg ?_ | with_reducible refine' r_name ?_ | with_reducible refine' r_call ?_ | with_reducible refine' r_cb ?_ | with_reducible refine' r_I0 ?_ | with_reducible refine' r_test ?_ | with_reducible refine' r_bl ?_ | with_reducible refine' r_B ?_ | with_reducible refine' r_ifS ?_ | with_reducible refine' r_ret ?_ | with_reducible refine' r_eqI ?_ | with_reducible refine' r_eqS ?_ | with_reducible refine' r_eqB ?_ | with_reducible refine' r_neI ?_ | with_reducible refine' r_neS ?_ | with_reducible refine' r_neB ?_ | with_reducible refine' r_and ?_ | with_reducible refine' r_or ?_ | with_reducible refine' r_not ?_ | with_reducible refine' r_un ?_ | with_reducible refine' r_U ?_ | with_reducible refine' r_isN ?_ | with_reducible refine' r_notN ?_ | with_reducible refine' r_andV ?_ | with_reducible refine' r_orV ?_ | with_reducible refine' r_notV ?_ | with_reducible refine' r_if ?_ | with_reducible refine' r_tup ?_ | with_reducible refine' r_lst ?_ | with_reducible refine' r_sl ?_ | with_reducible refine' r_np ?_ | with_reducible refine' r_pt ?_ | with_reducible refine' r_int ?_ | with_reducible refine' r_fld0 ?_ | with_reducible refine' r_setf0 ?_ | with_reducible refine' r_vm0 ?_ | with_reducible refine' r_make ?_ | with_reducible refine' r_chain ?_ | with_reducible refine' r_max2 ?_ | with_reducible refine' r_min2 ?_ | with_reducible refine' r_inti ?_ | with_reducible refine' r_intb ?_ | with_reducible refine' r_strs ?_ | with_reducible refine' r_next ?_ | with_reducible refine' r_drop ?_ | with_reducible refine' r_sub ?_ | with_reducible refine' r_augS ?_ | with_reducible refine' r_ipI ?_ | with_reducible refine' r_gc ?_ | with_reducible refine' r_gn ?_ | with_reducible refine' r_retN ?_ | with_reducible refine' r_bm ?_ | with_reducible refine' r_bm0 ?_ | with_reducible refine' r_for ?_ | with_reducible refine' r_rng1 ?_ | with_reducible refine' r_rng2 ?_ | with_reducible refine' r_comp ?_ | with_reducible refine' r_yes ?_ | with_reducible refine' r_iL ?_ | with_reducible refine' r_iT ?_ | with_reducible refine' r_eL ?_ | with_reducible refine' r_eT ?_ | with_reducible refine' iteT ?_ | with_reducible refine' iteF ?_ | with_reducible refine' ifnT ?_ | with_reducible refine' ifnF ?_ | with_reducible refine' r_fs ?_ | with_reducible refine' r_fv ?_ | with_reducible refine' r_callD ?_ | with_reducible refine' r_callK ?_ | with_reducible refine' r_isi_ii ?_ | with_reducible refine' r_isi_ib ?_ | with_reducible refine' r_isi_bb ?_ | with_reducible refine' r_isi_bi ?_ | with_reducible refine' r_isi_ss ?_ | with_reducible refine' r_isi_sb ?_ | with_reducible refine' r_isi_si ?_ | with_reducible refine' r_isi_st ?_ | with_reducible refine' r_isi_it ?_ | with_reducible refine' r_isi_bt ?_ | with_reducible refine' r_isi_is ?_ | with_reducible refine' r_isi_bs ?_ | with_reducible refine' r_isi_nl ?_ | with_reducible refine' r_notT0 ?_ | ((with_reducible refine' r_I ?h ?_); (case h => walk_at "side")) | ((with_reducible refine' r_al ?h ?_); (case h => rfl)) | ((with_reducible refine' r_aug ?h ?_); (case h => rfl)) | ((with_reducible refine' r_ixT ?h ?e ?_); (case h => walk_at "sq"); (case e => walk_at "at")) | ((with_reducible refine' r_ixL ?h ?e ?_); (case h => walk_at "sq"); (case e => walk_at "at")) | ((with_reducible refine' r_ixU ?h ?e ?_); (case h => assumption); (case e => walk_at "at")) | ((with_reducible refine' r_lenT ?h ?_); (case h => walk_at "sq")) | ((with_reducible refine' r_lenL ?h ?_); (case h => walk_at "sq")) | ((with_reducible refine' r_lenU ?h ?_); (case h => assumption)) | ((with_reducible refine' r_refT ?h ?_); (case h => walk_at "sq")) | ((with_reducible refine' r_refL ?h ?_); (case h => walk_at "sq")) | ((with_reducible refine' r_refT1 ?h ?_); (case h => walk_at "sq")) | ((with_reducible refine' r_refL1 ?h ?_); (case h => walk_at "sq")) | ((with_reducible refine' r_tyL ?h ?_); (case h => walk_at "hp")) | ((with_reducible refine' r_isi_tt ?h ?_); (case h => walk_at "hp")) | ((with_reducible refine' r_isi_tl ?h ?_); (case h => walk_at "hp")) | ((with_reducible refine' r_isi_ll ?h ?_); (case h => walk_at "hp")) | ((with_reducible refine' r_isi_lt ?h ?_); (case h => walk_at "hp")) | ((with_reducible refine' r_gT ?h ?e ?_); (case h => walk_at "sq"); (case e => rfl)) | ((with_reducible refine' r_gL ?h ?e ?_); (case h => walk_at "sq"); (case e => rfl)) | ((with_reducible refine' r_rg ?h ?_); (case h => walk_at "side")) | ((with_reducible refine' r_rg2 ?h ?_); (case h => walk_at "side")))
local macro_rules | `(tactic| walk_at "rd") => `(tactic| repeat (walk_at "rd1"))
seal L2.PA L2.PE
open Ce _root_.Tx

def topsOf (z : Str) : Option (List Int) :=
  if z = "plain" then some [] else if z = "door" then some [11] else if z = "need" then some [11] else if z = "bar" then some [7] else if z = "wade" then some [9, 11] else if z = "float" then some [9] else none
theorem topsOf_plain : topsOf "plain" = some [] := by decide +kernel
theorem topsOf_door : topsOf "door" = some [11] := by decide +kernel
theorem topsOf_need : topsOf "need" = some [11] := by decide +kernel
theorem topsOf_bar : topsOf "bar" = some [7] := by decide +kernel
theorem topsOf_wade : topsOf "wade" = some [9, 11] := by decide +kernel
theorem topsOf_float : topsOf "float" = some [9] := by decide +kernel
theorem topsOf_none {z : Str} (h1 : ¬ z = "plain") (h2 : ¬ z = "door") (h3 : ¬ z = "need") (h4 : ¬ z = "bar") (h5 : ¬ z = "wade") (h6 : ¬ z = "float") : topsOf z = none := by
  unfold topsOf
  rw [if_neg h1, if_neg h2, if_neg h3, if_neg h4, if_neg h5, if_neg h6]
def chk (n t : Int) : Bool := decide (0 ≤ n) && decide (n ≤ t)
def gateOk (z : Str) (ns : List Int) : Bool := match topsOf z with
  | none => false
  | some ts => decide (ns.length = ts.length) && (List.zipWith chk ns ts).all id
theorem gateOk_none {z : Str} {ns : List Int} (h : topsOf z = none) : gateOk z ns = false := by unfold gateOk; rw [h]
theorem gateOk_len {z : Str} {ns ts : List Int} (h : topsOf z = some ts) (hl : ¬ ns.length = ts.length) : gateOk z ns = false := by unfold gateOk; rw [h]; simp [hl]
theorem gateOk_all {z : Str} {ns ts : List Int} (h : topsOf z = some ts) (hl : ns.length = ts.length) : gateOk z ns = (List.zipWith chk ns ts).all id := by unfold gateOk; rw [h]; simp [hl]
theorem subS_ib : subS "int" "bool" = false := by decide +kernel
theorem subS_ii : subS "int" "int" = true := by decide +kernel
theorem subS_tt : subS "tuple" "tuple" = true := by decide +kernel
theorem cutV_tail (x : V) (l : List V) : cutV (x :: l) (some 1) none = l := by
  unfold cutV
  have e1 : HT.sIx (x :: l).length 0 (some 1) = 1 := by rw [show (1 : Int) = ((1 : Nat) : Int) from rfl, HT.sIx_nat]; simp
  have e2 : HT.sIx (x :: l).length (x :: l).length none = l.length + 1 := by rw [HT.sIx_none]; rfl
  rw [e1, e2]
  simp
theorem atI_ints {xs : List Int} {j : Nat} (h : j < xs.length) : atI (xs.map V.int) (j : Int) = some (.int (xs.getD j 0)) := atI_nat (by simp [List.getD, h])
theorem gateOk_ok {g : Gt} (h : g.ok) : gateOk g.word g.ns = true := by
  cases g with
  | plain => rw [gateOk_all (z := Gt.plain.word) (ns := Gt.plain.ns) topsOf_plain rfl]; rfl
  | door k => have h' : 0 ≤ k ∧ k < 12 := h; rw [gateOk_all (z := (Gt.door k).word) (ns := (Gt.door k).ns) topsOf_door rfl]; simp [Gt.ns, chk]; omega
  | need k => have h' : 0 ≤ k ∧ k < 12 := h; rw [gateOk_all (z := (Gt.need k).word) (ns := (Gt.need k).ns) topsOf_need rfl]; simp [Gt.ns, chk]; omega
  | bar k => have h' : 0 ≤ k ∧ k < 8 := h; rw [gateOk_all (z := (Gt.bar k).word) (ns := (Gt.bar k).ns) topsOf_bar rfl]; simp [Gt.ns, chk]; omega
  | wade a k => have h' : (0 ≤ a ∧ a < 10) ∧ 0 ≤ k ∧ k < 12 := h; rw [gateOk_all (z := (Gt.wade a k).word) (ns := (Gt.wade a k).ns) topsOf_wade rfl]; simp [Gt.ns, chk]; omega
  | float k => have h' : 0 ≤ k ∧ k < 10 := h; rw [gateOk_all (z := (Gt.float k).word) (ns := (Gt.float k).ns) topsOf_float rfl]; simp [Gt.ns, chk]; omega
def RowOk (H : Hp) (x : V) : Prop := ∃ p ys, x = .ref p ∧ H p = some (.tup ys)
def TupO (H : Hp) (v : V) : Option (List Int) → Prop
  | none => v = .non
  | some l => ∃ p, v = .ref p ∧ H p = some (.tup (l.map V.int))
def spWithin : Sp := fun vs H Q _ => ∃ n a b, vs = [.int n, .int a, .int b] ∧ Q (.bl (decide (a ≤ n) && decide (n ≤ b))) H
def spTops : Sp := fun vs H Q _ => ∃ z, vs = [.str z] ∧ ∀ v H', Same H H' → TupO H' v (topsOf z) → Q v H'
def spIsGate : Sp := fun vs H Q _ => ∃ (p : Addr) (z : Str) (ns : List Int), vs = [.ref p] ∧ H p = some (.tup (.str z :: ns.map V.int)) ∧ ns.length ≤ 10 ∧ ∀ H', Same H H' → Q (.bl (gateOk z ns)) H'
abbrev psC : List Str := ["rooms", "first", "last", "ways", "things", "levers", "wheels", "bars", "water"]
abbrev dsC (d1 d2 : Tok) : List Value := [.none, .none, .none, .int 0 d1, .int 0 d2]
theorem bd_cellar_9 (d1 d2 : Tok) (us : List Value) (hl : (us ++ []).length = psC.length) : BnD "cellar" s_cellar (dsC d1 d2) ⟨us, []⟩ (psC.zip (us ++ [])) := by
  have hl2 : us.length = 9 := by simpa using hl
  match us, hl2 with
  | [_, _, _, _, _, _, _, _, _], _ => exact fun _ _ _ _ _ _ _ => ⟨_, rfl, rfl⟩
theorem dv_cellar_9 (d1 d2 : Tok) : Vals [] [] := .nil
theorem sm_of {H H' : Hp} {a : Addr} {o : HO} (e : upd H a o = H') (h : H a = none) : Same H H' := e ▸ Same.upd h
theorem at_of {H H' : Hp} {a : Addr} {o : HO} (e : upd H a o = H') : H' a = some o := e ▸ upd_same
theorem seqT {K : PySem.W.Frag} {H H' : Hp} {a : Addr} {xs : List V} (e : Same H H') (h : SqT K H a xs) : SqT K H' a xs := by
  rcases h with (h | ⟨o, h⟩) | h
  · exact .inl (.inl (e _ _ h))
  · exact .inl (.inr ⟨o, e _ _ h⟩)
  · exact .inr h
def RowIn (K : PySem.W.Frag) (H : Hp) (v : V) (xs : List V) : Prop := ∃ p, v = .ref p ∧ SqT K H p xs
theorem RowIn.mono {K : PySem.W.Frag} {H H' : Hp} {v : V} {xs : List V} (s : Same H H') (h : RowIn K H v xs) : RowIn K H' v xs := let ⟨p, e, h⟩ := h; ⟨p, e, seqT s h⟩

def Sml (n : Int) : Prop := n.natAbs.log2 < 1920
theorem Sml.of {n : Int} (h : n.natAbs < 2 ^ 1000) : Sml n := by
  unfold Sml
  by_cases h0 : n.natAbs = 0
  · rw [h0]; decide +kernel
  · have := (Nat.log2_lt h0).mpr h
    omega
theorem hu8_of {A : Around} {k : Nat} (hr : Room k A) : A.units + 8 < cLine := by have := hr.un; omega
theorem jc {y : Str} {ts : List TE} {n : Nat} {σ : St} {H : Hp} {Q : VK} (hy : y.length ≤ 100) (hn : n ≤ 500000) (q : ∀ m, m ≤ n + 100 → tJoin ts m σ H Q) : tJoin (tC (.str y) :: ts) n σ H Q := ⟨y, rfl, by have := line_big; omega, q _ (by omega)⟩
theorem jn {n : Nat} {σ : St} {H : Hp} {Q : VK} (q : ∀ z : Str, z.length ≤ n → Q (.str z) H) : tJoin [] n σ H Q := fun z hz => q z (by omega)
theorem jfi {te : TE} {ts : List TE} {n : Nat} {σ : St} {H : Hp} {Q : VK} {i : Int} (hi : Sml i) (hn : n ≤ 500000) (ht : ∀ K : VK, K (.int i) H → te σ H K) (q : ∀ m, m ≤ n + 1921 → tJoin ts m σ H Q) : tJoin (tFm te :: ts) n σ H Q :=
  ht _ (.inl ⟨i, rfl, hi, fun z hz => ⟨z, rfl, by have := line_big; omega, q _ (by omega)⟩⟩)
theorem jfs {te : TE} {ts : List TE} {n : Nat} {σ : St} {H : Hp} {Q : VK} {y : Str} {b : Nat} (hy : y.length ≤ b) (hn : n ≤ 500000 ∧ b ≤ 1000) (ht : ∀ K : VK, K (.str y) H → te σ H K) (q : ∀ m, m ≤ n + b → tJoin ts m σ H Q) : tJoin (tFm te :: ts) n σ H Q :=
  ht _ (.inr ⟨y, rfl, by have := line_big; omega, ⟨y, rfl, by have := line_big; omega, q _ (by omega)⟩⟩)
theorem jfr {te : TE} {ts : List TE} {n : Nat} {σ : St} {H : Hp} {Q : VK} {i : Int} (hi : Sml i) (hn : n ≤ 500000) (ht : ∀ K : VK, K (.int i) H → te σ H K) (q : ∀ m, m ≤ n + 1921 → tJoin ts m σ H Q) : tJoin (tFr te :: ts) n σ H Q :=
  ht _ ⟨i, rfl, hi, fun z hz => ⟨z, rfl, by have := line_big; omega, q _ (by omega)⟩⟩
theorem jft {te : TE} {ts : List TE} {n : Nat} {σ : St} {H : Hp} {Q : VK} {p : Addr} {xs : List V} (hp : H p = some (.tup xs)) (hl : xs.length ≤ 20) (hx : ∀ y ∈ xs, ShowV y) (hn : n ≤ 500000) (ht : ∀ K : VK, K (.ref p) H → te σ H K) (q : ∀ m, m ≤ n + 50000 → tJoin ts m σ H Q) : tJoin (tFt te :: ts) n σ H Q :=
  ht _ ⟨p, xs, rfl, hp, hl, hx, fun z hz => ⟨z, rfl, by have := line_big; omega, q _ (by omega)⟩⟩
def spCheck (C : Addr) : Sp := fun vs H Q E => ∃ (z : Str) (n a b : Int), vs = [.str z, .int n, .int a, .int b] ∧ z.length ≤ 1000 ∧ Sml n ∧ Sml a ∧ Sml b ∧ ((a ≤ n ∧ n ≤ b) → Q .non H) ∧ (¬ (a ≤ n ∧ n ≤ b) → E (.ref C) none H)
def spRows (K : PySem.W.Frag) (C : Addr) : Sp := fun vs H Q E => ∃ (z : Str) (v : V) (m : Int) (xs : List V), vs = [.str z, v, .int m] ∧ z.length ≤ 200 ∧ Sml m ∧ RowIn K H v xs ∧ xs.length ≤ 1000 ∧ (∀ x ∈ xs, RowOk H x) ∧ (xs.length ≤ m → ∀ (p : Addr) (H' : Hp), Same H H' → H' p = some (.tup xs) → Q (.ref p) H') ∧ (¬ xs.length ≤ m → ∀ H', Same H H' → E (.ref C) none H')
structure Wy where
  (a b : Int)
  (z : Str)
  (ns : List Int)
  (bk : Bool)
def Wy.good (y : Wy) (r : Int) : Prop := (0 ≤ y.a ∧ y.a < r) ∧ (0 ≤ y.b ∧ y.b < r) ∧ y.a ≠ y.b ∧ gateOk y.z y.ns = true
def WayIs (H : Hp) (x : V) (y : Wy) : Prop := ∃ p g, x = .ref p ∧ H p = some (.tup [.int y.a, .int y.b, .ref g, .bl y.bk]) ∧ H g = some (.tup (.str y.z :: y.ns.map V.int)) ∧ y.ns.length ≤ 10 ∧ Sml y.a ∧ Sml y.b ∧ (reprText y.z).length ≤ 2000 ∧ ∀ n ∈ y.ns, Sml n
def PairIs (H : Hp) (x : V) (a n : Int) : Prop := ∃ p, x = .ref p ∧ H p = some (.tup [.int a, .int n]) ∧ Sml a ∧ Sml n
theorem WayIs.mono {H H' : Hp} {x : V} {y : Wy} (s : TSame H H') (h : WayIs H x y) : WayIs H' x y := by
  obtain ⟨p, g, e, h1, h2, h3⟩ := h
  exact ⟨p, g, e, s _ _ h1, s _ _ h2, h3⟩
theorem PairIs.mono {H H' : Hp} {x : V} {a n : Int} (s : TSame H H') (h : PairIs H x a n) : PairIs H' x a n := by
  obtain ⟨p, e, h1, h3⟩ := h
  exact ⟨p, e, s _ _ h1, h3⟩
theorem WayIs.row {H : Hp} {x : V} {y : Wy} (h : WayIs H x y) : RowOk H x := by
  obtain ⟨p, g, e, h1, h2⟩ := h
  exact ⟨p, _, e, h1⟩
theorem PairIs.row {H : Hp} {x : V} {a n : Int} (h : PairIs H x a n) : RowOk H x := by
  obtain ⟨p, e, h1, h3⟩ := h
  exact ⟨p, _, e, h1⟩
def WaysIs (H : Hp) (zs : List V) (ys : Nat → Wy) : Prop := ∀ i x, zs[i]? = some x → WayIs H x (ys i)
def PairsIs (H : Hp) (zs : List V) (ys : Nat → Int × Int) : Prop := ∀ i x, zs[i]? = some x → PairIs H x (ys i).1 (ys i).2
def goodW (r : Int) (zs : List V) (ys : Nat → Wy) : Prop := zs.length ≤ 20 ∧ ∀ i, i < zs.length → (ys i).good r
def goodP (r m lo hi : Int) (zs : List V) (ys : Nat → Int × Int) : Prop := zs.length ≤ m ∧ ∀ i, i < zs.length → (0 ≤ (ys i).1 ∧ (ys i).1 < r) ∧ lo ≤ (ys i).2 ∧ (ys i).2 ≤ hi
def spMW (K : PySem.W.Frag) (C : Addr) : Sp := fun vs H Q E => ∃ (r : Int) (v : V) (zs : List V) (ys : Nat → Wy), vs = [.int r, v] ∧ Sml (r - 1) ∧ RowIn K H v zs ∧ WaysIs H zs ys ∧ zs.length ≤ 1000 ∧ (goodW r zs ys → ∀ (p : Addr) (H' : Hp), Same H H' → H' p = some (.tup zs) → Q (.ref p) H') ∧ (¬ goodW r zs ys → ∀ H', Same H H' → E (.ref C) none H')
def spMP (K : PySem.W.Frag) (C : Addr) : Sp := fun vs H Q E => ∃ (z : Str) (r : Int) (v : V) (m lo hi : Int) (zs : List V) (ys : Nat → Int × Int), vs = [.str z, .int r, v, .int m, .int lo, .int hi] ∧ z.length ≤ 100 ∧ Sml (r - 1) ∧ Sml m ∧ Sml lo ∧ Sml hi ∧ RowIn K H v zs ∧ PairsIs H zs ys ∧ zs.length ≤ 1000 ∧ (goodP r m lo hi zs ys → ∀ (p : Addr) (H' : Hp), Same H H' → H' p = some (.tup zs) → Q (.ref p) H') ∧ (¬ goodP r m lo hi zs ys → ∀ H', Same H H' → E (.ref C) none H')
theorem sml0 : Sml 0 := .of (by decide +kernel)
theorem sml20 : Sml 20 := .of (by decide +kernel)
theorem mem_get {zs : List V} {x : V} (h : x ∈ zs) : ∃ i : Nat, zs[i]? = some x := by
  obtain ⟨i, hi, e⟩ := List.mem_iff_getElem.mp h
  exact ⟨i, by simp [hi, e]⟩
structure Hand where
  (r f l b wt : Int)
  (v1 v2 v3 v4 : V)
  (z1 z2 z3 z4 : List V)
  (y1 : Nat → Wy)
  (y2 y3 y4 : Nat → Int × Int)
def Hand.vs (h : Hand) : List V := [.int h.r, .int h.f, .int h.l, h.v1, h.v2, h.v3, h.v4, .int h.b, .int h.wt]
structure HandOk (K : PySem.W.Frag) (H : Hp) (h : Hand) : Prop where
  sr : Sml h.r
  sr1 : Sml (h.r - 1)
  sf : Sml h.f
  sl : Sml h.l
  sb : Sml h.b
  sw : Sml h.wt
  i1 : RowIn K H h.v1 h.z1
  i2 : RowIn K H h.v2 h.z2
  i3 : RowIn K H h.v3 h.z3
  i4 : RowIn K H h.v4 h.z4
  w1 : WaysIs H h.z1 h.y1
  w2 : PairsIs H h.z2 h.y2
  w3 : PairsIs H h.z3 h.y3
  w4 : PairsIs H h.z4 h.y4
  l1 : h.z1.length ≤ 1000
  l2 : h.z2.length ≤ 1000
  l3 : h.z3.length ≤ 1000
  l4 : h.z4.length ≤ 1000
theorem HandOk.mono {K : PySem.W.Frag} {H H' : Hp} {h : Hand} (s : Same H H') (o : HandOk K H h) : HandOk K H' h :=
  ⟨o.sr, o.sr1, o.sf, o.sl, o.sb, o.sw, o.i1.mono s, o.i2.mono s, o.i3.mono s, o.i4.mono s, fun i x e => (o.w1 i x e).mono s.ts, fun i x e => (o.w2 i x e).mono s.ts, fun i x e => (o.w3 i x e).mono s.ts, fun i x e => (o.w4 i x e).mono s.ts, o.l1, o.l2, o.l3, o.l4⟩
structure Hand.good (h : Hand) : Prop where
  r : 1 ≤ h.r ∧ h.r ≤ 14
  f : 0 ≤ h.f ∧ h.f ≤ h.r - 1
  l : 0 ≤ h.l ∧ h.l ≤ h.r - 1
  b : 0 ≤ h.b ∧ h.b ≤ 255
  w : 0 ≤ h.wt ∧ h.wt ≤ 9
  g1 : goodW h.r h.z1 h.y1
  g2 : goodP h.r 8 0 11 h.z2 h.y2
  g3 : goodP h.r 4 1 255 h.z3 h.y3
  g4 : goodP h.r 4 0 9 h.z4 h.y4
def Made (h : Hand) (p : Addr) (H : Hp) : Prop := ∃ p1 p2 p3 p4, H p = some (.tup [.int h.r, .int h.f, .int h.l, .ref p1, .ref p2, .ref p3, .ref p4, .int h.b, .int h.wt]) ∧ H p1 = some (.tup h.z1) ∧ H p2 = some (.tup h.z2) ∧ H p3 = some (.tup h.z3) ∧ H p4 = some (.tup h.z4)
def spMkC (K : PySem.W.Frag) (C : Addr) : Sp := fun vs H Q E => ∃ h : Hand, vs = h.vs ∧ HandOk K H h ∧ (h.good → ∀ (p : Addr) (H' : Hp), Same H H' → Made h p H' → Q (.ref p) H') ∧ (¬ h.good → ∀ H', Same H H' → E (.ref C) none H')
theorem sml1 : Sml 1 := .of (by decide +kernel)
theorem sml4 : Sml 4 := .of (by decide +kernel)
theorem sml8 : Sml 8 := .of (by decide +kernel)
theorem sml9 : Sml 9 := .of (by decide +kernel)
theorem sml11 : Sml 11 := .of (by decide +kernel)
theorem sml14 : Sml 14 := .of (by decide +kernel)
theorem sml255 : Sml 255 := .of (by decide +kernel)
theorem sml_in {n : Int} (h1 : -100000 ≤ n) (h2 : n ≤ 100000) : Sml n := .of (by
  have : n.natAbs ≤ 100000 := by omega
  exact Nat.lt_of_le_of_lt this (by decide +kernel))
theorem r_slA {K : PySem.W.Frag} {H : Hp} {Q : VK} {a : Addr} {xs : List V} {lo hi : Option Int} (h : H a = some (.tup xs)) (q : ∀ (r : Addr) (H' : Hp), Same H H' → H' r = some (.tup (cutV xs lo hi)) → Q (.ref r) H') : rSlTA K (.ref a) lo hi H Q :=
  ⟨a, xs, rfl, SqT.of h, fun e => q a H (Same.refl _) (by rw [e]; exact h), fun p hp => q p _ (Same.upd hp) upd_same⟩
theorem r_catA {K : PySem.W.Frag} {H : Hp} {Q : VK} {a b : Addr} {xs ys : List V} (h : H a = some (.tup xs)) (h2 : H b = some (.tup ys)) (hz : xs.length + ys.length ≤ sizeLine) (q : ∀ (r : Addr) (H' : Hp), Same H H' → H' r = some (.tup (xs ++ ys)) → Q (.ref r) H') : rCatTA K (.ref a) (.ref b) H Q :=
  ⟨a, b, xs, ys, rfl, rfl, SqT.of h, SqT.of h2, hz, fun e => q b H (Same.refl _) (by rw [e]; exact h2), fun _ e => q a H (Same.refl _) (by rw [e, List.append_nil]; exact h), fun _ _ p hp => q p _ (Same.upd hp) upd_same⟩
def wyW (x : Way) : Wy := ⟨x.a, x.b, x.g.word, x.g.ns, x.back⟩
theorem gt_ns {g : Gt} (h : g.ok) : ∀ n ∈ g.ns, Sml n := fun n hn => by
  cases g with
  | plain => cases hn
  | door k => obtain rfl := List.mem_singleton.mp hn; have : 0 ≤ n ∧ n < 12 := h; exact sml_in (by omega) (by omega)
  | need k => obtain rfl := List.mem_singleton.mp hn; have : 0 ≤ n ∧ n < 12 := h; exact sml_in (by omega) (by omega)
  | bar k => obtain rfl := List.mem_singleton.mp hn; have : 0 ≤ n ∧ n < 8 := h; exact sml_in (by omega) (by omega)
  | float k => obtain rfl := List.mem_singleton.mp hn; have : 0 ≤ n ∧ n < 10 := h; exact sml_in (by omega) (by omega)
  | wade a k =>
    have z : (0 ≤ a ∧ a < 10) ∧ 0 ≤ k ∧ k < 12 := h
    rcases List.mem_cons.mp hn with rfl | hn
    · exact sml_in (by omega) (by omega)
    · obtain rfl := List.mem_singleton.mp hn
      exact sml_in (by omega) (by omega)
theorem gt_word (g : Gt) : (reprText g.word).length ≤ 2000 := by
  cases g with
  | plain => show (reprText "plain").length ≤ 2000; decide +kernel
  | door k => show (reprText "door").length ≤ 2000; decide +kernel
  | need k => show (reprText "need").length ≤ 2000; decide +kernel
  | bar k => show (reprText "bar").length ≤ 2000; decide +kernel
  | wade a k => show (reprText "wade").length ≤ 2000; decide +kernel
  | float k => show (reprText "float").length ≤ 2000; decide +kernel
theorem way_is {H : Hp} {p : Addr} {x : Way} {r : Int} (h : WayAt H p x) (o : WOk r x) (hr : r ≤ 14) : WayIs H (.ref p) (wyW x) := by
  obtain ⟨g, h1, h2⟩ := h
  obtain ⟨a, b, c, d⟩ := o
  rw [Gt.vs_eq] at h2
  exact ⟨p, g, rfl, h1, h2, by have := x.g.ns_len; show x.g.ns.length ≤ 10; omega, sml_in (by show (-100000 : Int) ≤ x.a; omega) (by show x.a ≤ 100000; omega), sml_in (by show (-100000 : Int) ≤ x.b; omega) (by show x.b ≤ 100000; omega), gt_word _, gt_ns d⟩
theorem rows_at {α : Type} {At : Hp → Addr → α → Prop} {H : Hp} {ps : List Addr} {ys : List α} (h : Rows At H ps ys) {i : Nat} {x : V} (e : (ps.map V.ref)[i]? = some x) (d : α) : ∃ p, x = .ref p ∧ At H p (ys.getD i d) ∧ ys.getD i d ∈ ys := by
  have hi : i < ps.length := by have := (List.getElem?_eq_some_iff.mp e).1; simpa using this
  have hj : i < ys.length := by rw [← h.1]; exact hi
  have eg : ys.getD i d = ys[i] := by simp [List.getD, hj]
  refine ⟨ps[i], by simpa [hi] using e.symm, ?_, ?_⟩
  · rw [eg]
    exact h.2 i _ _ (by simp [hi]) (by simp [hj])
  · rw [eg]
    exact List.getElem_mem hj
theorem get_mem {α : Type} {ys : List α} {i : Nat} (d : α) (hi : i < ys.length) : ys.getD i d ∈ ys := by
  rw [show ys.getD i d = ys[i] by simp [List.getD, hi]]
  exact List.getElem_mem hi
section
variable {P : Program} {w : World} {K : PySem.W.Frag} {mg : Str → Option Value} {base : Heap} {xs : Xs} {cs : Cs}

theorem ok_within (T : Txt mg cs) (L : Laid K mg "within" s_within ["number", "least", "most"]) : Cal P w K mg base 1 "within" ["number", "least", "most"] spWithin := by
  refine L.cal (k := 0) sc_within (fun vs H Q E h => ?_) (fun f cdv A outer s H vs Q E hr h => ?_)
  · obtain ⟨n, a, b, rfl, _⟩ := h
    rfl
  · obtain ⟨n, a, b, rfl, k⟩ := h
    refine ⟨_, (pss_cons (ps_if (PW.pt (pw_or (pt_val (pe_callB call_isiS rfl T.n_isinstance bt_isinstance (pa_cons (pv 0) (pa_cons (pe_bltn (v := .ty "bool") rfl T.n_bool bt_bool rfl) pa_nil)))) (pw_or1 (pt_not (pt_val (pe_callB call_isiS rfl T.n_isinstance bt_isinstance (pa_cons (pv 0) (pa_cons (pe_bltn (v := .ty "int") rfl T.n_int bt_int rfl) pa_nil)))))))) (pss_one (ps_ret pe_bl)) pss_nil)
      (pss_one (ps_ret (pe_chain op_le op_le (pv 1) (pv 0) (pv 2))))), ?_⟩
    refine ⟨_, rfl, _, "bool", "int", rfl, rfl, by decide, _, rfl, ?_⟩
    rw [subS_ib]
    refine iteF ?_
    refine ⟨_, rfl, _, "int", "int", rfl, rfl, by decide, _, rfl, ?_⟩
    rw [subS_ii]
    refine iteF ?_
    refine ⟨_, rfl, _, rfl, _, _, rfl, rfl, _, rfl, ?_⟩
    refine ite2 (fun h1 => ?_) (fun h1 => ?_)
    · refine ⟨_, rfl, _, _, rfl, rfl, ?_⟩
      rw [h1, Bool.true_and] at k
      exact k
    · have h1' : decide (a ≤ n) = false := by simpa using h1
      rw [h1', Bool.false_and] at k
      exact k
theorem ok_tops_of (T : Txt mg cs) (L : Laid K mg "tops_of" s_tops_of ["word"]) : Cal P w K mg base 1 "tops_of" ["word"] spTops := by
  obtain ⟨t1, e_LAST_KIND⟩ := T.e_LAST_KIND
  obtain ⟨t2, e_LAST_BAR⟩ := T.e_LAST_BAR
  obtain ⟨t3, e_TOP_HEIGHT⟩ := T.e_TOP_HEIGHT
  refine L.cal (k := 0) sc_tops_of (fun vs H Q E h => ?_) (fun f cdv A outer s H vs Q E hr h => ?_)
  · obtain ⟨z, rfl, _⟩ := h
    rfl
  · obtain ⟨z, rfl, k⟩ := h
    refine ⟨_, (pss_cons (ps_if (pt_cmpR op_eq (pv 0) pe_str (nomark _)) (pss_one (ps_ret (pe_tup pa_nil))) pss_nil)
      (pss_cons (ps_if (PW.pt (pw_or (pt_cmpR op_eq (pv 0) pe_str (nomark _)) (pw_or1 (pt_cmpR op_eq (pv 0) pe_str (nomark _))))) (pss_one (ps_ret (pe_tup (pa_cons (pe_glob (v := .int 11) rfl e_LAST_KIND ⟨_, rfl⟩) pa_nil)))) pss_nil)
      (pss_cons (ps_if (pt_cmpR op_eq (pv 0) pe_str (nomark _)) (pss_one (ps_ret (pe_tup (pa_cons (pe_glob (v := .int 7) rfl e_LAST_BAR ⟨_, rfl⟩) pa_nil)))) pss_nil)
      (pss_cons (ps_if (pt_cmpR op_eq (pv 0) pe_str (nomark _)) (pss_one (ps_ret (pe_tup (pa_cons (pe_glob (v := .int 9) rfl e_TOP_HEIGHT ⟨_, rfl⟩) (pa_cons (pe_glob (v := .int 11) rfl e_LAST_KIND ⟨_, rfl⟩) pa_nil))))) pss_nil)
      (pss_cons (ps_if (pt_cmpR op_eq (pv 0) pe_str (nomark _)) (pss_one (ps_ret (pe_tup (pa_cons (pe_glob (v := .int 9) rfl e_TOP_HEIGHT ⟨_, rfl⟩) pa_nil)))) pss_nil)
      (pss_one (ps_ret pe_non))))))), ?_⟩
    have fin : ∀ l : List Int, topsOf z = some l → ∀ p, H p = none → Q (.ref p) (upd H p (.tup (l.map V.int))) := fun l e p hp => k _ _ (Same.upd hp) (by rw [e]; exact ⟨p, rfl, upd_same⟩)
    have S : ∀ {y : Str}, decide (V.str z = V.str y) = true → z = y := fun h => by have := of_decide_eq_true h; cases this; rfl
    have N : ∀ {y : Str}, ¬ decide (V.str z = V.str y) = true → ¬ z = y := fun h e => h (by rw [e]; exact decide_eq_true rfl)
    refine ⟨_, rfl, rfl, _, rfl, ite2 (fun h1 => ?_) (fun h1 => ?_)⟩
    · exact ⟨by decide, fun p hp => fin [] (by rw [S h1]; exact topsOf_plain) p hp⟩
    refine ⟨_, rfl, rfl, _, rfl, ?_⟩
    refine ite2 (fun h2 => ?_) (fun h2 => ?_)
    · refine iteT ?_
      exact ⟨by decide, fun p hp => fin [11] (by rw [S h2]; exact topsOf_door) p hp⟩
    refine ⟨_, rfl, rfl, _, rfl, ite2 (fun h3 => ?_) (fun h3 => ?_)⟩
    · exact ⟨by decide, fun p hp => fin [11] (by rw [S h3]; exact topsOf_need) p hp⟩
    refine ⟨_, rfl, rfl, _, rfl, ite2 (fun h4 => ?_) (fun h4 => ?_)⟩
    · exact ⟨by decide, fun p hp => fin [7] (by rw [S h4]; exact topsOf_bar) p hp⟩
    refine ⟨_, rfl, rfl, _, rfl, ite2 (fun h5 => ?_) (fun h5 => ?_)⟩
    · exact ⟨by decide, fun p hp => fin [9, 11] (by rw [S h5]; exact topsOf_wade) p hp⟩
    refine ⟨_, rfl, rfl, _, rfl, ite2 (fun h6 => ?_) (fun h6 => ?_)⟩
    · exact ⟨by decide, fun p hp => fin [9] (by rw [S h6]; exact topsOf_float) p hp⟩
    exact k _ _ (Same.refl _) (by rw [topsOf_none (N h1) (N h2) (N h3) (N h4) (N h5) (N h6)]; rfl)
theorem ok_is_gate (T : Txt mg cs) (L : Laid K mg "is_gate" s_is_gate ["thing"]) (C_tops_of : Cal P w K mg base 1 "tops_of" ["word"] spTops) (C_within : Cal P w K mg base 1 "within" ["number", "least", "most"] spWithin) : Cal P w K mg base 2 "is_gate" ["thing"] spIsGate := by
  refine L.cal (k := 1) sc_is_gate (fun vs H Q E h => ?_) (fun f cdv A outer s H vs Q E hr h => ?_)
  · obtain ⟨p, z, ns, rfl, _⟩ := h
    rfl
  · obtain ⟨p, z, ns, rfl, hp, hl, k⟩ := h
    refine ⟨_, (pss_cons (ps_if (PW.pt (pw_or (pt_not (pt_val (pe_callB call_isiS rfl T.n_isinstance bt_isinstance (pa_cons (pv 0) (pa_cons (pe_bltn (v := .ty "tuple") rfl T.n_tuple bt_tuple rfl) pa_nil))))) (pw_or1 (pt_cmpR op_eq (pe_callB (lenK K) rfl T.n_len bt_len (pa_cons (pv 0) pa_nil)) pe_int (nomark _))))) (pss_one (ps_ret pe_bl)) pss_nil)
      (pss_cons (ps_set (i := 1) sc_is_gate.nd rfl (Or.inl rfl) (pe_cal C_tops_of hr (by decide) rfl (pa_cons (pe_ix (ix_tupK K) (pv 0) pe_int (fun _ _ => rfl)) pa_nil)))
      (pss_cons (ps_set (i := 2) sc_is_gate.nd rfl (Or.inl rfl) (pe_slice (sl_tupAK K) (pv 0) (po_some pe_int) po_none))
      (pss_cons (ps_if (PW.pt (pw_or (pt_cmp (pc_isN (pv 1))) (pw_or1 (pt_cmpR op_ne (pe_callB (lenK K) rfl T.n_len bt_len (pa_cons (pv 2) pa_nil)) (pe_callB (lenK K) rfl T.n_len bt_len (pa_cons (pv 1) pa_nil)) (nomark _))))) (pss_one (ps_ret pe_bl)) pss_nil)
      (pss_one (ps_ret (pe_callB (call_allK K rfl) rfl T.n_all bt_all (pa_cons (pe_comp (compOk (N := ["number", "top"]) (own := 2) (caps := []) ["thing", "tops", "numbers"] (defScope s_is_gate) (by decide +kernel)) rfl (pi_zipTK K rfl T.n_zip (pa_cons (pv 2) (pa_cons (pv 1) pa_nil))) (fun _ _ _ _ => (pg_tupK (n := 2) K rfl (pgs_cons (pg_name (i := 0) (show List.Nodup (["number", "top"] : List Str) by decide +kernel) rfl (Or.inl rfl)) (pgs_cons (pg_name (i := 1) (show List.Nodup (["number", "top"] : List Str) by decide +kernel) rfl (Or.inl rfl)) pgs_nil)))) (fun _ _ _ _ => pf_nil) (fun _ _ _ _ => (pe_cal C_within hr (by decide) rfl (pa_cons (pv 0) (pa_cons pe_int (pa_cons (pv 1) pa_nil)))))) pa_nil)))))))), ?_⟩
    refine ⟨_, rfl, _, "tuple", "tuple", rfl, tyS_tup hp, by decide, _, rfl, ?_⟩
    rw [subS_tt]
    refine iteF ?_
    refine ⟨_, rfl, p, _, rfl, .inr (SqT.of hp), rfl, _, rfl, ite2 (fun h1 => ?_) (fun _ => ?_)⟩
    · have := of_decide_eq_true h1
      simp at this
      omega
    refine ⟨_, rfl, p, _, _, _, rfl, rfl, SqT.of hp, atI_nat (j := 0) rfl, z, rfl, fun v H1 s1 tv => ?_⟩
    have hp1 := s1 _ _ hp
    refine ⟨_, rfl, _, rfl, p, _, rfl, SqT.of hp1, fun e => ?_, fun q hq => ?_⟩
    · rw [cutV_tail] at e
      have := congrArg List.length e
      simp at this
    rw [cutV_tail]
    have s2 : Same H (upd H1 q (.tup (ns.map V.int))) := s1.trans (Same.upd hq)
    cases ht : topsOf z with
    | none =>
      rw [ht] at tv
      obtain rfl : v = .non := tv
      refine ⟨_, rfl, _, rfl, iteT (iteT ?_)⟩
      have := k _ s2
      rw [gateOk_none ht] at this
      exact this
    | some ts =>
      rw [ht] at tv
      obtain ⟨r, rfl, hr0⟩ := tv
      have hr1 : (upd H1 q (.tup (ns.map V.int))) r = some (.tup (ts.map V.int)) := by rw [upd_ne (ne_of_none hr0 hq)]; exact hr0
      refine ⟨_, rfl, _, rfl, iteF ?_⟩
      refine ⟨_, rfl, q, _, rfl, .inr (SqT.of upd_same), _, rfl, r, _, rfl, .inr (SqT.of hr1), rfl, _, rfl, ite2 (fun h1 => ?_) (fun h1 => ?_)⟩
      · have hne : ¬ ns.length = ts.length := fun e => by simp [e] at h1
        have := k _ s2
        rw [gateOk_len ht hne] at this
        exact this
      · have hlen : ns.length = ts.length := by
          simp at h1
          omega
        refine ⟨_, rfl, _, rfl, q, r, rfl, ⟨_, SqT.of upd_same⟩, ⟨_, SqT.of hr1⟩, fun D hD => ?_⟩
        refine comp_by ns.length (fun i σ H' => ∃ v0 v1, σ = [v0, v1] ∧ Same (upd H1 q (.tup (ns.map V.int))) H' ∧ H' D = some (.lst (((List.zipWith chk ns ts).take i).map V.bl))) ⟨none, none, rfl, Same.upd hD, upd_same⟩ ?_ ?_
        · rintro i σ H' hi ⟨v0, v1, rfl, s3, hD3⟩
          have hq3 := s3 _ _ (upd_same (H := H1) (a := q) (o := .tup (ns.map V.int)))
          have hr3 := s3 _ _ hr1
          refine ⟨⟨_, _, V.int (ns.getD i 0), V.int (ts.getD i 0), SqT.of hq3, SqT.of hr3, by simp [List.getD, hi], by simp [List.getD, show i < ts.length by omega]⟩, ?_⟩
          rintro x H4 ⟨t, ht0, rfl, hy⟩
          have e4 := hy _ _ (V.int (ns.getD i 0)) (V.int (ts.getD i 0)) (SqT.of hq3) (SqT.of hr3) (by simp [List.getD, hi]) (by simp [List.getD, show i < ts.length by omega])
          subst e4
          refine ⟨t, _, rfl, SqT.of upd_same, rfl, _, _, rfl, _, _, rfl, rfl, ?_⟩
          have nD : D ≠ t := ne_of_none hD3 ht0
          refine ⟨_, rfl, _, rfl, _, _, _, rfl, _, (by rw [upd_ne nD]; exact hD3), ?_, _, _, rfl, ?_, ?_⟩
          · rw [List.length_map, List.length_take]
            exact Nat.lt_of_le_of_lt (Nat.min_le_left _ _) (Nat.lt_trans hi (Nat.lt_of_le_of_lt hl (by decide)))
          · intro b o e
            have nb : b ≠ D := ne_of_none e hD
            rw [upd_ne nb, upd_ne (ne_of_none (s3 b o e) ht0)]
            exact s3 b o e
          · rw [upd_same, List.take_add_one]
            have e5 : (List.zipWith chk ns ts)[i]? = some (chk (ns.getD i 0) (ts.getD i 0)) := by
              rw [List.getElem?_zipWith]
              simp [List.getD, hi, show i < ts.length by omega]
            rw [e5]
            simp [chk]
        · rintro σ H' ⟨v0, v1, rfl, s3, hD3⟩
          have hq3 := s3 _ _ (upd_same (H := H1) (a := q) (o := .tup (ns.map V.int)))
          have hr3 := s3 _ _ hr1
          refine ⟨⟨_, _, SqT.of hq3, SqT.of hr3, .inl (by simp)⟩, D, List.zipWith chk ns ts, rfl, SqL.of ?_, ?_⟩
          · rw [hD3, List.take_of_length_le (by rw [List.length_zipWith]; omega)]
          · have := k _ (s2.trans s3)
            rw [gateOk_all ht hlen] at this
            exact this
theorem ok_check (T : Txt mg cs) (TX : Tx K mg xs) (L : Laid K mg "check_number" s_check_number ["name", "number", "least", "most"]) (C_within : Cal P w K mg base 1 "within" ["number", "least", "most"] spWithin) : CalX P w K mg base 2 "check_number" ["name", "number", "least", "most"] (spCheck xs.NoCellar) := by
  refine L.calX (k := 1) sc_check_number (fun vs H Q E h => ?_) (fun f cdv A outer s H vs Q E hr h => ?_)
  · obtain ⟨z, n, a, b, rfl, _⟩ := h
    rfl
  · obtain ⟨z, n, a, b, rfl, hz, hn, ha, hb, k, ke⟩ := h
    refine ⟨_, (pss_one (ps_if (pt_not (pt_val (pe_cal C_within hr (by decide) rfl (pa_cons (pv 1) (pa_cons (pv 2) (pa_cons (pv 3) pa_nil)))))) (pss_one (ps_raise raises_xe rfl rfl TX.at_NoCellar TX.ex_NoCellar (pa_cons (pe_join (.cons (pe_fm (pv 0)) (.cons pe_str (.cons (pe_fr (pv 1)) (.cons pe_str (.cons (pe_fm (pv 2)) (.cons pe_str (.cons (pe_fm (pv 3)) .nil)))))))) pa_nil))) pss_nil)), ?_⟩
    walk_at "rd"
    refine ⟨n, a, b, rfl, ?_⟩
    by_cases hg : a ≤ n ∧ n ≤ b
    · rw [show (decide (a ≤ n) && decide (n ≤ b)) = true by simp [hg]]
      walk_at "rd"
      exact k hg
    · rw [show (decide (a ≤ n) && decide (n ≤ b)) = false by rw [← Bool.not_eq_true]; simpa using hg]
      walk_at "rd"
      refine r_raise ?_
      walk_at "rd"
      refine jfs (y := z) (b := 1000) (by omega) (by omega) (fun K h => ⟨_, rfl, h⟩) fun m1 h1 => ?_
      refine jc (by decide +kernel) (by omega) fun m2 h2 => ?_
      refine jfr hn (by omega) (fun K h => ⟨_, rfl, h⟩) fun m3 h3 => ?_
      refine jc (by decide +kernel) (by omega) fun m4 h4 => ?_
      refine jfi ha (by omega) (fun K h => ⟨_, rfl, h⟩) fun m5 h5 => ?_
      refine jc (by decide +kernel) (by omega) fun m6 h6 => ?_
      refine jfi hb (by omega) (fun K h => ⟨_, rfl, h⟩) fun m7 h7 => ?_
      refine jn fun y hy => ?_
      walk_at "rd"
      exact ke hg
theorem ok_rows (T : Txt mg cs) (TX : Tx K mg xs) (L : Laid K mg "made_rows" s_made_rows ["name", "rows", "most"]) : CalX P w K mg base 1 "made_rows" ["name", "rows", "most"] (spRows K xs.NoCellar) := by
  refine L.calX (k := 0) sc_made_rows (fun vs H Q E h => ?_) (fun f cdv A outer s H vs Q E hr h => ?_)
  · obtain ⟨z, v, m, xs, rfl, _⟩ := h
    rfl
  · obtain ⟨z, v, m, ys, rfl, hz, hm, hv, hl, ok, k, ke⟩ := h
    have big := line_big
    have step : ∀ (D : Addr) (H' : Hp) (i : Nat) (x : V), H D = none → ys[i]? = some x → Same H H' → H' D = some (.lst (ys.take i)) → ∃ zs, H' D = some (.lst zs) ∧ zs.length < sizeLine ∧ ∃ v0, ([some x] : St) = [v0] ∧ Same H (upd H' D (.lst (zs ++ [x]))) ∧ (upd H' D (.lst (zs ++ [x]))) D = some (.lst (ys.take (i + 1))) := by
      intro D H' i x hD hx s1 hd
      refine ⟨_, hd, by rw [List.length_take]; omega, _, rfl, s1.put hD, ?_⟩
      rw [upd_same, List.take_add_one, hx]
      rfl
    obtain ⟨p, rfl, hp⟩ := hv
    · refine ⟨_, (pss_cons (ps_set (i := 3) sc_made_rows.nd rfl (Or.inl rfl) (pe_ifExp (pt_cmp (pc_isN (pv 1))) (pe_tup pa_nil) (pe_callTy (tupOfK K) rfl T.n_tuple bt_tuple (pa_cons (pe_nox (pe_comp (compOk (N := ["row"]) (own := 1) (caps := []) ["name", "rows", "most", "made"] (defScope s_made_rows) (by decide +kernel)) rfl (pi_tupK K (pv 1)) (fun _ _ _ _ => (pg_name (i := 0) (show List.Nodup (["row"] : List Str) by decide +kernel) rfl (Or.inl rfl))) (fun _ _ _ _ => pf_nil) (fun _ _ _ _ => (pe_callTy (tupOfK K) rfl T.n_tuple bt_tuple (pa_cons (pv 0) pa_nil))))) pa_nil))))
      (pss_cons (ps_if (pt_cmpR op_gt (pe_callB (lenK K) rfl T.n_len bt_len (pa_cons (pv 3) pa_nil)) (pv 2) (nomark _)) (pss_one (ps_raise raises_xe rfl rfl TX.at_NoCellar TX.ex_NoCellar (pa_cons (pe_join (.cons (pe_fm (pv 0)) (.cons pe_str (.cons (pe_fm (pv 2)) .nil)))) pa_nil))) pss_nil)
      (pss_one (ps_ret (pv 3))))), ?_⟩
      walk_at "rd"
      refine ifd (fun h => nomatch h) (fun _ => ?_)
      walk_at "rd"
      intro D hD
      refine comp_tpl ys (fun i σ H' => ∃ v0, σ = [v0] ∧ Same H H' ∧ H' D = some (.lst (ys.take i))) ⟨none, rfl, Same.upd hD, by rw [upd_same]; rfl⟩ ?_ ?_ ?_
      · rintro i σ H' ⟨_, rfl, s1, _⟩
        exact seqT s1 hp
      · rintro i x σ H' hx ⟨v0, rfl, s1, hd⟩
        obtain ⟨a, ys', rfl, ha⟩ := ok x (List.mem_of_getElem? hx)
        have ha1 := s1 _ _ ha
        walk_at "rd"
        exact r_tot (SqT.of ha1) (step D H' i _ hD hx s1 hd)
      · rintro σ H' ⟨v0, rfl, s1, hd⟩
        rw [List.take_length] at hd
        walk_at "rd"
        refine r_tol (SqL.of hd) fun q hq => ?_
        walk_at "rd"
        refine ifd (fun h => ?_) (fun h => ?_)
        · refine r_raise ?_
          walk_at "rd"
          refine jfs (y := z) (b := 1000) (by omega) (by omega) (fun K h => ⟨_, rfl, h⟩) fun m1 h1 => ?_
          refine jc (by decide +kernel) (by omega) fun m2 h2 => ?_
          refine jfi hm (by omega) (fun K h => ⟨_, rfl, h⟩) fun m3 h3 => ?_
          refine jn fun y hy => ?_
          walk_at "rd"
          exact ke (by omega) _ (s1.trans (Same.upd hq))
        walk_at "rd"
        exact k (by omega) q _ (s1.trans (Same.upd hq)) upd_same
theorem ok_mw (T : Txt mg cs) (TX : Tx K mg xs) (L : Laid K mg "made_ways" s_made_ways ["rooms", "ways"]) (C_check_number : CalX P w K mg base 2 "check_number" ["name", "number", "least", "most"] (spCheck xs.NoCellar)) (C_made_rows : CalX P w K mg base 1 "made_rows" ["name", "rows", "most"] (spRows K xs.NoCellar)) (C_is_gate : Cal P w K mg base 2 "is_gate" ["thing"] spIsGate) : CalX P w K mg base 3 "made_ways" ["rooms", "ways"] (spMW K xs.NoCellar) := by
  obtain ⟨t1, e_MOST_WAYS⟩ := T.e_MOST_WAYS
  refine L.calX (k := 2) sc_made_ways (fun vs H Q E h => ?_) (fun f cdv A outer s H vs Q E hr h => ?_)
  · obtain ⟨r, v, zs, ys, rfl, _⟩ := h
    rfl
  · obtain ⟨r, v, zs, ys, rfl, hsr, hv, ok, hl, k, ke⟩ := h
    have hu := hu_of hr
    refine ⟨_, (pss_cons (ps_set (i := 2) sc_made_ways.nd rfl (Or.inl rfl) (pe_calX C_made_rows pass_xe hr (by decide) rfl (pa_cons pe_str (pa_cons (pv 1) (pa_cons (pe_glob (v := .int 20) rfl e_MOST_WAYS ⟨_, rfl⟩) pa_nil)))))
      (pss_cons (ps_for PassesOwn.leaving rfl (pi_tupK K (pv 2)) (pg_tupK (n := 4) K rfl (pgs_cons (pg_name (i := 3) sc_made_ways.nd rfl (Or.inl rfl)) (pgs_cons (pg_name (i := 4) sc_made_ways.nd rfl (Or.inl rfl)) (pgs_cons (pg_name (i := 5) sc_made_ways.nd rfl (Or.inl rfl)) (pgs_cons (pg_name (i := 6) sc_made_ways.nd rfl (Or.inl rfl)) pgs_nil))))) (pss_cons (ps_expr (pe_calX C_check_number pass_xe hr (by decide) rfl (pa_cons pe_str (pa_cons (pv 3) (pa_cons pe_int (pa_cons (pe_op op_sub (pv 0) pe_int) pa_nil))))))
      (pss_cons (ps_expr (pe_calX C_check_number pass_xe hr (by decide) rfl (pa_cons pe_str (pa_cons (pv 4) (pa_cons pe_int (pa_cons (pe_op op_sub (pv 0) pe_int) pa_nil))))))
      (pss_cons (ps_if (pt_cmpR op_eq (pv 3) (pv 4) (nomark _)) (pss_one (ps_raise raises_xe rfl rfl TX.at_NoCellar TX.ex_NoCellar (pa_cons (pe_join (.cons pe_str (.cons (pe_fm (pv 3)) (.cons pe_str .nil)))) pa_nil))) pss_nil)
      (pss_one (ps_if (pt_not (pt_val (pe_cal C_is_gate hr (by decide) rfl (pa_cons (pv 5) pa_nil)))) (pss_one (ps_raise raises_xe rfl rfl TX.at_NoCellar TX.ex_NoCellar (pa_cons (pe_join (.cons pe_str (.cons (pe_ft hr.gd (hu8_of hr) (pv 5)) (.cons pe_str .nil)))) pa_nil))) pss_nil))))))
      (pss_one (ps_ret (pv 2))))), ?_⟩
    walk_at "rd"
    refine ⟨_, v, 20, zs, rfl, by decide +kernel, sml20, hv, hl, fun x hx => ?_, fun h20 p H1 s1 hp => ?_, fun h20 H1 s1 => ke (fun g => h20 (by have := g.1; omega)) H1 s1⟩
    · obtain ⟨i, e⟩ := mem_get hx
      exact (ok i x e).row
    have no : ∀ (i : Nat) (H' : Hp), Same H H' → i < zs.length → ¬ (ys i).good r → E (.ref xs.NoCellar) none H' := fun i H' s hi hg => ke (fun g => hg (g.2 i hi)) H' s
    walk_at "rd"
    refine for_tpl zs (fun i σ H' => ∃ v3 v4 v5 v6, σ = [some (.int r), some v, some (.ref p), v3, v4, v5, v6] ∧ Same H1 H' ∧ ∀ j, j < i → (ys j).good r) ⟨none, none, none, none, rfl, Same.refl _, fun j hj => absurd hj (by omega)⟩ ?_ ?_ ?_
    · rintro i σ H' ⟨_, _, _, _, rfl, s2, _⟩
      exact SqT.of (s2 _ _ hp)
    · rintro i x σ H' hx ⟨v3, v4, v5, v6, rfl, s2, g0⟩
      have hi : i < zs.length := (List.getElem?_eq_some_iff.mp hx).1
      have s12 := s1.trans s2
      have no' : ∀ H2, Same H' H2 → ¬ (ys i).good r → E (.ref xs.NoCellar) none H2 := fun H2 s3 hg => no i H2 (s12.trans s3) hi hg
      obtain ⟨p1, g, rfl, hp1, hg, hnl, sa, sb, hzz, sn⟩ := (ok i x hx).mono s12.ts
      walk_at "rd"
      refine ⟨_, (ys i).a, 0, r - 1, rfl, by decide +kernel, sa, sml0, hsr, fun ha => ?_, fun ha => no' _ (.refl _) fun g => ha (by have := g.1; omega)⟩
      walk_at "rd"
      refine ⟨_, (ys i).b, 0, r - 1, rfl, by decide +kernel, sb, sml0, hsr, fun hb => ?_, fun hb => no' _ (.refl _) fun g => hb (by have := g.2.1; omega)⟩
      walk_at "rd"
      refine ifd (fun hab => ?_) (fun hab => ?_)
      · refine r_raise ?_
        walk_at "rd"
        refine jc (by decide +kernel) (by omega) fun m1 h1 => ?_
        refine jfi sa (by omega) (fun K h => ⟨_, rfl, h⟩) fun m2 h2 => ?_
        refine jc (by decide +kernel) (by omega) fun m3 h3 => ?_
        refine jn fun y hy => ?_
        walk_at "rd"
        exact no' _ (.refl _) fun g => g.2.2.1 hab
      walk_at "rd"
      refine ⟨g, (ys i).z, (ys i).ns, rfl, hg, by omega, fun H2 s3 => ?_⟩
      by_cases hgo : gateOk (ys i).z (ys i).ns = true
      · rw [hgo]
        walk_at "rd"
        exact ⟨_, _, _, _, rfl, s2.trans s3, fun j hj => if e : j = i then by subst e; exact ⟨by omega, by omega, hab, hgo⟩ else g0 j (by omega)⟩
      · rw [Bool.not_eq_true] at hgo
        rw [hgo]
        walk_at "rd"
        refine r_raise ?_
        walk_at "rd"
        refine jc (by decide +kernel) (by omega) fun m1 h1 => ?_
        refine jft (s3 _ _ hg) (by simp; omega) (fun y hy => ?_) (by omega) (fun K h => ⟨_, rfl, h⟩) fun m2 h2 => ?_
        · rcases List.mem_cons.mp hy with rfl | hy
          · exact hzz
          · obtain ⟨n, hn, rfl⟩ := List.mem_map.mp hy
            exact sn n hn
        refine jc (by decide +kernel) (by omega) fun m3 h3 => ?_
        refine jn fun y hy => ?_
        walk_at "rd"
        exact no' _ s3 fun g => by have := g.2.2.2; rw [hgo] at this; cases this
    · rintro σ H' ⟨v3, v4, v5, v6, rfl, s2, g0⟩
      walk_at "rd"
      exact k ⟨by omega, g0⟩ p H' (s1.trans s2) (s2 _ _ hp)
theorem ok_mp (T : Txt mg cs) (TX : Tx K mg xs) (L : Laid K mg "made_pairs" s_made_pairs ["name", "rooms", "pairs", "most_pairs", "least", "most"]) (C_check_number : CalX P w K mg base 2 "check_number" ["name", "number", "least", "most"] (spCheck xs.NoCellar)) (C_made_rows : CalX P w K mg base 1 "made_rows" ["name", "rows", "most"] (spRows K xs.NoCellar)) : CalX P w K mg base 3 "made_pairs" ["name", "rooms", "pairs", "most_pairs", "least", "most"] (spMP K xs.NoCellar) := by
  refine L.calX (k := 2) sc_made_pairs (fun vs H Q E h => ?_) (fun f cdv A outer s H vs Q E hr h => ?_)
  · obtain ⟨z, r, v, m, lo, hi, zs, ys, rfl, _⟩ := h
    rfl
  · obtain ⟨z, r, v, m, lo, hi, zs, ys, rfl, hz, hsr, hm, hlo, hhi, hv, ok, hl, k, ke⟩ := h
    refine ⟨_, (pss_cons (ps_set (i := 6) sc_made_pairs.nd rfl (Or.inl rfl) (pe_calX C_made_rows pass_xe hr (by decide) rfl (pa_cons (pv 0) (pa_cons (pv 2) (pa_cons (pv 3) pa_nil)))))
      (pss_cons (ps_for PassesOwn.leaving rfl (pi_tupK K (pv 6)) (pg_tupK (n := 2) K rfl (pgs_cons (pg_name (i := 7) sc_made_pairs.nd rfl (Or.inl rfl)) (pgs_cons (pg_name (i := 8) sc_made_pairs.nd rfl (Or.inl rfl)) pgs_nil))) (pss_cons (ps_expr (pe_calX C_check_number pass_xe hr (by decide) rfl (pa_cons (pe_join (.cons (pe_fm (pv 0)) (.cons pe_str .nil))) (pa_cons (pv 7) (pa_cons pe_int (pa_cons (pe_op op_sub (pv 1) pe_int) pa_nil))))))
      (pss_one (ps_expr (pe_calX C_check_number pass_xe hr (by decide) rfl (pa_cons (pe_join (.cons (pe_fm (pv 0)) (.cons pe_str .nil))) (pa_cons (pv 8) (pa_cons (pv 4) (pa_cons (pv 5) pa_nil)))))))))
      (pss_one (ps_ret (pv 6))))), ?_⟩
    walk_at "rd"
    refine ⟨z, v, m, zs, rfl, by omega, hm, hv, hl, fun x hx => ?_, fun h20 p H1 s1 hp => ?_, fun h20 H1 s1 => ke (fun g => h20 g.1) H1 s1⟩
    · obtain ⟨i, e⟩ := mem_get hx
      exact (ok i x e).row
    have no : ∀ (i : Nat) (H' : Hp), Same H H' → i < zs.length → ¬ ((0 ≤ (ys i).1 ∧ (ys i).1 < r) ∧ lo ≤ (ys i).2 ∧ (ys i).2 ≤ hi) → E (.ref xs.NoCellar) none H' := fun i H' s hi hg => ke (fun g => hg (g.2 i hi)) H' s
    walk_at "rd"
    refine for_tpl zs (fun i σ H' => ∃ v7 v8, σ = [some (.str z), some (.int r), some v, some (.int m), some (.int lo), some (.int hi), some (.ref p), v7, v8] ∧ Same H1 H' ∧ ∀ j, j < i → (0 ≤ (ys j).1 ∧ (ys j).1 < r) ∧ lo ≤ (ys j).2 ∧ (ys j).2 ≤ hi) ⟨none, none, rfl, Same.refl _, fun j hj => absurd hj (by omega)⟩ ?_ ?_ ?_
    · rintro i σ H' ⟨_, _, rfl, s2, _⟩
      exact SqT.of (s2 _ _ hp)
    · rintro i x σ H' hx ⟨v7, v8, rfl, s2, g0⟩
      have hi' : i < zs.length := (List.getElem?_eq_some_iff.mp hx).1
      have s12 := s1.trans s2
      obtain ⟨p1, rfl, hp1, sa, sn⟩ := (ok i x hx).mono s12.ts
      walk_at "rd"
      refine jfs (y := z) (b := 100) (by omega) (by omega) (fun K h => ⟨_, rfl, h⟩) fun m1 h1 => ?_
      refine jc (by decide +kernel) (by omega) fun m2 h2 => ?_
      refine jn fun y1 hy1 => ?_
      walk_at "rd"
      refine ⟨_, (ys i).1, 0, r - 1, rfl, by omega, sa, sml0, hsr, fun ha => ?_, fun ha => no i _ s12 hi' fun g => ha (by have := g.1; omega)⟩
      walk_at "rd"
      refine jfs (y := z) (b := 100) (by omega) (by omega) (fun K h => ⟨_, rfl, h⟩) fun m1 h1 => ?_
      refine jc (by decide +kernel) (by omega) fun m2 h2 => ?_
      refine jn fun y2 hy2 => ?_
      walk_at "rd"
      refine ⟨_, (ys i).2, lo, hi, rfl, by omega, sn, hlo, hhi, fun hb => ?_, fun hb => no i _ s12 hi' fun g => hb (by have := g.2; omega)⟩
      walk_at "rd"
      exact ⟨_, _, rfl, s2, fun j hj => if e : j = i then by subst e; exact ⟨by omega, by omega, by omega⟩ else g0 j (by omega)⟩
    · rintro σ H' ⟨v7, v8, rfl, s2, g0⟩
      walk_at "rd"
      exact k ⟨by omega, g0⟩ p H' (s1.trans s2) (s2 _ _ hp)
theorem ok_mkc {d1 d2 : Tok} (T : Txt mg cs) (TX : Tx K mg xs) (L : LaidD K mg "cellar" s_cellar [.none, .none, .none, .int 0 d1, .int 0 d2]) (C_check_number : CalX P w K mg base 2 "check_number" ["name", "number", "least", "most"] (spCheck xs.NoCellar)) (C_made_ways : CalX P w K mg base 3 "made_ways" ["rooms", "ways"] (spMW K xs.NoCellar))
    (C_made_pairs : CalX P w K mg base 3 "made_pairs" ["name", "rooms", "pairs", "most_pairs", "least", "most"] (spMP K xs.NoCellar)) : CalDX P w K mg base 4 "cellar" ["rooms", "first", "last", "ways", "things", "levers", "wheels", "bars", "water"] (spMkC K xs.NoCellar) s_cellar [.none, .none, .none, .int 0 d1, .int 0 d2] := by
  obtain ⟨t1, e_MOST_ROOMS⟩ := T.e_MOST_ROOMS
  obtain ⟨t2, e_ALL_BARS⟩ := T.e_ALL_BARS
  obtain ⟨t3, e_TOP_HEIGHT⟩ := T.e_TOP_HEIGHT
  obtain ⟨t4, e_MOST_THINGS⟩ := T.e_MOST_THINGS
  obtain ⟨t5, e_MOST_LEVERS⟩ := T.e_MOST_LEVERS
  obtain ⟨t6, e_MOST_WHEELS⟩ := T.e_MOST_WHEELS
  obtain ⟨t7, e_LAST_KIND⟩ := T.e_LAST_KIND
  refine L.calX (k := 3) sc_cellar (fun vs H Q E h => ?_) (fun f cdv A outer s H vs Q E hr h => ?_)
  · obtain ⟨h, rfl, _⟩ := h
    rfl
  · obtain ⟨⟨r, f, l, b, wt, v1, v2, v3, v4, z1, z2, z3, z4, y1, y2, y3, y4⟩, rfl, o, k, ke⟩ := h
    have sr := o.sr
    have sr1 := o.sr1
    refine ⟨_, (pss_cons (ps_expr (pe_calX C_check_number pass_xe hr (by decide) rfl (pa_cons pe_str (pa_cons (pv 0) (pa_cons pe_int (pa_cons (pe_glob (v := .int 14) rfl e_MOST_ROOMS ⟨_, rfl⟩) pa_nil))))))
      (pss_cons (ps_expr (pe_calX C_check_number pass_xe hr (by decide) rfl (pa_cons pe_str (pa_cons (pv 1) (pa_cons pe_int (pa_cons (pe_op op_sub (pv 0) pe_int) pa_nil))))))
      (pss_cons (ps_expr (pe_calX C_check_number pass_xe hr (by decide) rfl (pa_cons pe_str (pa_cons (pv 2) (pa_cons pe_int (pa_cons (pe_op op_sub (pv 0) pe_int) pa_nil))))))
      (pss_cons (ps_expr (pe_calX C_check_number pass_xe hr (by decide) rfl (pa_cons pe_str (pa_cons (pv 7) (pa_cons pe_int (pa_cons (pe_glob (v := .int 255) rfl e_ALL_BARS ⟨_, rfl⟩) pa_nil))))))
      (pss_cons (ps_expr (pe_calX C_check_number pass_xe hr (by decide) rfl (pa_cons pe_str (pa_cons (pv 8) (pa_cons pe_int (pa_cons (pe_glob (v := .int 9) rfl e_TOP_HEIGHT ⟨_, rfl⟩) pa_nil))))))
      (pss_one (ps_ret (pe_tup (pa_c (pv 0) (pa_c (pv 1) (pa_c (pv 2) (pa_c (pe_calX C_made_ways pass_xe hr (by decide) rfl (pa_cons (pv 0) (pa_cons (pv 3) pa_nil))) (pa_c (pe_calX C_made_pairs pass_xe hr (by decide) rfl (pa_c pe_str (pa_c (pv 0) (pa_c (pv 4) (pa_c (pe_glob (v := .int 8) rfl e_MOST_THINGS ⟨_, rfl⟩) (pa_c pe_int (pa_c (pe_glob (v := .int 11) rfl e_LAST_KIND ⟨_, rfl⟩) pa_nil))))))) (pa_c (pe_calX C_made_pairs pass_xe hr (by decide) rfl (pa_c pe_str (pa_c (pv 0) (pa_c (pv 5) (pa_c (pe_glob (v := .int 4) rfl e_MOST_LEVERS ⟨_, rfl⟩) (pa_c pe_int (pa_c (pe_glob (v := .int 255) rfl e_ALL_BARS ⟨_, rfl⟩) pa_nil))))))) (pa_c (pe_calX C_made_pairs pass_xe hr (by decide) rfl (pa_c pe_str (pa_c (pv 0) (pa_c (pv 6) (pa_c (pe_glob (v := .int 4) rfl e_MOST_WHEELS ⟨_, rfl⟩) (pa_c pe_int (pa_c (pe_glob (v := .int 9) rfl e_TOP_HEIGHT ⟨_, rfl⟩) pa_nil))))))) (pa_c (pv 7) (pa_c (pv 8) pa_nil))))))))))))))))), ?_⟩
    unfold Hand.vs
    walk_at "rd"
    refine ⟨_, r, 1, 14, rfl, by decide +kernel, sr, sml1, sml14, fun g1 => ?_, fun n => ke (fun g => n g.r) _ (.refl _)⟩
    walk_at "rd"
    refine ⟨_, f, 0, r - 1, rfl, by decide +kernel, o.sf, sml0, sr1, fun g2 => ?_, fun n => ke (fun g => n g.f) _ (.refl _)⟩
    walk_at "rd"
    refine ⟨_, l, 0, r - 1, rfl, by decide +kernel, o.sl, sml0, sr1, fun g3 => ?_, fun n => ke (fun g => n g.l) _ (.refl _)⟩
    walk_at "rd"
    refine ⟨_, b, 0, 255, rfl, by decide +kernel, o.sb, sml0, sml255, fun g4 => ?_, fun n => ke (fun g => n g.b) _ (.refl _)⟩
    walk_at "rd"
    refine ⟨_, wt, 0, 9, rfl, by decide +kernel, o.sw, sml0, sml9, fun g5 => ?_, fun n => ke (fun g => n g.w) _ (.refl _)⟩
    walk_at "rd"
    refine ⟨r, v1, z1, y1, rfl, sr1, o.i1, o.w1, o.l1, fun g6 p1 H1 s1 h1 => ?_, fun n H1 s1 => ke (fun g => n g.g1) _ s1⟩
    have o1 := o.mono s1
    walk_at "rd"
    refine ⟨_, r, v2, 8, 0, 11, z2, y2, rfl, by decide +kernel, sr1, sml8, sml0, sml11, o1.i2, o1.w2, o.l2, fun g7 p2 H2 s2 h2 => ?_, fun n H2 s2 => ke (fun g => n g.g2) _ (s1.trans s2)⟩
    have s12 := s1.trans s2
    have o2 := o.mono s12
    walk_at "rd"
    refine ⟨_, r, v3, 4, 1, 255, z3, y3, rfl, by decide +kernel, sr1, sml4, sml1, sml255, o2.i3, o2.w3, o.l3, fun g8 p3 H3 s3 h3 => ?_, fun n H3 s3 => ke (fun g => n g.g3) _ (s12.trans s3)⟩
    have s13 := s12.trans s3
    have o3 := o.mono s13
    walk_at "rd"
    refine ⟨_, r, v4, 4, 0, 9, z4, y4, rfl, by decide +kernel, sr1, sml4, sml0, sml9, o3.i4, o3.w4, o.l4, fun g9 p4 H4 s4 h4 => ?_, fun n H4 s4 => ke (fun g => n g.g4) _ (s13.trans s4)⟩
    have s14 := s13.trans s4
    walk_at "rd"
    intro p hp
    have s5 := Same.upd (o := .tup [.int r, .int f, .int l, .ref p1, .ref p2, .ref p3, .ref p4, .int b, .int wt]) hp
    exact k ⟨g1, g2, g3, g4, g5, g6, g7, g8, g9⟩ p _ (s14.trans s5) ⟨p1, p2, p3, p4, upd_same, s5 _ _ (s4 _ _ (s3 _ _ (s2 _ _ h1))), s5 _ _ (s4 _ _ (s3 _ _ h2)), s5 _ _ (s4 _ _ h3), s5 _ _ h4⟩
end
def spCell (K : PySem.W.Frag) : Sp := fun vs H Q _ => ∃ (a : Addr) (ns : List Int) (i : Int), vs = [.ref a, .int i] ∧ SqL K H a (ns.map V.int) ∧ ns.length ≤ 63 ∧ 0 ≤ i ∧ i ≤ 1000 ∧ ∀ n : Int, 0 ≤ n → n < 2147483647 → Q (.int n) H
def spGate : Sp := fun vs H Q _ => ∃ c : Int, vs = [.int c] ∧ ∀ (p : Addr) (g : Gt) (H' : Hp), Same H H' → g.ok → H' p = some (.tup g.vs) → Q (.ref p) H'
def spCellar (K : PySem.W.Frag) : Sp := fun vs H Q _ => ∃ (a : Addr) (ns : List Int), vs = [.ref a] ∧ SqL K H a (ns.map V.int) ∧ ns.length ≤ 63 ∧ ∀ (p : Addr) (C : Cl) (H' : Hp), Same H H' → ClAt H' p C → ClOk C → Q (.ref p) H'
theorem atI_mod2 {x : Int} : ∃ m : Int, (m = 2 ∨ m = 12) ∧ atI [V.int 2, V.int 12] (x % 2) = some (.int m) := by
  obtain h | h : x % 2 = 0 ∨ x % 2 = 1 := by omega
  · rw [h]; exact ⟨2, .inl rfl, rfl⟩
  · rw [h]; exact ⟨12, .inr rfl, rfl⟩
theorem atI_mod4 {x : Int} : ∃ m : Int, (1 ≤ m ∧ m ≤ 14) ∧ atI [V.int 3, V.int 4, V.int 6, V.int 14] (x % 4) = some (.int m) := by
  obtain h | h | h | h : x % 4 = 0 ∨ x % 4 = 1 ∨ x % 4 = 2 ∨ x % 4 = 3 := by omega
  · rw [h]; exact ⟨3, by decide, rfl⟩
  · rw [h]; exact ⟨4, by decide, rfl⟩
  · rw [h]; exact ⟨6, by decide, rfl⟩
  · rw [h]; exact ⟨14, by decide, rfl⟩
theorem in45 {x : Int} : inV (.int x) [.int 4, .int 5] = decide (x = 4 ∨ x = 5) := by
  rw [Bool.eq_iff_iff]
  simp [inV, eqV]
  omega
def clsOf (cs : Cs) : Gt → Addr
  | .plain => cs.Plain
  | .door _ => cs.Door
  | .need _ => cs.Need
  | .bar _ => cs.Bar
  | .wade _ _ => cs.Wade
  | .float _ => cs.Float
def fldB (q : Addr) (g : Gt) : List (Str × V) := putF "numbers" (.ref q) (putF "word" (.str g.word) [])
def flds (q : Addr) : Gt → List (Str × V)
  | .need k => putF "kind" (.int k) (fldB q (.need k))
  | .bar b => putF "bar" (.int b) (fldB q (.bar b))
  | .wade h k => putF "kind" (.int k) (putF "height" (.int h) (fldB q (.wade h k)))
  | .float h => putF "height" (.int h) (fldB q (.float h))
  | g => fldB q g
theorem fl_word (q : Addr) (g : Gt) : (flds q g).lookup ("word" : Str) = some (.str g.word) := by
  cases g <;> (unfold flds; first | unfold fldB | skip) <;> simp only [fldB, lookup_putF] <;> repeat (first | rw [if_pos rfl] | rw [if_pos trivial] | rw [if_neg (by decide +kernel)])
theorem fl_numbers (q : Addr) (g : Gt) : (flds q g).lookup ("numbers" : Str) = some (.ref q) := by
  cases g <;> (unfold flds; first | unfold fldB | skip) <;> simp only [fldB, lookup_putF] <;> repeat (first | rw [if_pos rfl] | rw [if_pos trivial] | rw [if_neg (by decide +kernel)])
structure GObj (cs : Cs) (H : Hp) (p : Addr) (g : Gt) : Prop where
  ex : ∃ dx q, H p = some (.ins (clsOf cs g) dx (flds q g)) ∧ H q = some (.tup (g.ns.map V.int))
theorem GObj.mono {cs : Cs} {H H' : Hp} {p : Addr} {g : Gt} (s : Same H H') (h : GObj cs H p g) : GObj cs H' p g := let ⟨dx, q, h1, h2⟩ := h.ex; ⟨dx, q, s _ _ h1, s _ _ h2⟩
def spGInit (K : PySem.W.Frag) : Sp := fun vs H Q _ => ∃ (p C dx q : Addr) (z : Str), vs = [.ref p, .str z, .ref q] ∧ H p = some (.ins C dx []) ∧ Cls K C ∧ NoAttr K C "word" ∧ NoAttr K C "numbers" ∧ Q .non (upd H p (.ins C dx (putF "numbers" (.ref q) (putF "word" (.str z) []))))
def spMk (cs : Cs) (wd : Str) : Sp := fun vs H Q _ => ∃ (p dx : Addr) (g : Gt), vs = .ref p :: g.ns.map V.int ∧ g.word = wd ∧ H p = some (.ins (clsOf cs g) dx []) ∧ ∀ H', (∀ b o, H b = some o → b ≠ p → H' b = some o) → GObj cs H' p g → Q .non H'
def spObj (cs : Cs) : Sp := fun vs H Q _ => ∃ (p : Addr) (g : Gt), vs = [.ref p] ∧ H p = some (.tup g.vs) ∧ ∀ (x : Addr) (H' : Hp), Same H H' → H x = none → GObj cs H' x g → Q (.ref x) H'
theorem fl_told (q : Addr) (g : Gt) : (flds q g).lookup ("told" : Str) = none := by
  cases g <;> (unfold flds; first | unfold fldB | skip) <;> simp only [fldB, lookup_putF] <;> repeat (first | rfl | rw [if_neg (by decide +kernel)])
theorem fl_text (q : Addr) (g : Gt) : (flds q g).lookup ("text" : Str) = none := by
  cases g <;> (unfold flds; first | unfold fldB | skip) <;> simp only [fldB, lookup_putF] <;> repeat (first | rfl | rw [if_neg (by decide +kernel)])
def strV : V → Str
  | .str z => z
  | .int i => toString i
  | _ => ""
def gtext (g : Gt) : Str := PySem.Txt.join " " (g.vs.map strV)
theorem word_len (g : Gt) : g.word.length ≤ 5 := by
  cases g <;> simp only [Gt.word] <;> decide +kernel
theorem num_len {i : Int} (h0 : 0 ≤ i) (h1 : i < 12) : (strV (.int i)).length ≤ 5 := by
  obtain rfl | rfl | rfl | rfl | rfl | rfl | rfl | rfl | rfl | rfl | rfl | rfl : i = 0 ∨ i = 1 ∨ i = 2 ∨ i = 3 ∨ i = 4 ∨ i = 5 ∨ i = 6 ∨ i = 7 ∨ i = 8 ∨ i = 9 ∨ i = 10 ∨ i = 11 := by omega
  all_goals decide +kernel
theorem ns_small {g : Gt} (h : g.ok) : ∀ i ∈ g.ns, 0 ≤ i ∧ i < 12 := by
  intro i hi
  cases g with
  | plain => simp [Gt.ns] at hi
  | door k => simp [Gt.ns] at hi; subst hi; exact h
  | need k => simp [Gt.ns] at hi; subst hi; exact h
  | bar k => simp [Gt.ns] at hi; subst hi; have h' : 0 ≤ i ∧ i < 8 := h; omega
  | wade a b => simp [Gt.ns] at hi; have h' : (0 ≤ a ∧ a < 10) ∧ 0 ≤ b ∧ b < 12 := h; rcases hi with rfl | rfl <;> omega
  | float k => simp [Gt.ns] at hi; subst hi; have h' : 0 ≤ i ∧ i < 10 := h; omega
theorem small_log {x : Int} (h0 : 0 ≤ x) (h1 : x < 12) : x.natAbs.log2 < 1920 := Nat.lt_of_le_of_lt (Nat.log2_le_self _) (by omega)
theorem join_room {ts : List Str} (h : ∀ z ∈ ts, z.length ≤ 5) (hl : ts.length ≤ 10) : (ts.map (·.length)).sum + ts.length ≤ 1048576 := by
  have : ∀ l : List Str, (∀ z ∈ l, z.length ≤ 5) → (l.map (·.length)).sum ≤ 5 * l.length := by
    intro l
    induction l with
    | nil => intro _; simp
    | cons z l ih =>
      intro hz
      have h1 := hz z List.mem_cons_self
      have h2 := ih fun y hy => hz y (List.mem_cons_of_mem _ hy)
      simp only [List.map_cons, List.sum_cons, List.length_cons]
      omega
  have := this ts h
  omega
theorem vs_str {g : Gt} (h : g.ok) : ∀ z ∈ g.vs.map strV, z.length ≤ 5 := by
  intro z hz
  rw [Gt.vs_eq, List.map_cons, List.map_map] at hz
  rcases List.mem_cons.mp hz with rfl | hz
  · exact word_len g
  · obtain ⟨i, hi, rfl⟩ := List.mem_map.mp hz
    have := ns_small h i hi
    exact num_len this.1 this.2
theorem vs_len (g : Gt) : g.vs.length ≤ 3 := by cases g <;> simp [Gt.vs]
def spTold (cs : Cs) (C : Addr) : Sp := fun vs H Q _ => ∃ (p dx q : Addr) (g : Gt), vs = [.ref p] ∧ H p = some (.ins C dx (flds q g)) ∧ H q = some (.tup (g.ns.map V.int)) ∧ ∀ (r : Addr) (H' : Hp), Same H H' → H' r = some (.tup g.vs) → Q (.ref r) H'
def spText (cs : Cs) (C : Addr) : Sp := fun vs H Q _ => ∃ (p dx q : Addr) (g : Gt), vs = [.ref p] ∧ H p = some (.ins C dx (flds q g)) ∧ H q = some (.tup (g.ns.map V.int)) ∧ g.ok ∧ ∀ H', Same H H' → Q (.str (gtext g)) H'
inductive Alk (H : Hp) : Nat → V → V → Prop
  | tup {n : Nat} {p q : Addr} {us vs : List V} : H p = some (.tup us) → H q = some (.tup vs) → us.length = vs.length → vs.length ≤ 100 → (∀ (i : Nat) (x y : V), us[i]? = some x → vs[i]? = some y → Alk H n x y) → Alk H (n + 1) (.ref p) (.ref q)
  | str {n : Nat} (z : Str) : Alk H (n + 1) (.str z) (.str z)
  | int {n : Nat} (z : Int) : Alk H (n + 1) (.int z) (.int z)
  | bl {n : Nat} (z : Bool) : Alk H (n + 1) (.bl z) (.bl z)

theorem alk_tup {α : Type} {At : Hp → Addr → α → Prop} {H : Hp} {n : Nat} {a b : Addr} {xs : List α} (m : ∀ p q x, At H p x → At H q x → Alk H n (.ref p) (.ref q)) (h1 : TupOf At H a xs) (h2 : TupOf At H b xs) (l : xs.length ≤ 100) : Alk H (n + 1) (.ref a) (.ref b) := by
  obtain ⟨ps, e1, r1⟩ := h1
  obtain ⟨qs, e2, r2⟩ := h2
  have l1 := r1.1
  have l2 := r2.1
  refine .tup e1 e2 (by rw [List.length_map, List.length_map]; omega) (by rw [List.length_map]; omega) fun i x y hx hy => ?_
  have hi : i < ps.length := by have := (List.getElem?_eq_some_iff.mp hx).1; simpa using this
  have hj : i < qs.length := by omega
  have hk : i < xs.length := by omega
  obtain rfl : x = .ref ps[i] := by simpa [hi] using hx.symm
  obtain rfl : y = .ref qs[i] := by simpa [hj] using hy.symm
  exact m _ _ _ (r1.2 i ps[i] xs[i] (by simp [hi]) (by simp [hk])) (r2.2 i qs[i] xs[i] (by simp [hj]) (by simp [hk]))
theorem alk_flat {H : Hp} {n : Nat} {p q : Addr} {vs : List V} (h1 : H p = some (.tup vs)) (h2 : H q = some (.tup vs)) (l : vs.length ≤ 100) (f : ∀ x ∈ vs, Alk H n x x) : Alk H (n + 1) (.ref p) (.ref q) :=
  .tup h1 h2 rfl l fun i x y hx hy => by
    rw [hx] at hy
    cases hy
    exact f x (List.mem_of_getElem? hx)
theorem alk_pair {H : Hp} {n : Nat} {p q : Addr} {x : Int × Int} (h1 : PairAt H p x) (h2 : PairAt H q x) : Alk H (n + 2) (.ref p) (.ref q) :=
  alk_flat h1 h2 (by simp) fun y hy => by
    rcases List.mem_cons.mp hy with rfl | hy
    · exact .int _
    · obtain rfl := List.mem_singleton.mp hy
      exact .int _
theorem alk_way {H : Hp} {p q : Addr} {x : Way} (h1 : WayAt H p x) (h2 : WayAt H q x) : Alk H 3 (.ref p) (.ref q) := by
  obtain ⟨g, a1, a2⟩ := h1
  obtain ⟨g', b1, b2⟩ := h2
  have gg : Alk H 2 (.ref g) (.ref g') := by
    refine alk_flat a2 b2 ?_ fun y hy => ?_
    · have := x.g.ns_len
      rw [Gt.vs_eq]
      simp
      omega
    · rw [Gt.vs_eq] at hy
      rcases List.mem_cons.mp hy with rfl | hy
      · exact .str _
      · obtain ⟨z, _, rfl⟩ := List.mem_map.mp hy
        exact .int _
  refine .tup a1 b1 rfl (by simp) fun i u v hu hv => ?_
  match i, hu, hv with
  | 0, hu, hv => cases hu; cases hv; exact .int _
  | 1, hu, hv => cases hu; cases hv; exact .int _
  | 2, hu, hv => cases hu; cases hv; exact gg
  | 3, hu, hv => cases hu; cases hv; exact .bl _
theorem alk_cl {H : Hp} {c d : Addr} {C : Cl} (h1 : ClAt H c C) (h2 : ClAt H d C) (l1 : C.ways.length ≤ 100) (l2 : C.things.length ≤ 100) (l3 : C.levers.length ≤ 100) (l4 : C.wheels.length ≤ 100) : Alk H 5 (.ref c) (.ref d) := by
  obtain ⟨w1, t1, e1, v1, a0, a1, a2, a3, a4⟩ := h1.ex
  obtain ⟨w2, t2, e2, v2, b0, b1, b2, b3, b4⟩ := h2.ex
  refine .tup a0 b0 rfl (by simp) fun i u v hu hv => ?_
  match i, hu, hv with
  | 0, hu, hv => cases hu; cases hv; exact .int _
  | 1, hu, hv => cases hu; cases hv; exact .int _
  | 2, hu, hv => cases hu; cases hv; exact .int _
  | 3, hu, hv => cases hu; cases hv; exact alk_tup (fun _ _ _ => alk_way) a1 b1 l1
  | 4, hu, hv => cases hu; cases hv; exact alk_tup (fun _ _ _ => alk_pair) a2 b2 l2
  | 5, hu, hv => cases hu; cases hv; exact alk_tup (fun _ _ _ => alk_pair) a3 b3 l3
  | 6, hu, hv => cases hu; cases hv; exact alk_tup (fun _ _ _ => alk_pair) a4 b4 l4
  | 7, hu, hv => cases hu; cases hv; exact .int _
  | 8, hu, hv => cases hu; cases hv; exact .int _
section
variable {P : Program} {w : World} {K : PySem.W.Frag} {mg : Str → Option Value} {base : Heap} {xs : Xs} {cs : Cs}

theorem ok_cell (T : Txt mg cs) (L : Laid K mg "_law_cell" s__law_cell ["_law_script", "_law_k"]) : Cal P w K mg base 1 "_law_cell" ["_law_script", "_law_k"] (spCell K) := by
  refine L.cal (k := 0) sc__law_cell (fun vs H Q E h => ?_) (fun f cdv A outer s H vs Q E hr h => ?_)
  · obtain ⟨a, ns, i, rfl, _⟩ := h
    rfl
  · obtain ⟨a, ns, i, rfl, hS, hl, h0, h1, k⟩ := h
    have hl2 : ((ns.map V.int).length : Int) ≤ 63 := by rw [List.length_map]; omega
    refine ⟨_, (pss_cons (ps_if (pt_cmpR op_lt (pv 1) (pe_callB (lenK K) rfl T.n_len bt_len (pa_cons (pv 0) pa_nil)) (nomark _)) (pss_one (ps_ret (pe_op op_mod (pe_op op_add (pe_op op_mul (pe_ix (ix_listK K) (pv 0) (pv 1) (fun _ _ => rfl)) pe_int) (pe_op op_mul (pe_op op_mul (pv 1) (pv 1)) pe_int)) pe_int))) pss_nil)
      (pss_one (ps_ret (pe_op op_mod (pe_op op_add (pe_op op_add (pe_op op_mul (pe_op op_mul (pv 1) (pv 1)) pe_int) (pe_op op_mul (pe_callB (lenK K) rfl T.n_len bt_len (pa_cons (pv 0) pa_nil)) pe_int)) pe_int) pe_int)))), ?_⟩
    walk_at "rd"
    refine ifd (fun h => ?_) (fun h => ?_)
    · rw [List.length_map] at h
      obtain ⟨j, rfl⟩ : ∃ j : Nat, i = (j : Int) := ⟨i.toNat, by omega⟩
      walk_at "rd"
      refine r_ixL hS (atI_ints (by omega)) ?_
      walk_at "rd"
      exact k _ (mod_lo _ (by decide)) (mod_hi _ (by decide))
    · walk_at "rd"
      exact k _ (mod_lo _ (by decide)) (mod_hi _ (by decide))
theorem ok_gate (T : Txt mg cs) (L : Laid K mg "_law_gate" s__law_gate ["_law_cell_here"]) : Cal P w K mg base 1 "_law_gate" ["_law_cell_here"] spGate := by
  refine L.cal (k := 0) sc__law_gate (fun vs H Q E h => ?_) (fun f cdv A outer s H vs Q E hr h => ?_)
  · obtain ⟨c, rfl, _⟩ := h
    rfl
  · obtain ⟨c, rfl, k⟩ := h
    obtain ⟨m, hm, em⟩ := atI_mod2 (x := c / 8)
    have hm0 : (0 : Int) < m := by omega
    have kd0 := mod_lo (c / 64) hm0
    have kd1 : c / 64 % m < 12 := by have := mod_hi (c / 64) hm0; omega
    refine ⟨_, (pss_cons (ps_set (i := 1) sc__law_gate.nd rfl (Or.inl rfl) (pe_op op_mod (pe_op op_fdiv (pv 0) pe_int) (pe_ix (ix_listK K) (pe_lst (pa_cons pe_int (pa_cons pe_int pa_nil))) (pe_op op_mod (pe_op op_fdiv (pv 0) pe_int) pe_int) (fun _ _ => rfl))))
      (pss_cons (ps_set (i := 2) sc__law_gate.nd rfl (Or.inl rfl) (pe_lst (pa_cons (pe_tup (pa_cons pe_str pa_nil)) (pa_cons (pe_tup (pa_cons pe_str (pa_cons (pv 1) pa_nil))) (pa_cons (pe_tup (pa_cons pe_str (pa_cons (pv 1) pa_nil))) (pa_cons (pe_tup (pa_cons pe_str (pa_cons (pv 1) pa_nil))) (pa_cons (pe_tup (pa_cons pe_str (pa_cons (pe_op op_mod (pe_op op_fdiv (pv 0) pe_int) pe_int) pa_nil))) pa_nil)))))))
      (pss_cons (ps_set (i := 2) sc__law_gate.nd rfl (Or.inl rfl) (pe_op op_cat (pv 2) (pe_lst (pa_cons (pe_tup (pa_cons pe_str (pa_cons (pe_op op_mod (pe_op op_fdiv (pv 0) pe_int) pe_int) (pa_cons (pv 1) pa_nil)))) (pa_cons (pe_tup (pa_cons pe_str (pa_cons (pe_op op_mod (pe_op op_fdiv (pv 0) pe_int) pe_int) pa_nil))) (pa_cons (pe_tup (pa_cons pe_str pa_nil)) pa_nil))))))
      (pss_one (ps_ret (pe_ix (ix_listK K) (pv 2) (pe_op op_mod (pv 0) pe_int) (fun _ _ => rfl))))))), ?_⟩
    walk_at "rd"
    intro q0 hq0
    walk_at "rd"
    generalize c / 64 % m = kd at kd0 kd1 ⊢
    intro q1 hq1
    walk_at "rd"
    intro q2 hq2
    walk_at "rd"
    intro q3 hq3
    walk_at "rd"
    intro q4 hq4
    walk_at "rd"
    intro q5 hq5
    walk_at "rd"
    intro l1 hl1
    walk_at "rd"
    intro q6 hq6
    walk_at "rd"
    intro q7 hq7
    walk_at "rd"
    intro q8 hq8
    walk_at "rd"
    intro l2 hl2
    refine ⟨l1, l2, _, _, rfl, rfl, by walk_at "hp", upd_same, by show 5 + 3 ≤ sizeLine; decide, fun l3 hl3 => ?_⟩
    walk_at "rd"
    obtain ⟨j, hj, ej⟩ := mod_nat c 8 (by decide)
    have ej' : c % 8 = (j : Int) := ej
    rw [ej']
    have hj' : j = 0 ∨ j = 1 ∨ j = 2 ∨ j = 3 ∨ j = 4 ∨ j = 5 ∨ j = 6 ∨ j = 7 := by omega
    have m8 := mod_lo (c / 2048) (n := 8) (by decide)
    have m8' := mod_hi (c / 2048) (n := 8) (by decide)
    have m10 := mod_lo (c / 2048) (n := 10) (by decide)
    have m10' := mod_hi (c / 2048) (n := 10) (by decide)
    rcases hj' with rfl | rfl | rfl | rfl | rfl | rfl | rfl | rfl
    · exact r_ixL (SqL.of upd_same) (atI_nat rfl) (k q1 .plain _ (by walk_at "sm") trivial (by walk_at "hp"))
    · exact r_ixL (SqL.of upd_same) (atI_nat rfl) (k q2 (.door kd) _ (by walk_at "sm") ⟨kd0, kd1⟩ (by walk_at "hp"))
    · exact r_ixL (SqL.of upd_same) (atI_nat rfl) (k q3 (.door kd) _ (by walk_at "sm") ⟨kd0, kd1⟩ (by walk_at "hp"))
    · exact r_ixL (SqL.of upd_same) (atI_nat rfl) (k q4 (.need kd) _ (by walk_at "sm") ⟨kd0, kd1⟩ (by walk_at "hp"))
    · exact r_ixL (SqL.of upd_same) (atI_nat rfl) (k q5 (.bar (c / 2048 % 8)) _ (by walk_at "sm") ⟨m8, m8'⟩ (by walk_at "hp"))
    · exact r_ixL (SqL.of upd_same) (atI_nat rfl) (k q6 (.wade (c / 2048 % 10) kd) _ (by walk_at "sm") ⟨⟨m10, m10'⟩, kd0, kd1⟩ (by walk_at "hp"))
    · exact r_ixL (SqL.of upd_same) (atI_nat rfl) (k q7 (.float (c / 2048 % 10)) _ (by walk_at "sm") ⟨m10, m10'⟩ (by walk_at "hp"))
    · exact r_ixL (SqL.of upd_same) (atI_nat rfl) (k q8 .plain _ (by walk_at "sm") trivial (by walk_at "hp"))
theorem ok_cellar (T : Txt mg cs) (L : Laid K mg "_law_cellar" s__law_cellar ["_law_script"]) (C__law_cell : Cal P w K mg base 1 "_law_cell" ["_law_script", "_law_k"] (spCell K)) (C__law_gate : Cal P w K mg base 1 "_law_gate" ["_law_cell_here"] spGate) : Cal P w K mg base 2 "_law_cellar" ["_law_script"] (spCellar K) := by
  refine L.cal (k := 1) sc__law_cellar (fun vs H Q E h => ?_) (fun f cdv A outer s H vs Q E hr h => ?_)
  · obtain ⟨a, ns, rfl, _⟩ := h
    rfl
  · obtain ⟨a, ns, rfl, hS, hl, k⟩ := h
    have big := line_big
    have hl2 : ((ns.map V.int).length : Int) ≤ 63 := by rw [List.length_map]; omega
    refine ⟨_, (pss_cons (ps_set (i := 1) sc__law_cellar.nd rfl (Or.inl rfl) (pe_cal C__law_cell hr (by decide) rfl (pa_cons (pv 0) (pa_cons pe_int pa_nil))))
      (pss_cons (ps_set (i := 2) sc__law_cellar.nd rfl (Or.inl rfl) (pe_op op_add pe_int (pe_op op_mod (pe_op op_fdiv (pv 1) pe_int) (pe_ix (ix_listK K) (pe_lst (pa_cons pe_int (pa_cons pe_int (pa_cons pe_int (pa_cons pe_int pa_nil))))) (pe_op op_mod (pv 1) pe_int) (fun _ _ => rfl)))))
      (pss_cons (ps_set (i := 3) sc__law_cellar.nd rfl (Or.inl rfl) (pe_lst (pa_cons (pe_lst pa_nil) (pa_cons (pe_lst pa_nil) (pa_cons (pe_lst pa_nil) (pa_cons (pe_lst pa_nil) pa_nil))))))
      (pss_cons (ps_for PassesOwn.never rfl (pi_range2 rfl T.n_range (pa_cons pe_int (pa_cons (pe_callB (min2 rfl) rfl T.n_min bt_min (pa_cons (pe_callB (lenK K) rfl T.n_len bt_len (pa_cons (pv 0) pa_nil)) (pa_cons pe_int pa_nil))) pa_nil))) (pg_name (i := 4) sc__law_cellar.nd rfl (Or.inl rfl)) (pss_cons (ps_set (i := 1) sc__law_cellar.nd rfl (Or.inl rfl) (pe_cal C__law_cell hr (by decide) rfl (pa_cons (pv 0) (pa_cons (pv 4) pa_nil))))
      (pss_cons (ps_set (i := 5) sc__law_cellar.nd rfl (Or.inl rfl) (pe_op op_mod (pe_op op_fdiv (pv 1) pe_int) (pv 2)))
      (pss_one (ps_if (PW.pt (pw_and (pt_cmpR op_lt (pe_op op_mod (pv 1) pe_int) pe_int (nomark _)) (pw_and (pt_cmpR op_gt (pv 2) pe_int (nomark _)) (pw_and1 (pt_cmpR op_lt (pe_callB (lenK K) rfl T.n_len bt_len (pa_cons (pe_ix (ix_listK K) (pv 3) pe_int (fun _ _ => rfl)) pa_nil)) pe_int (nomark _)))))) (pss_cons (ps_set (i := 6) sc__law_cellar.nd rfl (Or.inl rfl) (pe_op op_mod (pe_op op_add (pe_op op_add (pv 5) pe_int) (pe_op op_mod (pe_op op_fdiv (pv 1) pe_int) (pe_op op_sub (pv 2) pe_int))) (pv 2)))
      (pss_one (ps_expr (pe_bm PySem.F.plainAttrs_list PySem.F.slot_list_append PySem.F.type_list_append mt_append (pe_ix (ix_listK K) (pv 3) pe_int (fun _ _ => rfl)) (pa_cons (pe_tup (pa_cons (pv 5) (pa_cons (pv 6) (pa_cons (pe_cal C__law_gate hr (by decide) rfl (pa_cons (pe_op op_fdiv (pv 1) pe_int) pa_nil)) (pa_cons (pe_cmpR op_gt (pe_op op_mod (pe_op op_fdiv (pv 1) pe_int) pe_int) pe_int (nomark _)) pa_nil))))) pa_nil))))) (pss_one (ps_if (PW.pt (pw_and (pt_cmpR (op_in_seqK K) (pe_op op_mod (pv 1) pe_int) (pe_tup (pa_cons pe_int (pa_cons pe_int pa_nil))) (by with_unfolding_all rfl)) (pw_and1 (pt_cmpR op_lt (pe_callB (lenK K) rfl T.n_len bt_len (pa_cons (pe_ix (ix_listK K) (pv 3) pe_int (fun _ _ => rfl)) pa_nil)) pe_int (nomark _))))) (pss_one (ps_expr (pe_bm PySem.F.plainAttrs_list PySem.F.slot_list_append PySem.F.type_list_append mt_append (pe_ix (ix_listK K) (pv 3) pe_int (fun _ _ => rfl)) (pa_cons (pe_tup (pa_cons (pv 5) (pa_cons (pe_op op_mod (pe_op op_fdiv (pv 1) pe_int) (pe_ix (ix_listK K) (pe_lst (pa_cons pe_int (pa_cons pe_int pa_nil))) (pe_op op_mod (pe_op op_fdiv (pv 1) pe_int) pe_int) (fun _ _ => rfl))) pa_nil))) pa_nil)))) (pss_one (ps_if (PW.pt (pw_and (pt_cmpR op_eq (pe_op op_mod (pv 1) pe_int) pe_int (nomark _)) (pw_and1 (pt_cmpR op_lt (pe_callB (lenK K) rfl T.n_len bt_len (pa_cons (pe_ix (ix_listK K) (pv 3) pe_int (fun _ _ => rfl)) pa_nil)) pe_int (nomark _))))) (pss_one (ps_expr (pe_bm PySem.F.plainAttrs_list PySem.F.slot_list_append PySem.F.type_list_append mt_append (pe_ix (ix_listK K) (pv 3) pe_int (fun _ _ => rfl)) (pa_cons (pe_tup (pa_cons (pv 5) (pa_cons (pe_op op_add pe_int (pe_op op_mod (pe_op op_fdiv (pv 1) pe_int) pe_int)) pa_nil))) pa_nil)))) (pss_one (ps_if (PW.pt (pw_and (pt_cmpR op_eq (pe_op op_mod (pv 1) pe_int) pe_int (nomark _)) (pw_and1 (pt_cmpR op_lt (pe_callB (lenK K) rfl T.n_len bt_len (pa_cons (pe_ix (ix_listK K) (pv 3) pe_int (fun _ _ => rfl)) pa_nil)) pe_int (nomark _))))) (pss_one (ps_expr (pe_bm PySem.F.plainAttrs_list PySem.F.slot_list_append PySem.F.type_list_append mt_append (pe_ix (ix_listK K) (pv 3) pe_int (fun _ _ => rfl)) (pa_cons (pe_tup (pa_cons (pv 5) (pa_cons (pe_op op_mod (pe_op op_fdiv (pv 1) pe_int) pe_int) pa_nil))) pa_nil)))) pss_nil)))))))))))
      (pss_cons (ps_set (i := 1) sc__law_cellar.nd rfl (Or.inl rfl) (pe_cal C__law_cell hr (by decide) rfl (pa_cons (pv 0) (pa_cons pe_int pa_nil))))
      (pss_cons (ps_asg (pe_comp (compOk (N := ["_law_some"]) (own := 1) (caps := []) ["_law_script", "_law_cell_here", "_law_rooms", "_law_lists", "_law_k", "_law_room", "_law_other", "_law_ways", "_law_things", "_law_levers", "_law_wheels", "_law_ends", "_law_more"] (defScope s__law_cellar) (by decide +kernel)) rfl (pi_listK K (pv 3)) (fun _ _ _ _ => (pg_name (i := 0) (show List.Nodup (["_law_some"] : List Str) by decide +kernel) rfl (Or.inl rfl))) (fun _ _ _ _ => pf_nil) (fun _ _ _ _ => (pe_callTy (tupOfK K) rfl T.n_tuple bt_tuple (pa_cons (pv 0) pa_nil)))) (pg_lstK (n := 4) K rfl (pgs_cons (pg_name (i := 7) sc__law_cellar.nd rfl (Or.inl rfl)) (pgs_cons (pg_name (i := 8) sc__law_cellar.nd rfl (Or.inl rfl)) (pgs_cons (pg_name (i := 9) sc__law_cellar.nd rfl (Or.inl rfl)) (pgs_cons (pg_name (i := 10) sc__law_cellar.nd rfl (Or.inl rfl)) pgs_nil))))))
      (pss_cons (ps_set (i := 11) sc__law_cellar.nd rfl (Or.inl rfl) (pe_tup (pa_cons (pe_op op_mod (pv 1) (pv 2)) (pa_cons (pe_op op_mod (pe_op op_fdiv (pv 1) pe_int) (pv 2)) pa_nil))))
      (pss_cons (ps_set (i := 12) sc__law_cellar.nd rfl (Or.inl rfl) (pe_tup (pa_cons (pe_op op_mod (pe_op op_fdiv (pv 1) pe_int) pe_int) (pa_cons (pe_op op_mod (pe_op op_fdiv (pv 1) pe_int) pe_int) pa_nil))))
      (pss_one (ps_ret (pe_op (op_catTK K) (pe_op (op_catTK K) (pe_op (op_catTK K) (pe_tup (pa_cons (pv 2) pa_nil)) (pv 11)) (pe_tup (pa_cons (pv 7) (pa_cons (pv 8) (pa_cons (pv 9) (pa_cons (pv 10) pa_nil)))))) (pv 12)))))))))))), ?_⟩
    walk_at "rd"
    refine ⟨a, ns, 0, rfl, hS, hl, by decide, by decide, fun c0 hc0 hc0' => ?_⟩
    obtain ⟨m4, hm4, em4⟩ := atI_mod4 (x := c0)
    have hm0 : (0 : Int) < m4 := by omega
    have r1 : 1 ≤ 1 + c0 / 4 % m4 := by have := mod_lo (c0 / 4) hm0; omega
    have r2 : 1 + c0 / 4 % m4 ≤ 14 := by have := mod_hi (c0 / 4) hm0; omega
    walk_at "rd"
    intro q0 hq0
    walk_at "rd"
    generalize 1 + c0 / 4 % m4 = R at r1 r2 ⊢
    intro l0 hl0
    walk_at "rd"
    intro l1 hl1
    walk_at "rd"
    intro l2 hl2'
    walk_at "rd"
    intro l3 hl3
    walk_at "rd"
    intro Ls hLs
    have Hq0 : Same H (upd H q0 (.lst [.int 3, .int 4, .int 6, .int 14])) := Same.upd hq0
    have Hl0 := Hq0.trans (Same.upd (o := .lst []) hl0)
    have Hl1 := Hl0.trans (Same.upd (o := .lst []) hl1)
    have Hl2 := Hl1.trans (Same.upd (o := .lst []) hl2')
    have Hl3 := Hl2.trans (Same.upd (o := .lst []) hl3)
    have HLs := Hl3.trans (Same.upd (o := .lst [.ref l0, .ref l1, .ref l2, .ref l3]) hLs)
    have n0 : H l0 = none := Hq0.free hl0
    have n1 : H l1 = none := Hl0.free hl1
    have n2 : H l2 = none := Hl1.free hl2'
    have n3 : H l3 = none := Hl2.free hl3
    have AP : Apart Ls l0 l1 l2 l3 :=
      { L0 := (ne_of_none (by walk_at "hp") hLs).symm
        L1 := (ne_of_none (by walk_at "hp") hLs).symm
        L2 := (ne_of_none (by walk_at "hp") hLs).symm
        L3 := (ne_of_none (by walk_at "hp") hLs).symm
        e01 := ne_of_none (by walk_at "hp") hl1
        e02 := ne_of_none (by walk_at "hp") hl2'
        e03 := ne_of_none (by walk_at "hp") hl3
        e12 := ne_of_none (by walk_at "hp") hl2'
        e13 := ne_of_none (by walk_at "hp") hl3
        e23 := ne_of_none (by walk_at "hp") hl3 }
    walk_at "rd"
    refine for_rng (fun i σ H' => ∃ c kk rm ot, σ = [some (.ref a), c, some (.int R), some (.ref Ls), kk, rm, ot, none, none, none, none, none, none] ∧ Same H H' ∧ Four H' R Ls l0 l1 l2 l3) ⟨_, none, none, none, rfl, HLs, ?_⟩ ?_ ?_
    · exact ⟨upd_same, Grown.none (by walk_at "hp"), Grown.none (by walk_at "hp"), Grown.none (by walk_at "hp"), Grown.none (by walk_at "hp")⟩
    · rintro i σ H' hi ⟨c, kk, rm, ot, rfl, s1, F⟩
      have hi2 : (4 : Int) + (i : Nat) ≤ 60 := by
        have : i < ((if (60 : Int) < ((ns.map V.int).length : Int) then (60 : Int) else ((ns.map V.int).length : Int)) - 4).toNat := hi
        split at this <;> omega
      have eL := F.hL
      obtain ⟨x0, e0, z0⟩ := F.g0.at
      obtain ⟨x1, e1, z1⟩ := F.g1.at
      obtain ⟨x2, e2, z2⟩ := F.g2.at
      obtain ⟨x3, e3, z3⟩ := F.g3.at
      have R0 : (0 : Int) < R := by omega
      walk_at "rd"
      refine ⟨a, ns, _, rfl, s1.seq hS, hl, by omega, by omega, fun c1 hc1 hc1' => ?_⟩
      walk_at "rd"
      have rm0 := mod_lo (c1 / 8) R0
      have rm1 := mod_hi (c1 / 8) R0
      generalize c1 / 8 % R = rm' at rm0 rm1 ⊢
      refine if_else ?_ (fun els d1 => ?_)
      · -- no way
        walk_at "rd"
        intro t5 ht5
        have s5 : Same H' (upd H' t5 (.tup [.int 4, .int 5])) := Same.upd ht5
        refine ⟨t5, _, rfl, .inr (SqT.of upd_same), rfl, rfl, ?_⟩
        rw [if_neg Bool.false_ne_true, in45]
        have F5 := F.same s5
        have s15 := s1.trans s5
        have eL5 := s5 _ _ eL
        have e15 := s5 _ _ e1
        have e25 := s5 _ _ e2
        have e35 := s5 _ _ e3
        generalize upd H' t5 (.tup [.int 4, .int 5]) = H5 at s5 F5 s15 eL5 e15 e25 e35 ⊢
        walk_at "rd"
        refine if_else ?_ (fun els d1 => ?_)
        · walk_at "rd"
          refine if_else ?_ (fun els d1 => ?_)
          · walk_at "rd"
            refine if_else ?_ (fun els d1 => ?_)
            · walk_at "rd"
              exact ⟨_, _, _, _, rfl, s15, F5⟩
            · walk_at "rd"
              refine ifd (fun d2 => ?_) (fun d2 => els)
              have v0 := mod_lo (c1 / 128) (n := 10) (by decide)
              have v1 := mod_hi (c1 / 128) (n := 10) (by decide)
              walk_at "rd"
              intro p6 hp6
              walk_at "rd"
              refine r_app (up_keep e35 hp6) (by omega) ?_
              refine ⟨_, _, _, _, rfl, (s15.trans (Same.upd hp6)).put n3, ?_⟩
              exact (F5.same (Same.upd hp6)).wheel AP (up_keep e35 hp6) (by omega) (x := (rm', c1 / 128 % 10)) upd_same ⟨⟨rm0, rm1⟩, v0, by omega⟩
          · walk_at "rd"
            refine ifd (fun d2 => ?_) (fun d2 => els)
            have v0 := mod_lo (c1 / 128) (n := 255) (by decide)
            have v1 := mod_hi (c1 / 128) (n := 255) (by decide)
            walk_at "rd"
            intro p6 hp6
            walk_at "rd"
            refine r_app (up_keep e25 hp6) (by omega) ?_
            refine ⟨_, _, _, _, rfl, (s15.trans (Same.upd hp6)).put n2, ?_⟩
            exact (F5.same (Same.upd hp6)).lever AP (up_keep e25 hp6) (by omega) (x := (rm', 1 + c1 / 128 % 255)) upd_same ⟨⟨rm0, rm1⟩, by omega, by omega⟩
        · walk_at "rd"
          refine ifd (fun d2 => ?_) (fun d2 => els)
          obtain ⟨m, hm, em⟩ := atI_mod2 (x := c1 / 2048)
          have hm0 : (0 : Int) < m := by omega
          have kd0 := mod_lo (c1 / 128) hm0
          have kd1 : c1 / 128 % m < 12 := by have := mod_hi (c1 / 128) hm0; omega
          walk_at "rd"
          intro q7 hq7
          walk_at "rd"
          intro p6 hp6
          walk_at "rd"
          have s7 : Same H5 (upd H5 q7 (.lst [.int 2, .int 12])) := Same.upd hq7
          refine r_app (up_keep (up_keep e15 hq7) hp6) (by omega) ?_
          refine ⟨_, _, _, _, rfl, ((s15.trans s7).trans (Same.upd hp6)).put n1, ?_⟩
          exact (F5.same (s7.trans (Same.upd hp6))).thing AP (up_keep (up_keep e15 hq7) hp6) (by omega) (x := (rm', c1 / 128 % m)) upd_same ⟨⟨rm0, rm1⟩, kd0, by omega⟩
      · walk_at "rd"
        refine ifd (fun d2 => ?_) (fun d2 => els)
        walk_at "rd"
        refine ifd (fun d3 => ?_) (fun d3 => els)
        have ot0 := mod_lo (c1 / 128) (n := R - 1) (by omega)
        have ot1 := mod_hi (c1 / 128) (n := R - 1) (by omega)
        have R1 : (0 : Int) < R - 1 := by omega
        have b0 := mod_lo (rm' + 1 + c1 / 128 % (R - 1)) R0
        have b1 := mod_hi (rm' + 1 + c1 / 128 % (R - 1)) R0
        have b2 := way_ne rm0 rm1 ot0 ot1
        walk_at "rd"
        refine ⟨_, rfl, fun g gt H3 s3 gok hg => ?_⟩
        walk_at "rd"
        intro p6 hp6
        walk_at "rd"
        have s6 := s3.trans (Same.upd (o := .tup [.int rm', .int ((rm' + 1 + c1 / 128 % (R - 1)) % R), .ref g, .bl (decide (0 < c1 / 4096 % 3))]) hp6)
        refine r_app (s6 _ _ e0) (by omega) ?_
        refine ⟨_, _, _, _, rfl, (s1.trans s6).put n0, ?_⟩
        exact (F.same s6).way AP (s6 _ _ e0) (by omega) (x := ⟨rm', (rm' + 1 + c1 / 128 % (R - 1)) % R, gt, decide (0 < c1 / 4096 % 3)⟩) ⟨g, upd_same, up_keep hg hp6⟩ ⟨⟨rm0, rm1⟩, ⟨b0, b1⟩, fun z => b2 z.symm, gok⟩
    · rintro σ H' ⟨c, kk, rm, ot, rfl, s1, F⟩
      walk_at "rd"
      refine ⟨a, ns, 1, rfl, s1.seq hS, hl, by decide, by decide, fun c1 hc1 hc1' => ?_⟩
      have eL := F.hL
      obtain ⟨ws, ⟨ps0, e0, w0⟩, z0, k0⟩ := F.g0.ex
      obtain ⟨ts, ⟨ps1, e1, w1⟩, z1, k1⟩ := F.g1.ex
      obtain ⟨lvs, ⟨ps2, e2, w2⟩, z2, k2⟩ := F.g2.ex
      obtain ⟨whs, ⟨ps3, e3, w3⟩, z3, k3⟩ := F.g3.ex
      walk_at "rd"
      intro D hD
      refine comp_lst [.ref l0, .ref l1, .ref l2, .ref l3] (fun i σ H2 => ∃ v0, σ = [v0] ∧ Same H' H2 ∧ ∃ us : List Addr, us.length = i ∧ H2 D = some (.lst (us.map V.ref)) ∧ ∀ j u, us[j]? = some u → ∃ xs : List Addr, [ps0, ps1, ps2, ps3][j]? = some xs ∧ H2 u = some (.tup (xs.map V.ref))) ⟨none, rfl, Same.upd hD, [], rfl, upd_same, fun j u h => by rw [List.getElem?_nil] at h; cases h⟩ ?_ ?_ ?_
      · rintro i σ H2 ⟨v0, rfl, s2, _⟩
        exact SqL.of (s2 _ _ eL)
      · rintro i x σ H2 hx ⟨v0, rfl, s2, us, hul, hus, huj⟩
        have hi : i < 4 := (List.getElem?_eq_some_iff.mp hx).1
        obtain ⟨l, ps, ex, eps, hlp⟩ : ∃ l ps, x = .ref l ∧ [ps0, ps1, ps2, ps3][i]? = some ps ∧ H2 l = some (.lst (ps.map V.ref)) := by
          have hi' : i = 0 ∨ i = 1 ∨ i = 2 ∨ i = 3 := by omega
          rcases hi' with rfl | rfl | rfl | rfl
          · exact ⟨l0, ps0, (Option.some.inj hx).symm, rfl, s2 _ _ e0⟩
          · exact ⟨l1, ps1, (Option.some.inj hx).symm, rfl, s2 _ _ e1⟩
          · exact ⟨l2, ps2, (Option.some.inj hx).symm, rfl, s2 _ _ e2⟩
          · exact ⟨l3, ps3, (Option.some.inj hx).symm, rfl, s2 _ _ e3⟩
        subst ex
        walk_at "rd"
        refine r_tol (SqL.of hlp) fun t6 ht6 => ?_
        have s6 : Same H2 (upd H2 t6 (.tup (ps.map V.ref))) := Same.upd ht6
        have hD2 : D ≠ t6 := ne_of_none hus ht6
        refine ⟨_, s6 _ _ hus, by rw [List.length_map]; omega, _, rfl, (s2.trans s6).put hD, us ++ [t6], by simp [hul], by rw [upd_same]; simp, fun j u hj => ?_⟩
        by_cases hjl : j < us.length
        · rw [List.getElem?_append_left hjl] at hj
          obtain ⟨xs, h1, h2⟩ := huj j u hj
          have h3 := s6 _ _ h2
          exact ⟨xs, h1, up_oth h3 (ne_of h3 (s6 _ _ hus) (by intro z; cases z))⟩
        · have hje : j = us.length := by
            have := (List.getElem?_eq_some_iff.mp hj).1
            simp at this
            omega
          subst hje
          rw [List.getElem?_append_right (Nat.le_refl _)] at hj
          simp at hj
          subst hj
          exact ⟨ps, by rw [hul]; exact eps, up_oth upd_same (fun z => hD2 z.symm)⟩
      · rintro σ H2 ⟨v0, rfl, s2, us, hul, hus, huj⟩
        have hul4 : us.length = 4 := hul
        obtain ⟨u0, u1, u2, u3, rfl⟩ : ∃ u0 u1 u2 u3, us = [u0, u1, u2, u3] := by
          match us, hul4 with
          | [u0, u1, u2, u3], _ => exact ⟨u0, u1, u2, u3, rfl⟩
        obtain ⟨_, q0, h0⟩ := huj 0 u0 rfl
        obtain ⟨_, q1, h1⟩ := huj 1 u1 rfl
        obtain ⟨_, q2, h2⟩ := huj 2 u2 rfl
        obtain ⟨_, q3, h3⟩ := huj 3 u3 rfl
        cases q0
        cases q1
        cases q2
        cases q3
        replace hus : H2 D = some (.lst [.ref u0, .ref u1, .ref u2, .ref u3]) := hus
        have R0 : (0 : Int) < R := by omega
        walk_at "rd"
        intro t1 ht1
        walk_at "rd"
        intro t2 ht2
        walk_at "rd"
        intro t3 ht3
        walk_at "rd"
        refine r_catT (by walk_at "sq") (by walk_at "sq") (by simp) (by simp) rfl ?_
        intro t4 ht4
        walk_at "rd"
        intro t5 ht5
        walk_at "rd"
        refine r_catT (by walk_at "sq") (by walk_at "sq") (by simp) (by simp) rfl ?_
        intro t6 ht6
        walk_at "rd"
        refine r_catT (by walk_at "sq") (by walk_at "sq") (by simp) (by simp) rfl ?_
        intro t7 ht7
        have s12 := s1.trans s2
        have fin : ∀ Hf, Same H2 Hf → Hf t7 = some (.tup [.int R, .int (c1 % R), .int (c1 / 14 % R), .ref u0, .ref u1, .ref u2, .ref u3, .int (c1 / 256 % 256), .int (c1 / 65536 % 10)]) → ClOk ⟨R, c1 % R, c1 / 14 % R, ws, ts, lvs, whs, c1 / 256 % 256, c1 / 65536 % 10⟩ → Q (.ref t7) Hf := fun Hf sA e okC =>
          k t7 ⟨R, c1 % R, c1 / 14 % R, ws, ts, lvs, whs, c1 / 256 % 256, c1 / 65536 % 10⟩ Hf (s12.trans sA) ⟨u0, u1, u2, u3, e, ⟨ps0, sA _ _ h0, w0.mono fun _ _ => WayAt.mono (s2.trans sA).ts⟩, ⟨ps1, sA _ _ h1, w1.mono fun _ _ => PairAt.mono (s2.trans sA).ts⟩, ⟨ps2, sA _ _ h2, w2.mono fun _ _ => PairAt.mono (s2.trans sA).ts⟩, ⟨ps3, sA _ _ h3, w3.mono fun _ _ => PairAt.mono (s2.trans sA).ts⟩⟩ okC
        refine fin _ (by walk_at "sm") upd_same ?_
        have f0 := mod_lo c1 R0
        have f1 := mod_hi c1 R0
        have g0 := mod_lo (c1 / 14) R0
        have g1 := mod_hi (c1 / 14) R0
        have b0 := mod_lo (c1 / 256) (n := 256) (by decide)
        have b1 := mod_hi (c1 / 256) (n := 256) (by decide)
        have v0 := mod_lo (c1 / 65536) (n := 10) (by decide)
        have v1 := mod_hi (c1 / 65536) (n := 10) (by decide)
        exact ⟨r1, r2, ⟨f0, f1⟩, ⟨g0, g1⟩, z0, z1, z2, z3, k0, fun x hx => ⟨(k1 x hx).1, (k1 x hx).2.1, by have := (k1 x hx).2.2; omega⟩, k2, k3, ⟨b0, by show c1 / 256 % 256 ≤ 255; omega⟩, ⟨v0, by show c1 / 65536 % 10 ≤ 9; omega⟩⟩
theorem ok_ginit (T : Txt mg cs) (L : LaidC K mg "Gate" "__init__" "Gate.__init__" s_Gate_init ["self", "word", "numbers"]) : CCal P w K mg base 1 "Gate" "__init__" ["self", "word", "numbers"] (spGInit K) := by
  refine L.cc (k := 0) sc_Gate_init (fun vs H Q E h => ?_) (fun f cdv A outer s H vs Q E hr h => ?_)
  · obtain ⟨p, C, dx, q, z, rfl, _⟩ := h
    rfl
  · obtain ⟨p, C, dx, q, z, rfl, hp, cl, nw, nn, k⟩ := h
    refine ⟨_, (pss_cons (ps_fldK K (pv 0) (pv 1) rfl)
      (pss_one (ps_fldK K (pv 0) (pv 2) rfl))), ?_⟩
    walk_at "rd"
    refine r_setf hp cl nw (by decide) ?_
    walk_at "rd"
    refine r_setf upd_same cl nn (by show 1 < 1000; decide) ?_
    rw [upd_upd]
    exact k
theorem mk_plain (T : Txt mg cs) (TC : Tcl K cs) (L : LaidI K mg "Plain" cs.Plain "Plain.__init__" s_Plain_init ["self"]) (C_Gate_init : CCal P w K mg base 1 "Gate" "__init__" ["self", "word", "numbers"] (spGInit K)) : Makes P w K mg base 2 "Plain" cs.Plain ["self"] (spMk cs "plain") := by
  refine L.makes (k := 1) sc_Plain_init (fun vs H Q E h => ?_) (fun f cdv A outer s H vs Q E hr h => ?_)
  · obtain ⟨p, dx, g, rfl, hw, _⟩ := h
    cases g <;> first | rfl | exact absurd hw (by simp only [Gt.word]; decide +kernel)
  · obtain ⟨p, dx, g, rfl, hw, hp, k⟩ := h
    cases g <;> first | exact absurd hw (by simp only [Gt.word]; decide +kernel) | skip
    refine ⟨_, (pss_one (ps_expr (pe_cc C_Gate_init hr (by decide) rfl (pa_cons (pv 0) (pa_cons pe_str (pa_cons (pe_tup pa_nil) pa_nil)))))), ?_⟩
    walk_at "rd"
    intro t ht
    refine ⟨p, cs.Plain, dx, t, _, rfl, up_keep hp ht, TC.cl_Plain, TC.no_Plain_word, TC.no_Plain_numbers, ?_⟩
    walk_at "rd"
    have hpt : p ≠ t := ne_of_none hp ht
    refine k _ (fun b o hb hbp => ?_) ⟨dx, t, upd_same, by rw [upd_ne hpt.symm]; exact upd_same⟩
    rw [upd_ne hbp, upd_ne (ne_of_none hb ht)]
    exact hb
theorem mk_door (T : Txt mg cs) (TC : Tcl K cs) (L : LaidI K mg "Door" cs.Door "Door.__init__" s_Door_init ["self", "kind"]) (C_Gate_init : CCal P w K mg base 1 "Gate" "__init__" ["self", "word", "numbers"] (spGInit K)) : Makes P w K mg base 2 "Door" cs.Door ["self", "kind"] (spMk cs "door") := by
  refine L.makes (k := 1) sc_Door_init (fun vs H Q E h => ?_) (fun f cdv A outer s H vs Q E hr h => ?_)
  · obtain ⟨p, dx, g, rfl, hw, _⟩ := h
    cases g <;> first | rfl | exact absurd hw (by simp only [Gt.word]; decide +kernel)
  · obtain ⟨p, dx, g, rfl, hw, hp, k⟩ := h
    cases g <;> first | exact absurd hw (by simp only [Gt.word]; decide +kernel) | skip
    rename_i n
    refine ⟨_, (pss_one (ps_expr (pe_cc C_Gate_init hr (by decide) rfl (pa_cons (pv 0) (pa_cons pe_str (pa_cons (pe_tup (pa_cons (pv 1) pa_nil)) pa_nil)))))), ?_⟩
    walk_at "rd"
    intro t ht
    refine ⟨p, cs.Door, dx, t, _, rfl, up_keep hp ht, TC.cl_Door, TC.no_Door_word, TC.no_Door_numbers, ?_⟩
    walk_at "rd"
    have hpt : p ≠ t := ne_of_none hp ht
    refine k _ (fun b o hb hbp => ?_) ⟨dx, t, upd_same, by rw [upd_ne hpt.symm]; exact upd_same⟩
    rw [upd_ne hbp, upd_ne (ne_of_none hb ht)]
    exact hb
theorem mk_need (T : Txt mg cs) (TC : Tcl K cs) (L : LaidI K mg "Need" cs.Need "Need.__init__" s_Need_init ["self", "kind"]) (C_Gate_init : CCal P w K mg base 1 "Gate" "__init__" ["self", "word", "numbers"] (spGInit K)) : Makes P w K mg base 2 "Need" cs.Need ["self", "kind"] (spMk cs "need") := by
  refine L.makes (k := 1) sc_Need_init (fun vs H Q E h => ?_) (fun f cdv A outer s H vs Q E hr h => ?_)
  · obtain ⟨p, dx, g, rfl, hw, _⟩ := h
    cases g <;> first | rfl | exact absurd hw (by simp only [Gt.word]; decide +kernel)
  · obtain ⟨p, dx, g, rfl, hw, hp, k⟩ := h
    cases g <;> first | exact absurd hw (by simp only [Gt.word]; decide +kernel) | skip
    rename_i n
    refine ⟨_, (pss_cons (ps_expr (pe_cc C_Gate_init hr (by decide) rfl (pa_cons (pv 0) (pa_cons pe_str (pa_cons (pe_tup (pa_cons (pv 1) pa_nil)) pa_nil)))))
      (pss_one (ps_fldK K (pv 0) (pv 1) rfl))), ?_⟩
    walk_at "rd"
    intro t ht
    refine ⟨p, cs.Need, dx, t, _, rfl, up_keep hp ht, TC.cl_Need, TC.no_Need_word, TC.no_Need_numbers, ?_⟩
    walk_at "rd"
    refine r_setf upd_same TC.cl_Need TC.no_Need_kind (by show 2 < 1000; decide) ?_
    rw [upd_upd]
    have hpt : p ≠ t := ne_of_none hp ht
    refine k _ (fun b o hb hbp => ?_) ⟨dx, t, upd_same, by rw [upd_ne hpt.symm]; exact upd_same⟩
    rw [upd_ne hbp, upd_ne (ne_of_none hb ht)]
    exact hb
theorem mk_bar (T : Txt mg cs) (TC : Tcl K cs) (L : LaidI K mg "Bar" cs.Bar "Bar.__init__" s_Bar_init ["self", "bar"]) (C_Gate_init : CCal P w K mg base 1 "Gate" "__init__" ["self", "word", "numbers"] (spGInit K)) : Makes P w K mg base 2 "Bar" cs.Bar ["self", "bar"] (spMk cs "bar") := by
  refine L.makes (k := 1) sc_Bar_init (fun vs H Q E h => ?_) (fun f cdv A outer s H vs Q E hr h => ?_)
  · obtain ⟨p, dx, g, rfl, hw, _⟩ := h
    cases g <;> first | rfl | exact absurd hw (by simp only [Gt.word]; decide +kernel)
  · obtain ⟨p, dx, g, rfl, hw, hp, k⟩ := h
    cases g <;> first | exact absurd hw (by simp only [Gt.word]; decide +kernel) | skip
    rename_i n
    refine ⟨_, (pss_cons (ps_expr (pe_cc C_Gate_init hr (by decide) rfl (pa_cons (pv 0) (pa_cons pe_str (pa_cons (pe_tup (pa_cons (pv 1) pa_nil)) pa_nil)))))
      (pss_one (ps_fldK K (pv 0) (pv 1) rfl))), ?_⟩
    walk_at "rd"
    intro t ht
    refine ⟨p, cs.Bar, dx, t, _, rfl, up_keep hp ht, TC.cl_Bar, TC.no_Bar_word, TC.no_Bar_numbers, ?_⟩
    walk_at "rd"
    refine r_setf upd_same TC.cl_Bar TC.no_Bar_bar (by show 2 < 1000; decide) ?_
    rw [upd_upd]
    have hpt : p ≠ t := ne_of_none hp ht
    refine k _ (fun b o hb hbp => ?_) ⟨dx, t, upd_same, by rw [upd_ne hpt.symm]; exact upd_same⟩
    rw [upd_ne hbp, upd_ne (ne_of_none hb ht)]
    exact hb
theorem mk_float (T : Txt mg cs) (TC : Tcl K cs) (L : LaidI K mg "Float" cs.Float "Float.__init__" s_Float_init ["self", "height"]) (C_Gate_init : CCal P w K mg base 1 "Gate" "__init__" ["self", "word", "numbers"] (spGInit K)) : Makes P w K mg base 2 "Float" cs.Float ["self", "height"] (spMk cs "float") := by
  refine L.makes (k := 1) sc_Float_init (fun vs H Q E h => ?_) (fun f cdv A outer s H vs Q E hr h => ?_)
  · obtain ⟨p, dx, g, rfl, hw, _⟩ := h
    cases g <;> first | rfl | exact absurd hw (by simp only [Gt.word]; decide +kernel)
  · obtain ⟨p, dx, g, rfl, hw, hp, k⟩ := h
    cases g <;> first | exact absurd hw (by simp only [Gt.word]; decide +kernel) | skip
    rename_i n
    refine ⟨_, (pss_cons (ps_expr (pe_cc C_Gate_init hr (by decide) rfl (pa_cons (pv 0) (pa_cons pe_str (pa_cons (pe_tup (pa_cons (pv 1) pa_nil)) pa_nil)))))
      (pss_one (ps_fldK K (pv 0) (pv 1) rfl))), ?_⟩
    walk_at "rd"
    intro t ht
    refine ⟨p, cs.Float, dx, t, _, rfl, up_keep hp ht, TC.cl_Float, TC.no_Float_word, TC.no_Float_numbers, ?_⟩
    walk_at "rd"
    refine r_setf upd_same TC.cl_Float TC.no_Float_height (by show 2 < 1000; decide) ?_
    rw [upd_upd]
    have hpt : p ≠ t := ne_of_none hp ht
    refine k _ (fun b o hb hbp => ?_) ⟨dx, t, upd_same, by rw [upd_ne hpt.symm]; exact upd_same⟩
    rw [upd_ne hbp, upd_ne (ne_of_none hb ht)]
    exact hb
theorem mk_wade (T : Txt mg cs) (TC : Tcl K cs) (L : LaidI K mg "Wade" cs.Wade "Wade.__init__" s_Wade_init ["self", "height", "kind"]) (C_Gate_init : CCal P w K mg base 1 "Gate" "__init__" ["self", "word", "numbers"] (spGInit K)) : Makes P w K mg base 2 "Wade" cs.Wade ["self", "height", "kind"] (spMk cs "wade") := by
  refine L.makes (k := 1) sc_Wade_init (fun vs H Q E h => ?_) (fun f cdv A outer s H vs Q E hr h => ?_)
  · obtain ⟨p, dx, g, rfl, hw, _⟩ := h
    cases g <;> first | rfl | exact absurd hw (by simp only [Gt.word]; decide +kernel)
  · obtain ⟨p, dx, g, rfl, hw, hp, k⟩ := h
    cases g <;> first | exact absurd hw (by simp only [Gt.word]; decide +kernel) | skip
    rename_i n1 n2
    refine ⟨_, (pss_cons (ps_expr (pe_cc C_Gate_init hr (by decide) rfl (pa_cons (pv 0) (pa_cons pe_str (pa_cons (pe_tup (pa_cons (pv 1) (pa_cons (pv 2) pa_nil))) pa_nil)))))
      (pss_cons (ps_fldK K (pv 0) (pv 1) rfl)
      (pss_one (ps_fldK K (pv 0) (pv 2) rfl)))), ?_⟩
    walk_at "rd"
    intro t ht
    refine ⟨p, cs.Wade, dx, t, _, rfl, up_keep hp ht, TC.cl_Wade, TC.no_Wade_word, TC.no_Wade_numbers, ?_⟩
    walk_at "rd"
    refine r_setf upd_same TC.cl_Wade TC.no_Wade_height (by show 2 < 1000; decide) ?_
    walk_at "rd"
    refine r_setf upd_same TC.cl_Wade TC.no_Wade_kind (by show 3 < 1000; decide) ?_
    rw [upd_upd, upd_upd]
    have hpt : p ≠ t := ne_of_none hp ht
    refine k _ (fun b o hb hbp => ?_) ⟨dx, t, upd_same, by rw [upd_ne hpt.symm]; exact upd_same⟩
    rw [upd_ne hbp, upd_ne (ne_of_none hb ht)]
    exact hb
theorem made_obj {H : Hp} {Q : VK} {g : Gt} {x dx : Addr} (hx : H x = none) (hdx : H dx = none) (ne : dx ≠ x) (k : ∀ (x : Addr) (H' : Hp), Same H H' → H x = none → GObj cs H' x g → Q (.ref x) H') : spMk cs g.word (.ref x :: (g.ns.map V.int ++ [])) (upd (upd H dx (.own x)) x (.ins (clsOf cs g) dx [])) (fun v H2 => v = .non ∧ Q (.ref x) H2) E0 := by
  refine ⟨x, dx, g, by rw [List.append_nil], rfl, upd_same, fun H' hk ho => ⟨rfl, k x H' (fun b o hb => ?_) hx ho⟩⟩
  refine hk b o ?_ (ne_of_none hb hx)
  rw [upd_ne (ne_of_none hb hx), upd_ne (ne_of_none hb hdx)]
  exact hb
theorem ok_gate_of (T : Txt mg cs) (L : Laid K mg "gate_of" s_gate_of ["gate"]) (C_Plain : Makes P w K mg base 2 "Plain" cs.Plain ["self"] (spMk cs "plain")) (C_Door : Makes P w K mg base 2 "Door" cs.Door ["self", "kind"] (spMk cs "door")) (C_Need : Makes P w K mg base 2 "Need" cs.Need ["self", "kind"] (spMk cs "need"))
    (C_Bar : Makes P w K mg base 2 "Bar" cs.Bar ["self", "bar"] (spMk cs "bar")) (C_Wade : Makes P w K mg base 2 "Wade" cs.Wade ["self", "height", "kind"] (spMk cs "wade")) (C_Float : Makes P w K mg base 2 "Float" cs.Float ["self", "height"] (spMk cs "float")) : Cal P w K mg base 4 "gate_of" ["gate"] (spObj cs) := by
  refine L.cal (k := 3) sc_gate_of (fun vs H Q E h => ?_) (fun f cdv A outer s H vs Q E hr h => ?_)
  · obtain ⟨p, g, rfl, _⟩ := h
    rfl
  · obtain ⟨p, g, rfl, hp, k⟩ := h
    refine ⟨_, (pss_cons (ps_set (i := 1) sc_gate_of.nd rfl (Or.inl rfl) (pe_ix (ix_tupK K) (pv 0) pe_int (fun _ _ => rfl)))
      (pss_cons (ps_if (pt_cmpR op_eq (pv 1) pe_str (nomark _)) (pss_one (ps_ret (pe_mak0 C_Plain hr (by decide) rfl))) pss_nil)
      (pss_cons (ps_if (pt_cmpR op_eq (pv 1) pe_str (nomark _)) (pss_one (ps_ret (pe_mak C_Door hr (by decide) rfl (pa_cons (pe_ix (ix_tupK K) (pv 0) pe_int (fun _ _ => rfl)) pa_nil)))) pss_nil)
      (pss_cons (ps_if (pt_cmpR op_eq (pv 1) pe_str (nomark _)) (pss_one (ps_ret (pe_mak C_Need hr (by decide) rfl (pa_cons (pe_ix (ix_tupK K) (pv 0) pe_int (fun _ _ => rfl)) pa_nil)))) pss_nil)
      (pss_cons (ps_if (pt_cmpR op_eq (pv 1) pe_str (nomark _)) (pss_one (ps_ret (pe_mak C_Bar hr (by decide) rfl (pa_cons (pe_ix (ix_tupK K) (pv 0) pe_int (fun _ _ => rfl)) pa_nil)))) pss_nil)
      (pss_cons (ps_if (pt_cmpR op_eq (pv 1) pe_str (nomark _)) (pss_one (ps_ret (pe_mak C_Wade hr (by decide) rfl (pa_cons (pe_ix (ix_tupK K) (pv 0) pe_int (fun _ _ => rfl)) (pa_cons (pe_ix (ix_tupK K) (pv 0) pe_int (fun _ _ => rfl)) pa_nil))))) pss_nil)
      (pss_cons (ps_if (pt_cmpR op_eq (pv 1) pe_str (nomark _)) (pss_one (ps_ret (pe_mak C_Float hr (by decide) rfl (pa_cons (pe_ix (ix_tupK K) (pv 0) pe_int (fun _ _ => rfl)) pa_nil)))) pss_nil)
      (pss_one ps_never)))))))), ?_⟩
    have hp' := hp
    rw [Gt.vs_eq] at hp'
    walk_at "rd"
    refine ifd (fun h1 => ?_) (fun h1 => ?_)
    · cases g <;> first | exact absurd h1 (by simp only [Gt.word]; decide +kernel) | skip
      walk_at "rd"
      exact fun x dx hx hdx ne => made_obj hx hdx ne k
    walk_at "rd"
    refine ifd (fun h2 => ?_) (fun h2 => ?_)
    · cases g <;> first | exact absurd h2 (by simp only [Gt.word]; decide +kernel) | skip
      walk_at "rd"
      exact fun x dx hx hdx ne => made_obj hx hdx ne k
    walk_at "rd"
    refine ifd (fun h3 => ?_) (fun h3 => ?_)
    · cases g <;> first | exact absurd h3 (by simp only [Gt.word]; decide +kernel) | skip
      walk_at "rd"
      exact fun x dx hx hdx ne => made_obj hx hdx ne k
    walk_at "rd"
    refine ifd (fun h4 => ?_) (fun h4 => ?_)
    · cases g <;> first | exact absurd h4 (by simp only [Gt.word]; decide +kernel) | skip
      walk_at "rd"
      exact fun x dx hx hdx ne => made_obj hx hdx ne k
    walk_at "rd"
    refine ifd (fun h5 => ?_) (fun h5 => ?_)
    · cases g <;> first | exact absurd h5 (by simp only [Gt.word]; decide +kernel) | skip
      walk_at "rd"
      exact fun x dx hx hdx ne => made_obj hx hdx ne k
    walk_at "rd"
    refine ifd (fun h6 => ?_) (fun h6 => ?_)
    · cases g <;> first | exact absurd h6 (by simp only [Gt.word]; decide +kernel) | skip
      walk_at "rd"
      exact fun x dx hx hdx ne => made_obj hx hdx ne k
    cases g
    · exact absurd rfl h1
    · exact absurd rfl h2
    · exact absurd rfl h3
    · exact absurd rfl h4
    · exact absurd rfl h5
    · exact absurd rfl h6
theorem vm_told {C : Addr} (L : LaidM K C "told" "Gate.told" s_Gate_told ["self"]) (cl : Cls K C) (nw : NoAttr K C "word") (nn : NoAttr K C "numbers") : VMeth P w K mg base 1 C "told" ["self"] (spTold cs C) := by
  refine L.vm (k := 0) cl sc_Gate_told (fun vs H Q E h => ?_) (fun f cdv A outer s H vs Q E hr h => ?_)
  · obtain ⟨p, dx, q, g, rfl, _⟩ := h
    rfl
  · obtain ⟨p, dx, q, g, rfl, hp, hq, k⟩ := h
    have big := line_big
    have hns := g.ns_len
    refine ⟨_, (pss_one (ps_ret (pe_op (op_catTK K) (pe_tup (pa_cons (pe_fldK K (pv 0) rfl) pa_nil)) (pe_fldK K (pv 0) rfl)))), ?_⟩
    walk_at "rd"
    refine r_fld hp cl nw (fl_word q g) ?_
    walk_at "rd"
    intro t ht
    have s1 := Same.upd (o := .tup [.str g.word]) ht
    walk_at "rd"
    refine r_fld (s1 _ _ hp) cl nn (fl_numbers q g) ?_
    refine ⟨t, q, _, _, rfl, rfl, SqT.of upd_same, SqT.of (s1 _ _ hq), by simp, by simp; omega, fun e => ?_, fun e r hr0 => ?_⟩
    · have e2 : g.vs = [.str g.word] := by rw [Gt.vs_eq, e]
      exact k t _ s1 (by rw [e2]; exact upd_same)
    · exact k r _ (s1.trans (Same.upd hr0)) (by rw [Gt.vs_eq]; exact upd_same)
theorem vm_text {C : Addr} (T : Txt mg cs) (L : LaidM K C "text" "Gate.text" s_Gate_text ["self"]) (cl : Cls K C) (vt : VMeth P w K mg base 1 C "told" ["self"] (spTold cs C)) : VMeth P w K mg base 2 C "text" ["self"] (spText cs C) := by
  refine L.vm (k := 1) cl sc_Gate_text (fun vs H Q E h => ?_) (fun f cdv A outer s H vs Q E hr h => ?_)
  · obtain ⟨p, dx, q, g, rfl, _⟩ := h
    rfl
  · obtain ⟨p, dx, q, g, rfl, hp, hq, ok, k⟩ := h
    have big := line_big
    have hvl := vs_len g
    have hns := ns_small ok
    refine ⟨_, (pss_one (ps_ret (pe_bm PySem.F.plainAttrs_str PySem.F.slot_str_join PySem.F.type_str_join (mt_joinK K) pe_str (pa_cons (pe_comp (compOk (N := ["part"]) (own := 1) (caps := []) ["self"] (defScope s_Gate_text) (by decide +kernel)) rfl (pi_tupK K (pe_vm0 (k := 1) (hr.mono (by decide)) (pv 0))) (fun _ _ _ _ => (pg_name (i := 0) (show List.Nodup (["part"] : List Str) by decide +kernel) rfl (Or.inl rfl))) (fun _ _ _ _ => pf_nil) (fun _ _ _ _ => (pe_callTy str1 rfl T.n_str bt_str (pa_cons (pv 0) pa_nil)))) pa_nil)))), ?_⟩
    walk_at "rd"
    refine ⟨rfl, ?_⟩
    walk_at "rd"
    refine r_vm hp vt (fl_told q g) ?_
    walk_at "rd"
    refine ⟨p, dx, q, g, rfl, hp, hq, fun r H1 s1 hr1 => ?_⟩
    walk_at "rd"
    intro D hD
    refine comp_tpl g.vs (fun i σ H' => ∃ v0, σ = [v0] ∧ Same H1 H' ∧ H' D = some (.lst ((g.vs.take i).map fun v => V.str (strV v)))) ⟨none, rfl, Same.upd hD, by rw [upd_same]; rfl⟩ ?_ ?_ ?_
    · rintro i σ H' ⟨_, rfl, s2, _⟩
      exact SqT.of (s2 _ _ hr1)
    · rintro i x σ H' hx ⟨v0, rfl, s2, hd2⟩
      have hi : i < g.vs.length := (List.getElem?_eq_some_iff.mp hx).1
      have ex : g.vs[i] = x := (List.getElem?_eq_some_iff.mp hx).2
      have fin : ∃ ys, H' D = some (.lst ys) ∧ ys.length < sizeLine ∧ ∃ v0, ([some x] : St) = [v0] ∧ Same H1 (upd H' D (.lst (ys ++ [V.str (strV x)]))) ∧ (upd H' D (.lst (ys ++ [V.str (strV x)]))) D = some (.lst ((g.vs.take (i + 1)).map fun v => V.str (strV v))) := by
        refine ⟨_, hd2, by rw [List.length_map, List.length_take]; omega, _, rfl, s2.put hD, ?_⟩
        rw [upd_same, ← take_snoc (fun v => V.str (strV v)) g.vs hi, ex]
      walk_at "rd"
      have hmem : x ∈ g.vs := List.mem_of_getElem? hx
      rw [Gt.vs_eq] at hmem
      rcases List.mem_cons.mp hmem with rfl | hm
      · walk_at "rd"
        exact fin
      · obtain ⟨n, hn, rfl⟩ := List.mem_map.mp hm
        have := hns n hn
        refine r_stri (small_log this.1 this.2) ?_
        exact fin
    · rintro σ H' ⟨_, rfl, s2, hd2⟩
      rw [List.take_length] at hd2
      have e : (g.vs.map fun v => V.str (strV v)) = (g.vs.map strV).map V.str := by rw [List.map_map]; rfl
      rw [e] at hd2
      walk_at "rd"
      exact ⟨_, D, _, rfl, rfl, SqL.of hd2, by decide, join_room (vs_str ok) (by rw [List.length_map]; omega), k H' (s1.trans s2)⟩
theorem cal_none {x : Str} {st : Stmt} {ps : List Str} {sp : Sp} (L : Laid K mg x st ps) (k : Nat) (h : ∀ vs H Q E, ¬ sp vs H Q E) : Cal P w K mg base k x ps sp := by
  obtain ⟨f, fd, F, m, b⟩ := L.ex
  exact ⟨f, fd, ⟨fun vs H Q E z => absurd z (h vs H Q E), fun _ _ _ _ _ _ _ _ _ _ _ _ _ z => absurd z (h _ _ _ _)⟩, m, F.kp, b⟩
def spAl (n : Nat) : Sp := fun vs H Q _ => ∃ x y : V, vs = [x, y] ∧ Alk H n x y ∧ Q (.bl true) H
theorem al_step (n : Nat) (T : Txt mg cs) (L : Laid K mg "_law_alike" s__law_alike ["_law_found", "_law_due"]) (C__law_alike : Cal P w K mg base n "_law_alike" ["_law_found", "_law_due"] (spAl n)) : Cal P w K mg base (n + 1) "_law_alike" ["_law_found", "_law_due"] (spAl (n + 1)) := by
  refine L.cal (k := n) sc__law_alike (fun vs H Q E h => ?_) (fun f cdv A outer s H vs Q E hr h => ?_)
  · obtain ⟨x, y, rfl, _⟩ := h
    rfl
  · obtain ⟨x, y, rfl, a, k⟩ := h
    have big := line_big
    refine ⟨_, (pss_cons (ps_if (pt_val (pe_callB call_isiS rfl T.n_isinstance bt_isinstance (pa_cons (pv 1) (pa_cons (pe_bltn (v := .ty "tuple") rfl T.n_tuple bt_tuple rfl) pa_nil)))) (pss_cons (ps_if (PW.pt (pw_or (pt_not (pt_val (pe_callB call_isiS rfl T.n_isinstance bt_isinstance (pa_cons (pv 0) (pa_cons (pe_bltn (v := .ty "tuple") rfl T.n_tuple bt_tuple rfl) pa_nil))))) (pw_or1 (pt_cmpR op_ne (pe_callB (lenK K) rfl T.n_len bt_len (pa_cons (pv 0) pa_nil)) (pe_callB (lenK K) rfl T.n_len bt_len (pa_cons (pv 1) pa_nil)) (nomark _))))) (pss_one (ps_ret pe_bl)) pss_nil)
      (pss_cons (ps_for PassesOwn.never rfl (pi_range1 rfl T.n_range (pa_cons (pe_callB (lenK K) rfl T.n_len bt_len (pa_cons (pv 1) pa_nil)) pa_nil)) (pg_name (i := 2) sc__law_alike.nd rfl (Or.inl rfl)) (pss_one (ps_if (pt_not (pt_val (pe_cal C__law_alike hr (by omega) rfl (pa_cons (pe_ix (ix_tupK K) (pv 0) (pv 2) (fun _ _ => rfl)) (pa_cons (pe_ix (ix_tupK K) (pv 1) (pv 2) (fun _ _ => rfl)) pa_nil))))) (pss_one (ps_ret pe_bl)) pss_nil)))
      (pss_one (ps_ret pe_bl)))) pss_nil)
      (pss_cons (ps_if (pt_val (pe_callB call_isiS rfl T.n_isinstance bt_isinstance (pa_cons (pv 1) (pa_cons (pe_bltn (v := .ty "str") rfl T.n_str bt_str rfl) pa_nil)))) (pss_one (ps_ret (pe_and (pe_callB call_isiS rfl T.n_isinstance bt_isinstance (pa_cons (pv 0) (pa_cons (pe_bltn (v := .ty "str") rfl T.n_str bt_str rfl) pa_nil))) (pe_one (pe_cmpR op_eq (pv 0) (pv 1) (nomark _)))))) pss_nil)
      (pss_one (ps_ret (pe_and (pe_cmpR op_eq (pe_callB call_isiS rfl T.n_isinstance bt_isinstance (pa_cons (pv 0) (pa_cons (pe_bltn (v := .ty "bool") rfl T.n_bool bt_bool rfl) pa_nil))) (pe_callB call_isiS rfl T.n_isinstance bt_isinstance (pa_cons (pv 1) (pa_cons (pe_bltn (v := .ty "bool") rfl T.n_bool bt_bool rfl) pa_nil))) (nomark _)) (pe_and (pe_callB call_isiS rfl T.n_isinstance bt_isinstance (pa_cons (pv 0) (pa_cons (pe_bltn (v := .ty "int") rfl T.n_int bt_int rfl) pa_nil))) (pe_one (pe_cmpR op_eq (pv 0) (pv 1) (nomark _))))))))), ?_⟩
    cases a with
    | tup hp hq hl hh hk =>
      rename_i p q us vs
      walk_at "rd"
      rw [hl, decide_eq_true rfl]
      walk_at "rd"
      try refine r_rg (by omega) ?_
      refine for_rng (fun i σ H' => ∃ v2, σ = [some (.ref p), some (.ref q), v2] ∧ H' = H) ⟨none, rfl, rfl⟩ ?_ ?_
      · rintro i σ H' hi ⟨v2, rfl, rfl⟩
        have hi' : i < vs.length := by simpa using hi
        have hiu : i < us.length := by omega
        walk_at "rd"
        try refine r_ixT (SqT.of hp) (show atI us (0 + (i : Nat)) = some us[i] by rw [Int.zero_add]; exact atI_nat (by simp [hiu])) ?_
        walk_at "rd"
        try refine r_ixT (SqT.of hq) (show atI vs (0 + (i : Nat)) = some vs[i] by rw [Int.zero_add]; exact atI_nat (by simp [hi'])) ?_
        walk_at "rd"
        refine ⟨us[i], vs[i], rfl, hk i _ _ (by simp [hiu]) (by simp [hi']), ?_⟩
        walk_at "rd"
        exact ⟨_, rfl, rfl⟩
      · rintro σ H' ⟨v2, rfl, rfl⟩
        walk_at "rd"
        exact k
    | str z =>
      walk_at "rd"
      rw [decide_eq_true rfl]
      exact k
    | int z =>
      walk_at "rd"
      rw [decide_eq_true rfl]
      walk_at "rd"
      rw [decide_eq_true rfl]
      exact k
    | bl z =>
      walk_at "rd"
      rw [decide_eq_true rfl]
      walk_at "rd"
      rw [decide_eq_true rfl]
      exact k
theorem ok_al (T : Txt mg cs) (L : Laid K mg "_law_alike" s__law_alike ["_law_found", "_law_due"]) : ∀ n, Cal P w K mg base n "_law_alike" ["_law_found", "_law_due"] (spAl n)
  | 0 => cal_none L 0 fun vs H Q E ⟨_, _, _, h, _⟩ => by cases h
  | n + 1 => al_step n T L (ok_al T L n)
end
theorem small255 {n : Int} (h0 : 0 ≤ n) (h1 : n ≤ 255) : n.natAbs.log2 < 1920 := by
  have := (sml_in (n := n) (by omega) (by omega))
  exact this
theorem gt_ln (g : Gt) : gtext g = Txt.join " " (lnN g.word g.ns) := by cases g <;> rfl
theorem ln_ne (z : Str) (ns : List Int) : lnN z ns ≠ [] := by simp [lnN]
theorem way_jn (x : Way) : Txt.join " " [Txt.join " " (lnN (wrd x.back) [x.a, x.b]), gtext x.g] = Txt.join " " (lnW x) := by
  rw [gt_ln]
  exact join_two (c := 32) (ln_ne _ _) (ln_ne _ _)
theorem sum_wd {ws : List Str} (n : Nat) (hl : ws.length ≤ n) (h : ∀ x ∈ ws, Wd x) : (ws.map (·.length)).sum + ws.length ≤ n * 6 := by
  have := sum_le (n := 5) fun x hx => (h x hx).1
  omega
theorem take_str {α : Type} (f : α → Str) (l : List α) {i : Nat} (hi : i < l.length) : ((l.take (i + 1)).map f).map V.str = ((l.take i).map f).map V.str ++ [.str (f l[i])] := by
  rw [List.take_succ_eq_append_getElem hi, List.map_append, List.map_append]
  rfl
theorem lin_room {C : Cl} (o : ClOk C) : ((lin C).map (·.length)).sum + (lin C).length ≤ 1048576 := by
  have := sum_le (n := 36) (ws := lin C) fun z hz => by
    obtain ⟨ws, hw, rfl⟩ := List.mem_map.mp hz
    exact jn_small (wd_line o ws hw).2
  have l := lns_len o
  have e : (lin C).length = (lns C).length := List.length_map _
  omega
def spNl : Sp := fun vs H Q _ => ∃ (z : Str) (p : Addr) (ns : List Int), vs = [.str z, .ref p] ∧ H p = some (.tup (ns.map V.int)) ∧ Wd z ∧ In255 ns ∧ ns.length ≤ 4 ∧ ∀ H', Same H H' → Q (.str (Txt.join " " (lnN z ns))) H'
def spWl : Sp := fun vs H Q _ => ∃ (p : Addr) (x : Way), vs = [.ref p] ∧ WayAt H p x ∧ (0 ≤ x.a ∧ x.a ≤ 255) ∧ (0 ≤ x.b ∧ x.b ≤ 255) ∧ x.g.ok ∧ ∀ H', Same H H' → Q (.str (Txt.join " " (lnW x))) H'
def spSh : Sp := fun vs H Q _ => ∃ (p : Addr) (C : Cl), vs = [.ref p] ∧ ClAt H p C ∧ ClOk C ∧ ∀ H', Same H H' → Q (.str (txt C)) H'
section
variable {P : Program} {w : World} {K : PySem.W.Frag} {mg : Str → Option Value} {base : Heap} {xs : Xs} {cs : Cs}
theorem ok_nl (T : Txt mg cs) (L : Laid K mg "numbers_line" s_numbers_line ["word", "numbers"]) : Cal P w K mg base 1 "numbers_line" ["word", "numbers"] spNl := by
  refine L.cal (k := 0) sc_numbers_line (fun vs H Q E h => ?_) (fun f cdv A outer s H vs Q E hr h => ?_)
  · obtain ⟨z, p, ns, rfl, _⟩ := h
    rfl
  · obtain ⟨z, p, ns, rfl, hp, hz, hn, hl, k⟩ := h
    have big := line_big
    refine ⟨_, (pss_one (ps_ret (pe_bm PySem.F.plainAttrs_str PySem.F.slot_str_join PySem.F.type_str_join (mt_joinK K) pe_str (pa_cons (pe_op op_cat (pe_lst (pa_cons (pv 0) pa_nil)) (pe_comp (compOk (N := ["number"]) (own := 1) (caps := []) ["word", "numbers"] (defScope s_numbers_line) (by decide +kernel)) rfl (pi_tupK K (pv 1)) (fun _ _ _ _ => (pg_name (i := 0) (show List.Nodup (["number"] : List Str) by decide +kernel) rfl (Or.inl rfl))) (fun _ _ _ _ => pf_nil) (fun _ _ _ _ => (pe_callTy str1 rfl T.n_str bt_str (pa_cons (pv 0) pa_nil))))) pa_nil)))), ?_⟩
    walk_at "rd"
    refine ⟨rfl, ?_⟩
    walk_at "rd"
    intro l gl
    generalize hGl : upd _ l _ = H0
    have s0 := sm_of hGl gl
    have h0 := at_of hGl
    have hp0 := s0 _ _ hp
    walk_at "rd"
    intro D hD
    refine comp_tpl (ns.map V.int) (fun i σ H' => ∃ v0, σ = [v0] ∧ Same H0 H' ∧ H' D = some (.lst (((ns.take i).map sI).map V.str))) ⟨none, rfl, Same.upd hD, by rw [upd_same]; rfl⟩ ?_ ?_ ?_
    · rintro i σ H' ⟨_, rfl, s1, _⟩
      exact SqT.of (s1 _ _ (s0 _ _ hp))
    · rintro i x σ H' hx ⟨v0, rfl, s1, hd⟩
      have hi : i < ns.length := by have := (List.getElem?_eq_some_iff.mp hx).1; simpa using this
      obtain rfl : x = .int ns[i] := by simpa [hi] using hx.symm
      have hb := hn _ (List.getElem_mem hi)
      walk_at "rd"
      refine r_stri (small255 hb.1 hb.2) ?_
      refine ⟨_, hd, by rw [List.length_map, List.length_map, List.length_take]; omega, _, rfl, s1.put hD, ?_⟩
      rw [upd_same, take_str sI ns hi]
      rfl
    · rintro σ H1 ⟨_, rfl, s1, hd⟩
      rw [List.length_map, List.take_length] at hd
      have h01 := s1 _ _ h0
      walk_at "rd"
      refine ⟨l, D, _, _, rfl, rfl, h01, hd, by simp; omega, fun q gq => ?_⟩
      generalize hGq : upd _ q _ = H2
      have s2 := sm_of hGq gq
      have h2 := at_of hGq
      walk_at "rd"
      exact ⟨_, q, lnN z ns, rfl, rfl, SqL.of h2, by decide +kernel, Nat.le_trans (sum_wd 5 (by simp [lnN]; omega) (wd_lnN hz hn)) (by decide), k _ (s0.trans (s1.trans s2))⟩
theorem ok_wl (T : Txt mg cs) (L : Laid K mg "way_line" s_way_line ["way"]) (C_numbers_line : Cal P w K mg base 1 "numbers_line" ["word", "numbers"] spNl) (C_gate_of : Cal P w K mg base 4 "gate_of" ["gate"] (spObj cs)) (vx : ∀ g : Gt, VMeth P w K mg base 2 (clsOf cs g) "text" ["self"] (spText cs (clsOf cs g))) : Cal P w K mg base 5 "way_line" ["way"] spWl := by
  obtain ⟨t1, e_WAY_A⟩ := T.e_WAY_A
  obtain ⟨t2, e_WAY_B⟩ := T.e_WAY_B
  obtain ⟨t3, e_WAY_GATE⟩ := T.e_WAY_GATE
  obtain ⟨t4, e_WAY_BACK⟩ := T.e_WAY_BACK
  refine L.cal (k := 4) sc_way_line (fun vs H Q E h => ?_) (fun f cdv A outer s H vs Q E hr h => ?_)
  · obtain ⟨p, x, rfl, _⟩ := h
    rfl
  · obtain ⟨p, x, rfl, ⟨g, hp, hg⟩, ha, hb, gk, k⟩ := h
    have big := line_big
    refine ⟨_, (pss_cons (ps_set (i := 1) sc_way_line.nd rfl (Or.inl rfl) (pe_ifExp (pt_val (pe_ix (ix_tupK K) (pv 0) (pe_glob (v := .int 3) rfl e_WAY_BACK ⟨_, rfl⟩) (fun _ _ => rfl))) pe_str pe_str))
      (pss_one (ps_ret (pe_bm PySem.F.plainAttrs_str PySem.F.slot_str_join PySem.F.type_str_join (mt_joinK K) pe_str (pa_cons (pe_lst (pa_cons (pe_cal C_numbers_line hr (by decide) rfl (pa_cons (pv 1) (pa_cons (pe_tup (pa_cons (pe_ix (ix_tupK K) (pv 0) (pe_glob (v := .int 0) rfl e_WAY_A ⟨_, rfl⟩) (fun _ _ => rfl)) (pa_cons (pe_ix (ix_tupK K) (pv 0) (pe_glob (v := .int 1) rfl e_WAY_B ⟨_, rfl⟩) (fun _ _ => rfl)) pa_nil))) pa_nil))) (pa_cons (pe_vm0 (k := 2) (hr.mono (by decide)) (pe_cal C_gate_of hr (by decide) rfl (pa_cons (pe_ix (ix_tupK K) (pv 0) (pe_glob (v := .int 2) rfl e_WAY_GATE ⟨_, rfl⟩) (fun _ _ => rfl)) pa_nil))) pa_nil))) pa_nil))))), ?_⟩
    walk_at "rd"
    refine ite2 (fun hk => ?_) (fun hk => ?_)
    · walk_at "rd"
      have hp' := hp
      walk_at "rd"
      refine ⟨rfl, ?_⟩
      walk_at "rd"
      intro q gq
      generalize hGq : upd _ q _ = H1
      have s1 := sm_of hGq gq
      have h1 := at_of hGq
      refine ⟨wrd x.back, q, [x.a, x.b], by rw [hk]; rfl, h1, wd_wrd _, in_two ha hb, by simp, fun H2 s2 => ?_⟩
      have s12 := s1.trans s2
      have hp2 := s12 _ _ hp
      have hg2 := s12 _ _ hg
      walk_at "rd"
      refine ⟨g, x.g, rfl, hg2, fun o H3 s3 go ho => ?_⟩
      obtain ⟨dx, qn, ho1, ho2⟩ := ho.ex
      walk_at "rd"
      refine r_vm ho1 (vx x.g) (fl_text qn x.g) ?_
      walk_at "rd"
      refine ⟨o, dx, qn, x.g, rfl, ho1, ho2, gk, fun H4 s4 => ?_⟩
      walk_at "rd"
      intro l gl
      generalize hGl : upd _ l _ = H5
      have s5 := sm_of hGl gl
      have h5 := at_of hGl
      walk_at "rd"
      refine ⟨_, l, [Txt.join " " (lnN (wrd x.back) [x.a, x.b]), gtext x.g], rfl, rfl, SqL.of h5, by decide +kernel, ?_, ?_⟩
      · have a1 := jn_small (ws := lnN (wrd x.back) [x.a, x.b]) ⟨by simp [lnN], wd_lnN (wd_wrd _) (in_two ha hb)⟩
        have a2 : (gtext x.g).length ≤ 36 := by
          rw [gt_ln]
          have := x.g.ns_len
          exact jn_small ⟨by simp [lnN]; omega, wd_lnN (wd_word _) (in_ns gk)⟩
        simp
        omega
      · rw [way_jn]
        exact k _ (s12.trans (s3.trans (s4.trans s5)))
    · have hk : x.back = false := by simpa using hk
      walk_at "rd"
      have hp' := hp
      walk_at "rd"
      refine ⟨rfl, ?_⟩
      walk_at "rd"
      intro q gq
      generalize hGq : upd _ q _ = H1
      have s1 := sm_of hGq gq
      have h1 := at_of hGq
      refine ⟨wrd x.back, q, [x.a, x.b], by rw [hk]; rfl, h1, wd_wrd _, in_two ha hb, by simp, fun H2 s2 => ?_⟩
      have s12 := s1.trans s2
      have hp2 := s12 _ _ hp
      have hg2 := s12 _ _ hg
      walk_at "rd"
      refine ⟨g, x.g, rfl, hg2, fun o H3 s3 go ho => ?_⟩
      obtain ⟨dx, qn, ho1, ho2⟩ := ho.ex
      walk_at "rd"
      refine r_vm ho1 (vx x.g) (fl_text qn x.g) ?_
      walk_at "rd"
      refine ⟨o, dx, qn, x.g, rfl, ho1, ho2, gk, fun H4 s4 => ?_⟩
      walk_at "rd"
      intro l gl
      generalize hGl : upd _ l _ = H5
      have s5 := sm_of hGl gl
      have h5 := at_of hGl
      walk_at "rd"
      refine ⟨_, l, [Txt.join " " (lnN (wrd x.back) [x.a, x.b]), gtext x.g], rfl, rfl, SqL.of h5, by decide +kernel, ?_, ?_⟩
      · have a1 := jn_small (ws := lnN (wrd x.back) [x.a, x.b]) ⟨by simp [lnN], wd_lnN (wd_wrd _) (in_two ha hb)⟩
        have a2 : (gtext x.g).length ≤ 36 := by
          rw [gt_ln]
          have := x.g.ns_len
          exact jn_small ⟨by simp [lnN]; omega, wd_lnN (wd_word _) (in_ns gk)⟩
        simp
        omega
      · rw [way_jn]
        exact k _ (s12.trans (s3.trans (s4.trans s5)))
theorem ok_sh (T : Txt mg cs) (L : Laid K mg "shown" s_shown ["cellar"]) (C_numbers_line : Cal P w K mg base 1 "numbers_line" ["word", "numbers"] spNl) (C_way_line : Cal P w K mg base 5 "way_line" ["way"] spWl) : Cal P w K mg base 6 "shown" ["cellar"] spSh := by
  obtain ⟨t0, e_ROOMS⟩ := T.e_ROOMS
  obtain ⟨t1, e_FIRST⟩ := T.e_FIRST
  obtain ⟨t2, e_LAST⟩ := T.e_LAST
  obtain ⟨t3, e_WAYS⟩ := T.e_WAYS
  obtain ⟨t4, e_THINGS⟩ := T.e_THINGS
  obtain ⟨t5, e_LEVERS⟩ := T.e_LEVERS
  obtain ⟨t6, e_WHEELS⟩ := T.e_WHEELS
  obtain ⟨t7, e_FIRST_BARS⟩ := T.e_FIRST_BARS
  obtain ⟨t8, e_FIRST_WATER⟩ := T.e_FIRST_WATER
  refine L.cal (k := 5) sc_shown (fun vs H Q E h => ?_) (fun f cdv A outer s H vs Q E hr h => ?_)
  · obtain ⟨p, C, rfl, _⟩ := h
    rfl
  · obtain ⟨p, C, rfl, hC, oC, k⟩ := h
    have big := line_big
    have r2 := oC.r2
    have cf := oC.f
    have cl := oC.l
    have cb := oC.b
    have cw := oC.wa
    have wl := oC.wl
    have tl := oC.tl
    have ll := oC.ll
    have vl := oC.vl
    obtain ⟨wv, tv, lv, vv, hc, c1, c2, c3, c4⟩ := hC.ex
    obtain ⟨vs3, hv3, hvl3, hvg3⟩ := c1.get
    obtain ⟨vs4, hv4, hvl4, hvg4⟩ := c2.get
    obtain ⟨vs5, hv5, hvl5, hvg5⟩ := c3.get
    obtain ⟨vs6, hv6, hvl6, hvg6⟩ := c4.get
    refine ⟨_, (pss_cons (ps_set (i := 1) sc_shown.nd rfl (Or.inl rfl) (pe_lst (pa_cons (pe_cal C_numbers_line hr (by decide) rfl (pa_cons pe_str (pa_cons (pe_tup (pa_cons (pe_ix (ix_tupK K) (pv 0) (pe_glob (v := .int 0) rfl e_ROOMS ⟨_, rfl⟩) (fun _ _ => rfl)) (pa_cons (pe_ix (ix_tupK K) (pv 0) (pe_glob (v := .int 1) rfl e_FIRST ⟨_, rfl⟩) (fun _ _ => rfl)) (pa_cons (pe_ix (ix_tupK K) (pv 0) (pe_glob (v := .int 2) rfl e_LAST ⟨_, rfl⟩) (fun _ _ => rfl)) pa_nil)))) pa_nil))) (pa_cons (pe_cal C_numbers_line hr (by decide) rfl (pa_cons pe_str (pa_cons (pe_tup (pa_cons (pe_ix (ix_tupK K) (pv 0) (pe_glob (v := .int 7) rfl e_FIRST_BARS ⟨_, rfl⟩) (fun _ _ => rfl)) pa_nil)) pa_nil))) (pa_cons (pe_cal C_numbers_line hr (by decide) rfl (pa_cons pe_str (pa_cons (pe_tup (pa_cons (pe_ix (ix_tupK K) (pv 0) (pe_glob (v := .int 8) rfl e_FIRST_WATER ⟨_, rfl⟩) (fun _ _ => rfl)) pa_nil)) pa_nil))) pa_nil)))))
      (pss_cons (ps_expr (pe_bm PySem.F.plainAttrs_list PySem.F.slot_list_extend PySem.F.type_list_extend mt_extend (pv 1) (pa_cons (pe_comp (compOk (N := ["way"]) (own := 1) (caps := []) ["cellar", "lines"] (defScope s_shown) (by decide +kernel)) rfl (pi_tupK K (pe_ix (ix_tupK K) (pv 0) (pe_glob (v := .int 3) rfl e_WAYS ⟨_, rfl⟩) (fun _ _ => rfl))) (fun _ _ _ _ => (pg_name (i := 0) (show List.Nodup (["way"] : List Str) by decide +kernel) rfl (Or.inl rfl))) (fun _ _ _ _ => pf_nil) (fun _ _ _ _ => (pe_cal C_way_line hr (by decide) rfl (pa_cons (pv 0) pa_nil)))) pa_nil)))
      (pss_cons (ps_expr (pe_bm PySem.F.plainAttrs_list PySem.F.slot_list_extend PySem.F.type_list_extend mt_extend (pv 1) (pa_cons (pe_comp (compOk (N := ["thing"]) (own := 1) (caps := []) ["cellar", "lines"] (defScope s_shown) (by decide +kernel)) rfl (pi_tupK K (pe_ix (ix_tupK K) (pv 0) (pe_glob (v := .int 4) rfl e_THINGS ⟨_, rfl⟩) (fun _ _ => rfl))) (fun _ _ _ _ => (pg_name (i := 0) (show List.Nodup (["thing"] : List Str) by decide +kernel) rfl (Or.inl rfl))) (fun _ _ _ _ => pf_nil) (fun _ _ _ _ => (pe_cal C_numbers_line hr (by decide) rfl (pa_cons pe_str (pa_cons (pv 0) pa_nil))))) pa_nil)))
      (pss_cons (ps_expr (pe_bm PySem.F.plainAttrs_list PySem.F.slot_list_extend PySem.F.type_list_extend mt_extend (pv 1) (pa_cons (pe_comp (compOk (N := ["lever"]) (own := 1) (caps := []) ["cellar", "lines"] (defScope s_shown) (by decide +kernel)) rfl (pi_tupK K (pe_ix (ix_tupK K) (pv 0) (pe_glob (v := .int 5) rfl e_LEVERS ⟨_, rfl⟩) (fun _ _ => rfl))) (fun _ _ _ _ => (pg_name (i := 0) (show List.Nodup (["lever"] : List Str) by decide +kernel) rfl (Or.inl rfl))) (fun _ _ _ _ => pf_nil) (fun _ _ _ _ => (pe_cal C_numbers_line hr (by decide) rfl (pa_cons pe_str (pa_cons (pv 0) pa_nil))))) pa_nil)))
      (pss_cons (ps_expr (pe_bm PySem.F.plainAttrs_list PySem.F.slot_list_extend PySem.F.type_list_extend mt_extend (pv 1) (pa_cons (pe_comp (compOk (N := ["wheel"]) (own := 1) (caps := []) ["cellar", "lines"] (defScope s_shown) (by decide +kernel)) rfl (pi_tupK K (pe_ix (ix_tupK K) (pv 0) (pe_glob (v := .int 6) rfl e_WHEELS ⟨_, rfl⟩) (fun _ _ => rfl))) (fun _ _ _ _ => (pg_name (i := 0) (show List.Nodup (["wheel"] : List Str) by decide +kernel) rfl (Or.inl rfl))) (fun _ _ _ _ => pf_nil) (fun _ _ _ _ => (pe_cal C_numbers_line hr (by decide) rfl (pa_cons pe_str (pa_cons (pv 0) pa_nil))))) pa_nil)))
      (pss_one (ps_ret (pe_bm PySem.F.plainAttrs_str PySem.F.slot_str_join PySem.F.type_str_join (mt_joinK K) pe_str (pa_cons (pv 1) pa_nil))))))))), ?_⟩
    walk_at "rd"
    intro q0 gq0
    generalize hGq0 : upd _ q0 _ = H0a
    have sa0 := sm_of hGq0 gq0
    have ha0 := at_of hGq0
    refine ⟨"rooms", q0, [C.rooms, C.fst, C.lst], rfl, ha0, wd_lit (by decide +kernel), fun n hn => by simp at hn; omega, by simp, fun H0b sb0 => ?_⟩
    have s0 := sa0.trans sb0
    have hc0 := s0 _ _ hc
    walk_at "rd"
    intro q1 gq1
    generalize hGq1 : upd _ q1 _ = H1a
    have sa1 := sm_of hGq1 gq1
    have ha1 := at_of hGq1
    refine ⟨"bars", q1, [C.bars], rfl, ha1, wd_lit (by decide +kernel), fun n hn => by simp at hn; omega, by simp, fun H1b sb1 => ?_⟩
    have s1 := s0.trans (sa1.trans sb1)
    have hc1 := s1 _ _ hc
    walk_at "rd"
    intro q2 gq2
    generalize hGq2 : upd _ q2 _ = H2a
    have sa2 := sm_of hGq2 gq2
    have ha2 := at_of hGq2
    refine ⟨"water", q2, [C.water], rfl, ha2, wd_lit (by decide +kernel), fun n hn => by simp at hn; omega, by simp, fun H2b sb2 => ?_⟩
    have s2 := s1.trans (sa2.trans sb2)
    have hc2 := s2 _ _ hc
    walk_at "rd"
    intro l gl
    generalize hGl : upd _ l _ = H3
    have s3' := sm_of hGl gl
    have h3 := at_of hGl
    have gl0 : H l = none := s2.free gl
    have s3 := s2.trans s3'
    have hc3 := s3 _ _ hc
    have hw3 := s3 _ _ hv3
    walk_at "rd"
    intro D3 gD3
    refine comp_tpl vs3 (fun i σ H' => ∃ v0, σ = [v0] ∧ Same H3 H' ∧ H' D3 = some (.lst (((C.ways.take i).map (fun x => Txt.join " " (lnW x))).map V.str))) ⟨none, rfl, Same.upd gD3, by rw [upd_same]; rfl⟩ ?_ ?_ ?_
    · rintro i σ H' ⟨_, rfl, z1, _⟩
      exact SqT.of (z1 _ _ (s3 _ _ hv3))
    · rintro i x σ H' hx ⟨v0, rfl, z1, hd⟩
      have hi : i < C.ways.length := by rw [← hvl3]; exact (List.getElem?_eq_some_iff.mp hx).1
      obtain ⟨p1, e, hat⟩ := hvg3 i hi
      rw [hx] at e
      cases e
      have zs := s3.trans z1
      have hm := List.getElem_mem hi
      have ok := oC.w _ hm
      walk_at "rd"
      refine ⟨p1, C.ways[i], rfl, hat.mono zs.ts, by omega, by omega, ok.2.2.2, fun H2 z2 => ?_⟩
      walk_at "rd"
      refine ⟨_, z2 _ _ hd, by rw [List.length_map, List.length_map, List.length_take]; omega, _, rfl, (z1.trans z2).put gD3, ?_⟩
      rw [upd_same, take_str (fun x => Txt.join " " (lnW x)) C.ways hi]
      try rfl
    · rintro σ H3c ⟨_, rfl, z1, hd⟩
      rw [hvl3, List.take_length] at hd
      have h3l := z1 _ _ h3
      walk_at "rd"
      refine ⟨l, D3, _, _, rfl, rfl, h3l, hd, by simp; omega, ?_⟩
      generalize hGe3 : upd _ l _ = H4
      have h4 := at_of hGe3
      have s4 : Same H H4 := by rw [← hGe3]; exact (s3.trans z1).put gl0
      have hc4 := s4 _ _ hc
      have hw4 := s4 _ _ hv4
      walk_at "rd"
      intro D4 gD4
      refine comp_tpl vs4 (fun i σ H' => ∃ v0, σ = [v0] ∧ Same H4 H' ∧ H' D4 = some (.lst (((C.things.take i).map (fun x => Txt.join " " (lnP "thing" x))).map V.str))) ⟨none, rfl, Same.upd gD4, by rw [upd_same]; rfl⟩ ?_ ?_ ?_
      · rintro i σ H' ⟨_, rfl, z1, _⟩
        exact SqT.of (z1 _ _ (s4 _ _ hv4))
      · rintro i x σ H' hx ⟨v0, rfl, z1, hd⟩
        have hi : i < C.things.length := by rw [← hvl4]; exact (List.getElem?_eq_some_iff.mp hx).1
        obtain ⟨p1, e, hat⟩ := hvg4 i hi
        rw [hx] at e
        cases e
        have zs := s4.trans z1
        have hm := List.getElem_mem hi
        have ok := oC.t _ hm
        walk_at "rd"
        refine ⟨"thing", p1, [_, _], rfl, zs _ _ hat, wd_lit (by decide +kernel), in_two (by omega) (by omega), by simp, fun H2 z2 => ?_⟩
        walk_at "rd"
        refine ⟨_, z2 _ _ hd, by rw [List.length_map, List.length_map, List.length_take]; omega, _, rfl, (z1.trans z2).put gD4, ?_⟩
        rw [upd_same, take_str (fun x => Txt.join " " (lnP "thing" x)) C.things hi]
        try rfl
      · rintro σ H4c ⟨_, rfl, z1, hd⟩
        rw [hvl4, List.take_length] at hd
        have h4l := z1 _ _ h4
        walk_at "rd"
        refine ⟨l, D4, _, _, rfl, rfl, h4l, hd, by simp; omega, ?_⟩
        generalize hGe4 : upd _ l _ = H5
        have h5 := at_of hGe4
        have s5 : Same H H5 := by rw [← hGe4]; exact (s4.trans z1).put gl0
        have hc5 := s5 _ _ hc
        have hw5 := s5 _ _ hv5
        walk_at "rd"
        intro D5 gD5
        refine comp_tpl vs5 (fun i σ H' => ∃ v0, σ = [v0] ∧ Same H5 H' ∧ H' D5 = some (.lst (((C.levers.take i).map (fun x => Txt.join " " (lnP "lever" x))).map V.str))) ⟨none, rfl, Same.upd gD5, by rw [upd_same]; rfl⟩ ?_ ?_ ?_
        · rintro i σ H' ⟨_, rfl, z1, _⟩
          exact SqT.of (z1 _ _ (s5 _ _ hv5))
        · rintro i x σ H' hx ⟨v0, rfl, z1, hd⟩
          have hi : i < C.levers.length := by rw [← hvl5]; exact (List.getElem?_eq_some_iff.mp hx).1
          obtain ⟨p1, e, hat⟩ := hvg5 i hi
          rw [hx] at e
          cases e
          have zs := s5.trans z1
          have hm := List.getElem_mem hi
          have ok := oC.lv _ hm
          walk_at "rd"
          refine ⟨"lever", p1, [_, _], rfl, zs _ _ hat, wd_lit (by decide +kernel), in_two (by omega) (by omega), by simp, fun H2 z2 => ?_⟩
          walk_at "rd"
          refine ⟨_, z2 _ _ hd, by rw [List.length_map, List.length_map, List.length_take]; omega, _, rfl, (z1.trans z2).put gD5, ?_⟩
          rw [upd_same, take_str (fun x => Txt.join " " (lnP "lever" x)) C.levers hi]
          try rfl
        · rintro σ H5c ⟨_, rfl, z1, hd⟩
          rw [hvl5, List.take_length] at hd
          have h5l := z1 _ _ h5
          walk_at "rd"
          refine ⟨l, D5, _, _, rfl, rfl, h5l, hd, by simp; omega, ?_⟩
          generalize hGe5 : upd _ l _ = H6
          have h6 := at_of hGe5
          have s6 : Same H H6 := by rw [← hGe5]; exact (s5.trans z1).put gl0
          have hc6 := s6 _ _ hc
          have hw6 := s6 _ _ hv6
          walk_at "rd"
          intro D6 gD6
          refine comp_tpl vs6 (fun i σ H' => ∃ v0, σ = [v0] ∧ Same H6 H' ∧ H' D6 = some (.lst (((C.wheels.take i).map (fun x => Txt.join " " (lnP "wheel" x))).map V.str))) ⟨none, rfl, Same.upd gD6, by rw [upd_same]; rfl⟩ ?_ ?_ ?_
          · rintro i σ H' ⟨_, rfl, z1, _⟩
            exact SqT.of (z1 _ _ (s6 _ _ hv6))
          · rintro i x σ H' hx ⟨v0, rfl, z1, hd⟩
            have hi : i < C.wheels.length := by rw [← hvl6]; exact (List.getElem?_eq_some_iff.mp hx).1
            obtain ⟨p1, e, hat⟩ := hvg6 i hi
            rw [hx] at e
            cases e
            have zs := s6.trans z1
            have hm := List.getElem_mem hi
            have ok := oC.wh _ hm
            walk_at "rd"
            refine ⟨"wheel", p1, [_, _], rfl, zs _ _ hat, wd_lit (by decide +kernel), in_two (by omega) (by omega), by simp, fun H2 z2 => ?_⟩
            walk_at "rd"
            refine ⟨_, z2 _ _ hd, by rw [List.length_map, List.length_map, List.length_take]; omega, _, rfl, (z1.trans z2).put gD6, ?_⟩
            rw [upd_same, take_str (fun x => Txt.join " " (lnP "wheel" x)) C.wheels hi]
            try rfl
          · rintro σ H6c ⟨_, rfl, z1, hd⟩
            rw [hvl6, List.take_length] at hd
            have h6l := z1 _ _ h6
            walk_at "rd"
            refine ⟨l, D6, _, _, rfl, rfl, h6l, hd, by simp; omega, ?_⟩
            generalize hGe6 : upd _ l _ = H7
            have h7 := at_of hGe6
            have s7 : Same H H7 := by rw [← hGe6]; exact (s6.trans z1).put gl0
            have hc7 := s7 _ _ hc
            walk_at "rd"
            refine ⟨rfl, ?_⟩
            walk_at "rd"
            have e7 : H7 l = some (.lst ((lin C).map V.str)) := by
              rw [h7]
              simp [lin, lns]
              rfl
            exact ⟨_, l, lin C, rfl, rfl, SqL.of e7, by decide +kernel, lin_room oC, k _ s7⟩
end

theorem cut_t (l : List V) (i : Nat) (h : i ≤ l.length) : cutV l none (some (i : Int)) = l.take i := by
  unfold cutV
  rw [HT.sIx_none, HT.sIx_nat, List.drop_zero, Nat.min_eq_left h, Nat.sub_zero]
theorem cut_d (l : List V) (i : Nat) (h : i ≤ l.length) : cutV l (some (i : Int)) none = l.drop i := by
  unfold cutV
  rw [HT.sIx_none, HT.sIx_nat, Nat.min_eq_left h]
  exact List.take_of_length_le (by rw [List.length_drop]; omega)
theorem cut_m (l : List V) (i j : Nat) (h : i ≤ l.length) (h2 : j ≤ l.length) : cutV l (some (i : Int)) (some (j : Int)) = (l.drop i).take (j - i) := by
  unfold cutV
  rw [HT.sIx_nat, HT.sIx_nat, Nat.min_eq_left h, Nat.min_eq_left h2]
def spNum : Sp := fun vs H Q _ => ∃ n : Int, vs = [.str (sI n)] ∧ 0 ≤ n ∧ n ≤ 255 ∧ ∀ H', Same H H' → Q (.bl true) H'
def spNo : Sp := fun vs H Q _ => ∃ (p : Addr) (ns : List Int), vs = [.ref p] ∧ H p = some (.lst ((ns.map sI).map V.str)) ∧ In255 ns ∧ ns.length ≤ 6 ∧ ∀ (q : Addr) (H' : Hp), Same H H' → H' q = some (.tup (ns.map V.int)) → Q (.ref q) H'
def spNb : Sp := fun vs H Q _ => ∃ (z : Str) (p : Addr) (ns : List Int), vs = [.str z, .ref p, .int (ns.length : Nat)] ∧ H p = some (.lst ((lnN z ns).map V.str)) ∧ In255 ns ∧ ns.length ≤ 6 ∧ ∀ (q : Addr) (H' : Hp), Same H H' → H' q = some (.tup (ns.map V.int)) → Q (.ref q) H'
def spPt : Sp := fun vs H Q _ => ∃ (z : Str) (m : Int), vs = [.str z] ∧ (((z = "way" ∨ z = "drop") ∧ m = 3) ∨ (z = "thing" ∧ m = 4) ∨ (z = "lever" ∧ m = 5) ∨ (z = "wheel" ∧ m = 6)) ∧ Q (.int m) H
def spWo : Sp := fun vs H Q _ => ∃ (p : Addr) (x : Way), vs = [.ref p] ∧ H p = some (.lst ((lnW x).map V.str)) ∧ (0 ≤ x.a ∧ x.a ≤ 255) ∧ (0 ≤ x.b ∧ x.b ≤ 255) ∧ x.g.ok ∧ ∀ (q : Addr) (H' : Hp), Same H H' → WayAt H' q x → Q (.ref q) H'
def spCh : Sp := fun vs H Q _ => ∃ (c : Addr) (ys : List V) (j : Nat) (y : V), vs = [.ref c, .int j, y] ∧ H c = some (.tup ys) ∧ ys.length = 9 ∧ j < 9 ∧ ∀ (r : Addr) (H' : Hp), Same H H' → H' r = some (.tup (ys.take j ++ [y] ++ ys.drop (j + 1))) → Q (.ref r) H'
theorem pt_wy {z : Str} {m : Int} (hz : ((z = "way" ∨ z = "drop") ∧ m = 3) ∨ (z = "thing" ∧ m = 4) ∨ (z = "lever" ∧ m = 5) ∨ (z = "wheel" ∧ m = 6)) (h : z = "way" ∨ z = "drop") : m = 3 := by
  rcases hz with ⟨a, b⟩ | ⟨a, b⟩ | ⟨a, b⟩ | ⟨a, b⟩ <;> first | exact b | (exfalso; rcases a with a | a <;> rcases h with h | h <;> (rw [h] at a; exact absurd a (by decide +kernel))) | (exfalso; rcases a with a | a <;> (rw [h] at a; exact absurd a (by decide +kernel))) | (exfalso; rcases h with h | h <;> (rw [h] at a; exact absurd a (by decide +kernel))) | (exfalso; rw [h] at a; exact absurd a (by decide +kernel))
theorem pt_th {z : Str} {m : Int} (hz : ((z = "way" ∨ z = "drop") ∧ m = 3) ∨ (z = "thing" ∧ m = 4) ∨ (z = "lever" ∧ m = 5) ∨ (z = "wheel" ∧ m = 6)) (h : z = "thing") : m = 4 := by
  rcases hz with ⟨a, b⟩ | ⟨a, b⟩ | ⟨a, b⟩ | ⟨a, b⟩ <;> first | exact b | (exfalso; rcases a with a | a <;> rcases h with h | h <;> (rw [h] at a; exact absurd a (by decide +kernel))) | (exfalso; rcases a with a | a <;> (rw [h] at a; exact absurd a (by decide +kernel))) | (exfalso; rcases h with h | h <;> (rw [h] at a; exact absurd a (by decide +kernel))) | (exfalso; rw [h] at a; exact absurd a (by decide +kernel))
theorem pt_lv {z : Str} {m : Int} (hz : ((z = "way" ∨ z = "drop") ∧ m = 3) ∨ (z = "thing" ∧ m = 4) ∨ (z = "lever" ∧ m = 5) ∨ (z = "wheel" ∧ m = 6)) (h : z = "lever") : m = 5 := by
  rcases hz with ⟨a, b⟩ | ⟨a, b⟩ | ⟨a, b⟩ | ⟨a, b⟩ <;> first | exact b | (exfalso; rcases a with a | a <;> rcases h with h | h <;> (rw [h] at a; exact absurd a (by decide +kernel))) | (exfalso; rcases a with a | a <;> (rw [h] at a; exact absurd a (by decide +kernel))) | (exfalso; rcases h with h | h <;> (rw [h] at a; exact absurd a (by decide +kernel))) | (exfalso; rw [h] at a; exact absurd a (by decide +kernel))
theorem pt_wh {z : Str} {m : Int} (hz : ((z = "way" ∨ z = "drop") ∧ m = 3) ∨ (z = "thing" ∧ m = 4) ∨ (z = "lever" ∧ m = 5) ∨ (z = "wheel" ∧ m = 6)) (h : z = "wheel") : m = 6 := by
  rcases hz with ⟨a, b⟩ | ⟨a, b⟩ | ⟨a, b⟩ | ⟨a, b⟩ <;> first | exact b | (exfalso; rcases a with a | a <;> rcases h with h | h <;> (rw [h] at a; exact absurd a (by decide +kernel))) | (exfalso; rcases a with a | a <;> (rw [h] at a; exact absurd a (by decide +kernel))) | (exfalso; rcases h with h | h <;> (rw [h] at a; exact absurd a (by decide +kernel))) | (exfalso; rw [h] at a; exact absurd a (by decide +kernel))
section
variable {P : Program} {w : World} {K : PySem.W.Frag} {mg : Str → Option Value} {base : Heap} {xs : Xs} {cs : Cs}
theorem ok_num (T : Txt mg cs) (L : Laid K mg "is_number" s_is_number ["word"]) : Cal P w K mg base 1 "is_number" ["word"] spNum := by
  obtain ⟨t1, e_FIGURES⟩ := T.e_FIGURES
  refine L.cal (k := 0) sc_is_number (fun vs H Q E h => ?_) (fun f cdv A outer s H vs Q E hr h => ?_)
  · obtain ⟨n, rfl, _⟩ := h
    rfl
  · obtain ⟨n, rfl, n0, n1, k⟩ := h
    have big := line_big
    have t := numT n0 n1
    generalize sI n = z at t ⊢
    refine ⟨_, (pss_cons (ps_if (PW.pt (pw_or (pt_cmpR op_eq (pv 0) pe_str (nomark _)) (pw_or1 (pt_not (pt_val (pe_callB (call_allK K rfl) rfl T.n_all bt_all (pa_cons (pe_comp (compOk (N := ["sign"]) (own := 1) (caps := []) ["word"] (defScope s_is_number) (by decide +kernel)) rfl (pi_strK K (pv 0)) (fun _ _ _ _ => (pg_name (i := 0) (show List.Nodup (["sign"] : List Str) by decide +kernel) rfl (Or.inl rfl))) (fun _ _ _ _ => pf_nil) (fun _ _ _ _ => (pe_cmpR op_inS (pv 0) (pe_glob (v := .str "0123456789") rfl e_FIGURES ⟨_, rfl⟩) (by with_unfolding_all rfl)))) pa_nil))))))) (pss_one (ps_ret pe_bl)) pss_nil)
      (pss_one (ps_ret (pe_or (pe_cmpR op_eq (pv 0) pe_str (nomark _)) (pe_one (pe_cmpR op_ne (pe_ix ix_str (pv 0) pe_int (fun _ _ => rfl)) pe_str (nomark _))))))), ?_⟩
    walk_at "rd"
    refine ifd (fun h => absurd h t.ne) (fun _ => ?_)
    walk_at "rd"
    try refine r_iS ?_
    walk_at "rd"
    refine ⟨z, rfl, t.asc, ?_⟩
    intro D hD
    refine comp_str (fun i σ H' => ∃ v0, σ = [v0] ∧ Same H H' ∧ H' D = some (.lst ((List.replicate i true).map V.bl))) ⟨none, rfl, Same.upd hD, by rw [upd_same]; rfl⟩ ?_ ?_
    · rintro i c σ H' hc ⟨v0, rfl, s1, hd⟩
      have hm : c ∈ z.cps.toList := by
        have : z.cps.toList[i]? = some c := by simpa using hc
        exact List.mem_of_getElem? this
      have hi : i < z.length := by
        have := (Array.getElem?_eq_some_iff.mp hc).1
        exact this
      have hz := t.len
      have hd1 := List.all_eq_true.mp t.dg c hm
      walk_at "rd"
      refine ⟨_, _, rfl, rfl, ?_⟩
      rw [hd1]
      refine ⟨_, hd, by simp; omega, _, rfl, s1.put hD, ?_⟩
      rw [upd_same, List.replicate_succ', List.map_append]
      rfl
    · rintro σ H1 ⟨_, rfl, s1, hd⟩
      walk_at "rd"
      refine ⟨D, _, rfl, SqL.of hd, ?_⟩
      rw [show (List.replicate z.cps.size true).all id = true by simp]
      walk_at "rd"
      refine ifd (fun h => ?_) (fun h => ?_)
      · exact k _ s1
      · rcases t.lead with e | ⟨c, e1, e2⟩
        · exact absurd e h
        · walk_at "rd"
          refine ⟨z, 0, c, rfl, rfl, by have := t.len; omega, e1, ?_⟩
          walk_at "rd"
          rw [show (!decide ((⟨#[c]⟩ : Str) = "0")) = true by simp [e2]]
          exact k _ s1
theorem ok_no (T : Txt mg cs) (L : Laid K mg "numbers_of" s_numbers_of ["words"]) (C_is_number : Cal P w K mg base 1 "is_number" ["word"] spNum) : Cal P w K mg base 2 "numbers_of" ["words"] spNo := by
  refine L.cal (k := 1) sc_numbers_of (fun vs H Q E h => ?_) (fun f cdv A outer s H vs Q E hr h => ?_)
  · obtain ⟨p, ns, rfl, _⟩ := h
    rfl
  · obtain ⟨p, ns, rfl, hp, hn, hl, k⟩ := h
    have big := line_big
    have hlm : ((ns.map sI).map V.str).length = ns.length := by rw [List.length_map, List.length_map]
    have gx : ∀ {i : Nat} {x : V}, ((ns.map sI).map V.str)[i]? = some x → ∃ hi : i < ns.length, x = .str (sI ns[i]) := fun {i x} hx => by
      have hi : i < ns.length := by have := (List.getElem?_eq_some_iff.mp hx).1; rwa [hlm] at this
      exact ⟨hi, by simpa [hi] using hx.symm⟩
    refine ⟨_, (pss_cons (ps_for PassesOwn.never rfl (pi_listK K (pv 0)) (pg_name (i := 1) sc_numbers_of.nd rfl (Or.inl rfl)) (pss_one (ps_if (pt_not (pt_val (pe_cal C_is_number hr (by decide) rfl (pa_cons (pv 1) pa_nil)))) (pss_one ps_never) pss_nil)))
      (pss_one (ps_ret (pe_callTy (tupOfK K) rfl T.n_tuple bt_tuple (pa_cons (pe_comp (compOk (N := ["word"]) (own := 1) (caps := []) ["words", "word"] (defScope s_numbers_of) (by decide +kernel)) rfl (pi_listK K (pv 0)) (fun _ _ _ _ => (pg_name (i := 0) (show List.Nodup (["word"] : List Str) by decide +kernel) rfl (Or.inl rfl))) (fun _ _ _ _ => pf_nil) (fun _ _ _ _ => (pe_callTy intT rfl T.n_int bt_int (pa_cons (pv 0) pa_nil)))) pa_nil))))), ?_⟩
    walk_at "rd"
    refine for_lst ((ns.map sI).map V.str) (fun i σ H' => ∃ v1, σ = [some (.ref p), v1] ∧ Same H H') ⟨none, rfl, Same.refl _⟩ ?_ ?_ ?_
    · rintro i σ H' ⟨_, rfl, s1⟩
      exact SqL.of (s1 _ _ hp)
    · rintro i x σ H' hx ⟨v1, rfl, s1⟩
      obtain ⟨hi, rfl⟩ := gx hx
      have hb := hn _ (List.getElem_mem hi)
      walk_at "rd"
      refine ⟨ns[i], rfl, hb.1, hb.2, fun H2 s2 => ?_⟩
      walk_at "rd"
      exact ⟨_, rfl, s1.trans s2⟩
    · rintro σ H1 ⟨v1, rfl, s1⟩
      have hp1 := s1 _ _ hp
      walk_at "rd"
      intro D hD
      refine comp_lst ((ns.map sI).map V.str) (fun i σ H' => ∃ v0, σ = [v0] ∧ Same H1 H' ∧ H' D = some (.lst ((ns.take i).map V.int))) ⟨none, rfl, Same.upd hD, by rw [upd_same]; rfl⟩ ?_ ?_ ?_
      · rintro i σ H' ⟨_, rfl, s2, _⟩
        exact SqL.of (s2 _ _ hp1)
      · rintro i x σ H' hx ⟨v0, rfl, s2, hd⟩
        obtain ⟨hi, rfl⟩ := gx hx
        have hb := hn _ (List.getElem_mem hi)
        have t := numT hb.1 hb.2
        walk_at "rd"
        refine ⟨_, _, rfl, t.it, by have := t.len; omega, ?_⟩
        refine ⟨_, hd, by rw [List.length_map, List.length_take]; omega, _, rfl, s2.put hD, ?_⟩
        rw [upd_same, List.take_succ_eq_append_getElem hi, List.map_append]
        rfl
      · rintro σ H2 ⟨_, rfl, s2, hd⟩
        rw [hlm, List.take_length] at hd
        walk_at "rd"
        refine r_tol (SqL.of hd) fun q hq => ?_
        walk_at "rd"
        exact k q _ (s1.trans (s2.trans (Same.upd hq))) upd_same
theorem ok_nb (T : Txt mg cs) (L : Laid K mg "numbers_behind" s_numbers_behind ["word", "words", "many"]) (C_numbers_of : Cal P w K mg base 2 "numbers_of" ["words"] spNo) : Cal P w K mg base 3 "numbers_behind" ["word", "words", "many"] spNb := by
  refine L.cal (k := 2) sc_numbers_behind (fun vs H Q E h => ?_) (fun f cdv A outer s H vs Q E hr h => ?_)
  · obtain ⟨z, p, ns, rfl, _⟩ := h
    rfl
  · obtain ⟨z, p, ns, rfl, hp, hn, hl, k⟩ := h
    have big := line_big
    have hp' : H p = some (.lst (V.str z :: (ns.map sI).map V.str)) := hp
    refine ⟨_, (pss_cons (ps_if (PW.pt (pw_or (pt_cmpR op_ne (pe_ix (ix_listK K) (pv 1) pe_int (fun _ _ => rfl)) (pv 0) (nomark _)) (pw_or1 (pt_cmpR op_ne (pe_callB (lenK K) rfl T.n_len bt_len (pa_cons (pv 1) pa_nil)) (pe_op op_add (pv 2) pe_int) (nomark _))))) (pss_one ps_never) pss_nil)
      (pss_one (ps_ret (pe_cal C_numbers_of hr (by decide) rfl (pa_cons (pe_slice (sl_listK K) (pv 1) (po_some pe_int) po_none) pa_nil))))), ?_⟩
    walk_at "rd"
    rw [show (!decide (z = z)) = false by simp]
    refine iteF ?_
    walk_at "rd"
    rw [show (!decide (((V.str z :: (ns.map sI).map V.str).length : Int) = (ns.length : Int) + 1)) = false by simp]
    refine iteF ?_
    walk_at "rd"
    refine ⟨p, _, rfl, SqL.of hp', fun q gq => ?_⟩
    rw [cutV_tail]
    generalize hGq : upd _ q _ = H1
    have s1 := sm_of hGq gq
    have h1 := at_of hGq
    walk_at "rd"
    exact ⟨q, ns, rfl, h1, hn, hl, fun r H' s' hr => k r H' (s1.trans s') hr⟩
theorem ok_pt (T : Txt mg cs) (L : Laid K mg "part_of" s_part_of ["word"]) : Cal P w K mg base 1 "part_of" ["word"] spPt := by
  obtain ⟨t1, e_WAYS⟩ := T.e_WAYS
  obtain ⟨t2, e_THINGS⟩ := T.e_THINGS
  obtain ⟨t3, e_LEVERS⟩ := T.e_LEVERS
  obtain ⟨t4, e_WHEELS⟩ := T.e_WHEELS
  refine L.cal (k := 0) sc_part_of (fun vs H Q E h => ?_) (fun f cdv A outer s H vs Q E hr h => ?_)
  · obtain ⟨z, m, rfl, _⟩ := h
    rfl
  · obtain ⟨z, m, rfl, hz, k⟩ := h
    refine ⟨_, (pss_cons (ps_if (PW.pt (pw_or (pt_cmpR op_eq (pv 0) pe_str (nomark _)) (pw_or1 (pt_cmpR op_eq (pv 0) pe_str (nomark _))))) (pss_one (ps_ret (pe_glob (v := .int 3) rfl e_WAYS ⟨_, rfl⟩))) pss_nil)
      (pss_cons (ps_if (pt_cmpR op_eq (pv 0) pe_str (nomark _)) (pss_one (ps_ret (pe_glob (v := .int 4) rfl e_THINGS ⟨_, rfl⟩))) pss_nil)
      (pss_cons (ps_if (pt_cmpR op_eq (pv 0) pe_str (nomark _)) (pss_one (ps_ret (pe_glob (v := .int 5) rfl e_LEVERS ⟨_, rfl⟩))) pss_nil)
      (pss_cons (ps_if (pt_cmpR op_eq (pv 0) pe_str (nomark _)) (pss_one (ps_ret (pe_glob (v := .int 6) rfl e_WHEELS ⟨_, rfl⟩))) pss_nil)
      (pss_one ps_never))))), ?_⟩
    walk_at "rd"
    refine ifd (fun h1 => ?_) (fun h1 => ?_)
    · cases pt_wy hz (.inl h1)
      walk_at "rd"
      exact k
    walk_at "rd"
    refine ifd (fun h2 => ?_) (fun h2 => ?_)
    · cases pt_wy hz (.inr h2)
      walk_at "rd"
      exact k
    walk_at "rd"
    refine ifd (fun h3 => ?_) (fun h3 => ?_)
    · cases pt_th hz h3
      walk_at "rd"
      exact k
    walk_at "rd"
    refine ifd (fun h4 => ?_) (fun h4 => ?_)
    · cases pt_lv hz h4
      walk_at "rd"
      exact k
    walk_at "rd"
    refine ifd (fun h5 => ?_) (fun h5 => ?_)
    · cases pt_wh hz h5
      walk_at "rd"
      exact k
    rcases hz with ⟨a | a, _⟩ | ⟨a, _⟩ | ⟨a, _⟩ | ⟨a, _⟩
    · exact absurd a h1
    · exact absurd a h2
    · exact absurd a h3
    · exact absurd a h4
    · exact absurd a h5
theorem ok_ch (T : Txt mg cs) (L : Laid K mg "changed" s_changed ["parts", "place", "part"]) : Cal P w K mg base 1 "changed" ["parts", "place", "part"] spCh := by
  refine L.cal (k := 0) sc_changed (fun vs H Q E h => ?_) (fun f cdv A outer s H vs Q E hr h => ?_)
  · obtain ⟨c, ys, j, y, rfl, _⟩ := h
    rfl
  · obtain ⟨c, ys, j, y, rfl, hc, hy, hj, k⟩ := h
    have big := line_big
    refine ⟨_, (pss_one (ps_ret (pe_op (op_catTA K) (pe_op (op_catTA K) (pe_slice (sl_tupAK K) (pv 0) po_none (po_some (pv 1))) (pe_tup (pa_cons (pv 2) pa_nil))) (pe_slice (sl_tupAK K) (pv 0) (po_some (pe_op op_add (pv 1) pe_int)) po_none)))), ?_⟩
    walk_at "rd"
    refine r_slA hc fun r1 H4 s4 h4 => ?_
    rw [cut_t _ _ (by omega)] at h4
    walk_at "rd"
    intro r2 g2'
    generalize hG5 : upd _ r2 _ = H5
    have s5 := sm_of hG5 g2'
    have h5 := at_of hG5
    refine r_catA (s5 _ _ h4) h5 (by simp; omega) fun r3 H6 s6 h6 => ?_
    have hc6 := s6 _ _ (s5 _ _ (s4 _ _ hc))
    walk_at "rd"
    refine r_slA hc6 fun r4 H7 s7 h7 => ?_
    rw [show ((j : Nat) : Int) + 1 = ((j + 1 : Nat) : Int) by omega, cut_d _ _ (by omega)] at h7
    refine r_catA (s7 _ _ h6) h7 (by simp; omega) fun r5 H8 s8 h8 => ?_
    walk_at "rd"
    exact k r5 H8 (s4.trans (s5.trans (s6.trans (s7.trans s8)))) h8
end

structure RwIn {α : Type} (At : Hp → Addr → α → Prop) (K : PySem.W.Frag) (H : Hp) (q : Addr) (ys : List α) : Prop where
  ex : ∃ ps, SqT K H q (ps.map V.ref) ∧ Rows At H ps ys
theorem RwIn.of {α : Type} {At : Hp → Addr → α → Prop} {K : PySem.W.Frag} {H : Hp} {q : Addr} {ys : List α} (h : TupOf At H q ys) : RwIn At K H q ys := let ⟨ps, h1, h2⟩ := h; ⟨ps, SqT.of h1, h2⟩
def vsOf (C : Cl) (v1 v2 v3 v4 : Addr) : List V := [.int C.rooms, .int C.fst, .int C.lst, .ref v1, .ref v2, .ref v3, .ref v4, .int C.bars, .int C.water]
def spMo (K : PySem.W.Frag) : Sp := fun vs H Q _ => ∃ (p v1 v2 v3 v4 : Addr) (C : Cl), vs = [.ref p] ∧ H p = some (.tup (vsOf C v1 v2 v3 v4)) ∧ RwIn WayAt K H v1 C.ways ∧ RwIn PairAt K H v2 C.things ∧ RwIn PairAt K H v3 C.levers ∧ RwIn PairAt K H v4 C.wheels ∧ ClOk C ∧ ∀ (r : Addr) (H' : Hp), Same H H' → ClAt H' r C → Q (.ref r) H'
def handC (C : Cl) (v1 v2 v3 v4 : Addr) (a b c d : List Addr) : Hand := ⟨C.rooms, C.fst, C.lst, C.bars, C.water, .ref v1, .ref v2, .ref v3, .ref v4, a.map V.ref, b.map V.ref, c.map V.ref, d.map V.ref, fun i => wyW (C.ways.getD i ⟨0, 0, .plain, false⟩), fun i => C.things.getD i (0, 0), fun i => C.levers.getD i (0, 0), fun i => C.wheels.getD i (0, 0)⟩
theorem handC_ok {K : PySem.W.Frag} {H : Hp} {C : Cl} {v1 v2 v3 v4 : Addr} {a b c d : List Addr} (o : ClOk C) (i1 : RowIn K H (.ref v1) (a.map V.ref)) (i2 : RowIn K H (.ref v2) (b.map V.ref)) (i3 : RowIn K H (.ref v3) (c.map V.ref)) (i4 : RowIn K H (.ref v4) (d.map V.ref)) (w1 : Rows WayAt H a C.ways) (w2 : Rows PairAt H b C.things) (w3 : Rows PairAt H c C.levers) (w4 : Rows PairAt H d C.wheels) : HandOk K H (handC C v1 v2 v3 v4 a b c d) := by
  have e1 := w1.1
  have e2 := w2.1
  have e3 := w3.1
  have e4 := w4.1
  have r1 := o.r1
  have r2 := o.r2
  have f := o.f
  have l := o.l
  have cb := o.b
  have cw := o.wa
  have l1 := o.wl
  have l2 := o.tl
  have l3 := o.ll
  have l4 := o.vl
  have S : ∀ n : Int, 0 ≤ n → n ≤ 1000 → Sml n := fun n h0 h1 => sml_in (by omega) (by omega)
  refine ⟨S C.rooms (by omega) (by omega), S (C.rooms - 1) (by omega) (by omega), S C.fst (by omega) (by omega), S C.lst (by omega) (by omega), S C.bars (by omega) (by omega), S C.water (by omega) (by omega), i1, i2, i3, i4, fun i x z => ?_, fun i x z => ?_, fun i x z => ?_, fun i x z => ?_, by show (a.map V.ref).length ≤ 1000; rw [List.length_map]; omega, by show (b.map V.ref).length ≤ 1000; rw [List.length_map]; omega, by show (c.map V.ref).length ≤ 1000; rw [List.length_map]; omega, by show (d.map V.ref).length ≤ 1000; rw [List.length_map]; omega⟩
  · obtain ⟨p, rfl, ha, hm⟩ := rows_at w1 z ⟨0, 0, .plain, false⟩
    exact way_is ha (o.w _ hm) r2
  · obtain ⟨p, rfl, ha, hm⟩ := rows_at w2 z (0, 0)
    have z1 := o.t _ hm
    exact ⟨p, rfl, ha, S (C.things.getD i (0, 0)).1 (by omega) (by omega), S (C.things.getD i (0, 0)).2 (by omega) (by omega)⟩
  · obtain ⟨p, rfl, ha, hm⟩ := rows_at w3 z (0, 0)
    have z1 := o.lv _ hm
    exact ⟨p, rfl, ha, S (C.levers.getD i (0, 0)).1 (by omega) (by omega), S (C.levers.getD i (0, 0)).2 (by omega) (by omega)⟩
  · obtain ⟨p, rfl, ha, hm⟩ := rows_at w4 z (0, 0)
    have z1 := o.wh _ hm
    exact ⟨p, rfl, ha, S (C.wheels.getD i (0, 0)).1 (by omega) (by omega), S (C.wheels.getD i (0, 0)).2 (by omega) (by omega)⟩
theorem handC_good {C : Cl} {v1 v2 v3 v4 : Addr} {a b c d : List Addr} (o : ClOk C) (e1 : a.length = C.ways.length) (e2 : b.length = C.things.length) (e3 : c.length = C.levers.length) (e4 : d.length = C.wheels.length) : (handC C v1 v2 v3 v4 a b c d).good := by
  have r1 := o.r1
  have r2 := o.r2
  have f := o.f
  have l := o.l
  have l1 := o.wl
  have l2 := o.tl
  have l3 := o.ll
  have l4 := o.vl
  refine ⟨⟨r1, r2⟩, ⟨f.1, by show C.fst ≤ C.rooms - 1; omega⟩, ⟨l.1, by show C.lst ≤ C.rooms - 1; omega⟩, o.b, o.wa, ⟨by show (a.map V.ref).length ≤ 20; rw [List.length_map]; omega, fun i hi => ?_⟩, ⟨by show (((b.map V.ref).length : Nat) : Int) ≤ 8; rw [List.length_map]; omega, fun i hi => ?_⟩, ⟨by show (((c.map V.ref).length : Nat) : Int) ≤ 4; rw [List.length_map]; omega, fun i hi => ?_⟩, ⟨by show (((d.map V.ref).length : Nat) : Int) ≤ 4; rw [List.length_map]; omega, fun i hi => ?_⟩⟩
  · have hi : i < (a.map V.ref).length := hi
    rw [List.length_map] at hi
    obtain ⟨x, y, z, w⟩ := o.w _ (get_mem ⟨0, 0, .plain, false⟩ (show i < C.ways.length by omega))
    exact ⟨x, y, z, gateOk_ok w⟩
  · have hi : i < (b.map V.ref).length := hi
    rw [List.length_map] at hi
    have z := o.t _ (get_mem (0, 0) (show i < C.things.length by omega))
    exact ⟨z.1, z.2.1, Int.le_of_lt_add_one z.2.2⟩
  · have hi : i < (c.map V.ref).length := hi
    rw [List.length_map] at hi
    exact o.lv _ (get_mem (0, 0) (show i < C.levers.length by omega))
  · have hi : i < (d.map V.ref).length := hi
    rw [List.length_map] at hi
    exact o.wh _ (get_mem (0, 0) (show i < C.wheels.length by omega))
section
variable {P : Program} {w : World} {K : PySem.W.Frag} {mg : Str → Option Value} {base : Heap} {xs : Xs} {cs : Cs}
theorem ok_wo (T : Txt mg cs) (L : Laid K mg "way_of" s_way_of ["words"]) (C_numbers_of : Cal P w K mg base 2 "numbers_of" ["words"] spNo) : Cal P w K mg base 3 "way_of" ["words"] spWo := by
  refine L.cal (k := 2) sc_way_of (fun vs H Q E h => ?_) (fun f cdv A outer s H vs Q E hr h => ?_)
  · obtain ⟨p, x, rfl, _⟩ := h
    rfl
  · obtain ⟨p, x, rfl, hp, ha, hb, gk, k⟩ := h
    have big := line_big
    have nl := x.g.ns_len
    have hp' : H p = some (.lst (V.str (wrd x.back) :: V.str (sI x.a) :: V.str (sI x.b) :: V.str x.g.word :: (x.g.ns.map sI).map V.str)) := hp
    have hlm : ((V.str (wrd x.back) :: V.str (sI x.a) :: V.str (sI x.b) :: V.str x.g.word :: (x.g.ns.map sI).map V.str).length : Int) = 4 + (x.g.ns.length : Nat) := by simp; omega
    refine ⟨_, (pss_cons (ps_if (pt_cmpR op_lt (pe_callB (lenK K) rfl T.n_len bt_len (pa_cons (pv 0) pa_nil)) pe_int (nomark _)) (pss_one ps_never) pss_nil)
      (pss_cons (ps_set (i := 1) sc_way_of.nd rfl (Or.inl rfl) (pe_op (op_catTA K) (pe_tup (pa_cons (pe_ix (ix_listK K) (pv 0) pe_int (fun _ _ => rfl)) pa_nil)) (pe_cal C_numbers_of hr (by decide) rfl (pa_cons (pe_slice (sl_listK K) (pv 0) (po_some pe_int) po_none) pa_nil))))
      (pss_one (ps_ret (pe_op (op_catTA K) (pe_cal C_numbers_of hr (by decide) rfl (pa_cons (pe_slice (sl_listK K) (pv 0) (po_some pe_int) (po_some pe_int)) pa_nil)) (pe_tup (pa_cons (pv 1) (pa_cons (pe_cmpR op_eq (pe_ix (ix_listK K) (pv 0) pe_int (fun _ _ => rfl)) pe_str (nomark _)) pa_nil)))))))), ?_⟩
    walk_at "rd"
    refine ifd (fun h => absurd h (by omega)) (fun _ => ?_)
    walk_at "rd"
    refine r_ixL (SqL.of hp') (atI_nat (j := 3) rfl) ?_
    walk_at "rd"
    intro t gt
    generalize hGt : upd _ t _ = H1
    have s1 := sm_of hGt gt
    have h1 := at_of hGt
    have hp1 := s1 _ _ hp'
    walk_at "rd"
    refine ⟨p, _, rfl, SqL.of hp1, fun q gq => ?_⟩
    rw [show (some (4 : Int)) = some (((4 : Nat) : Int)) from rfl, cut_d _ 4 (by simp)]
    generalize hGq : upd _ q _ = H2
    have s2 := sm_of hGq gq
    have h2 : H2 q = some (.lst ((x.g.ns.map sI).map V.str)) := at_of hGq
    walk_at "rd"
    refine ⟨q, x.g.ns, rfl, h2, in_ns gk, by omega, fun r H3 s3 h3 => ?_⟩
    refine r_catA (s3 _ _ (s2 _ _ h1)) h3 (by simp; omega) fun g H4 s4 h4 => ?_
    have h4' : H4 g = some (.tup x.g.vs) := by rw [h4, Gt.vs_eq]; rfl
    have s14 := s1.trans (s2.trans (s3.trans s4))
    have hp4 := s14 _ _ hp'
    try simp only [List.set_cons_succ, List.set_cons_zero]
    walk_at "rd"
    refine ⟨p, _, rfl, SqL.of hp4, fun q5 gq5 => ?_⟩
    rw [show (some (1 : Int)) = some (((1 : Nat) : Int)) from rfl, show (some (3 : Int)) = some (((3 : Nat) : Int)) from rfl, cut_m _ 1 3 (by simp) (by simp)]
    generalize hGq5 : upd _ q5 _ = H5
    have s5 := sm_of hGq5 gq5
    have h5 : H5 q5 = some (.lst (([x.a, x.b].map sI).map V.str)) := at_of hGq5
    walk_at "rd"
    refine ⟨q5, [x.a, x.b], rfl, h5, in_two ha hb, by simp, fun r6 H6 s6 h6 => ?_⟩
    have s16 := s14.trans (s5.trans s6)
    have hp6 := s16 _ _ hp'
    walk_at "rd"
    intro t7 gt7
    generalize hGt7 : upd _ t7 _ = H7
    have s7 := sm_of hGt7 gt7
    have h7 := at_of hGt7
    refine r_catA (s7 _ _ h6) h7 (by simp; omega) fun g8 H8 s8 h8 => ?_
    walk_at "rd"
    refine k g8 H8 (s16.trans (s7.trans s8)) ⟨g, ?_, s8 _ _ (s7 _ _ (s6 _ _ (s5 _ _ h4')))⟩
    rw [h8]
    cases hk : x.back <;> rfl
theorem ok_mo {d1 d2 : Tok} (T : Txt mg cs) (L : Laid K mg "made_of" s_made_of ["parts"]) (C_cellar : CalDX P w K mg base 4 "cellar" ["rooms", "first", "last", "ways", "things", "levers", "wheels", "bars", "water"] (spMkC K xs.NoCellar) s_cellar [.none, .none, .none, .int 0 d1, .int 0 d2]) : Cal P w K mg base 5 "made_of" ["parts"] (spMo K) := by
  obtain ⟨t0, e_ROOMS⟩ := T.e_ROOMS
  obtain ⟨t1, e_FIRST⟩ := T.e_FIRST
  obtain ⟨t2, e_LAST⟩ := T.e_LAST
  obtain ⟨t3, e_WAYS⟩ := T.e_WAYS
  obtain ⟨t4, e_THINGS⟩ := T.e_THINGS
  obtain ⟨t5, e_LEVERS⟩ := T.e_LEVERS
  obtain ⟨t6, e_WHEELS⟩ := T.e_WHEELS
  obtain ⟨t7, e_FIRST_BARS⟩ := T.e_FIRST_BARS
  obtain ⟨t8, e_FIRST_WATER⟩ := T.e_FIRST_WATER
  refine L.cal (k := 4) sc_made_of (fun vs H Q E h => ?_) (fun f cdv A outer s H vs Q E hr h => ?_)
  · obtain ⟨p, v1, v2, v3, v4, C, rfl, _⟩ := h
    rfl
  · obtain ⟨p, v1, v2, v3, v4, C, rfl, hp, ⟨a, a1, a2⟩, ⟨b, b1, b2⟩, ⟨c, c1, c2⟩, ⟨d, d1', d2'⟩, oC, k⟩ := h
    have hp' : H p = some (.tup [.int C.rooms, .int C.fst, .int C.lst, .ref v1, .ref v2, .ref v3, .ref v4, .int C.bars, .int C.water]) := hp
    refine ⟨_, (pss_one (ps_ret (pe_calDX C_cellar pass_no (bd_cellar_9 d1 d2) (dv_cellar_9 d1 d2) hr (by decide) rfl (pa_c (pe_ix (ix_tupK K) (pv 0) (pe_glob (v := .int 0) rfl e_ROOMS ⟨_, rfl⟩) (fun _ _ => rfl)) (pa_c (pe_ix (ix_tupK K) (pv 0) (pe_glob (v := .int 1) rfl e_FIRST ⟨_, rfl⟩) (fun _ _ => rfl)) (pa_c (pe_ix (ix_tupK K) (pv 0) (pe_glob (v := .int 2) rfl e_LAST ⟨_, rfl⟩) (fun _ _ => rfl)) (pa_c (pe_ix (ix_tupK K) (pv 0) (pe_glob (v := .int 3) rfl e_WAYS ⟨_, rfl⟩) (fun _ _ => rfl)) (pa_c (pe_ix (ix_tupK K) (pv 0) (pe_glob (v := .int 4) rfl e_THINGS ⟨_, rfl⟩) (fun _ _ => rfl)) (pa_c (pe_ix (ix_tupK K) (pv 0) (pe_glob (v := .int 5) rfl e_LEVERS ⟨_, rfl⟩) (fun _ _ => rfl)) (pa_c (pe_ix (ix_tupK K) (pv 0) (pe_glob (v := .int 6) rfl e_WHEELS ⟨_, rfl⟩) (fun _ _ => rfl)) (pa_c (pe_ix (ix_tupK K) (pv 0) (pe_glob (v := .int 7) rfl e_FIRST_BARS ⟨_, rfl⟩) (fun _ _ => rfl)) (pa_c (pe_ix (ix_tupK K) (pv 0) (pe_glob (v := .int 8) rfl e_FIRST_WATER ⟨_, rfl⟩) (fun _ _ => rfl)) pa_nil)))))))))))), ?_⟩
    walk_at "rd"
    refine ⟨handC C v1 v2 v3 v4 a b c d, rfl, handC_ok oC ⟨_, rfl, a1⟩ ⟨_, rfl, b1⟩ ⟨_, rfl, c1⟩ ⟨_, rfl, d1'⟩ a2 b2 c2 d2', fun _ r H1 s1 m => ?_, fun g => absurd (handC_good oC a2.1 b2.1 c2.1 d2'.1) g⟩
    obtain ⟨p1, p2, p3, p4, m0, m1, m2, m3, m4⟩ := m
    exact k r H1 s1 ⟨p1, p2, p3, p4, m0, ⟨a, m1, a2.mono fun _ _ => WayAt.mono s1.ts⟩, ⟨b, m2, b2.mono fun _ _ => PairAt.mono s1.ts⟩, ⟨c, m3, c2.mono fun _ _ => PairAt.mono s1.ts⟩, ⟨d, m4, d2'.mono fun _ _ => PairAt.mono s1.ts⟩⟩
end

inductive Nxt (C : Cl) : Cl → List Str → Prop
  | way (x : Way) (e1 : C.things = []) (e2 : C.levers = []) (e3 : C.wheels = []) : Nxt C ⟨C.rooms, C.fst, C.lst, C.ways ++ [x], C.things, C.levers, C.wheels, C.bars, C.water⟩ (lnW x)
  | thing (x : Int × Int) (e2 : C.levers = []) (e3 : C.wheels = []) : Nxt C ⟨C.rooms, C.fst, C.lst, C.ways, C.things ++ [x], C.levers, C.wheels, C.bars, C.water⟩ (lnP "thing" x)
  | lever (x : Int × Int) (e3 : C.wheels = []) : Nxt C ⟨C.rooms, C.fst, C.lst, C.ways, C.things, C.levers ++ [x], C.wheels, C.bars, C.water⟩ (lnP "lever" x)
  | wheel (x : Int × Int) : Nxt C ⟨C.rooms, C.fst, C.lst, C.ways, C.things, C.levers, C.wheels ++ [x], C.bars, C.water⟩ (lnP "wheel" x)
def pre (C : Cl) (i : Nat) : Cl := ⟨C.rooms, C.fst, C.lst, C.ways.take (i - 3), C.things.take (i - 3 - C.ways.length), C.levers.take (i - 3 - C.ways.length - C.things.length), C.wheels.take (i - 3 - C.ways.length - C.things.length - C.levers.length), if 2 ≤ i then C.bars else 0, if 3 ≤ i then C.water else 0⟩
theorem pre_ok {C : Cl} (o : ClOk C) (i : Nat) : ClOk (pre C i) := by
  have h1 := o.wl
  have h2 := o.tl
  have h3 := o.ll
  have h4 := o.vl
  refine ⟨o.r1, o.r2, o.f, o.l, ?_, ?_, ?_, ?_, fun x hx => o.w x (List.mem_of_mem_take hx), fun x hx => o.t x (List.mem_of_mem_take hx), fun x hx => o.lv x (List.mem_of_mem_take hx), fun x hx => o.wh x (List.mem_of_mem_take hx), ?_, ?_⟩
  · show (List.take _ _).length ≤ _
    rw [List.length_take]; omega
  · show (List.take _ _).length ≤ _
    rw [List.length_take]; omega
  · show (List.take _ _).length ≤ _
    rw [List.length_take]; omega
  · show (List.take _ _).length ≤ _
    rw [List.length_take]; omega
  · show 0 ≤ (if 2 ≤ i then C.bars else 0) ∧ (if 2 ≤ i then C.bars else 0) ≤ 255
    have := o.b
    split <;> omega
  · show 0 ≤ (if 3 ≤ i then C.water else 0) ∧ (if 3 ≤ i then C.water else 0) ≤ 9
    have := o.wa
    split <;> omega
theorem lns_size (C : Cl) : (lns C).length = 3 + C.ways.length + C.things.length + C.levers.length + C.wheels.length := by
  unfold lns
  simp
  omega
theorem pre_all (C : Cl) : pre C (lns C).length = C := by
  have e := lns_size C
  unfold pre
  rw [List.take_of_length_le (by omega), List.take_of_length_le (by omega), List.take_of_length_le (by omega), List.take_of_length_le (by omega), if_pos (by omega), if_pos (by omega)]
theorem take_at {α : Type} {l : List α} {j : Nat} {x : α} (h : l[j]? = some x) : l.take (j + 1) = l.take j ++ [x] := by
  rw [List.take_add_one, h]
  rfl
theorem nxt_pre {C : Cl} {j : Nat} {ws : List Str} (h : (lns C)[j + 3]? = some ws) : Nxt (pre C (j + 3)) (pre C (j + 3 + 1)) ws := by
  replace h : (C.ways.map lnW ++ (C.things.map (lnP "thing") ++ (C.levers.map (lnP "lever") ++ C.wheels.map (lnP "wheel"))))[j]? = some ws := h
  have q2 : ∀ a b : Int, (if 2 ≤ j + 3 then a else b) = a := fun a b => if_pos (by omega)
  have q3 : ∀ a b : Int, (if 3 ≤ j + 3 then a else b) = a := fun a b => if_pos (by omega)
  have q2' : ∀ a b : Int, (if 2 ≤ j + 3 + 1 then a else b) = a := fun a b => if_pos (by omega)
  have q3' : ∀ a b : Int, (if 3 ≤ j + 3 + 1 then a else b) = a := fun a b => if_pos (by omega)
  by_cases h1 : j < C.ways.length
  · rw [List.getElem?_append_left (by simpa using h1), List.getElem?_map] at h
    obtain ⟨x, hx, rfl⟩ := Option.map_eq_some_iff.mp h
    have e : pre C (j + 3 + 1) = ⟨(pre C (j + 3)).rooms, (pre C (j + 3)).fst, (pre C (j + 3)).lst, (pre C (j + 3)).ways ++ [x], (pre C (j + 3)).things, (pre C (j + 3)).levers, (pre C (j + 3)).wheels, (pre C (j + 3)).bars, (pre C (j + 3)).water⟩ := by
      unfold pre
      rw [q2, q3, q2', q3', show j + 3 + 1 - 3 = j + 1 by omega, show j + 3 - 3 = j by omega, take_at hx, show j + 1 - C.ways.length = 0 by omega, show j - C.ways.length = 0 by omega]
    rw [e]
    refine .way x ?_ ?_ ?_
    · show List.take (j + 3 - 3 - C.ways.length) _ = []
      rw [show j + 3 - 3 - C.ways.length = 0 by omega]; rfl
    · show List.take (j + 3 - 3 - C.ways.length - C.things.length) _ = []
      rw [show j + 3 - 3 - C.ways.length - C.things.length = 0 by omega]; rfl
    · show List.take (j + 3 - 3 - C.ways.length - C.things.length - C.levers.length) _ = []
      rw [show j + 3 - 3 - C.ways.length - C.things.length - C.levers.length = 0 by omega]; rfl
  rw [List.getElem?_append_right (by simpa using h1), List.length_map] at h
  obtain ⟨j2, rfl⟩ : ∃ k, j = C.ways.length + k := ⟨j - C.ways.length, by omega⟩
  rw [show C.ways.length + j2 - C.ways.length = j2 by omega] at h
  have z1 : ∀ k, k = C.ways.length + j2 ∨ k = C.ways.length + j2 + 1 → C.ways.take k = C.ways := fun k hk => List.take_of_length_le (by omega)
  by_cases h2 : j2 < C.things.length
  · rw [List.getElem?_append_left (by simpa using h2), List.getElem?_map] at h
    obtain ⟨x, hx, rfl⟩ := Option.map_eq_some_iff.mp h
    have e : pre C (C.ways.length + j2 + 3 + 1) = ⟨(pre C (C.ways.length + j2 + 3)).rooms, (pre C (C.ways.length + j2 + 3)).fst, (pre C (C.ways.length + j2 + 3)).lst, (pre C (C.ways.length + j2 + 3)).ways, (pre C (C.ways.length + j2 + 3)).things ++ [x], (pre C (C.ways.length + j2 + 3)).levers, (pre C (C.ways.length + j2 + 3)).wheels, (pre C (C.ways.length + j2 + 3)).bars, (pre C (C.ways.length + j2 + 3)).water⟩ := by
      unfold pre
      rw [q2, q3, q2', q3', z1 (C.ways.length + j2 + 3 + 1 - 3) (by omega), z1 (C.ways.length + j2 + 3 - 3) (by omega), show C.ways.length + j2 + 3 + 1 - 3 - C.ways.length = j2 + 1 by omega, show C.ways.length + j2 + 3 - 3 - C.ways.length = j2 by omega, take_at hx, show j2 + 1 - C.things.length = 0 by omega, show j2 - C.things.length = 0 by omega]
    rw [e]
    refine .thing x ?_ ?_
    · show List.take (C.ways.length + j2 + 3 - 3 - C.ways.length - C.things.length) _ = []
      rw [show C.ways.length + j2 + 3 - 3 - C.ways.length - C.things.length = 0 by omega]; rfl
    · show List.take (C.ways.length + j2 + 3 - 3 - C.ways.length - C.things.length - C.levers.length) _ = []
      rw [show C.ways.length + j2 + 3 - 3 - C.ways.length - C.things.length - C.levers.length = 0 by omega]; rfl
  rw [List.getElem?_append_right (by simpa using h2), List.length_map] at h
  obtain ⟨j3, rfl⟩ : ∃ k, j2 = C.things.length + k := ⟨j2 - C.things.length, by omega⟩
  rw [show C.things.length + j3 - C.things.length = j3 by omega] at h
  have z2 : ∀ k, k = C.things.length + j3 ∨ k = C.things.length + j3 + 1 → C.things.take k = C.things := fun k hk => List.take_of_length_le (by omega)
  generalize hN : C.ways.length + (C.things.length + j3) + 3 = N at *
  have y1 : N - 3 - C.ways.length = C.things.length + j3 := by omega
  have y1' : N + 1 - 3 - C.ways.length = C.things.length + j3 + 1 := by omega
  by_cases h3 : j3 < C.levers.length
  · rw [List.getElem?_append_left (by simpa using h3), List.getElem?_map] at h
    obtain ⟨x, hx, rfl⟩ := Option.map_eq_some_iff.mp h
    have e : pre C (N + 1) = ⟨(pre C N).rooms, (pre C N).fst, (pre C N).lst, (pre C N).ways, (pre C N).things, (pre C N).levers ++ [x], (pre C N).wheels, (pre C N).bars, (pre C N).water⟩ := by
      unfold pre
      rw [q2, q3, q2', q3', z1 (N + 1 - 3) (by omega), z1 (N - 3) (by omega), y1, y1', z2 _ (.inl rfl), z2 _ (.inr rfl), show C.things.length + j3 + 1 - C.things.length = j3 + 1 by omega, show C.things.length + j3 - C.things.length = j3 by omega, take_at hx, show j3 + 1 - C.levers.length = 0 by omega, show j3 - C.levers.length = 0 by omega]
    rw [e]
    refine .lever x ?_
    · show List.take (N - 3 - C.ways.length - C.things.length - C.levers.length) _ = []
      rw [show N - 3 - C.ways.length - C.things.length - C.levers.length = 0 by omega]; rfl
  rw [List.getElem?_append_right (by simpa using h3), List.length_map, List.getElem?_map] at h
  obtain ⟨j4, rfl⟩ : ∃ k, j3 = C.levers.length + k := ⟨j3 - C.levers.length, by omega⟩
  rw [show C.levers.length + j4 - C.levers.length = j4 by omega] at h
  obtain ⟨x, hx, rfl⟩ := Option.map_eq_some_iff.mp h
  have e : pre C (N + 1) = ⟨(pre C N).rooms, (pre C N).fst, (pre C N).lst, (pre C N).ways, (pre C N).things, (pre C N).levers, (pre C N).wheels ++ [x], (pre C N).bars, (pre C N).water⟩ := by
    unfold pre
    rw [q2, q3, q2', q3', z1 (N + 1 - 3) (by omega), z1 (N - 3) (by omega), y1, y1', z2 _ (.inl rfl), z2 _ (.inr rfl), show C.things.length + (C.levers.length + j4) + 1 - C.things.length = C.levers.length + j4 + 1 by omega, show C.things.length + (C.levers.length + j4) - C.things.length = C.levers.length + j4 by omega, List.take_of_length_le (l := C.levers) (i := C.levers.length + j4 + 1) (by omega), List.take_of_length_le (l := C.levers) (i := C.levers.length + j4) (by omega), show C.levers.length + j4 + 1 - C.levers.length = j4 + 1 by omega, show C.levers.length + j4 - C.levers.length = j4 by omega, take_at hx]
  rw [e]
  exact .wheel x
theorem tup_nil {α : Type} {At : Hp → Addr → α → Prop} {H : Hp} {q : Addr} {ys : List α} (h : TupOf At H q ys) (e : ys = []) : H q = some (.tup []) := by
  obtain ⟨ps, h1, h2⟩ := h
  have := h2.1
  rw [e] at this
  rw [h1, List.eq_nil_of_length_eq_zero this]
  rfl
theorem tup_snoc {α : Type} {At : Hp → Addr → α → Prop} {H : Hp} {q x : Addr} {ys : List α} {y : α} {ps : List Addr} (r : Rows At H ps ys) (h : H q = some (.tup (ps.map V.ref ++ [.ref x]))) (hx : At H x y) : TupOf At H q (ys ++ [y]) :=
  ⟨ps ++ [x], by rw [h, List.map_append]; rfl, r.snoc hx⟩
def spWr (K : PySem.W.Frag) : Sp := fun vs H Q _ => ∃ (c p : Addr) (C C' : Cl) (ws : List Str), vs = [.ref c, .ref p] ∧ ClAt H c C ∧ H p = some (.lst (ws.map V.str)) ∧ Nxt C C' ws ∧ ClOk C' ∧ ∀ (r : Addr) (H' : Hp), Same H H' → ClAt H' r C' → Q (.ref r) H'
section
variable {P : Program} {w : World} {K : PySem.W.Frag} {mg : Str → Option Value} {base : Heap} {xs : Xs} {cs : Cs}
theorem ok_wr (T : Txt mg cs) (L : Laid K mg "with_row" s_with_row ["made", "words"]) (C_part_of : Cal P w K mg base 1 "part_of" ["word"] spPt) (C_way_of : Cal P w K mg base 3 "way_of" ["words"] spWo) (C_numbers_behind : Cal P w K mg base 3 "numbers_behind" ["word", "words", "many"] spNb) (C_changed : Cal P w K mg base 1 "changed" ["parts", "place", "part"] spCh) (C_made_of : Cal P w K mg base 5 "made_of" ["parts"] (spMo K)) : Cal P w K mg base 6 "with_row" ["made", "words"] (spWr K) := by
  obtain ⟨t3, e_WAYS⟩ := T.e_WAYS
  obtain ⟨t6, e_WHEELS⟩ := T.e_WHEELS
  refine L.cal (k := 5) sc_with_row (fun vs H Q E h => ?_) (fun f cdv A outer s H vs Q E hr h => ?_)
  · obtain ⟨c, p, C, C', ws, rfl, _⟩ := h
    rfl
  · obtain ⟨c, p, C, C', ws, rfl, hC, hp, hN, oC, k⟩ := h
    obtain ⟨v1, v2, v3, v4, hc, m1, m2, m3, m4⟩ := hC.ex
    have big := line_big
    cases hN with
    | way x e1 e2 e3 =>
      have hp' : H p = some (.lst (V.str (wrd x.back) :: V.str (sI x.a) :: V.str (sI x.b) :: V.str x.g.word :: (x.g.ns.map sI).map V.str)) := hp
      have ox : (0 ≤ x.a ∧ x.a < C.rooms) ∧ (0 ≤ x.b ∧ x.b < C.rooms) ∧ x.a ≠ x.b ∧ x.g.ok := oC.w x (List.mem_append.mpr (.inr (List.mem_singleton.mpr rfl)))
      have orr : C.rooms ≤ 14 := oC.r2
      have ol := oC.wl
      rw [List.length_append] at ol
      refine ⟨_, (pss_cons (ps_set (i := 2) sc_with_row.nd rfl (Or.inl rfl) (pe_cal C_part_of hr (by decide) rfl (pa_cons (pe_ix (ix_listK K) (pv 1) pe_int (fun _ _ => rfl)) pa_nil)))
      (pss_cons (ps_if (pt_val (pe_callB (call_anyK K rfl) rfl T.n_any bt_any (pa_cons (pe_comp (compOk (N := ["later"]) (own := 1) (caps := []) ["made", "words", "part", "row"] (defScope s_with_row) (by decide +kernel)) rfl (pi_tupK K (pe_slice (sl_tupAK K) (pv 0) (po_some (pe_op op_add (pv 2) pe_int)) (po_some (pe_op op_add (pe_glob (v := .int 6) rfl e_WHEELS ⟨_, rfl⟩) pe_int)))) (fun _ _ _ _ => (pg_name (i := 0) (show List.Nodup (["later"] : List Str) by decide +kernel) rfl (Or.inl rfl))) (fun _ _ _ _ => pf_nil) (fun _ _ _ _ => (pe_cmpR op_gt (pe_callB (lenK K) rfl T.n_len bt_len (pa_cons (pv 0) pa_nil)) pe_int (nomark _)))) pa_nil))) (pss_one ps_never) pss_nil)
      (pss_cons (ps_set (i := 3) sc_with_row.nd rfl (Or.inl rfl) (pe_ifExp (pt_cmpR op_eq (pv 2) (pe_glob (v := .int 3) rfl e_WAYS ⟨_, rfl⟩) (nomark _)) (pe_cal C_way_of hr (by decide) rfl (pa_cons (pv 1) pa_nil)) (pe_cal C_numbers_behind hr (by decide) rfl (pa_cons (pe_ix (ix_listK K) (pv 1) pe_int (fun _ _ => rfl)) (pa_cons (pv 1) (pa_cons pe_int pa_nil))))))
      (pss_one (ps_ret (pe_cal C_made_of hr (by decide) rfl (pa_cons (pe_cal C_changed hr (by decide) rfl (pa_cons (pv 0) (pa_cons (pv 2) (pa_cons (pe_op (op_catTA K) (pe_ix (ix_tupK K) (pv 0) (pv 2) (fun _ _ => rfl)) (pe_tup (pa_cons (pv 3) pa_nil))) pa_nil)))) pa_nil))))))), ?_⟩
      walk_at "rd"
      refine ⟨wrd x.back, 3, rfl, .inl ⟨by cases x.back <;> first | exact .inl rfl | exact .inr rfl, rfl⟩, ?_⟩
      walk_at "rd"
      refine r_slA hc fun r1 H1 s1 h1 => ?_
      have h1 : H1 r1 = some (.tup [.ref v2, .ref v3, .ref v4]) := h1
      walk_at "rd"
      intro D hD
      refine comp_tpl [.ref v2, .ref v3, .ref v4] (fun i σ H' => ∃ v0, σ = [v0] ∧ Same H1 H' ∧ H' D = some (.lst ((List.replicate i false).map V.bl))) ⟨none, rfl, Same.upd hD, by rw [upd_same]; rfl⟩ ?_ ?_ ?_
      · rintro i σ H' ⟨_, rfl, s2, _⟩
        exact SqT.of (s2 _ _ h1)
      · rintro i y σ H' hy ⟨v0, rfl, s2, hd⟩
        have hi : i < 3 := (List.getElem?_eq_some_iff.mp hy).1
        obtain ⟨z, rfl, hz⟩ : ∃ z, y = .ref z ∧ H z = some (.tup []) := by
          have := List.mem_of_getElem? hy
          simp only [List.mem_cons, List.not_mem_nil, or_false] at this
          rcases this with rfl | rfl | rfl
          · exact ⟨v2, rfl, tup_nil m2 e1⟩
          · exact ⟨v3, rfl, tup_nil m3 e2⟩
          · exact ⟨v4, rfl, tup_nil m4 e3⟩
        have hz2 := s2 _ _ (s1 _ _ hz)
        walk_at "rd"
        refine ⟨_, hd, by simp; omega, _, rfl, s2.put hD, ?_⟩
        rw [upd_same, List.replicate_succ', List.map_append]
        rfl
      rintro σ H2 ⟨_, rfl, s2, hd⟩
      walk_at "rd"
      refine ⟨D, _, rfl, SqL.of hd, ?_⟩
      rw [show (List.replicate _ false).any id = false by simp]
      have s12 := s1.trans s2
      have hp2 := s12 _ _ hp'
      have hc2 := s12 _ _ hc
      walk_at "rd"
      refine ifd (fun _ => ?_) (fun h => absurd rfl h)
      walk_at "rd"
      refine ⟨p, x, rfl, hp2, by omega, by omega, ox.2.2.2, fun q H3 s3 hq => ?_⟩
      have s13 := s12.trans s3
      have hc3 := s13 _ _ hc
      walk_at "rd"
      intro t gt
      generalize hGt : upd _ t _ = H4
      have s4 := sm_of hGt gt
      have h4 := at_of hGt
      have s14 := s13.trans s4
      obtain ⟨ps, hv, hR⟩ := m1
      have hlen := hR.1
      refine r_catA (s14 _ _ hv) h4 (by simp; simp at ol; omega) fun u H5 s5 h5 => ?_
      have s15 := s14.trans s5
      walk_at "rd"
      refine ⟨c, _, 3, .ref u, rfl, s15 _ _ hc, rfl, by decide, fun r6 H6 s6 h6 => ?_⟩
      have s16 := s15.trans s6
      walk_at "rd"
      have tu : TupOf WayAt H6 u _ := (tup_snoc (hR.mono fun _ _ => WayAt.mono s15.ts) h5 (hq.mono (s4.trans s5).ts)).mono s6.ts fun _ _ => WayAt.mono s6.ts
      exact ⟨r6, u, v2, v3, v4, ⟨C.rooms, C.fst, C.lst, C.ways ++ [x], C.things, C.levers, C.wheels, C.bars, C.water⟩, rfl, h6, .of tu, .of (m2.mono s16.ts fun _ _ => PairAt.mono s16.ts), .of (m3.mono s16.ts fun _ _ => PairAt.mono s16.ts), .of (m4.mono s16.ts fun _ _ => PairAt.mono s16.ts), oC, fun r H7 s7 hr => k r H7 (s16.trans s7) hr⟩
    | thing x e2 e3 =>
      have hp' : H p = some (.lst [V.str "thing", V.str (sI x.1), V.str (sI x.2)]) := hp
      have ox : (0 ≤ x.1 ∧ x.1 < C.rooms) ∧ 0 ≤ x.2 ∧ x.2 < 12 := oC.t x (List.mem_append.mpr (.inr (List.mem_singleton.mpr rfl)))
      have orr : C.rooms ≤ 14 := oC.r2
      have ol := oC.tl
      rw [List.length_append] at ol
      refine ⟨_, (pss_cons (ps_set (i := 2) sc_with_row.nd rfl (Or.inl rfl) (pe_cal C_part_of hr (by decide) rfl (pa_cons (pe_ix (ix_listK K) (pv 1) pe_int (fun _ _ => rfl)) pa_nil)))
      (pss_cons (ps_if (pt_val (pe_callB (call_anyK K rfl) rfl T.n_any bt_any (pa_cons (pe_comp (compOk (N := ["later"]) (own := 1) (caps := []) ["made", "words", "part", "row"] (defScope s_with_row) (by decide +kernel)) rfl (pi_tupK K (pe_slice (sl_tupAK K) (pv 0) (po_some (pe_op op_add (pv 2) pe_int)) (po_some (pe_op op_add (pe_glob (v := .int 6) rfl e_WHEELS ⟨_, rfl⟩) pe_int)))) (fun _ _ _ _ => (pg_name (i := 0) (show List.Nodup (["later"] : List Str) by decide +kernel) rfl (Or.inl rfl))) (fun _ _ _ _ => pf_nil) (fun _ _ _ _ => (pe_cmpR op_gt (pe_callB (lenK K) rfl T.n_len bt_len (pa_cons (pv 0) pa_nil)) pe_int (nomark _)))) pa_nil))) (pss_one ps_never) pss_nil)
      (pss_cons (ps_set (i := 3) sc_with_row.nd rfl (Or.inl rfl) (pe_ifExp (pt_cmpR op_eq (pv 2) (pe_glob (v := .int 3) rfl e_WAYS ⟨_, rfl⟩) (nomark _)) (pe_cal C_way_of hr (by decide) rfl (pa_cons (pv 1) pa_nil)) (pe_cal C_numbers_behind hr (by decide) rfl (pa_cons (pe_ix (ix_listK K) (pv 1) pe_int (fun _ _ => rfl)) (pa_cons (pv 1) (pa_cons pe_int pa_nil))))))
      (pss_one (ps_ret (pe_cal C_made_of hr (by decide) rfl (pa_cons (pe_cal C_changed hr (by decide) rfl (pa_cons (pv 0) (pa_cons (pv 2) (pa_cons (pe_op (op_catTA K) (pe_ix (ix_tupK K) (pv 0) (pv 2) (fun _ _ => rfl)) (pe_tup (pa_cons (pv 3) pa_nil))) pa_nil)))) pa_nil))))))), ?_⟩
      walk_at "rd"
      refine ⟨"thing", 4, rfl, .inr (.inl ⟨rfl, rfl⟩), ?_⟩
      walk_at "rd"
      refine r_slA hc fun r1 H1 s1 h1 => ?_
      have h1 : H1 r1 = some (.tup [.ref v3, .ref v4]) := h1
      walk_at "rd"
      intro D hD
      refine comp_tpl [.ref v3, .ref v4] (fun i σ H' => ∃ v0, σ = [v0] ∧ Same H1 H' ∧ H' D = some (.lst ((List.replicate i false).map V.bl))) ⟨none, rfl, Same.upd hD, by rw [upd_same]; rfl⟩ ?_ ?_ ?_
      · rintro i σ H' ⟨_, rfl, s2, _⟩
        exact SqT.of (s2 _ _ h1)
      · rintro i y σ H' hy ⟨v0, rfl, s2, hd⟩
        have hi : i < 2 := (List.getElem?_eq_some_iff.mp hy).1
        obtain ⟨z, rfl, hz⟩ : ∃ z, y = .ref z ∧ H z = some (.tup []) := by
          have := List.mem_of_getElem? hy
          simp only [List.mem_cons, List.not_mem_nil, or_false] at this
          rcases this with rfl | rfl
          · exact ⟨v3, rfl, tup_nil m3 e2⟩
          · exact ⟨v4, rfl, tup_nil m4 e3⟩
        have hz2 := s2 _ _ (s1 _ _ hz)
        walk_at "rd"
        refine ⟨_, hd, by simp; omega, _, rfl, s2.put hD, ?_⟩
        rw [upd_same, List.replicate_succ', List.map_append]
        rfl
      rintro σ H2 ⟨_, rfl, s2, hd⟩
      walk_at "rd"
      refine ⟨D, _, rfl, SqL.of hd, ?_⟩
      rw [show (List.replicate _ false).any id = false by simp]
      have s12 := s1.trans s2
      have hp2 := s12 _ _ hp'
      have hc2 := s12 _ _ hc
      walk_at "rd"
      refine ifd (fun h => absurd h (by decide)) (fun _ => ?_)
      walk_at "rd"
      refine ⟨"thing", p, [x.1, x.2], rfl, hp2, in_two (by omega) (by omega), by simp, fun q H3 s3 hq => ?_⟩
      have hq : PairAt H3 q x := hq
      have s13 := s12.trans s3
      have hc3 := s13 _ _ hc
      walk_at "rd"
      intro t gt
      generalize hGt : upd _ t _ = H4
      have s4 := sm_of hGt gt
      have h4 := at_of hGt
      have s14 := s13.trans s4
      obtain ⟨ps, hv, hR⟩ := m2
      have hlen := hR.1
      refine r_catA (s14 _ _ hv) h4 (by simp; simp at ol; omega) fun u H5 s5 h5 => ?_
      have s15 := s14.trans s5
      walk_at "rd"
      refine ⟨c, _, 4, .ref u, rfl, s15 _ _ hc, rfl, by decide, fun r6 H6 s6 h6 => ?_⟩
      have s16 := s15.trans s6
      walk_at "rd"
      have tu : TupOf PairAt H6 u _ := (tup_snoc (hR.mono fun _ _ => PairAt.mono s15.ts) h5 (hq.mono (s4.trans s5).ts)).mono s6.ts fun _ _ => PairAt.mono s6.ts
      exact ⟨r6, v1, u, v3, v4, ⟨C.rooms, C.fst, C.lst, C.ways, C.things ++ [x], C.levers, C.wheels, C.bars, C.water⟩, rfl, h6, .of (m1.mono s16.ts fun _ _ => WayAt.mono s16.ts), .of tu, .of (m3.mono s16.ts fun _ _ => PairAt.mono s16.ts), .of (m4.mono s16.ts fun _ _ => PairAt.mono s16.ts), oC, fun r H7 s7 hr => k r H7 (s16.trans s7) hr⟩
    | lever x e3 =>
      have hp' : H p = some (.lst [V.str "lever", V.str (sI x.1), V.str (sI x.2)]) := hp
      have ox : (0 ≤ x.1 ∧ x.1 < C.rooms) ∧ 1 ≤ x.2 ∧ x.2 ≤ 255 := oC.lv x (List.mem_append.mpr (.inr (List.mem_singleton.mpr rfl)))
      have orr : C.rooms ≤ 14 := oC.r2
      have ol := oC.ll
      rw [List.length_append] at ol
      refine ⟨_, (pss_cons (ps_set (i := 2) sc_with_row.nd rfl (Or.inl rfl) (pe_cal C_part_of hr (by decide) rfl (pa_cons (pe_ix (ix_listK K) (pv 1) pe_int (fun _ _ => rfl)) pa_nil)))
      (pss_cons (ps_if (pt_val (pe_callB (call_anyK K rfl) rfl T.n_any bt_any (pa_cons (pe_comp (compOk (N := ["later"]) (own := 1) (caps := []) ["made", "words", "part", "row"] (defScope s_with_row) (by decide +kernel)) rfl (pi_tupK K (pe_slice (sl_tupAK K) (pv 0) (po_some (pe_op op_add (pv 2) pe_int)) (po_some (pe_op op_add (pe_glob (v := .int 6) rfl e_WHEELS ⟨_, rfl⟩) pe_int)))) (fun _ _ _ _ => (pg_name (i := 0) (show List.Nodup (["later"] : List Str) by decide +kernel) rfl (Or.inl rfl))) (fun _ _ _ _ => pf_nil) (fun _ _ _ _ => (pe_cmpR op_gt (pe_callB (lenK K) rfl T.n_len bt_len (pa_cons (pv 0) pa_nil)) pe_int (nomark _)))) pa_nil))) (pss_one ps_never) pss_nil)
      (pss_cons (ps_set (i := 3) sc_with_row.nd rfl (Or.inl rfl) (pe_ifExp (pt_cmpR op_eq (pv 2) (pe_glob (v := .int 3) rfl e_WAYS ⟨_, rfl⟩) (nomark _)) (pe_cal C_way_of hr (by decide) rfl (pa_cons (pv 1) pa_nil)) (pe_cal C_numbers_behind hr (by decide) rfl (pa_cons (pe_ix (ix_listK K) (pv 1) pe_int (fun _ _ => rfl)) (pa_cons (pv 1) (pa_cons pe_int pa_nil))))))
      (pss_one (ps_ret (pe_cal C_made_of hr (by decide) rfl (pa_cons (pe_cal C_changed hr (by decide) rfl (pa_cons (pv 0) (pa_cons (pv 2) (pa_cons (pe_op (op_catTA K) (pe_ix (ix_tupK K) (pv 0) (pv 2) (fun _ _ => rfl)) (pe_tup (pa_cons (pv 3) pa_nil))) pa_nil)))) pa_nil))))))), ?_⟩
      walk_at "rd"
      refine ⟨"lever", 5, rfl, .inr (.inr (.inl ⟨rfl, rfl⟩)), ?_⟩
      walk_at "rd"
      refine r_slA hc fun r1 H1 s1 h1 => ?_
      have h1 : H1 r1 = some (.tup [.ref v4]) := h1
      walk_at "rd"
      intro D hD
      refine comp_tpl [.ref v4] (fun i σ H' => ∃ v0, σ = [v0] ∧ Same H1 H' ∧ H' D = some (.lst ((List.replicate i false).map V.bl))) ⟨none, rfl, Same.upd hD, by rw [upd_same]; rfl⟩ ?_ ?_ ?_
      · rintro i σ H' ⟨_, rfl, s2, _⟩
        exact SqT.of (s2 _ _ h1)
      · rintro i y σ H' hy ⟨v0, rfl, s2, hd⟩
        have hi : i < 1 := (List.getElem?_eq_some_iff.mp hy).1
        obtain ⟨z, rfl, hz⟩ : ∃ z, y = .ref z ∧ H z = some (.tup []) := by
          have := List.mem_of_getElem? hy
          simp only [List.mem_cons, List.not_mem_nil, or_false] at this
          rcases this with rfl
          · exact ⟨v4, rfl, tup_nil m4 e3⟩
        have hz2 := s2 _ _ (s1 _ _ hz)
        walk_at "rd"
        refine ⟨_, hd, by simp; omega, _, rfl, s2.put hD, ?_⟩
        rw [upd_same, List.replicate_succ', List.map_append]
        rfl
      rintro σ H2 ⟨_, rfl, s2, hd⟩
      walk_at "rd"
      refine ⟨D, _, rfl, SqL.of hd, ?_⟩
      rw [show (List.replicate _ false).any id = false by simp]
      have s12 := s1.trans s2
      have hp2 := s12 _ _ hp'
      have hc2 := s12 _ _ hc
      walk_at "rd"
      refine ifd (fun h => absurd h (by decide)) (fun _ => ?_)
      walk_at "rd"
      refine ⟨"lever", p, [x.1, x.2], rfl, hp2, in_two (by omega) (by omega), by simp, fun q H3 s3 hq => ?_⟩
      have hq : PairAt H3 q x := hq
      have s13 := s12.trans s3
      have hc3 := s13 _ _ hc
      walk_at "rd"
      intro t gt
      generalize hGt : upd _ t _ = H4
      have s4 := sm_of hGt gt
      have h4 := at_of hGt
      have s14 := s13.trans s4
      obtain ⟨ps, hv, hR⟩ := m3
      have hlen := hR.1
      refine r_catA (s14 _ _ hv) h4 (by simp; simp at ol; omega) fun u H5 s5 h5 => ?_
      have s15 := s14.trans s5
      walk_at "rd"
      refine ⟨c, _, 5, .ref u, rfl, s15 _ _ hc, rfl, by decide, fun r6 H6 s6 h6 => ?_⟩
      have s16 := s15.trans s6
      walk_at "rd"
      have tu : TupOf PairAt H6 u _ := (tup_snoc (hR.mono fun _ _ => PairAt.mono s15.ts) h5 (hq.mono (s4.trans s5).ts)).mono s6.ts fun _ _ => PairAt.mono s6.ts
      exact ⟨r6, v1, v2, u, v4, ⟨C.rooms, C.fst, C.lst, C.ways, C.things, C.levers ++ [x], C.wheels, C.bars, C.water⟩, rfl, h6, .of (m1.mono s16.ts fun _ _ => WayAt.mono s16.ts), .of (m2.mono s16.ts fun _ _ => PairAt.mono s16.ts), .of tu, .of (m4.mono s16.ts fun _ _ => PairAt.mono s16.ts), oC, fun r H7 s7 hr => k r H7 (s16.trans s7) hr⟩
    | wheel x  =>
      have hp' : H p = some (.lst [V.str "wheel", V.str (sI x.1), V.str (sI x.2)]) := hp
      have ox : (0 ≤ x.1 ∧ x.1 < C.rooms) ∧ 0 ≤ x.2 ∧ x.2 ≤ 9 := oC.wh x (List.mem_append.mpr (.inr (List.mem_singleton.mpr rfl)))
      have orr : C.rooms ≤ 14 := oC.r2
      have ol := oC.vl
      rw [List.length_append] at ol
      refine ⟨_, (pss_cons (ps_set (i := 2) sc_with_row.nd rfl (Or.inl rfl) (pe_cal C_part_of hr (by decide) rfl (pa_cons (pe_ix (ix_listK K) (pv 1) pe_int (fun _ _ => rfl)) pa_nil)))
      (pss_cons (ps_if (pt_val (pe_callB (call_anyK K rfl) rfl T.n_any bt_any (pa_cons (pe_comp (compOk (N := ["later"]) (own := 1) (caps := []) ["made", "words", "part", "row"] (defScope s_with_row) (by decide +kernel)) rfl (pi_tupK K (pe_slice (sl_tupAK K) (pv 0) (po_some (pe_op op_add (pv 2) pe_int)) (po_some (pe_op op_add (pe_glob (v := .int 6) rfl e_WHEELS ⟨_, rfl⟩) pe_int)))) (fun _ _ _ _ => (pg_name (i := 0) (show List.Nodup (["later"] : List Str) by decide +kernel) rfl (Or.inl rfl))) (fun _ _ _ _ => pf_nil) (fun _ _ _ _ => (pe_cmpR op_gt (pe_callB (lenK K) rfl T.n_len bt_len (pa_cons (pv 0) pa_nil)) pe_int (nomark _)))) pa_nil))) (pss_one ps_never) pss_nil)
      (pss_cons (ps_set (i := 3) sc_with_row.nd rfl (Or.inl rfl) (pe_ifExp (pt_cmpR op_eq (pv 2) (pe_glob (v := .int 3) rfl e_WAYS ⟨_, rfl⟩) (nomark _)) (pe_cal C_way_of hr (by decide) rfl (pa_cons (pv 1) pa_nil)) (pe_cal C_numbers_behind hr (by decide) rfl (pa_cons (pe_ix (ix_listK K) (pv 1) pe_int (fun _ _ => rfl)) (pa_cons (pv 1) (pa_cons pe_int pa_nil))))))
      (pss_one (ps_ret (pe_cal C_made_of hr (by decide) rfl (pa_cons (pe_cal C_changed hr (by decide) rfl (pa_cons (pv 0) (pa_cons (pv 2) (pa_cons (pe_op (op_catTA K) (pe_ix (ix_tupK K) (pv 0) (pv 2) (fun _ _ => rfl)) (pe_tup (pa_cons (pv 3) pa_nil))) pa_nil)))) pa_nil))))))), ?_⟩
      walk_at "rd"
      refine ⟨"wheel", 6, rfl, .inr (.inr (.inr ⟨rfl, rfl⟩)), ?_⟩
      walk_at "rd"
      refine r_slA hc fun r1 H1 s1 h1 => ?_
      have h1 : H1 r1 = some (.tup []) := h1
      walk_at "rd"
      intro D hD
      refine comp_tpl [] (fun i σ H' => ∃ v0, σ = [v0] ∧ Same H1 H' ∧ H' D = some (.lst ((List.replicate i false).map V.bl))) ⟨none, rfl, Same.upd hD, by rw [upd_same]; rfl⟩ ?_ ?_ ?_
      · rintro i σ H' ⟨_, rfl, s2, _⟩
        exact SqT.of (s2 _ _ h1)
      · rintro i y σ H' hy ⟨v0, rfl, s2, hd⟩
        simp at hy
      rintro σ H2 ⟨_, rfl, s2, hd⟩
      walk_at "rd"
      refine ⟨D, _, rfl, SqL.of hd, ?_⟩
      rw [show (List.replicate _ false).any id = false by simp]
      have s12 := s1.trans s2
      have hp2 := s12 _ _ hp'
      have hc2 := s12 _ _ hc
      walk_at "rd"
      refine ifd (fun h => absurd h (by decide)) (fun _ => ?_)
      walk_at "rd"
      refine ⟨"wheel", p, [x.1, x.2], rfl, hp2, in_two (by omega) (by omega), by simp, fun q H3 s3 hq => ?_⟩
      have hq : PairAt H3 q x := hq
      have s13 := s12.trans s3
      have hc3 := s13 _ _ hc
      walk_at "rd"
      intro t gt
      generalize hGt : upd _ t _ = H4
      have s4 := sm_of hGt gt
      have h4 := at_of hGt
      have s14 := s13.trans s4
      obtain ⟨ps, hv, hR⟩ := m4
      have hlen := hR.1
      refine r_catA (s14 _ _ hv) h4 (by simp; simp at ol; omega) fun u H5 s5 h5 => ?_
      have s15 := s14.trans s5
      walk_at "rd"
      refine ⟨c, _, 6, .ref u, rfl, s15 _ _ hc, rfl, by decide, fun r6 H6 s6 h6 => ?_⟩
      have s16 := s15.trans s6
      walk_at "rd"
      have tu : TupOf PairAt H6 u _ := (tup_snoc (hR.mono fun _ _ => PairAt.mono s15.ts) h5 (hq.mono (s4.trans s5).ts)).mono s6.ts fun _ _ => PairAt.mono s6.ts
      exact ⟨r6, v1, v2, v3, u, ⟨C.rooms, C.fst, C.lst, C.ways, C.things, C.levers, C.wheels ++ [x], C.bars, C.water⟩, rfl, h6, .of (m1.mono s16.ts fun _ _ => WayAt.mono s16.ts), .of (m2.mono s16.ts fun _ _ => PairAt.mono s16.ts), .of (m3.mono s16.ts fun _ _ => PairAt.mono s16.ts), .of tu, oC, fun r H7 s7 hr => k r H7 (s16.trans s7) hr⟩
end

theorem pre_1 (C : Cl) : pre C 1 = ⟨C.rooms, C.fst, C.lst, [], [], [], [], 0, 0⟩ := by simp [pre]
theorem pre_2 (C : Cl) : pre C 2 = ⟨C.rooms, C.fst, C.lst, [], [], [], [], C.bars, 0⟩ := by simp [pre]
theorem pre_3 (C : Cl) : pre C 3 = ⟨C.rooms, C.fst, C.lst, [], [], [], [], C.bars, C.water⟩ := by simp [pre]
def spLn (K : PySem.W.Frag) : Sp := fun vs H Q _ => ∃ (v : V) (i : Nat) (p : Addr) (C : Cl) (ws : List Str), vs = [v, .int i, .ref p] ∧ (0 < i → ∃ c, v = .ref c ∧ ClAt H c (pre C i)) ∧ H p = some (.lst (ws.map V.str)) ∧ (lns C)[i]? = some ws ∧ ClOk C ∧ ∀ (r : Addr) (H' : Hp), Same H H' → ClAt H' r (pre C (i + 1)) → Q (.ref r) H'
def spRd : Sp := fun vs H Q _ => ∃ C : Cl, vs = [.str (txt C)] ∧ ClOk C ∧ ∀ (r : Addr) (H' : Hp), Same H H' → ClAt H' r C → Q (.ref r) H'
theorem r_tryS {i : Nat} {sp : Sp} {dvs : List V} {t : TA} {th : TH} {D : Ends} {σ : St} {H : Hp} (q : t σ H fun vs H1 => sp (vs ++ dvs) H1 (fun v H2 => D.nx (σ.set i (some v)) H2) (fun cls _ H' => th cls D σ H')) : tTryH (xSet i (xCall sp dvs t)) th D σ H := q
theorem in_one {a : Int} (h1 : 0 ≤ a ∧ a ≤ 255) : In255 [a] := fun n hn => by
  simp at hn
  rw [hn]
  exact h1
section
variable {P : Program} {w : World} {K : PySem.W.Frag} {mg : Str → Option Value} {base : Heap} {xs : Xs} {cs : Cs}
theorem ok_ln (T : Txt mg cs) (TK : Tk K mg) (L : Laid K mg "with_line" s_with_line ["made", "number", "words"]) (C_numbers_behind : Cal P w K mg base 3 "numbers_behind" ["word", "words", "many"] spNb) (C_changed : Cal P w K mg base 1 "changed" ["parts", "place", "part"] spCh) (C_made_of : Cal P w K mg base 5 "made_of" ["parts"] (spMo K)) (C_with_row : Cal P w K mg base 6 "with_row" ["made", "words"] (spWr K)) : CalX P w K mg base 7 "with_line" ["made", "number", "words"] (spLn K) := by
  obtain ⟨t1, e_FIRST_BARS⟩ := T.e_FIRST_BARS
  obtain ⟨t2, e_FIRST_WATER⟩ := T.e_FIRST_WATER
  obtain ⟨c_NOTHING_MORE, n0, n1, n2, n3, e_NOTHING_MORE, hN, hn0, hn1, hn2, hn3, _⟩ := TK.NOTHING_MORE
  refine L.calX (k := 6) sc_with_line (fun vs H Q E h => ?_) (fun f cdv A outer s H vs Q E hr h => ?_)
  · obtain ⟨v, i, p, C, ws, rfl, _⟩ := h
    rfl
  · obtain ⟨v, i, p, C, ws, rfl, hv, hp, hw, oC, k⟩ := h
    have big := line_big
    have r1 := oC.r1
    have r2 := oC.r2
    have of := oC.f
    have ol := oC.l
    refine ⟨_, (pss_cons (ps_if (pt_cmpR op_eq (pv 1) pe_int (nomark _)) (pss_one (ps_ret (pe_cal C_made_of hr (by decide) rfl (pa_cons (pe_op (op_catTA K) (pe_cal C_numbers_behind hr (by decide) rfl (pa_cons pe_str (pa_cons (pv 2) (pa_cons pe_int pa_nil)))) (pe_glob (v := .ref c_NOTHING_MORE) rfl e_NOTHING_MORE rfl)) pa_nil)))) pss_nil)
      (pss_cons (ps_if (pt_cmpR op_eq (pv 1) pe_int (nomark _)) (pss_one (ps_ret (pe_cal C_made_of hr (by decide) rfl (pa_cons (pe_cal C_changed hr (by decide) rfl (pa_cons (pv 0) (pa_cons (pe_glob (v := .int 7) rfl e_FIRST_BARS ⟨_, rfl⟩) (pa_cons (pe_ix (ix_tupK K) (pe_cal C_numbers_behind hr (by decide) rfl (pa_cons pe_str (pa_cons (pv 2) (pa_cons pe_int pa_nil)))) pe_int (fun _ _ => rfl)) pa_nil)))) pa_nil)))) pss_nil)
      (pss_cons (ps_if (pt_cmpR op_eq (pv 1) pe_int (nomark _)) (pss_one (ps_ret (pe_cal C_made_of hr (by decide) rfl (pa_cons (pe_cal C_changed hr (by decide) rfl (pa_cons (pv 0) (pa_cons (pe_glob (v := .int 8) rfl e_FIRST_WATER ⟨_, rfl⟩) (pa_cons (pe_ix (ix_tupK K) (pe_cal C_numbers_behind hr (by decide) rfl (pa_cons pe_str (pa_cons (pv 2) (pa_cons pe_int pa_nil)))) pe_int (fun _ _ => rfl)) pa_nil)))) pa_nil)))) pss_nil)
      (pss_one (ps_ret (pe_cal C_with_row hr (by decide) rfl (pa_cons (pv 0) (pa_cons (pv 2) pa_nil)))))))), ?_⟩
    walk_at "rd"
    refine ifd (fun h => ?_) (fun h0 => ?_)
    · obtain rfl : i = 0 := by omega
      obtain rfl : lnN "rooms" [C.rooms, C.fst, C.lst] = ws := Option.some.inj hw
      walk_at "rd"
      refine ⟨"rooms", p, [C.rooms, C.fst, C.lst], rfl, hp, ?_, by simp, fun q H1 s1 h1 => ?_⟩
      · intro n hn
        simp at hn
        rcases hn with rfl | rfl | rfl <;> omega
      walk_at "rd"
      refine ⟨q, c_NOTHING_MORE, _, _, rfl, rfl, SqT.of h1, hN _, by simp; omega, fun e => absurd e (by simp), fun _ e => absurd e (by simp), fun _ _ u gu => ?_⟩
      generalize hGu : upd _ u _ = H2
      have s2 := sm_of hGu gu
      have h2 := at_of hGu
      walk_at "rd"
      have oP := pre_ok oC 1
      rw [pre_1] at oP
      refine ⟨u, n0, n1, n2, n3, ⟨C.rooms, C.fst, C.lst, [], [], [], [], 0, 0⟩, rfl, h2, ⟨[], hn0 _, Rows.nil⟩, ⟨[], hn1 _, Rows.nil⟩, ⟨[], hn2 _, Rows.nil⟩, ⟨[], hn3 _, Rows.nil⟩, oP, fun r H' s' hr' => k r H' (s1.trans (s2.trans s')) ?_⟩
      rw [pre_1]
      exact hr'
    walk_at "rd"
    obtain ⟨c, rfl, hC⟩ := hv (by omega)
    obtain ⟨v1, v2, v3, v4, hc, m1, m2, m3, m4⟩ := hC.ex
    refine ifd (fun h => ?_) (fun h1 => ?_)
    · obtain rfl : i = 1 := by omega
      obtain rfl : lnN "bars" [C.bars] = ws := Option.some.inj hw
      have ob := oC.b
      rw [pre_1] at hc m1 m2 m3 m4
      walk_at "rd"
      refine ⟨"bars", p, [C.bars], rfl, hp, in_one (by omega), by simp, fun q H1 s1 h1 => ?_⟩
      have h1 : H1 q = some (.tup [.int C.bars]) := h1
      walk_at "rd"
      refine ⟨c, _, 7, .int C.bars, rfl, s1 _ _ hc, rfl, by decide, fun u H2 s2 h2 => ?_⟩
      walk_at "rd"
      have s12 := s1.trans s2
      have oP := pre_ok oC 2
      rw [pre_2] at oP
      refine ⟨u, v1, v2, v3, v4, ⟨C.rooms, C.fst, C.lst, [], [], [], [], C.bars, 0⟩, rfl, h2, .of (m1.mono s12.ts fun _ _ => WayAt.mono s12.ts), .of (m2.mono s12.ts fun _ _ => PairAt.mono s12.ts), .of (m3.mono s12.ts fun _ _ => PairAt.mono s12.ts), .of (m4.mono s12.ts fun _ _ => PairAt.mono s12.ts), oP, fun r H' s' hr' => k r H' (s12.trans s') ?_⟩
      rw [pre_2]
      exact hr'
    walk_at "rd"
    refine ifd (fun h => ?_) (fun h2 => ?_)
    · obtain rfl : i = 2 := by omega
      obtain rfl : lnN "water" [C.water] = ws := Option.some.inj hw
      have ob := oC.wa
      rw [pre_2] at hc m1 m2 m3 m4
      walk_at "rd"
      refine ⟨"water", p, [C.water], rfl, hp, in_one (by omega), by simp, fun q H1 s1 h1 => ?_⟩
      have h1 : H1 q = some (.tup [.int C.water]) := h1
      walk_at "rd"
      refine ⟨c, _, 8, .int C.water, rfl, s1 _ _ hc, rfl, by decide, fun u H2 s2 h2 => ?_⟩
      walk_at "rd"
      have s12 := s1.trans s2
      have oP := pre_ok oC 3
      rw [pre_3] at oP
      refine ⟨u, v1, v2, v3, v4, ⟨C.rooms, C.fst, C.lst, [], [], [], [], C.bars, C.water⟩, rfl, h2, .of (m1.mono s12.ts fun _ _ => WayAt.mono s12.ts), .of (m2.mono s12.ts fun _ _ => PairAt.mono s12.ts), .of (m3.mono s12.ts fun _ _ => PairAt.mono s12.ts), .of (m4.mono s12.ts fun _ _ => PairAt.mono s12.ts), oP, fun r H' s' hr' => k r H' (s12.trans s') ?_⟩
      rw [pre_3]
      exact hr'
    walk_at "rd"
    obtain ⟨j, rfl⟩ : ∃ j, i = j + 3 := ⟨i - 3, by omega⟩
    exact ⟨c, p, _, _, ws, rfl, hC, hp, nxt_pre hw, pre_ok oC _, k⟩
theorem ok_rd (T : Txt mg cs) (L : Laid K mg "read" s_read ["text"]) (C_with_line : CalX P w K mg base 7 "with_line" ["made", "number", "words"] (spLn K)) : Cal P w K mg base 8 "read" ["text"] spRd := by
  obtain ⟨t1, e_FIRST_LINES⟩ := T.e_FIRST_LINES
  refine L.cal (k := 7) sc_read (fun vs H Q E h => ?_) (fun f cdv A outer s H vs Q E hr h => ?_)
  · obtain ⟨C, rfl, _⟩ := h
    rfl
  · obtain ⟨C, rfl, oC, k⟩ := h
    have big := line_big
    have hsz := lns_size C
    have hln := lns_len oC
    have hll : (lin C).length = (lns C).length := List.length_map _
    refine ⟨_, (pss_cons (ps_set (i := 1) sc_read.nd rfl (Or.inl rfl) (pe_bm PySem.F.plainAttrs_str PySem.F.slot_str_split PySem.F.type_str_split mt_split (pv 0) (pa_cons pe_str pa_nil)))
      (pss_cons (ps_set (i := 2) sc_read.nd rfl (Or.inl rfl) pe_non)
      (pss_cons (ps_for PassesOwn.never rfl (pi_enumLK K rfl T.n_enumerate (pa_cons (pv 1) pa_nil)) (pg_tupK (n := 2) K rfl (pgs_cons (pg_name (i := 3) sc_read.nd rfl (Or.inl rfl)) (pgs_cons (pg_name (i := 4) sc_read.nd rfl (Or.inl rfl)) pgs_nil))) (pss_one (ps_tryH rfl rfl rfl (pssx_one (psx_set (i := 2) sc_read.nd rfl (Or.inl rfl) (pex_calX C_with_line rfl hr (by decide) rfl (pa_cons (pv 2) (pa_cons (pv 3) (pa_cons (pe_bm PySem.F.plainAttrs_str PySem.F.slot_str_split PySem.F.type_str_split mt_split (pv 4) (pa_cons pe_str pa_nil)) pa_nil))))))
      ph_none)))
      (pss_cons (ps_if (pt_cmpR op_lt (pe_callB (lenK K) rfl T.n_len bt_len (pa_cons (pv 1) pa_nil)) (pe_glob (v := .int 3) rfl e_FIRST_LINES ⟨_, rfl⟩) (nomark _)) (pss_one ps_never) pss_nil)
      (pss_one (ps_ret (pv 2))))))), ?_⟩
    walk_at "rd"
    refine ⟨rfl, ?_⟩
    walk_at "rd"
    refine ⟨txt C, _, rfl, rfl, rfl, by have := txt_len oC; omega, by rw [split_txt oC]; omega, fun p gp => ?_⟩
    rw [split_txt oC]
    generalize hGp : upd _ p _ = H1
    have s1 := sm_of hGp gp
    have h1 := at_of hGp
    walk_at "rd"
    refine for_enu ((lin C).map V.str) (fun i σ H' => ∃ v v3 v4, σ = [some (.str (txt C)), some (.ref p), some v, v3, v4] ∧ Same H1 H' ∧ (0 < i → ∃ c, v = .ref c ∧ ClAt H' c (pre C i))) ⟨_, _, _, rfl, Same.refl _, fun h => absurd h (by omega)⟩ ?_ ?_ ?_
    · rintro i σ H' ⟨v, v3, v4, rfl, s2, _⟩
      exact SqL.of (s2 _ _ h1)
    · rintro i x σ H' t hx ⟨v, v3, v4, rfl, s2, hv⟩ gt
      have hi : i < (lns C).length := by have := (List.getElem?_eq_some_iff.mp hx).1; rw [List.length_map] at this; omega
      obtain rfl : x = .str (Txt.join " " (lns C)[i]) := by
        have : ((lin C).map V.str)[i]? = some (.str (Txt.join " " (lns C)[i])) := by simp [lin, hi]
        rw [this] at hx
        exact (Option.some.inj hx).symm
      have hw := wd_line oC _ (List.getElem_mem hi)
      generalize hGt : upd _ t _ = H2
      have s3 := sm_of hGt gt
      have h2 := at_of hGt
      walk_at "rd"
      refine r_tryS ?_
      walk_at "rd"
      refine ⟨rfl, ?_⟩
      walk_at "rd"
      refine ⟨_, _, rfl, rfl, rfl, by have := jn_small hw.2; omega, by rw [split_ln hw]; omega, fun q gq => ?_⟩
      rw [split_ln hw]
      generalize hGq : upd _ q _ = H3
      have s4 := sm_of hGq gq
      have h3 := at_of hGq
      walk_at "rd"
      refine ⟨v, i, q, C, _, rfl, fun h => ?_, h3, List.getElem?_eq_getElem hi, oC, fun r H4 s5 hr4 => ?_⟩
      · obtain ⟨c, e, hc⟩ := hv h
        exact ⟨c, e, hc.mono (s3.trans s4).ts⟩
      walk_at "rd"
      exact ⟨_, _, _, rfl, s2.trans (s3.trans (s4.trans s5)), fun _ => ⟨r, rfl, hr4⟩⟩
    · rintro σ H2 ⟨v, v3, v4, rfl, s2, hv⟩
      rw [List.length_map, hll] at hv
      obtain ⟨c, rfl, hc⟩ := hv (by omega)
      rw [pre_all] at hc
      have h2 := s2 _ _ h1
      walk_at "rd"
      refine ifd (fun h => absurd h (by simp; omega)) (fun _ => ?_)
      walk_at "rd"
      exact k c H2 (s1.trans s2) hc
end

inductive U where
  | s (z : Str)
  | n (i : Int)
def uv : U → V
  | .s z => .str z
  | .n i => .int i
def ut : U → Str
  | .s z => z
  | .n i => sI i
def uok : U → Prop
  | .s _ => True
  | .n i => 0 ≤ i ∧ i ≤ 255
def uN (z : Str) (ns : List Int) : List U := .s z :: ns.map .n
def uP (z : Str) (x : Int × Int) : List U := uN z [x.1, x.2]
def uW (x : Way) : List U := uN (wrd x.back) [x.a, x.b] ++ uN x.g.word x.g.ns
def blk (C : Cl) : Nat → List (List U)
  | 0 => C.things.map (uP "thing")
  | 1 => C.levers.map (uP "lever")
  | _ => C.wheels.map (uP "wheel")
def u3 (C : Cl) : List (List U) := [uN "rooms" [C.rooms, C.fst, C.lst], uN "bars" [C.bars], uN "water" [C.water]]
def upto (C : Cl) : Nat → List (List U)
  | 0 => u3 C ++ C.ways.map uW
  | k + 1 => upto C k ++ blk C k
theorem uN_t (z : Str) (ns : List Int) : (uN z ns).map ut = lnN z ns := by
  simp [uN, lnN, ut, Function.comp_def]
theorem uW_t (x : Way) : (uW x).map ut = lnW x := by
  unfold uW lnW
  rw [List.map_append, uN_t, uN_t]
theorem uns_t (C : Cl) : (upto C 3).map (List.map ut) = lns C := by
  simp only [upto, u3, blk, lns, List.map_append, List.map_cons, List.map_nil, List.map_map, uN_t, Function.comp_def, uW_t, uP, List.append_assoc]
  rfl
theorem uok_N {z : Str} {ns : List Int} (h : In255 ns) : ∀ u ∈ uN z ns, uok u := fun u hu => by
  rcases List.mem_cons.mp hu with rfl | hu
  · trivial
  · obtain ⟨n, hn, rfl⟩ := List.mem_map.mp hu
    exact h n hn
theorem uok_all {C : Cl} (o : ClOk C) : ∀ us ∈ upto C 3, us.length ≤ 6 ∧ ∀ u ∈ us, uok u := by
  have r2 := o.r2
  have f := o.f
  have l := o.l
  have b := o.b
  have wa := o.wa
  intro us h
  simp only [upto, u3, blk, List.mem_append, List.mem_cons, List.mem_map, List.not_mem_nil, or_false] at h
  rcases h with ((((rfl | rfl | rfl) | ⟨x, hx, rfl⟩) | ⟨x, hx, rfl⟩) | ⟨x, hx, rfl⟩) | ⟨x, hx, rfl⟩
  · exact ⟨by simp [uN], uok_N fun n hn => by simp at hn; rcases hn with rfl | rfl | rfl <;> omega⟩
  · exact ⟨by simp [uN], uok_N fun n hn => by simp at hn; omega⟩
  · exact ⟨by simp [uN], uok_N fun n hn => by simp at hn; omega⟩
  · obtain ⟨⟨a0, a1⟩, ⟨b0, b1⟩, _, gk⟩ := o.w x hx
    have gl := x.g.ns_len
    refine ⟨by simp [uW, uN]; omega, fun y hy => ?_⟩
    rcases List.mem_append.mp hy with hy | hy
    · exact uok_N (in_two (by omega) (by omega)) y hy
    · exact uok_N (in_ns gk) y hy
  · obtain ⟨⟨a0, a1⟩, b0, b1⟩ := o.t x hx
    exact ⟨by simp [uP, uN], uok_N (in_two (by omega) (by omega))⟩
  · obtain ⟨⟨a0, a1⟩, b0, b1⟩ := o.lv x hx
    exact ⟨by simp [uP, uN], uok_N (in_two (by omega) (by omega))⟩
  · obtain ⟨⟨a0, a1⟩, b0, b1⟩ := o.wh x hx
    exact ⟨by simp [uP, uN], uok_N (in_two (by omega) (by omega))⟩
def LnAt (H : Hp) (p : Addr) (us : List U) : Prop := us ≠ [] ∧ H p = some (.lst (us.map uv))
theorem LnAt.mono {H H' : Hp} {p : Addr} {us : List U} (s : Same H H') (h : LnAt H p us) : LnAt H' p us := ⟨h.1, s _ _ h.2⟩
theorem LnAt.ne {H : Hp} {p l : Addr} {us : List U} {ps : List Addr} (h : LnAt H p us) (hl : H l = some (.lst (ps.map V.ref))) : p ≠ l := by
  rintro rfl
  obtain ⟨h0, h1⟩ := h
  rw [hl] at h1
  have e : ps.map V.ref = us.map uv := by injection h1 with h1; injection h1
  match us, ps, h0, e with
  | [], _, h0, _ => exact h0 rfl
  | u :: us, [], _, e => simp at e
  | u :: us, p :: ps, _, e =>
    have := (List.cons.inj e).1
    cases u <;> cases this
def Lns (H0 H' : Hp) (l : Addr) (uss : List (List U)) : Prop := Same H0 H' ∧ ∃ ps, H' l = some (.lst (ps.map V.ref)) ∧ Rows LnAt H' ps uss
theorem Lns.app {H0 H : Hp} {l q : Addr} {us : List U} {uss : List (List U)} {ps : List Addr} (g : H0 l = none) (s0 : Same H0 H) (hl : H l = some (.lst (ps.map V.ref))) (R : Rows LnAt H ps uss) (hq : LnAt H q us) : Lns H0 (upd H l (.lst (ps.map V.ref ++ [.ref q]))) l (uss ++ [us]) := by
  have m : ∀ p x, LnAt H p x → LnAt (upd H l (.lst (ps.map V.ref ++ [.ref q]))) p x := fun p x h => ⟨h.1, by rw [upd_ne (h.ne hl)]; exact h.2⟩
  exact ⟨s0.put g, ps ++ [q], by rw [upd_same, List.map_append]; rfl, (R.mono m).snoc (m _ _ hq)⟩
theorem take_map {α β : Type} (f : α → β) (l : List α) {i : Nat} (hi : i < l.length) (a : List β) : a ++ (l.take (i + 1)).map f = a ++ (l.take i).map f ++ [f l[i]] := by
  rw [List.take_succ_eq_append_getElem hi, List.map_append, List.append_assoc]
  rfl
theorem pe_bmK {X : Cx} (K : PySem.W.Frag) {T id : String} {name : Str} {r : V → List V → Hp → VK → Prop} {o e : Expr} {es : List Expr} {to : TE} {t : TA} {apos cpos : Pos} (pa : PlainAttrs T) (slot : Slot T name id) (hty : typeOf (.builtin id) = pure (.type "method_descriptor")) (hm : MtR X id r) (ho : PE X o to) (ha : PA X (e :: es) t)
    (hbase : attributeBase o name X.env (eval o X.env) = eval o X.env := by rfl)
    (hfew : ((backTo cpos (starEach (e :: es) X.env)).all (fun x => !x.1) && (backToKw cpos (keywordEach [] X.env)).all (fun x => x.1.isSome)
      && decide ((e :: es).length + ([] : List Keyword).length + (if ([] : List Keyword).isEmpty then 0 else 1) < 30)) = true := by rfl)
    (hline : (apos.endLine == cpos.line) = true := by rfl) (hs : starEach (e :: es) X.env = (false, eval e X.env) :: starEach es X.env := by rfl) (hplain : (backTo cpos (starEach es X.env)).any (·.1) = false := by rfl) (hK : X.K = K := by rfl) :
    PE X (.Call (.Attribute o name apos) (e :: es) [] cpos) (tBM K T r to t) := by
  subst hK
  exact pe_bm pa slot hty hm ho ha hbase hfew hline hs hplain
def spLl : Sp := fun vs H Q _ => ∃ (p : Addr) (C : Cl), vs = [.ref p] ∧ ClAt H p C ∧ ClOk C ∧ ∀ (q : Addr) (H' : Hp), Same H H' → H' q = some (.lst ((lin C).map V.str)) → Q (.ref q) H'
section
variable {P : Program} {w : World} {K : PySem.W.Frag} {mg : Str → Option Value} {base : Heap} {xs : Xs} {cs : Cs}
theorem ok_ll (T : Txt mg cs) (L : Laid K mg "_law_lines" s__law_lines ["_law_one"]) : Cal P w K mg base 1 "_law_lines" ["_law_one"] spLl := by
  refine L.cal (k := 0) sc__law_lines (fun vs H Q E h => ?_) (fun f cdv A outer s H vs Q E hr h => ?_)
  · obtain ⟨p, C, rfl, _⟩ := h
    rfl
  · obtain ⟨c, C, rfl, hC, oC, k⟩ := h
    obtain ⟨v1, v2, v3, v4, hc, ⟨p1, a1, r1⟩, ⟨p2, a2, r2⟩, ⟨p3, a3, r3⟩, ⟨p4, a4, r4⟩⟩ := hC.ex
    have big := line_big
    have l1 := oC.wl
    have l2 := oC.tl
    have l3 := oC.ll
    have l4 := oC.vl
    refine ⟨_, (pss_cons (ps_set (i := 1) sc__law_lines.nd rfl (Or.inl rfl) (pe_lst (pa_cons (pe_lst (pa_cons pe_str (pa_cons (pe_ix (ix_tupK K) (pv 0) pe_int (fun _ _ => rfl)) (pa_cons (pe_ix (ix_tupK K) (pv 0) pe_int (fun _ _ => rfl)) (pa_cons (pe_ix (ix_tupK K) (pv 0) pe_int (fun _ _ => rfl)) pa_nil))))) (pa_cons (pe_lst (pa_cons pe_str (pa_cons (pe_ix (ix_tupK K) (pv 0) pe_int (fun _ _ => rfl)) pa_nil))) (pa_cons (pe_lst (pa_cons pe_str (pa_cons (pe_ix (ix_tupK K) (pv 0) pe_int (fun _ _ => rfl)) pa_nil))) pa_nil)))))
      (pss_cons (ps_for PassesOwn.never rfl (pi_tupK K (pe_ix (ix_tupK K) (pv 0) pe_int (fun _ _ => rfl))) (pg_name (i := 2) sc__law_lines.nd rfl (Or.inl rfl)) (pss_one (ps_expr (pe_bm PySem.F.plainAttrs_list PySem.F.slot_list_append PySem.F.type_list_append mt_append (pv 1) (pa_cons (pe_op op_cat (pe_lst (pa_cons (pe_ix (ix_listK K) (pe_lst (pa_cons pe_str (pa_cons pe_str pa_nil))) (pe_callTy int1 rfl T.n_int bt_int (pa_cons (pe_ix (ix_tupK K) (pv 2) pe_int (fun _ _ => rfl)) pa_nil)) (fun _ _ => rfl)) (pa_cons (pe_ix (ix_tupK K) (pv 2) pe_int (fun _ _ => rfl)) (pa_cons (pe_ix (ix_tupK K) (pv 2) pe_int (fun _ _ => rfl)) pa_nil)))) (pe_callTy (lstOfK K) rfl T.n_list bt_list (pa_cons (pe_ix (ix_tupK K) (pv 2) pe_int (fun _ _ => rfl)) pa_nil))) pa_nil)))))
      (pss_cons (ps_for PassesOwn.never rfl (pi_range1 rfl T.n_range (pa_cons pe_int pa_nil)) (pg_name (i := 3) sc__law_lines.nd rfl (Or.inl rfl)) (pss_one (ps_for PassesOwn.never rfl (pi_tupK K (pe_ix (ix_tupK K) (pv 0) (pe_op op_add pe_int (pv 3)) (fun _ _ => rfl))) (pg_name (i := 4) sc__law_lines.nd rfl (Or.inl rfl)) (pss_one (ps_expr (pe_bm PySem.F.plainAttrs_list PySem.F.slot_list_append PySem.F.type_list_append mt_append (pv 1) (pa_cons (pe_op op_cat (pe_lst (pa_cons (pe_ix (ix_listK K) (pe_lst (pa_cons pe_str (pa_cons pe_str (pa_cons pe_str pa_nil)))) (pv 3) (fun _ _ => rfl)) pa_nil)) (pe_callTy (lstOfK K) rfl T.n_list bt_list (pa_cons (pv 4) pa_nil))) pa_nil)))))))
      (pss_one (ps_ret (pe_comp (compOk (N := ["_law_line"]) (own := 1) (caps := []) ["_law_one", "_law_lines_here", "_law_way", "_law_k", "_law_pair"] (defScope s__law_lines) (by decide +kernel)) rfl (pi_listK K (pv 1)) (fun _ _ _ _ => (pg_name (i := 0) (show List.Nodup (["_law_line"] : List Str) by decide +kernel) rfl (Or.inl rfl))) (fun _ _ _ _ => pf_nil) (fun _ _ _ _ => (pe_bmK K PySem.F.plainAttrs_str PySem.F.slot_str_join PySem.F.type_str_join (mt_joinK K) pe_str (pa_cons (pe_comp (compOk (N := ["_law_part"]) (own := 1) (caps := []) ["_law_line"] ({ kind := .function, names := [((".0" : Str), .local), ("_law_line", .local)], isGenerator := false, isCoroutine := false }) (by decide +kernel)) rfl (pi_listK K (pv 0)) (fun _ _ _ _ => (pg_name (i := 0) (show List.Nodup (["_law_part"] : List Str) by decide +kernel) rfl (Or.inl rfl))) (fun _ _ _ _ => pf_nil) (fun _ _ _ _ => (pe_callTy str1 rfl T.n_str bt_str (pa_cons (pv 0) pa_nil)))) pa_nil))))))))), ?_⟩
    walk_at "rd"
    intro q1 g1
    generalize hG1 : upd _ q1 _ = H1
    have s1 := sm_of hG1 g1
    have h1 := at_of hG1
    have hc1 := s1 _ _ hc
    walk_at "rd"
    intro q2 g2
    generalize hG2 : upd _ q2 _ = H2
    have s2 := sm_of hG2 g2
    have h2 := at_of hG2
    have hc2 := s2 _ _ hc1
    walk_at "rd"
    intro q3 g3
    generalize hG3 : upd _ q3 _ = H3
    have s3 := sm_of hG3 g3
    have h3 := at_of hG3
    have hc3 := s3 _ _ hc2
    walk_at "rd"
    intro l gl
    generalize hG4 : upd _ l _ = H4
    have s4 := sm_of hG4 gl
    have h4 := at_of hG4
    have s13 := s1.trans (s2.trans s3)
    have s14 := s13.trans s4
    have hc4 := s14 _ _ hc
    have R0 : Lns H3 H4 l (u3 C) := ⟨s4, [q1, q2, q3], h4, ((Rows.nil.snoc (p := q1) (x := uN "rooms" [C.rooms, C.fst, C.lst]) ⟨by simp [uN], s4 _ _ (s3 _ _ (s2 _ _ h1))⟩).snoc (p := q2) (x := uN "bars" [C.bars]) ⟨by simp [uN], s4 _ _ (s3 _ _ h2)⟩).snoc (p := q3) (x := uN "water" [C.water]) ⟨by simp [uN], s4 _ _ h3⟩⟩
    try simp only [List.set_cons_succ, List.set_cons_zero]
    walk_at "rd"
    refine ⟨v1, rfl, ⟨_, SqT.of (s14 _ _ a1)⟩, ?_⟩
    refine for_tpl (p1.map V.ref) (fun i σ H' => ∃ u2, σ = [some (.ref c), some (.ref l), u2, none, none] ∧ Lns H3 H' l (u3 C ++ (C.ways.take i).map uW)) ⟨none, rfl, by simpa using R0⟩ ?_ ?_ ?_
    · rintro i σ H' ⟨_, rfl, s5, _⟩
      exact SqT.of (s5 _ _ (s13 _ _ a1))
    · rintro i x σ H' hx ⟨u2, rfl, s5, ps, hps, R⟩
      have hi : i < C.ways.length := by have := (List.getElem?_eq_some_iff.mp hx).1; rw [List.length_map, r1.1] at this; exact this
      obtain ⟨w0, e0, g0, hw, hg⟩ := r1.get hi
      rw [e0] at hx
      obtain rfl := Option.some.inj hx
      have s05 := s13.trans s5
      have hw5 := s05 _ _ hw
      have hg5 := s05 _ _ hg
      have hR := R.1
      have hRl : ((u3 C ++ (C.ways.take i).map uW)).length ≤ 23 := by simp [u3]; omega
      walk_at "rd"
      intro b gb
      generalize hG6 : upd _ b _ = H6
      have s6 := sm_of hG6 gb
      have h6 := at_of hG6
      have hw6 := s6 _ _ hw5
      have hg6 := s6 _ _ hg5
      walk_at "rd"
      refine r_ixL (v := .str (wrd C.ways[i].back)) (SqL.of h6) (by cases C.ways[i].back <;> rfl) ?_
      walk_at "rd"
      intro b2 gb2
      generalize hG7 : upd _ b2 _ = H7
      have s7 := sm_of hG7 gb2
      have h7 := at_of hG7
      have hw7 := s7 _ _ hw6
      have hg7 := s7 _ _ hg6
      walk_at "rd"
      refine r_lof (.inr (SqT.of hg7)) fun b3 gb3 => ?_
      generalize hG8 : upd _ b3 _ = H8
      have s8 := sm_of hG8 gb3
      have h8 := at_of hG8
      have h78 := s8 _ _ h7
      walk_at "rd"
      have gl3 := C.ways[i].g.ns_len
      refine ⟨b2, b3, _, _, rfl, rfl, h78, h8, by rw [Gt.vs_eq]; simp; omega, fun b4 gb4 => ?_⟩
      generalize hG9 : upd _ b4 _ = H9
      have s9 := sm_of hG9 gb4
      have h9 := at_of hG9
      walk_at "rd"
      have s59 := s6.trans (s7.trans (s8.trans s9))
      refine r_app (s59 _ _ hps) (by rw [List.length_map]; omega) ⟨_, rfl, ?_⟩
      rw [take_map uW C.ways hi]
      refine Lns.app gl (s5.trans s59) (s59 _ _ hps) (R.mono fun _ _ => LnAt.mono s59) ⟨by simp [uW, uN], ?_⟩
      rw [h9, Gt.vs_eq]
      simp [uW, uN, uv, Function.comp_def]
    rintro σ H5 ⟨u2, rfl, L5⟩
    rw [List.length_map, r1.1, List.take_length] at L5
    walk_at "rd"
    refine for_rng (fun k σ H' => ∃ u2 u3 u4, σ = [some (.ref c), some (.ref l), u2, u3, u4] ∧ Lns H3 H' l (upto C k)) ⟨_, _, _, rfl, L5⟩ ?_ ?_
    · rintro k σ H' hk ⟨u2, u3', u4, rfl, L6⟩
      have hc6 := L6.1 _ _ hc3
      have hk : k = 0 ∨ k = 1 ∨ k = 2 := by have : k < 3 := hk; omega
      rcases hk with rfl | rfl | rfl
      · walk_at "rd"
        refine ⟨v2, rfl, ⟨_, SqT.of (L6.1 _ _ (s13 _ _ a2))⟩, ?_⟩
        refine for_tpl (p2.map V.ref) (fun i σ H' => ∃ u2 u4, σ = [some (.ref c), some (.ref l), u2, some (.int (0 + ((0 : Nat) : Int))), u4] ∧ Lns H3 H' l (upto C 0 ++ (C.things.take i).map (uP "thing"))) ⟨_, _, rfl, by simpa using L6⟩ ?_ ?_ ?_
        · rintro i σ H' ⟨_, _, rfl, s5, _⟩
          exact SqT.of (s5 _ _ (s13 _ _ a2))
        · rintro i x σ H' hx ⟨u2, u4, rfl, s5, ps, hps, R⟩
          have hi : i < C.things.length := by have := (List.getElem?_eq_some_iff.mp hx).1; rw [List.length_map, r2.1] at this; exact this
          obtain ⟨w0, e0, hw⟩ := r2.get hi
          rw [e0] at hx
          obtain rfl := Option.some.inj hx
          have s05 := s13.trans s5
          have hw5 : H' w0 = some (.tup [.int C.things[i].1, .int C.things[i].2]) := s05 _ _ hw
          have hR := R.1
          have hRl : ((upto C 0 ++ (C.things.take i).map (uP "thing"))).length ≤ 100 := by simp [upto, u3, blk]; omega
          walk_at "rd"
          intro b gb
          generalize hG6 : upd _ b _ = H6
          have s6 := sm_of hG6 gb
          have h6 := at_of hG6
          have hw6 := s6 _ _ hw5
          walk_at "rd"
          intro b2 gb2
          generalize hG7 : upd _ b2 _ = H7
          have s7 := sm_of hG7 gb2
          have h7 := at_of hG7
          have hw7 := s7 _ _ hw6
          walk_at "rd"
          refine r_lof (.inr (SqT.of hw7)) fun b3 gb3 => ?_
          generalize hG8 : upd _ b3 _ = H8
          have s8 := sm_of hG8 gb3
          have h8 := at_of hG8
          have h78 := s8 _ _ h7
          walk_at "rd"
          refine ⟨b2, b3, _, _, rfl, rfl, h78, h8, by simp; omega, fun b4 gb4 => ?_⟩
          generalize hG9 : upd _ b4 _ = H9
          have s9 := sm_of hG9 gb4
          have h9 := at_of hG9
          walk_at "rd"
          have s59 := s6.trans (s7.trans (s8.trans s9))
          refine r_app (s59 _ _ hps) (by rw [List.length_map]; omega) ⟨_, _, rfl, ?_⟩
          rw [take_map (uP "thing") C.things hi]
          exact Lns.app gl (s5.trans s59) (s59 _ _ hps) (R.mono fun _ _ => LnAt.mono s59) ⟨by simp [uP, uN], h9⟩
        · rintro σ H7 ⟨u2, u4, rfl, L7⟩
          rw [List.length_map, r2.1, List.take_length] at L7
          walk_at "rd"
          exact ⟨_, _, _, rfl, L7⟩
      · walk_at "rd"
        refine ⟨v3, rfl, ⟨_, SqT.of (L6.1 _ _ (s13 _ _ a3))⟩, ?_⟩
        refine for_tpl (p3.map V.ref) (fun i σ H' => ∃ u2 u4, σ = [some (.ref c), some (.ref l), u2, some (.int (0 + ((1 : Nat) : Int))), u4] ∧ Lns H3 H' l (upto C 1 ++ (C.levers.take i).map (uP "lever"))) ⟨_, _, rfl, by simpa using L6⟩ ?_ ?_ ?_
        · rintro i σ H' ⟨_, _, rfl, s5, _⟩
          exact SqT.of (s5 _ _ (s13 _ _ a3))
        · rintro i x σ H' hx ⟨u2, u4, rfl, s5, ps, hps, R⟩
          have hi : i < C.levers.length := by have := (List.getElem?_eq_some_iff.mp hx).1; rw [List.length_map, r3.1] at this; exact this
          obtain ⟨w0, e0, hw⟩ := r3.get hi
          rw [e0] at hx
          obtain rfl := Option.some.inj hx
          have s05 := s13.trans s5
          have hw5 : H' w0 = some (.tup [.int C.levers[i].1, .int C.levers[i].2]) := s05 _ _ hw
          have hR := R.1
          have hRl : ((upto C 1 ++ (C.levers.take i).map (uP "lever"))).length ≤ 100 := by simp [upto, u3, blk]; omega
          walk_at "rd"
          intro b gb
          generalize hG6 : upd _ b _ = H6
          have s6 := sm_of hG6 gb
          have h6 := at_of hG6
          have hw6 := s6 _ _ hw5
          walk_at "rd"
          intro b2 gb2
          generalize hG7 : upd _ b2 _ = H7
          have s7 := sm_of hG7 gb2
          have h7 := at_of hG7
          have hw7 := s7 _ _ hw6
          walk_at "rd"
          refine r_lof (.inr (SqT.of hw7)) fun b3 gb3 => ?_
          generalize hG8 : upd _ b3 _ = H8
          have s8 := sm_of hG8 gb3
          have h8 := at_of hG8
          have h78 := s8 _ _ h7
          walk_at "rd"
          refine ⟨b2, b3, _, _, rfl, rfl, h78, h8, by simp; omega, fun b4 gb4 => ?_⟩
          generalize hG9 : upd _ b4 _ = H9
          have s9 := sm_of hG9 gb4
          have h9 := at_of hG9
          walk_at "rd"
          have s59 := s6.trans (s7.trans (s8.trans s9))
          refine r_app (s59 _ _ hps) (by rw [List.length_map]; omega) ⟨_, _, rfl, ?_⟩
          rw [take_map (uP "lever") C.levers hi]
          exact Lns.app gl (s5.trans s59) (s59 _ _ hps) (R.mono fun _ _ => LnAt.mono s59) ⟨by simp [uP, uN], h9⟩
        · rintro σ H7 ⟨u2, u4, rfl, L7⟩
          rw [List.length_map, r3.1, List.take_length] at L7
          walk_at "rd"
          exact ⟨_, _, _, rfl, L7⟩
      · walk_at "rd"
        refine ⟨v4, rfl, ⟨_, SqT.of (L6.1 _ _ (s13 _ _ a4))⟩, ?_⟩
        refine for_tpl (p4.map V.ref) (fun i σ H' => ∃ u2 u4, σ = [some (.ref c), some (.ref l), u2, some (.int (0 + ((2 : Nat) : Int))), u4] ∧ Lns H3 H' l (upto C 2 ++ (C.wheels.take i).map (uP "wheel"))) ⟨_, _, rfl, by simpa using L6⟩ ?_ ?_ ?_
        · rintro i σ H' ⟨_, _, rfl, s5, _⟩
          exact SqT.of (s5 _ _ (s13 _ _ a4))
        · rintro i x σ H' hx ⟨u2, u4, rfl, s5, ps, hps, R⟩
          have hi : i < C.wheels.length := by have := (List.getElem?_eq_some_iff.mp hx).1; rw [List.length_map, r4.1] at this; exact this
          obtain ⟨w0, e0, hw⟩ := r4.get hi
          rw [e0] at hx
          obtain rfl := Option.some.inj hx
          have s05 := s13.trans s5
          have hw5 : H' w0 = some (.tup [.int C.wheels[i].1, .int C.wheels[i].2]) := s05 _ _ hw
          have hR := R.1
          have hRl : ((upto C 2 ++ (C.wheels.take i).map (uP "wheel"))).length ≤ 100 := by simp [upto, u3, blk]; omega
          walk_at "rd"
          intro b gb
          generalize hG6 : upd _ b _ = H6
          have s6 := sm_of hG6 gb
          have h6 := at_of hG6
          have hw6 := s6 _ _ hw5
          walk_at "rd"
          intro b2 gb2
          generalize hG7 : upd _ b2 _ = H7
          have s7 := sm_of hG7 gb2
          have h7 := at_of hG7
          have hw7 := s7 _ _ hw6
          walk_at "rd"
          refine r_lof (.inr (SqT.of hw7)) fun b3 gb3 => ?_
          generalize hG8 : upd _ b3 _ = H8
          have s8 := sm_of hG8 gb3
          have h8 := at_of hG8
          have h78 := s8 _ _ h7
          walk_at "rd"
          refine ⟨b2, b3, _, _, rfl, rfl, h78, h8, by simp; omega, fun b4 gb4 => ?_⟩
          generalize hG9 : upd _ b4 _ = H9
          have s9 := sm_of hG9 gb4
          have h9 := at_of hG9
          walk_at "rd"
          have s59 := s6.trans (s7.trans (s8.trans s9))
          refine r_app (s59 _ _ hps) (by rw [List.length_map]; omega) ⟨_, _, rfl, ?_⟩
          rw [take_map (uP "wheel") C.wheels hi]
          exact Lns.app gl (s5.trans s59) (s59 _ _ hps) (R.mono fun _ _ => LnAt.mono s59) ⟨by simp [uP, uN], h9⟩
        · rintro σ H7 ⟨u2, u4, rfl, L7⟩
          rw [List.length_map, r4.1, List.take_length] at L7
          walk_at "rd"
          exact ⟨_, _, _, rfl, L7⟩
    rintro σ H6 ⟨u2, u3', u4, rfl, s6, ps, hps, R⟩
    replace R : Rows LnAt H6 ps (upto C 3) := R
    have ht := uns_t C
    have hlen : ps.length = (lns C).length := by rw [R.1, ← ht, List.length_map]
    have hll := lns_len oC
    walk_at "rd"
    intro D hD
    have hDl : D ≠ l := fun e => by rw [e, hps] at hD; cases hD
    refine comp_lst (ps.map V.ref) (fun i σ H' => ∃ v0, σ = [v0] ∧ Same H6 H' ∧ H' D = some (.lst (((lin C).take i).map V.str))) ⟨none, rfl, Same.upd hD, by rw [upd_same]; rfl⟩ ?_ ?_ ?_
    · rintro i σ H' ⟨_, rfl, s7, _⟩
      exact SqL.of (s7 _ _ hps)
    · rintro i x σ H' hx ⟨v0, rfl, s7, hd⟩
      have hi : i < (upto C 3).length := by have := (List.getElem?_eq_some_iff.mp hx).1; rw [List.length_map, R.1] at this; exact this
      obtain ⟨q, e0, hn, hq⟩ := R.get hi
      rw [e0] at hx
      obtain rfl := Option.some.inj hx
      have hq7 := s7 _ _ hq
      obtain ⟨hul, hu⟩ := uok_all oC _ (List.getElem_mem hi)
      have hi2 : i < (lns C).length := by rw [← ht, List.length_map]; exact hi
      have hi3 : i < (lin C).length := by unfold lin; rw [List.length_map]; exact hi2
      have hut : (upto C 3)[i].map ut = (lns C)[i] := by simp only [← ht, List.getElem_map]
      have hw := wd_line oC _ (List.getElem_mem hi2)
      walk_at "rd"
      refine ⟨rfl, ?_⟩
      walk_at "rd"
      intro D2 hD2
      generalize hus : (upto C 3)[i] = us at *
      refine comp_lst (us.map uv) (fun j σ H'' => ∃ v1, σ = [v1] ∧ Same H' H'' ∧ H'' D2 = some (.lst (((us.take j).map ut).map V.str))) ⟨none, rfl, Same.upd hD2, by rw [upd_same]; rfl⟩ ?_ ?_ ?_
      · rintro j σ H'' ⟨_, rfl, s8, _⟩
        exact SqL.of (s8 _ _ hq7)
      · rintro j y σ H'' hy ⟨v1, rfl, s8, hd2⟩
        have hj : j < us.length := by have := (List.getElem?_eq_some_iff.mp hy).1; simpa using this
        obtain rfl : y = uv us[j] := by simpa [hj] using hy.symm
        have huj := hu _ (List.getElem_mem hj)
        have hnx := take_str ut us hj
        have hjl : (((us.take j).map ut).map V.str).length < sizeLine := by rw [List.length_map, List.length_map, List.length_take]; omega
        generalize us[j] = u at huj hnx
        cases u with
        | s z =>
          walk_at "rd"
          refine r_strs (x := z) ?_
          exact ⟨_, hd2, hjl, _, rfl, s8.put hD2, by rw [upd_same, hnx]; rfl⟩
        | n m =>
          walk_at "rd"
          refine r_stri (small255 huj.1 huj.2) ?_
          exact ⟨_, hd2, hjl, _, rfl, s8.put hD2, by rw [upd_same, hnx]; rfl⟩
      · rintro σ H8 ⟨_, rfl, s8, hd2⟩
        rw [List.length_map, List.take_length, hut] at hd2
        walk_at "rd"
        refine ⟨_, D2, (lns C)[i], rfl, rfl, SqL.of hd2, by decide +kernel, ?_, ?_⟩
        · have := sum_wd 6 hw.2.1 hw.2.2
          omega
        · refine ⟨_, s8 _ _ hd, by simp; omega, _, rfl, (s7.trans s8).put hD, ?_⟩
          rw [upd_same, show Txt.join " " (lns C)[i] = (lin C)[i] by simp [lin], List.take_succ_eq_append_getElem hi3, List.map_append]
          rfl
    · rintro σ H7 ⟨_, rfl, s7, hd⟩
      rw [List.length_map, hlen, List.take_of_length_le (by unfold lin; rw [List.length_map]; exact Nat.le_refl _)] at hd
      walk_at "rd"
      exact k D H7 (s13.trans (s6.trans s7)) hd
end

def oth (C : Cl) : Cl := ⟨C.rooms, (C.fst + 1) % C.rooms, C.lst, C.ways, C.things, C.levers, C.wheels, (C.bars + 1) % 256, (C.water + 1) % 10⟩
theorem oth_ok {C : Cl} (o : ClOk C) : ClOk (oth C) := by
  have h := o.r1
  refine ⟨o.r1, o.r2, ⟨Int.emod_nonneg _ (by omega), Int.emod_lt_of_pos _ (by omega)⟩, o.l, o.wl, o.tl, o.ll, o.vl, o.w, o.t, o.lv, o.wh, ?_, ?_⟩
  · show 0 ≤ (C.bars + 1) % 256 ∧ (C.bars + 1) % 256 ≤ 255
    omega
  · show 0 ≤ (C.water + 1) % 10 ∧ (C.water + 1) % 10 ≤ 9
    omega
theorem alk_ok {H : Hp} {c d : Addr} {C : Cl} (o : ClOk C) (h1 : ClAt H c C) (h2 : ClAt H d C) : Alk H 5 (.ref c) (.ref d) :=
  alk_cl h1 h2 (by have := o.wl; omega) (by have := o.tl; omega) (by have := o.ll; omega) (by have := o.vl; omega)
def spLaw (K : PySem.W.Frag) : Sp := fun vs H Q _ => ∃ (a : Addr) (ns : List Int), vs = [.ref a] ∧ SqL K H a (ns.map V.int) ∧ ns.length ≤ 63 ∧ ∀ H', Q (.bl true) H'
section
variable {P : Program} {w : World} {K : PySem.W.Frag} {mg : Str → Option Value} {base : Heap} {xs : Xs} {cs : Cs}
theorem ok_law {f : Addr} {fd : FuncData} (F : Fun K "law" "law" s_law f fd) (T : Txt mg cs) (TK : Tk K mg) (TX : Tx K mg xs) (TC : Tcl K cs) (L__wall : Laid K mg "_wall" s__wall ["k"]) (L_within : Laid K mg "within" s_within ["number", "least", "most"]) (L_changed : Laid K mg "changed" s_changed ["parts", "place", "part"]) (L_gate_of : Laid K mg "gate_of" s_gate_of ["gate"]) (L_is_gate : Laid K mg "is_gate" s_is_gate ["thing"]) (L_tops_of : Laid K mg "tops_of" s_tops_of ["word"]) (L_cellar : ∃ d1 d2, LaidD K mg "cellar" s_cellar [.none, .none, .none, .int 0 d1, .int 0 d2]) (L_made_of : Laid K mg "made_of" s_made_of ["parts"]) (L_check_number : Laid K mg "check_number" s_check_number ["name", "number", "least", "most"]) (L_made_ways : Laid K mg "made_ways" s_made_ways ["rooms", "ways"]) (L_made_pairs : Laid K mg "made_pairs" s_made_pairs ["name", "rooms", "pairs", "most_pairs", "least", "most"]) (L_made_rows : Laid K mg "made_rows" s_made_rows ["name", "rows", "most"]) (L_shown : Laid K mg "shown" s_shown ["cellar"]) (L_read : Laid K mg "read" s_read ["text"]) (L_numbers_line : Laid K mg "numbers_line" s_numbers_line ["word", "numbers"]) (L_way_line : Laid K mg "way_line" s_way_line ["way"]) (L_with_line : Laid K mg "with_line" s_with_line ["made", "number", "words"]) (L_with_row : Laid K mg "with_row" s_with_row ["made", "words"]) (L_part_of : Laid K mg "part_of" s_part_of ["word"]) (L_way_of : Laid K mg "way_of" s_way_of ["words"]) (L_numbers_behind : Laid K mg "numbers_behind" s_numbers_behind ["word", "words", "many"]) (L_numbers_of : Laid K mg "numbers_of" s_numbers_of ["words"]) (L_is_number : Laid K mg "is_number" s_is_number ["word"]) (L__law_cell : Laid K mg "_law_cell" s__law_cell ["_law_script", "_law_k"]) (L__law_gate : Laid K mg "_law_gate" s__law_gate ["_law_cell_here"]) (L__law_cellar : Laid K mg "_law_cellar" s__law_cellar ["_law_script"]) (L__law_lines : Laid K mg "_law_lines" s__law_lines ["_law_one"]) (L__law_alike : Laid K mg "_law_alike" s__law_alike ["_law_found", "_law_due"]) (LM_Plain_text : LaidM K cs.Plain "text" "Gate.text" s_Gate_text ["self"]) (LM_Plain_told : LaidM K cs.Plain "told" "Gate.told" s_Gate_told ["self"]) (LI_Plain : LaidI K mg "Plain" cs.Plain "Plain.__init__" s_Plain_init ["self"]) (LM_Door_text : LaidM K cs.Door "text" "Gate.text" s_Gate_text ["self"]) (LM_Door_told : LaidM K cs.Door "told" "Gate.told" s_Gate_told ["self"]) (LI_Door : LaidI K mg "Door" cs.Door "Door.__init__" s_Door_init ["self", "kind"]) (LM_Need_text : LaidM K cs.Need "text" "Gate.text" s_Gate_text ["self"]) (LM_Need_told : LaidM K cs.Need "told" "Gate.told" s_Gate_told ["self"]) (LI_Need : LaidI K mg "Need" cs.Need "Need.__init__" s_Need_init ["self", "kind"]) (LM_Bar_text : LaidM K cs.Bar "text" "Gate.text" s_Gate_text ["self"]) (LM_Bar_told : LaidM K cs.Bar "told" "Gate.told" s_Gate_told ["self"]) (LI_Bar : LaidI K mg "Bar" cs.Bar "Bar.__init__" s_Bar_init ["self", "bar"]) (LM_Wade_text : LaidM K cs.Wade "text" "Gate.text" s_Gate_text ["self"]) (LM_Wade_told : LaidM K cs.Wade "told" "Gate.told" s_Gate_told ["self"]) (LI_Wade : LaidI K mg "Wade" cs.Wade "Wade.__init__" s_Wade_init ["self", "height", "kind"]) (LM_Float_text : LaidM K cs.Float "text" "Gate.text" s_Gate_text ["self"]) (LM_Float_told : LaidM K cs.Float "told" "Gate.told" s_Gate_told ["self"]) (LI_Float : LaidI K mg "Float" cs.Float "Float.__init__" s_Float_init ["self", "height"]) (LC_Gate_init : LaidC K mg "Gate" "__init__" "Gate.__init__" s_Gate_init ["self", "word", "numbers"]) : FnOk P w K mg base CX0 9 f fd ["_law_script"] (spLaw K) := by
  obtain ⟨d1, d2, L_cellar⟩ := L_cellar
  have C_within := ok_within (P := P) (w := w) (base := base) T L_within
  have C_tops_of := ok_tops_of (P := P) (w := w) (base := base) T L_tops_of
  have C_is_gate := ok_is_gate (P := P) (w := w) (base := base) T L_is_gate C_tops_of C_within
  have C_check_number := ok_check (P := P) (w := w) (base := base) T TX L_check_number C_within
  have C_made_rows := ok_rows (P := P) (w := w) (base := base) T TX L_made_rows
  have C_made_ways := ok_mw (P := P) (w := w) (base := base) T TX L_made_ways C_check_number C_made_rows C_is_gate
  have C_made_pairs := ok_mp (P := P) (w := w) (base := base) T TX L_made_pairs C_check_number C_made_rows
  have C_cellar := ok_mkc (P := P) (w := w) (base := base) T TX L_cellar C_check_number C_made_ways C_made_pairs
  have C_Gate_init : CCal P w K mg base 1 "Gate" "__init__" ["self", "word", "numbers"] (spGInit K) := ok_ginit T LC_Gate_init
  have C_Plain : Makes P w K mg base 2 "Plain" cs.Plain ["self"] (spMk cs "plain") := mk_plain T TC LI_Plain C_Gate_init
  have C_Door : Makes P w K mg base 2 "Door" cs.Door ["self", "kind"] (spMk cs "door") := mk_door T TC LI_Door C_Gate_init
  have C_Need : Makes P w K mg base 2 "Need" cs.Need ["self", "kind"] (spMk cs "need") := mk_need T TC LI_Need C_Gate_init
  have C_Bar : Makes P w K mg base 2 "Bar" cs.Bar ["self", "bar"] (spMk cs "bar") := mk_bar T TC LI_Bar C_Gate_init
  have C_Wade : Makes P w K mg base 2 "Wade" cs.Wade ["self", "height", "kind"] (spMk cs "wade") := mk_wade T TC LI_Wade C_Gate_init
  have C_Float : Makes P w K mg base 2 "Float" cs.Float ["self", "height"] (spMk cs "float") := mk_float T TC LI_Float C_Gate_init
  have C_gate_of : Cal P w K mg base 4 "gate_of" ["gate"] (spObj cs) := ok_gate_of T L_gate_of C_Plain C_Door C_Need C_Bar C_Wade C_Float
  have vt : ∀ g : Gt, VMeth P w K mg base 1 (clsOf cs g) "told" ["self"] (spTold cs (clsOf cs g)) := fun g => by
    cases g
    · exact vm_told LM_Plain_told TC.cl_Plain TC.no_Plain_word TC.no_Plain_numbers
    · exact vm_told LM_Door_told TC.cl_Door TC.no_Door_word TC.no_Door_numbers
    · exact vm_told LM_Need_told TC.cl_Need TC.no_Need_word TC.no_Need_numbers
    · exact vm_told LM_Bar_told TC.cl_Bar TC.no_Bar_word TC.no_Bar_numbers
    · exact vm_told LM_Wade_told TC.cl_Wade TC.no_Wade_word TC.no_Wade_numbers
    · exact vm_told LM_Float_told TC.cl_Float TC.no_Float_word TC.no_Float_numbers
  have vx : ∀ g : Gt, VMeth P w K mg base 2 (clsOf cs g) "text" ["self"] (spText cs (clsOf cs g)) := fun g => by
    have v := vt g
    cases g
    · exact vm_text T LM_Plain_text TC.cl_Plain v
    · exact vm_text T LM_Door_text TC.cl_Door v
    · exact vm_text T LM_Need_text TC.cl_Need v
    · exact vm_text T LM_Bar_text TC.cl_Bar v
    · exact vm_text T LM_Wade_text TC.cl_Wade v
    · exact vm_text T LM_Float_text TC.cl_Float v
  have C_numbers_line := ok_nl (P := P) (w := w) (base := base) T L_numbers_line
  have C_way_line := ok_wl (P := P) (w := w) (base := base) T L_way_line C_numbers_line C_gate_of vx
  have C_shown := ok_sh (P := P) (w := w) (base := base) T L_shown C_numbers_line C_way_line
  have C_is_number := ok_num (P := P) (w := w) (base := base) T L_is_number
  have C_numbers_of := ok_no (P := P) (w := w) (base := base) T L_numbers_of C_is_number
  have C_numbers_behind := ok_nb (P := P) (w := w) (base := base) T L_numbers_behind C_numbers_of
  have C_part_of := ok_pt (P := P) (w := w) (base := base) T L_part_of
  have C_changed := ok_ch (P := P) (w := w) (base := base) T L_changed
  have C_way_of := ok_wo (P := P) (w := w) (base := base) T L_way_of C_numbers_of
  have C_made_of := ok_mo (P := P) (w := w) (base := base) T L_made_of C_cellar
  have C_with_row := ok_wr (P := P) (w := w) (base := base) T L_with_row C_part_of C_way_of C_numbers_behind C_changed C_made_of
  have C_with_line := ok_ln (P := P) (w := w) (base := base) T TK L_with_line C_numbers_behind C_changed C_made_of C_with_row
  have C_read := ok_rd (P := P) (w := w) (base := base) T L_read C_with_line
  have C__law_cell := ok_cell (P := P) (w := w) (base := base) T L__law_cell
  have C__law_gate := ok_gate (P := P) (w := w) (base := base) T L__law_gate
  have C__law_cellar := ok_cellar (P := P) (w := w) (base := base) T L__law_cellar C__law_cell C__law_gate
  have C__law_lines := ok_ll (P := P) (w := w) (base := base) T L__law_lines
  have C__law_alike := ok_al (P := P) (w := w) (base := base) T L__law_alike 5
  refine F.ok (k := 8) sc_law (fun vs H Q E h => ?_) (fun cdv A outer s H vs Q E hr h => ?_)
  · obtain ⟨a, ns, rfl, _⟩ := h
    rfl
  · obtain ⟨a, ns, rfl, hS, hl, k⟩ := h
    have big := line_big
    refine ⟨_, (pss_cons (ps_set (i := 1) sc_law.nd rfl (Or.inl rfl) (pe_cal C__law_cellar hr (by decide) rfl (pa_cons (pv 0) pa_nil)))
      (pss_cons (ps_set (i := 2) sc_law.nd rfl (Or.inl rfl) (pe_cal C__law_lines hr (by decide) rfl (pa_cons (pv 1) pa_nil)))
      (pss_cons (ps_set (i := 3) sc_law.nd rfl (Or.inl rfl) (pe_cal C_shown hr (by decide) rfl (pa_cons (pv 1) pa_nil)))
      (pss_cons (ps_if (PW.pt (pw_or (pt_not (pt_val (pe_callB call_isiS rfl T.n_isinstance bt_isinstance (pa_cons (pv 3) (pa_cons (pe_bltn (v := .ty "str") rfl T.n_str bt_str rfl) pa_nil))))) (pw_or1 (pt_cmpR op_ne (pv 3) (pe_bm PySem.F.plainAttrs_str PySem.F.slot_str_join PySem.F.type_str_join (mt_joinK K) pe_str (pa_cons (pv 2) pa_nil)) (nomark _))))) (pss_one (ps_ret pe_bl)) pss_nil)
      (pss_cons (ps_if (pt_not (pt_val (pe_cal C__law_alike hr (by decide) rfl (pa_cons (pe_cal C_read hr (by decide) rfl (pa_cons (pv 3) pa_nil)) (pa_cons (pv 1) pa_nil))))) (pss_one (ps_ret pe_bl)) pss_nil)
      (pss_cons (ps_set (i := 4) sc_law.nd rfl (Or.inl rfl) (pe_op (op_catTA K) (pe_op (op_catTA K) (pe_tup (pa_cons (pe_ix (ix_tupK K) (pv 1) pe_int (fun _ _ => rfl)) (pa_cons (pe_op op_mod (pe_op op_add (pe_ix (ix_tupK K) (pv 1) pe_int (fun _ _ => rfl)) pe_int) (pe_ix (ix_tupK K) (pv 1) pe_int (fun _ _ => rfl))) (pa_cons (pe_ix (ix_tupK K) (pv 1) pe_int (fun _ _ => rfl)) pa_nil)))) (pe_slice (sl_tupAK K) (pv 1) (po_some pe_int) (po_some pe_int))) (pe_tup (pa_cons (pe_op op_mod (pe_op op_add (pe_ix (ix_tupK K) (pv 1) pe_int (fun _ _ => rfl)) pe_int) pe_int) (pa_cons (pe_op op_mod (pe_op op_add (pe_ix (ix_tupK K) (pv 1) pe_int (fun _ _ => rfl)) pe_int) pe_int) pa_nil)))))
      (pss_cons (ps_if (PW.pt (pw_or (pt_cmpR op_ne (pe_cal C_shown hr (by decide) rfl (pa_cons (pv 4) pa_nil)) (pe_bm PySem.F.plainAttrs_str PySem.F.slot_str_join PySem.F.type_str_join (mt_joinK K) pe_str (pa_cons (pe_cal C__law_lines hr (by decide) rfl (pa_cons (pv 4) pa_nil)) pa_nil)) (nomark _)) (pw_or1 (pt_not (pt_val (pe_cal C__law_alike hr (by decide) rfl (pa_cons (pe_cal C_read hr (by decide) rfl (pa_cons (pe_cal C_shown hr (by decide) rfl (pa_cons (pv 4) pa_nil)) pa_nil)) (pa_cons (pv 4) pa_nil)))))))) (pss_one (ps_ret pe_bl)) pss_nil)
      (pss_one (ps_ret (pe_and (pe_cal C__law_alike hr (by decide) rfl (pa_cons (pe_cal C_read hr (by decide) rfl (pa_cons (pv 3) pa_nil)) (pa_cons (pv 1) pa_nil))) (pe_one (pe_cmpR op_eq (pe_cal C_shown hr (by decide) rfl (pa_cons (pv 1) pa_nil)) (pv 3) (nomark _))))))))))))), ?_⟩
    walk_at "rd"
    refine ⟨a, ns, rfl, hS, hl, fun p C H1 s1 hC oC => ?_⟩
    walk_at "rd"
    refine ⟨p, C, rfl, hC, oC, fun q H2 s2 h2 => ?_⟩
    have hC2 := hC.mono s2.ts
    walk_at "rd"
    refine ⟨p, C, rfl, hC2, oC, fun H3 s3 => ?_⟩
    have hC3 := hC2.mono s3.ts
    have h3 := s3 _ _ h2
    walk_at "rd"
    refine ⟨rfl, ?_⟩
    walk_at "rd"
    refine ⟨_, q, lin C, rfl, rfl, SqL.of h3, by decide +kernel, lin_room oC, ?_⟩
    rw [show Txt.join "\n" (lin C) = txt C from rfl]
    walk_at "rd"
    rw [show (!decide (txt C = txt C)) = false by simp]
    walk_at "rd"
    refine ⟨C, rfl, oC, fun r4 H4 s4 h4 => ?_⟩
    have hC4 := hC3.mono s4.ts
    walk_at "rd"
    refine ⟨_, _, rfl, alk_ok oC h4 hC4, ?_⟩
    obtain ⟨v1, v2, v3, v4, hc, m1, m2, m3, m4⟩ := hC4.ex
    have r1 := oC.r1
    have r2 := oC.r2
    have rf := oC.f
    have rl := oC.l
    have rb := oC.b
    have rw' := oC.wa
    walk_at "rd"
    intro u gu
    generalize hGu : upd _ u _ = H5
    have s5 := sm_of hGu gu
    have h5 := at_of hGu
    walk_at "rd"
    refine r_slA (s5 _ _ hc) fun u6 H6 s6 h6 => ?_
    have h6 : H6 u6 = some (.tup [.ref v1, .ref v2, .ref v3, .ref v4]) := h6
    refine r_catA (s6 _ _ h5) h6 (by simp; omega) fun u7 H7 s7 h7 => ?_
    have s47 := s5.trans (s6.trans s7)
    have hc7 := s47 _ _ hc
    walk_at "rd"
    intro u8 gu8
    generalize hGu8 : upd _ u8 _ = H8
    have s8 := sm_of hGu8 gu8
    have h8 := at_of hGu8
    refine r_catA (s8 _ _ h7) h8 (by simp; omega) fun u9 H9 s9 h9 => ?_
    have s49 := s47.trans (s8.trans s9)
    have oD := oth_ok oC
    have hD : ClAt H9 u9 (oth C) := ⟨v1, v2, v3, v4, h9, m1.mono s49.ts fun _ _ => WayAt.mono s49.ts, m2.mono s49.ts fun _ _ => PairAt.mono s49.ts, m3.mono s49.ts fun _ _ => PairAt.mono s49.ts, m4.mono s49.ts fun _ _ => PairAt.mono s49.ts⟩
    have hC9 := hC4.mono s49.ts
    walk_at "rd"
    refine ⟨u9, _, rfl, hD, oD, fun H10 s10 => ?_⟩
    walk_at "rd"
    refine ⟨rfl, ?_⟩
    walk_at "rd"
    have hD10 := hD.mono s10.ts
    refine ⟨u9, _, rfl, hD10, oD, fun q11 H11 s11 h11 => ?_⟩
    have hD11 := hD10.mono s11.ts
    walk_at "rd"
    refine ⟨_, q11, lin (oth C), rfl, rfl, SqL.of h11, by decide +kernel, lin_room oD, ?_⟩
    rw [show Txt.join "\n" (lin (oth C)) = txt (oth C) from rfl]
    walk_at "rd"
    rw [show (!decide (txt (oth C) = txt (oth C))) = false by simp]
    walk_at "rd"
    refine ⟨u9, _, rfl, hD11, oD, fun H12 s12 => ?_⟩
    have hD12 := hD11.mono s12.ts
    walk_at "rd"
    refine ⟨_, rfl, oD, fun r13 H13 s13 h13 => ?_⟩
    have hD13 := hD12.mono s13.ts
    walk_at "rd"
    refine ⟨_, _, rfl, alk_ok oD h13 hD13, ?_⟩
    walk_at "rd"
    refine ⟨C, rfl, oC, fun r14 H14 s14 h14 => ?_⟩
    have hC14 := hC9.mono (s10.trans (s11.trans (s12.trans (s13.trans s14)))).ts
    walk_at "rd"
    refine ⟨_, _, rfl, alk_ok oC h14 hC14, ?_⟩
    walk_at "rd"
    refine ⟨p, C, rfl, hC14, oC, fun H15 s15 => ?_⟩
    walk_at "rd"
    rw [show decide (txt C = txt C) = true by simp]
    exact k _
end

theorem all_mk {l : PySem.W.OpenLaw} {w : World} {K : PySem.W.Frag} {h : Heap} {mg : Str → Option Value} {fa : Addr} (X : K.In h) (G : h.Ns mainGlobals mg) (hfa : mg "law" = some (.ref fa))
    {X_NoCellar : Addr}
    {f0 : Addr} {od0 an0 : Option Addr} {sl0 : Array (Option Value)} {oc0 kV0 dc0 pm0 cd0 ct0 : Value}
    {f1 : Addr} {od1 an1 : Option Addr} {sl1 : Array (Option Value)} {oc1 kV1 dc1 pm1 cd1 ct1 : Value}
    {f2 : Addr} {od2 an2 : Option Addr} {sl2 : Array (Option Value)} {oc2 kV2 dc2 pm2 cd2 ct2 : Value}
    {f3 : Addr} {od3 an3 : Option Addr} {sl3 : Array (Option Value)} {oc3 kV3 dc3 pm3 cd3 ct3 : Value}
    {f4 : Addr} {od4 an4 : Option Addr} {sl4 : Array (Option Value)} {oc4 kV4 dc4 pm4 cd4 ct4 : Value}
    {f5 : Addr} {od5 an5 : Option Addr} {sl5 : Array (Option Value)} {oc5 kV5 dc5 pm5 cd5 ct5 : Value}
    {f6 : Addr} {od6 an6 : Option Addr} {sl6 : Array (Option Value)} {oc6 kV6 dc6 pm6 cd6 ct6 : Value}
    {f7 : Addr} {od7 an7 : Option Addr} {sl7 : Array (Option Value)} {oc7 kV7 dc7 pm7 cd7 ct7 : Value}
    {f8 : Addr} {od8 an8 : Option Addr} {sl8 : Array (Option Value)} {oc8 kV8 dc8 pm8 cd8 ct8 : Value}
    {f9 : Addr} {od9 an9 : Option Addr} {sl9 : Array (Option Value)} {oc9 kV9 dc9 pm9 cd9 ct9 : Value}
    {f10 : Addr} {od10 an10 : Option Addr} {sl10 : Array (Option Value)} {oc10 kV10 dc10 pm10 cd10 ct10 : Value}
    {f11 : Addr} {od11 an11 : Option Addr} {sl11 : Array (Option Value)} {oc11 kV11 dc11 pm11 cd11 ct11 : Value}
    {f12 : Addr} {od12 an12 : Option Addr} {sl12 : Array (Option Value)} {oc12 kV12 dc12 pm12 cd12 ct12 : Value}
    {f13 : Addr} {od13 an13 : Option Addr} {sl13 : Array (Option Value)} {oc13 kV13 dc13 pm13 cd13 ct13 : Value}
    {f14 : Addr} {od14 an14 : Option Addr} {sl14 : Array (Option Value)} {oc14 kV14 dc14 pm14 cd14 ct14 : Value}
    {f15 : Addr} {od15 an15 : Option Addr} {sl15 : Array (Option Value)} {oc15 kV15 dc15 pm15 cd15 ct15 : Value}
    {f16 : Addr} {od16 an16 : Option Addr} {sl16 : Array (Option Value)} {oc16 kV16 dc16 pm16 cd16 ct16 : Value}
    {f17 : Addr} {od17 an17 : Option Addr} {sl17 : Array (Option Value)} {oc17 kV17 dc17 pm17 cd17 ct17 : Value}
    {f18 : Addr} {od18 an18 : Option Addr} {sl18 : Array (Option Value)} {oc18 kV18 dc18 pm18 cd18 ct18 : Value}
    {f19 : Addr} {od19 an19 : Option Addr} {sl19 : Array (Option Value)} {oc19 kV19 dc19 pm19 cd19 ct19 : Value}
    {f20 : Addr} {od20 an20 : Option Addr} {sl20 : Array (Option Value)} {oc20 kV20 dc20 pm20 cd20 ct20 : Value}
    {f21 : Addr} {od21 an21 : Option Addr} {sl21 : Array (Option Value)} {oc21 kV21 dc21 pm21 cd21 ct21 : Value}
    {f22 : Addr} {od22 an22 : Option Addr} {sl22 : Array (Option Value)} {oc22 kV22 dc22 pm22 cd22 ct22 : Value}
    {f23 : Addr} {od23 an23 : Option Addr} {sl23 : Array (Option Value)} {oc23 kV23 dc23 pm23 cd23 ct23 : Value}
    {f24 : Addr} {od24 an24 : Option Addr} {sl24 : Array (Option Value)} {oc24 kV24 dc24 pm24 cd24 ct24 : Value}
    {f25 : Addr} {od25 an25 : Option Addr} {sl25 : Array (Option Value)} {oc25 kV25 dc25 pm25 cd25 ct25 : Value}
    {f26 : Addr} {od26 an26 : Option Addr} {sl26 : Array (Option Value)} {oc26 kV26 dc26 pm26 cd26 ct26 : Value}
    {f27 : Addr} {od27 an27 : Option Addr} {sl27 : Array (Option Value)} {oc27 kV27 dc27 pm27 cd27 ct27 : Value}
    {f28 : Addr} {od28 an28 : Option Addr} {sl28 : Array (Option Value)} {oc28 kV28 dc28 pm28 cd28 ct28 : Value}
    {f29 : Addr} {od29 an29 : Option Addr} {sl29 : Array (Option Value)} {oc29 kV29 dc29 pm29 cd29 ct29 : Value}
    {f30 : Addr} {od30 an30 : Option Addr} {sl30 : Array (Option Value)} {oc30 kV30 dc30 pm30 cd30 ct30 : Value}
    {f31 : Addr} {od31 an31 : Option Addr} {sl31 : Array (Option Value)} {oc31 kV31 dc31 pm31 cd31 ct31 : Value}
    {f32 : Addr} {od32 an32 : Option Addr} {sl32 : Array (Option Value)} {oc32 kV32 dc32 pm32 cd32 ct32 : Value}
    {f33 : Addr} {od33 an33 : Option Addr} {sl33 : Array (Option Value)} {oc33 kV33 dc33 pm33 cd33 ct33 : Value}
    {f34 : Addr} {od34 an34 : Option Addr} {sl34 : Array (Option Value)} {oc34 kV34 dc34 pm34 cd34 ct34 : Value}
    {f35 : Addr} {od35 an35 : Option Addr} {sl35 : Array (Option Value)} {oc35 kV35 dc35 pm35 cd35 ct35 : Value}
    {f36 : Addr} {od36 an36 : Option Addr} {sl36 : Array (Option Value)} {oc36 kV36 dc36 pm36 cd36 ct36 : Value}
    {f37 : Addr} {od37 an37 : Option Addr} {sl37 : Array (Option Value)} {oc37 kV37 dc37 pm37 cd37 ct37 : Value}
    {T_cellar : Addr} {oT_cellar : Value} {odT_cellar : Option Addr} {nT_cellar : Nat} {slT_cellar : Array (Option Value)} {d1 d2 : Tok}
    {t_ALL_BARS : Tok}
    {t_FIGURES : Tok}
    {t_FIRST : Tok}
    {t_FIRST_BARS : Tok}
    {t_FIRST_LINES : Tok}
    {t_FIRST_WATER : Tok}
    {t_LAST : Tok}
    {t_LAST_BAR : Tok}
    {t_LAST_KIND : Tok}
    {t_LEVERS : Tok}
    {t_MOST_LEVERS : Tok}
    {t_MOST_ROOMS : Tok}
    {t_MOST_THINGS : Tok}
    {t_MOST_WAYS : Tok}
    {t_MOST_WHEELS : Tok}
    {t_ROOMS : Tok}
    {t_THINGS : Tok}
    {t_TOP_HEIGHT : Tok}
    {t_WAYS : Tok}
    {t_WAY_A : Tok}
    {t_WAY_B : Tok}
    {t_WAY_BACK : Tok}
    {t_WAY_GATE : Tok}
    {t_WHEELS : Tok}
    {U_NOTHING_MORE : Addr} {nU_NOTHING_MORE : Nat} {sU_NOTHING_MORE : Array (Option Value)} {u4_NOTHING_MORE u5_NOTHING_MORE : Tok}
    {E0_NOTHING_MORE : Addr} {nE0_NOTHING_MORE : Nat} {sE0_NOTHING_MORE : Array (Option Value)}
    {E1_NOTHING_MORE : Addr} {nE1_NOTHING_MORE : Nat} {sE1_NOTHING_MORE : Array (Option Value)}
    {E2_NOTHING_MORE : Addr} {nE2_NOTHING_MORE : Nat} {sE2_NOTHING_MORE : Array (Option Value)}
    {E3_NOTHING_MORE : Addr} {nE3_NOTHING_MORE : Nat} {sE3_NOTHING_MORE : Array (Option Value)}
    {C_Gate : Addr}
    {C_Plain : Addr}
    {C_Door : Addr}
    {C_Need : Addr}
    {C_Bar : Addr}
    {C_Wade : Addr}
    {C_Float : Addr}
    (aC_Gate : PySem.W.nsIn K mainGlobals "Gate" = some (some (.ref C_Gate)))
    (aC_Plain : PySem.W.nsIn K mainGlobals "Plain" = some (some (.ref C_Plain)))
    (aC_Door : PySem.W.nsIn K mainGlobals "Door" = some (some (.ref C_Door)))
    (aC_Need : PySem.W.nsIn K mainGlobals "Need" = some (some (.ref C_Need)))
    (aC_Bar : PySem.W.nsIn K mainGlobals "Bar" = some (some (.ref C_Bar)))
    (aC_Wade : PySem.W.nsIn K mainGlobals "Wade" = some (some (.ref C_Wade)))
    (aC_Float : PySem.W.nsIn K mainGlobals "Float" = some (some (.ref C_Float)))
    (a0 : PySem.W.nsIn K mainGlobals "_wall" = some (some (.ref f0)))
    (l0 : K.lookup f0 = some ⟨oc0, od0, .func (PySem.W.fnOf "_wall" "_wall" (defArgs s__wall) (defBody s__wall) (defScope s__wall) .none kV0 dc0 pm0 an0 cd0 ct0), sl0⟩)
    (c0 : PySem.W.codeIn K cd0 "_wall" = true)
    (k0 : PySem.W.keepIn K (.ref f0) = true)
    (a1 : PySem.W.nsIn K mainGlobals "within" = some (some (.ref f1)))
    (l1 : K.lookup f1 = some ⟨oc1, od1, .func (PySem.W.fnOf "within" "within" (defArgs s_within) (defBody s_within) (defScope s_within) .none kV1 dc1 pm1 an1 cd1 ct1), sl1⟩)
    (c1 : PySem.W.codeIn K cd1 "within" = true)
    (k1 : PySem.W.keepIn K (.ref f1) = true)
    (a2 : PySem.W.nsIn K mainGlobals "changed" = some (some (.ref f2)))
    (l2 : K.lookup f2 = some ⟨oc2, od2, .func (PySem.W.fnOf "changed" "changed" (defArgs s_changed) (defBody s_changed) (defScope s_changed) .none kV2 dc2 pm2 an2 cd2 ct2), sl2⟩)
    (c2 : PySem.W.codeIn K cd2 "changed" = true)
    (k2 : PySem.W.keepIn K (.ref f2) = true)
    (a3 : PySem.W.nsIn K mainGlobals "gate_of" = some (some (.ref f3)))
    (l3 : K.lookup f3 = some ⟨oc3, od3, .func (PySem.W.fnOf "gate_of" "gate_of" (defArgs s_gate_of) (defBody s_gate_of) (defScope s_gate_of) .none kV3 dc3 pm3 an3 cd3 ct3), sl3⟩)
    (c3 : PySem.W.codeIn K cd3 "gate_of" = true)
    (k3 : PySem.W.keepIn K (.ref f3) = true)
    (a4 : PySem.W.nsIn K mainGlobals "is_gate" = some (some (.ref f4)))
    (l4 : K.lookup f4 = some ⟨oc4, od4, .func (PySem.W.fnOf "is_gate" "is_gate" (defArgs s_is_gate) (defBody s_is_gate) (defScope s_is_gate) .none kV4 dc4 pm4 an4 cd4 ct4), sl4⟩)
    (c4 : PySem.W.codeIn K cd4 "is_gate" = true)
    (k4 : PySem.W.keepIn K (.ref f4) = true)
    (a5 : PySem.W.nsIn K mainGlobals "tops_of" = some (some (.ref f5)))
    (l5 : K.lookup f5 = some ⟨oc5, od5, .func (PySem.W.fnOf "tops_of" "tops_of" (defArgs s_tops_of) (defBody s_tops_of) (defScope s_tops_of) .none kV5 dc5 pm5 an5 cd5 ct5), sl5⟩)
    (c5 : PySem.W.codeIn K cd5 "tops_of" = true)
    (k5 : PySem.W.keepIn K (.ref f5) = true)
    (a6 : PySem.W.nsIn K mainGlobals "cellar" = some (some (.ref f6)))
    (l6 : K.lookup f6 = some ⟨oc6, od6, .func (PySem.W.fnOf "cellar" "cellar" (defArgs s_cellar) (defBody s_cellar) (defScope s_cellar) (.ref T_cellar) kV6 dc6 pm6 an6 cd6 ct6), sl6⟩)
    (d6_ : K.lookup T_cellar = some ⟨oT_cellar, odT_cellar, .seq (List.toArray [.none, .none, .none, .int 0 d1, .int 0 d2]) nT_cellar, slT_cellar⟩)
    (c6 : PySem.W.codeIn K cd6 "cellar" = true)
    (k6 : PySem.W.keepIn K (.ref f6) = true)
    (a7 : PySem.W.nsIn K mainGlobals "made_of" = some (some (.ref f7)))
    (l7 : K.lookup f7 = some ⟨oc7, od7, .func (PySem.W.fnOf "made_of" "made_of" (defArgs s_made_of) (defBody s_made_of) (defScope s_made_of) .none kV7 dc7 pm7 an7 cd7 ct7), sl7⟩)
    (c7 : PySem.W.codeIn K cd7 "made_of" = true)
    (k7 : PySem.W.keepIn K (.ref f7) = true)
    (a8 : PySem.W.nsIn K mainGlobals "check_number" = some (some (.ref f8)))
    (l8 : K.lookup f8 = some ⟨oc8, od8, .func (PySem.W.fnOf "check_number" "check_number" (defArgs s_check_number) (defBody s_check_number) (defScope s_check_number) .none kV8 dc8 pm8 an8 cd8 ct8), sl8⟩)
    (c8 : PySem.W.codeIn K cd8 "check_number" = true)
    (k8 : PySem.W.keepIn K (.ref f8) = true)
    (a9 : PySem.W.nsIn K mainGlobals "made_ways" = some (some (.ref f9)))
    (l9 : K.lookup f9 = some ⟨oc9, od9, .func (PySem.W.fnOf "made_ways" "made_ways" (defArgs s_made_ways) (defBody s_made_ways) (defScope s_made_ways) .none kV9 dc9 pm9 an9 cd9 ct9), sl9⟩)
    (c9 : PySem.W.codeIn K cd9 "made_ways" = true)
    (k9 : PySem.W.keepIn K (.ref f9) = true)
    (a10 : PySem.W.nsIn K mainGlobals "made_pairs" = some (some (.ref f10)))
    (l10 : K.lookup f10 = some ⟨oc10, od10, .func (PySem.W.fnOf "made_pairs" "made_pairs" (defArgs s_made_pairs) (defBody s_made_pairs) (defScope s_made_pairs) .none kV10 dc10 pm10 an10 cd10 ct10), sl10⟩)
    (c10 : PySem.W.codeIn K cd10 "made_pairs" = true)
    (k10 : PySem.W.keepIn K (.ref f10) = true)
    (a11 : PySem.W.nsIn K mainGlobals "made_rows" = some (some (.ref f11)))
    (l11 : K.lookup f11 = some ⟨oc11, od11, .func (PySem.W.fnOf "made_rows" "made_rows" (defArgs s_made_rows) (defBody s_made_rows) (defScope s_made_rows) .none kV11 dc11 pm11 an11 cd11 ct11), sl11⟩)
    (c11 : PySem.W.codeIn K cd11 "made_rows" = true)
    (k11 : PySem.W.keepIn K (.ref f11) = true)
    (a12 : PySem.W.nsIn K mainGlobals "shown" = some (some (.ref f12)))
    (l12 : K.lookup f12 = some ⟨oc12, od12, .func (PySem.W.fnOf "shown" "shown" (defArgs s_shown) (defBody s_shown) (defScope s_shown) .none kV12 dc12 pm12 an12 cd12 ct12), sl12⟩)
    (c12 : PySem.W.codeIn K cd12 "shown" = true)
    (k12 : PySem.W.keepIn K (.ref f12) = true)
    (a13 : PySem.W.nsIn K mainGlobals "read" = some (some (.ref f13)))
    (l13 : K.lookup f13 = some ⟨oc13, od13, .func (PySem.W.fnOf "read" "read" (defArgs s_read) (defBody s_read) (defScope s_read) .none kV13 dc13 pm13 an13 cd13 ct13), sl13⟩)
    (c13 : PySem.W.codeIn K cd13 "read" = true)
    (k13 : PySem.W.keepIn K (.ref f13) = true)
    (a14 : PySem.W.nsIn K mainGlobals "numbers_line" = some (some (.ref f14)))
    (l14 : K.lookup f14 = some ⟨oc14, od14, .func (PySem.W.fnOf "numbers_line" "numbers_line" (defArgs s_numbers_line) (defBody s_numbers_line) (defScope s_numbers_line) .none kV14 dc14 pm14 an14 cd14 ct14), sl14⟩)
    (c14 : PySem.W.codeIn K cd14 "numbers_line" = true)
    (k14 : PySem.W.keepIn K (.ref f14) = true)
    (a15 : PySem.W.nsIn K mainGlobals "way_line" = some (some (.ref f15)))
    (l15 : K.lookup f15 = some ⟨oc15, od15, .func (PySem.W.fnOf "way_line" "way_line" (defArgs s_way_line) (defBody s_way_line) (defScope s_way_line) .none kV15 dc15 pm15 an15 cd15 ct15), sl15⟩)
    (c15 : PySem.W.codeIn K cd15 "way_line" = true)
    (k15 : PySem.W.keepIn K (.ref f15) = true)
    (a16 : PySem.W.nsIn K mainGlobals "with_line" = some (some (.ref f16)))
    (l16 : K.lookup f16 = some ⟨oc16, od16, .func (PySem.W.fnOf "with_line" "with_line" (defArgs s_with_line) (defBody s_with_line) (defScope s_with_line) .none kV16 dc16 pm16 an16 cd16 ct16), sl16⟩)
    (c16 : PySem.W.codeIn K cd16 "with_line" = true)
    (k16 : PySem.W.keepIn K (.ref f16) = true)
    (a17 : PySem.W.nsIn K mainGlobals "with_row" = some (some (.ref f17)))
    (l17 : K.lookup f17 = some ⟨oc17, od17, .func (PySem.W.fnOf "with_row" "with_row" (defArgs s_with_row) (defBody s_with_row) (defScope s_with_row) .none kV17 dc17 pm17 an17 cd17 ct17), sl17⟩)
    (c17 : PySem.W.codeIn K cd17 "with_row" = true)
    (k17 : PySem.W.keepIn K (.ref f17) = true)
    (a18 : PySem.W.nsIn K mainGlobals "part_of" = some (some (.ref f18)))
    (l18 : K.lookup f18 = some ⟨oc18, od18, .func (PySem.W.fnOf "part_of" "part_of" (defArgs s_part_of) (defBody s_part_of) (defScope s_part_of) .none kV18 dc18 pm18 an18 cd18 ct18), sl18⟩)
    (c18 : PySem.W.codeIn K cd18 "part_of" = true)
    (k18 : PySem.W.keepIn K (.ref f18) = true)
    (a19 : PySem.W.nsIn K mainGlobals "way_of" = some (some (.ref f19)))
    (l19 : K.lookup f19 = some ⟨oc19, od19, .func (PySem.W.fnOf "way_of" "way_of" (defArgs s_way_of) (defBody s_way_of) (defScope s_way_of) .none kV19 dc19 pm19 an19 cd19 ct19), sl19⟩)
    (c19 : PySem.W.codeIn K cd19 "way_of" = true)
    (k19 : PySem.W.keepIn K (.ref f19) = true)
    (a20 : PySem.W.nsIn K mainGlobals "numbers_behind" = some (some (.ref f20)))
    (l20 : K.lookup f20 = some ⟨oc20, od20, .func (PySem.W.fnOf "numbers_behind" "numbers_behind" (defArgs s_numbers_behind) (defBody s_numbers_behind) (defScope s_numbers_behind) .none kV20 dc20 pm20 an20 cd20 ct20), sl20⟩)
    (c20 : PySem.W.codeIn K cd20 "numbers_behind" = true)
    (k20 : PySem.W.keepIn K (.ref f20) = true)
    (a21 : PySem.W.nsIn K mainGlobals "numbers_of" = some (some (.ref f21)))
    (l21 : K.lookup f21 = some ⟨oc21, od21, .func (PySem.W.fnOf "numbers_of" "numbers_of" (defArgs s_numbers_of) (defBody s_numbers_of) (defScope s_numbers_of) .none kV21 dc21 pm21 an21 cd21 ct21), sl21⟩)
    (c21 : PySem.W.codeIn K cd21 "numbers_of" = true)
    (k21 : PySem.W.keepIn K (.ref f21) = true)
    (a22 : PySem.W.nsIn K mainGlobals "is_number" = some (some (.ref f22)))
    (l22 : K.lookup f22 = some ⟨oc22, od22, .func (PySem.W.fnOf "is_number" "is_number" (defArgs s_is_number) (defBody s_is_number) (defScope s_is_number) .none kV22 dc22 pm22 an22 cd22 ct22), sl22⟩)
    (c22 : PySem.W.codeIn K cd22 "is_number" = true)
    (k22 : PySem.W.keepIn K (.ref f22) = true)
    (a23 : PySem.W.nsIn K mainGlobals "_law_cell" = some (some (.ref f23)))
    (l23 : K.lookup f23 = some ⟨oc23, od23, .func (PySem.W.fnOf "_law_cell" "_law_cell" (defArgs s__law_cell) (defBody s__law_cell) (defScope s__law_cell) .none kV23 dc23 pm23 an23 cd23 ct23), sl23⟩)
    (c23 : PySem.W.codeIn K cd23 "_law_cell" = true)
    (k23 : PySem.W.keepIn K (.ref f23) = true)
    (a24 : PySem.W.nsIn K mainGlobals "_law_gate" = some (some (.ref f24)))
    (l24 : K.lookup f24 = some ⟨oc24, od24, .func (PySem.W.fnOf "_law_gate" "_law_gate" (defArgs s__law_gate) (defBody s__law_gate) (defScope s__law_gate) .none kV24 dc24 pm24 an24 cd24 ct24), sl24⟩)
    (c24 : PySem.W.codeIn K cd24 "_law_gate" = true)
    (k24 : PySem.W.keepIn K (.ref f24) = true)
    (a25 : PySem.W.nsIn K mainGlobals "_law_cellar" = some (some (.ref f25)))
    (l25 : K.lookup f25 = some ⟨oc25, od25, .func (PySem.W.fnOf "_law_cellar" "_law_cellar" (defArgs s__law_cellar) (defBody s__law_cellar) (defScope s__law_cellar) .none kV25 dc25 pm25 an25 cd25 ct25), sl25⟩)
    (c25 : PySem.W.codeIn K cd25 "_law_cellar" = true)
    (k25 : PySem.W.keepIn K (.ref f25) = true)
    (a26 : PySem.W.nsIn K mainGlobals "_law_lines" = some (some (.ref f26)))
    (l26 : K.lookup f26 = some ⟨oc26, od26, .func (PySem.W.fnOf "_law_lines" "_law_lines" (defArgs s__law_lines) (defBody s__law_lines) (defScope s__law_lines) .none kV26 dc26 pm26 an26 cd26 ct26), sl26⟩)
    (c26 : PySem.W.codeIn K cd26 "_law_lines" = true)
    (k26 : PySem.W.keepIn K (.ref f26) = true)
    (a27 : PySem.W.nsIn K mainGlobals "_law_alike" = some (some (.ref f27)))
    (l27 : K.lookup f27 = some ⟨oc27, od27, .func (PySem.W.fnOf "_law_alike" "_law_alike" (defArgs s__law_alike) (defBody s__law_alike) (defScope s__law_alike) .none kV27 dc27 pm27 an27 cd27 ct27), sl27⟩)
    (c27 : PySem.W.codeIn K cd27 "_law_alike" = true)
    (k27 : PySem.W.keepIn K (.ref f27) = true)
    (a28 : PySem.W.nsIn K mainGlobals "law" = some (some (.ref f28)))
    (l28 : K.lookup f28 = some ⟨oc28, od28, .func (PySem.W.fnOf "law" "law" (defArgs s_law) (defBody s_law) (defScope s_law) .none kV28 dc28 pm28 an28 cd28 ct28), sl28⟩)
    (c28 : PySem.W.codeIn K cd28 "law" = true)
    (k28 : PySem.W.keepIn K (.ref f28) = true)
    (a29 : PySem.W.findIn K (.ref C_Gate) "__init__" = some (some (.ref f29)))
    (i29 : PySem.W.isFn K (.ref f29) = true)
    (l29 : K.lookup f29 = some ⟨oc29, od29, .func (PySem.W.fnOf "__init__" "Gate.__init__" (defArgs s_Gate_init) (defBody s_Gate_init) (defScope s_Gate_init) .none kV29 dc29 pm29 an29 cd29 ct29), sl29⟩)
    (c29 : PySem.W.codeIn K cd29 "Gate.__init__" = true)
    (k29 : PySem.W.keepIn K (.ref f29) = true)
    (a30 : PySem.W.findIn K (.ref C_Gate) "told" = some (some (.ref f30)))
    (i30 : PySem.W.isFn K (.ref f30) = true)
    (l30 : K.lookup f30 = some ⟨oc30, od30, .func (PySem.W.fnOf "told" "Gate.told" (defArgs s_Gate_told) (defBody s_Gate_told) (defScope s_Gate_told) .none kV30 dc30 pm30 an30 cd30 ct30), sl30⟩)
    (c30 : PySem.W.codeIn K cd30 "Gate.told" = true)
    (k30 : PySem.W.keepIn K (.ref f30) = true)
    (a31 : PySem.W.findIn K (.ref C_Gate) "text" = some (some (.ref f31)))
    (i31 : PySem.W.isFn K (.ref f31) = true)
    (l31 : K.lookup f31 = some ⟨oc31, od31, .func (PySem.W.fnOf "text" "Gate.text" (defArgs s_Gate_text) (defBody s_Gate_text) (defScope s_Gate_text) .none kV31 dc31 pm31 an31 cd31 ct31), sl31⟩)
    (c31 : PySem.W.codeIn K cd31 "Gate.text" = true)
    (k31 : PySem.W.keepIn K (.ref f31) = true)
    (a32 : PySem.W.findIn K (.ref C_Plain) "__init__" = some (some (.ref f32)))
    (i32 : PySem.W.isFn K (.ref f32) = true)
    (l32 : K.lookup f32 = some ⟨oc32, od32, .func (PySem.W.fnOf "__init__" "Plain.__init__" (defArgs s_Plain_init) (defBody s_Plain_init) (defScope s_Plain_init) .none kV32 dc32 pm32 an32 cd32 ct32), sl32⟩)
    (c32 : PySem.W.codeIn K cd32 "Plain.__init__" = true)
    (k32 : PySem.W.keepIn K (.ref f32) = true)
    (a33 : PySem.W.findIn K (.ref C_Door) "__init__" = some (some (.ref f33)))
    (i33 : PySem.W.isFn K (.ref f33) = true)
    (l33 : K.lookup f33 = some ⟨oc33, od33, .func (PySem.W.fnOf "__init__" "Door.__init__" (defArgs s_Door_init) (defBody s_Door_init) (defScope s_Door_init) .none kV33 dc33 pm33 an33 cd33 ct33), sl33⟩)
    (c33 : PySem.W.codeIn K cd33 "Door.__init__" = true)
    (k33 : PySem.W.keepIn K (.ref f33) = true)
    (a34 : PySem.W.findIn K (.ref C_Need) "__init__" = some (some (.ref f34)))
    (i34 : PySem.W.isFn K (.ref f34) = true)
    (l34 : K.lookup f34 = some ⟨oc34, od34, .func (PySem.W.fnOf "__init__" "Need.__init__" (defArgs s_Need_init) (defBody s_Need_init) (defScope s_Need_init) .none kV34 dc34 pm34 an34 cd34 ct34), sl34⟩)
    (c34 : PySem.W.codeIn K cd34 "Need.__init__" = true)
    (k34 : PySem.W.keepIn K (.ref f34) = true)
    (a35 : PySem.W.findIn K (.ref C_Bar) "__init__" = some (some (.ref f35)))
    (i35 : PySem.W.isFn K (.ref f35) = true)
    (l35 : K.lookup f35 = some ⟨oc35, od35, .func (PySem.W.fnOf "__init__" "Bar.__init__" (defArgs s_Bar_init) (defBody s_Bar_init) (defScope s_Bar_init) .none kV35 dc35 pm35 an35 cd35 ct35), sl35⟩)
    (c35 : PySem.W.codeIn K cd35 "Bar.__init__" = true)
    (k35 : PySem.W.keepIn K (.ref f35) = true)
    (a36 : PySem.W.findIn K (.ref C_Wade) "__init__" = some (some (.ref f36)))
    (i36 : PySem.W.isFn K (.ref f36) = true)
    (l36 : K.lookup f36 = some ⟨oc36, od36, .func (PySem.W.fnOf "__init__" "Wade.__init__" (defArgs s_Wade_init) (defBody s_Wade_init) (defScope s_Wade_init) .none kV36 dc36 pm36 an36 cd36 ct36), sl36⟩)
    (c36 : PySem.W.codeIn K cd36 "Wade.__init__" = true)
    (k36 : PySem.W.keepIn K (.ref f36) = true)
    (a37 : PySem.W.findIn K (.ref C_Float) "__init__" = some (some (.ref f37)))
    (i37 : PySem.W.isFn K (.ref f37) = true)
    (l37 : K.lookup f37 = some ⟨oc37, od37, .func (PySem.W.fnOf "__init__" "Float.__init__" (defArgs s_Float_init) (defBody s_Float_init) (defScope s_Float_init) .none kV37 dc37 pm37 an37 cd37 ct37), sl37⟩)
    (c37 : PySem.W.codeIn K cd37 "Float.__init__" = true)
    (k37 : PySem.W.keepIn K (.ref f37) = true)
    (pg_Plain : PySem.W.plainGet K C_Plain Str.empty = true)
    (hd_Plain : PySem.W.hasDictIn K C_Plain = true)
    (po_Plain : PySem.W.plainOver K C_Plain = true)
    (sa_Plain : PySem.W.findIn K (.ref C_Plain) "__setattr__" = some (some (.builtin "object.__setattr__")))
    (mk_Plain : PySem.W.makesIn K C_Plain = true)
    (kc_Plain : PySem.W.keepIn K (.ref C_Plain) = true)
    (no_Plain_numbers : PySem.W.findIn K (.ref C_Plain) "numbers" = some none)
    (no_Plain_word : PySem.W.findIn K (.ref C_Plain) "word" = some none)
    (ai_Plain_text : PySem.W.findIn K (.ref C_Plain) "text" = some (some (.ref f31)))
    (ai_Plain_told : PySem.W.findIn K (.ref C_Plain) "told" = some (some (.ref f30)))
    (pg_Door : PySem.W.plainGet K C_Door Str.empty = true)
    (hd_Door : PySem.W.hasDictIn K C_Door = true)
    (po_Door : PySem.W.plainOver K C_Door = true)
    (sa_Door : PySem.W.findIn K (.ref C_Door) "__setattr__" = some (some (.builtin "object.__setattr__")))
    (mk_Door : PySem.W.makesIn K C_Door = true)
    (kc_Door : PySem.W.keepIn K (.ref C_Door) = true)
    (no_Door_numbers : PySem.W.findIn K (.ref C_Door) "numbers" = some none)
    (no_Door_word : PySem.W.findIn K (.ref C_Door) "word" = some none)
    (ai_Door_text : PySem.W.findIn K (.ref C_Door) "text" = some (some (.ref f31)))
    (ai_Door_told : PySem.W.findIn K (.ref C_Door) "told" = some (some (.ref f30)))
    (pg_Need : PySem.W.plainGet K C_Need Str.empty = true)
    (hd_Need : PySem.W.hasDictIn K C_Need = true)
    (po_Need : PySem.W.plainOver K C_Need = true)
    (sa_Need : PySem.W.findIn K (.ref C_Need) "__setattr__" = some (some (.builtin "object.__setattr__")))
    (mk_Need : PySem.W.makesIn K C_Need = true)
    (kc_Need : PySem.W.keepIn K (.ref C_Need) = true)
    (no_Need_kind : PySem.W.findIn K (.ref C_Need) "kind" = some none)
    (no_Need_numbers : PySem.W.findIn K (.ref C_Need) "numbers" = some none)
    (no_Need_word : PySem.W.findIn K (.ref C_Need) "word" = some none)
    (ai_Need_text : PySem.W.findIn K (.ref C_Need) "text" = some (some (.ref f31)))
    (ai_Need_told : PySem.W.findIn K (.ref C_Need) "told" = some (some (.ref f30)))
    (pg_Bar : PySem.W.plainGet K C_Bar Str.empty = true)
    (hd_Bar : PySem.W.hasDictIn K C_Bar = true)
    (po_Bar : PySem.W.plainOver K C_Bar = true)
    (sa_Bar : PySem.W.findIn K (.ref C_Bar) "__setattr__" = some (some (.builtin "object.__setattr__")))
    (mk_Bar : PySem.W.makesIn K C_Bar = true)
    (kc_Bar : PySem.W.keepIn K (.ref C_Bar) = true)
    (no_Bar_bar : PySem.W.findIn K (.ref C_Bar) "bar" = some none)
    (no_Bar_numbers : PySem.W.findIn K (.ref C_Bar) "numbers" = some none)
    (no_Bar_word : PySem.W.findIn K (.ref C_Bar) "word" = some none)
    (ai_Bar_text : PySem.W.findIn K (.ref C_Bar) "text" = some (some (.ref f31)))
    (ai_Bar_told : PySem.W.findIn K (.ref C_Bar) "told" = some (some (.ref f30)))
    (pg_Wade : PySem.W.plainGet K C_Wade Str.empty = true)
    (hd_Wade : PySem.W.hasDictIn K C_Wade = true)
    (po_Wade : PySem.W.plainOver K C_Wade = true)
    (sa_Wade : PySem.W.findIn K (.ref C_Wade) "__setattr__" = some (some (.builtin "object.__setattr__")))
    (mk_Wade : PySem.W.makesIn K C_Wade = true)
    (kc_Wade : PySem.W.keepIn K (.ref C_Wade) = true)
    (no_Wade_height : PySem.W.findIn K (.ref C_Wade) "height" = some none)
    (no_Wade_kind : PySem.W.findIn K (.ref C_Wade) "kind" = some none)
    (no_Wade_numbers : PySem.W.findIn K (.ref C_Wade) "numbers" = some none)
    (no_Wade_word : PySem.W.findIn K (.ref C_Wade) "word" = some none)
    (ai_Wade_text : PySem.W.findIn K (.ref C_Wade) "text" = some (some (.ref f31)))
    (ai_Wade_told : PySem.W.findIn K (.ref C_Wade) "told" = some (some (.ref f30)))
    (pg_Float : PySem.W.plainGet K C_Float Str.empty = true)
    (hd_Float : PySem.W.hasDictIn K C_Float = true)
    (po_Float : PySem.W.plainOver K C_Float = true)
    (sa_Float : PySem.W.findIn K (.ref C_Float) "__setattr__" = some (some (.builtin "object.__setattr__")))
    (mk_Float : PySem.W.makesIn K C_Float = true)
    (kc_Float : PySem.W.keepIn K (.ref C_Float) = true)
    (no_Float_height : PySem.W.findIn K (.ref C_Float) "height" = some none)
    (no_Float_numbers : PySem.W.findIn K (.ref C_Float) "numbers" = some none)
    (no_Float_word : PySem.W.findIn K (.ref C_Float) "word" = some none)
    (ai_Float_text : PySem.W.findIn K (.ref C_Float) "text" = some (some (.ref f31)))
    (ai_Float_told : PySem.W.findIn K (.ref C_Float) "told" = some (some (.ref f30)))
    (rd_Gate___init__ : PySem.W.readsIn K C_Gate (.type "type") = true)
    (fc_Gate___init__ : PySem.W.findCls K (.ref C_Gate) (.type "type") "__init__" = some (.val (.ref f29)))
    (sg_Gate___init__ : PySem.W.specialIn K (.ref C_Gate) "__getattribute__" = some (some (.builtin "type.__getattribute__")))
    (ax_NoCellar : PySem.W.nsIn K mainGlobals "NoCellar" = some (some (.ref X_NoCellar)))
    (xex_NoCellar : PySem.W.excIn K X_NoCellar [.type "ValueError", .type "Exception", .type "BaseException", .type "object"] "ValueError.__new__" = true)
    (xmo_NoCellar_0 : PySem.W.exmOne K (.ref X_NoCellar) (.ref X_NoCellar) = some true)
    (z_all : PySem.W.nsIn K mainGlobals "all" = some none)
    (z_any : PySem.W.nsIn K mainGlobals "any" = some none)
    (z_bool : PySem.W.nsIn K mainGlobals "bool" = some none)
    (z_enumerate : PySem.W.nsIn K mainGlobals "enumerate" = some none)
    (z_int : PySem.W.nsIn K mainGlobals "int" = some none)
    (z_isinstance : PySem.W.nsIn K mainGlobals "isinstance" = some none)
    (z_len : PySem.W.nsIn K mainGlobals "len" = some none)
    (z_list : PySem.W.nsIn K mainGlobals "list" = some none)
    (z_min : PySem.W.nsIn K mainGlobals "min" = some none)
    (z_range : PySem.W.nsIn K mainGlobals "range" = some none)
    (z_str : PySem.W.nsIn K mainGlobals "str" = some none)
    (z_tuple : PySem.W.nsIn K mainGlobals "tuple" = some none)
    (z_zip : PySem.W.nsIn K mainGlobals "zip" = some none)
    (ay_NOTHING_MORE : PySem.W.nsIn K mainGlobals "NOTHING_MORE" = some (some (.ref U_NOTHING_MORE)))
    (ky_NOTHING_MORE : K.lookup U_NOTHING_MORE = some ⟨.type "tuple", none, .seq (List.toArray [.ref E0_NOTHING_MORE, .ref E1_NOTHING_MORE, .ref E2_NOTHING_MORE, .ref E3_NOTHING_MORE, .int 0 u4_NOTHING_MORE, .int 0 u5_NOTHING_MORE]) nU_NOTHING_MORE, sU_NOTHING_MORE⟩)
    (kz0_NOTHING_MORE : K.lookup E0_NOTHING_MORE = some ⟨.type "tuple", none, .seq (List.toArray []) nE0_NOTHING_MORE, sE0_NOTHING_MORE⟩)
    (kz1_NOTHING_MORE : K.lookup E1_NOTHING_MORE = some ⟨.type "tuple", none, .seq (List.toArray []) nE1_NOTHING_MORE, sE1_NOTHING_MORE⟩)
    (kz2_NOTHING_MORE : K.lookup E2_NOTHING_MORE = some ⟨.type "tuple", none, .seq (List.toArray []) nE2_NOTHING_MORE, sE2_NOTHING_MORE⟩)
    (kz3_NOTHING_MORE : K.lookup E3_NOTHING_MORE = some ⟨.type "tuple", none, .seq (List.toArray []) nE3_NOTHING_MORE, sE3_NOTHING_MORE⟩)
    (y_ALL_BARS : PySem.W.nsIn K mainGlobals "ALL_BARS" = some (some (.int 255 t_ALL_BARS)))
    (y_FIGURES : PySem.W.nsIn K mainGlobals "FIGURES" = some (some (.str "0123456789" t_FIGURES)))
    (y_FIRST : PySem.W.nsIn K mainGlobals "FIRST" = some (some (.int 1 t_FIRST)))
    (y_FIRST_BARS : PySem.W.nsIn K mainGlobals "FIRST_BARS" = some (some (.int 7 t_FIRST_BARS)))
    (y_FIRST_LINES : PySem.W.nsIn K mainGlobals "FIRST_LINES" = some (some (.int 3 t_FIRST_LINES)))
    (y_FIRST_WATER : PySem.W.nsIn K mainGlobals "FIRST_WATER" = some (some (.int 8 t_FIRST_WATER)))
    (y_LAST : PySem.W.nsIn K mainGlobals "LAST" = some (some (.int 2 t_LAST)))
    (y_LAST_BAR : PySem.W.nsIn K mainGlobals "LAST_BAR" = some (some (.int 7 t_LAST_BAR)))
    (y_LAST_KIND : PySem.W.nsIn K mainGlobals "LAST_KIND" = some (some (.int 11 t_LAST_KIND)))
    (y_LEVERS : PySem.W.nsIn K mainGlobals "LEVERS" = some (some (.int 5 t_LEVERS)))
    (y_MOST_LEVERS : PySem.W.nsIn K mainGlobals "MOST_LEVERS" = some (some (.int 4 t_MOST_LEVERS)))
    (y_MOST_ROOMS : PySem.W.nsIn K mainGlobals "MOST_ROOMS" = some (some (.int 14 t_MOST_ROOMS)))
    (y_MOST_THINGS : PySem.W.nsIn K mainGlobals "MOST_THINGS" = some (some (.int 8 t_MOST_THINGS)))
    (y_MOST_WAYS : PySem.W.nsIn K mainGlobals "MOST_WAYS" = some (some (.int 20 t_MOST_WAYS)))
    (y_MOST_WHEELS : PySem.W.nsIn K mainGlobals "MOST_WHEELS" = some (some (.int 4 t_MOST_WHEELS)))
    (y_ROOMS : PySem.W.nsIn K mainGlobals "ROOMS" = some (some (.int 0 t_ROOMS)))
    (y_THINGS : PySem.W.nsIn K mainGlobals "THINGS" = some (some (.int 4 t_THINGS)))
    (y_TOP_HEIGHT : PySem.W.nsIn K mainGlobals "TOP_HEIGHT" = some (some (.int 9 t_TOP_HEIGHT)))
    (y_WAYS : PySem.W.nsIn K mainGlobals "WAYS" = some (some (.int 3 t_WAYS)))
    (y_WAY_A : PySem.W.nsIn K mainGlobals "WAY_A" = some (some (.int 0 t_WAY_A)))
    (y_WAY_B : PySem.W.nsIn K mainGlobals "WAY_B" = some (some (.int 1 t_WAY_B)))
    (y_WAY_BACK : PySem.W.nsIn K mainGlobals "WAY_BACK" = some (some (.int 3 t_WAY_BACK)))
    (y_WAY_GATE : PySem.W.nsIn K mainGlobals "WAY_GATE" = some (some (.int 2 t_WAY_GATE)))
    (y_WHEELS : PySem.W.nsIn K mainGlobals "WHEELS" = some (some (.int 6 t_WHEELS))) :
    ∃ fd : FuncData, (∀ (s : Shared) (v : Value), BindsTo s fd ⟨[v], []⟩ [("_law_script", v)]) ∧ ∀ base : Heap, K.In base → base.Ns mainGlobals mg → FnOk l.prog w K mg base CX0 9 fa fd ["_law_script"] (spLaw K) := by
  have e := hfa.symm.trans (PySem.W.mg_of X G a28)
  cases e
  let cs : Cs := ⟨C_Gate, C_Plain, C_Door, C_Need, C_Bar, C_Wade, C_Float⟩
  have T : Txt mg cs := ⟨PySem.W.mg_none_of X G z_all, PySem.W.mg_none_of X G z_any, PySem.W.mg_none_of X G z_bool, PySem.W.mg_none_of X G z_enumerate, PySem.W.mg_none_of X G z_int, PySem.W.mg_none_of X G z_isinstance, PySem.W.mg_none_of X G z_len, PySem.W.mg_none_of X G z_list, PySem.W.mg_none_of X G z_min, PySem.W.mg_none_of X G z_range, PySem.W.mg_none_of X G z_str, PySem.W.mg_none_of X G z_tuple, PySem.W.mg_none_of X G z_zip, ⟨_, PySem.W.mg_of X G y_ALL_BARS⟩, ⟨_, PySem.W.mg_of X G y_FIGURES⟩, ⟨_, PySem.W.mg_of X G y_FIRST⟩, ⟨_, PySem.W.mg_of X G y_FIRST_BARS⟩, ⟨_, PySem.W.mg_of X G y_FIRST_LINES⟩, ⟨_, PySem.W.mg_of X G y_FIRST_WATER⟩, ⟨_, PySem.W.mg_of X G y_LAST⟩, ⟨_, PySem.W.mg_of X G y_LAST_BAR⟩, ⟨_, PySem.W.mg_of X G y_LAST_KIND⟩, ⟨_, PySem.W.mg_of X G y_LEVERS⟩, ⟨_, PySem.W.mg_of X G y_MOST_LEVERS⟩, ⟨_, PySem.W.mg_of X G y_MOST_ROOMS⟩, ⟨_, PySem.W.mg_of X G y_MOST_THINGS⟩, ⟨_, PySem.W.mg_of X G y_MOST_WAYS⟩, ⟨_, PySem.W.mg_of X G y_MOST_WHEELS⟩, ⟨_, PySem.W.mg_of X G y_ROOMS⟩, ⟨_, PySem.W.mg_of X G y_THINGS⟩, ⟨_, PySem.W.mg_of X G y_TOP_HEIGHT⟩, ⟨_, PySem.W.mg_of X G y_WAYS⟩, ⟨_, PySem.W.mg_of X G y_WAY_A⟩, ⟨_, PySem.W.mg_of X G y_WAY_B⟩, ⟨_, PySem.W.mg_of X G y_WAY_BACK⟩, ⟨_, PySem.W.mg_of X G y_WAY_GATE⟩, ⟨_, PySem.W.mg_of X G y_WHEELS⟩, PySem.W.mg_of X G aC_Gate, PySem.W.mg_of X G aC_Plain, PySem.W.mg_of X G aC_Door, PySem.W.mg_of X G aC_Need, PySem.W.mg_of X G aC_Bar, PySem.W.mg_of X G aC_Wade, PySem.W.mg_of X G aC_Float⟩
  have TK : Tk K mg := ⟨⟨U_NOTHING_MORE, E0_NOTHING_MORE, E1_NOTHING_MORE, E2_NOTHING_MORE, E3_NOTHING_MORE, PySem.W.mg_of X G ay_NOTHING_MORE, fun _ => .inr ⟨_, _, _, ky_NOTHING_MORE, rfl, rfl, (show 6 ≤ sizeLine by decide), .cons rfl (.cons rfl (.cons rfl (.cons rfl (.cons ⟨_, rfl⟩ (.cons ⟨_, rfl⟩ (.nil))))))⟩, fun _ => .inr ⟨_, _, _, kz0_NOTHING_MORE, rfl, rfl, (show 0 ≤ sizeLine by decide), .nil⟩, fun _ => .inr ⟨_, _, _, kz1_NOTHING_MORE, rfl, rfl, (show 0 ≤ sizeLine by decide), .nil⟩, fun _ => .inr ⟨_, _, _, kz2_NOTHING_MORE, rfl, rfl, (show 0 ≤ sizeLine by decide), .nil⟩, fun _ => .inr ⟨_, _, _, kz3_NOTHING_MORE, rfl, rfl, (show 0 ≤ sizeLine by decide), .nil⟩, _, ky_NOTHING_MORE, rfl, rfl⟩⟩
  let xs : Xs := ⟨X_NoCellar⟩
  have TX : Tx K mg xs := ⟨PySem.W.mg_of X G ax_NoCellar, ⟨_, _, _, PySem.F.excBase_ValueError, xex_NoCellar, rfl⟩, xmo_NoCellar_0⟩
  have TC : Tcl K cs := ⟨⟨pg_Plain, hd_Plain, po_Plain, sa_Plain⟩, no_Plain_numbers, no_Plain_word, ⟨pg_Door, hd_Door, po_Door, sa_Door⟩, no_Door_numbers, no_Door_word, ⟨pg_Need, hd_Need, po_Need, sa_Need⟩, no_Need_kind, no_Need_numbers, no_Need_word, ⟨pg_Bar, hd_Bar, po_Bar, sa_Bar⟩, no_Bar_bar, no_Bar_numbers, no_Bar_word, ⟨pg_Wade, hd_Wade, po_Wade, sa_Wade⟩, no_Wade_height, no_Wade_kind, no_Wade_numbers, no_Wade_word, ⟨pg_Float, hd_Float, po_Float, sa_Float⟩, no_Float_height, no_Float_numbers, no_Float_word⟩
  have L__wall : Laid K mg "_wall" s__wall ["k"] := laid_mk X G a0 l0 c0 k0 fun _ _ _ _ _ _ us hl => match us, hl with | [_], _ => rfl
  have L_within : Laid K mg "within" s_within ["number", "least", "most"] := laid_mk X G a1 l1 c1 k1 fun _ _ _ _ _ _ us hl => match us, hl with | [_, _, _], _ => rfl
  have L_changed : Laid K mg "changed" s_changed ["parts", "place", "part"] := laid_mk X G a2 l2 c2 k2 fun _ _ _ _ _ _ us hl => match us, hl with | [_, _, _], _ => rfl
  have L_gate_of : Laid K mg "gate_of" s_gate_of ["gate"] := laid_mk X G a3 l3 c3 k3 fun _ _ _ _ _ _ us hl => match us, hl with | [_], _ => rfl
  have L_is_gate : Laid K mg "is_gate" s_is_gate ["thing"] := laid_mk X G a4 l4 c4 k4 fun _ _ _ _ _ _ us hl => match us, hl with | [_], _ => rfl
  have L_tops_of : Laid K mg "tops_of" s_tops_of ["word"] := laid_mk X G a5 l5 c5 k5 fun _ _ _ _ _ _ us hl => match us, hl with | [_], _ => rfl
  have L_cellar : ∃ d1 d2, LaidD K mg "cellar" s_cellar [.none, .none, .none, .int 0 d1, .int 0 d2] := ⟨_, _, laidD_mk X G a6 l6 c6 k6 d6_ rfl⟩
  have L_made_of : Laid K mg "made_of" s_made_of ["parts"] := laid_mk X G a7 l7 c7 k7 fun _ _ _ _ _ _ us hl => match us, hl with | [_], _ => rfl
  have L_check_number : Laid K mg "check_number" s_check_number ["name", "number", "least", "most"] := laid_mk X G a8 l8 c8 k8 fun _ _ _ _ _ _ us hl => match us, hl with | [_, _, _, _], _ => rfl
  have L_made_ways : Laid K mg "made_ways" s_made_ways ["rooms", "ways"] := laid_mk X G a9 l9 c9 k9 fun _ _ _ _ _ _ us hl => match us, hl with | [_, _], _ => rfl
  have L_made_pairs : Laid K mg "made_pairs" s_made_pairs ["name", "rooms", "pairs", "most_pairs", "least", "most"] := laid_mk X G a10 l10 c10 k10 fun _ _ _ _ _ _ us hl => match us, hl with | [_, _, _, _, _, _], _ => rfl
  have L_made_rows : Laid K mg "made_rows" s_made_rows ["name", "rows", "most"] := laid_mk X G a11 l11 c11 k11 fun _ _ _ _ _ _ us hl => match us, hl with | [_, _, _], _ => rfl
  have L_shown : Laid K mg "shown" s_shown ["cellar"] := laid_mk X G a12 l12 c12 k12 fun _ _ _ _ _ _ us hl => match us, hl with | [_], _ => rfl
  have L_read : Laid K mg "read" s_read ["text"] := laid_mk X G a13 l13 c13 k13 fun _ _ _ _ _ _ us hl => match us, hl with | [_], _ => rfl
  have L_numbers_line : Laid K mg "numbers_line" s_numbers_line ["word", "numbers"] := laid_mk X G a14 l14 c14 k14 fun _ _ _ _ _ _ us hl => match us, hl with | [_, _], _ => rfl
  have L_way_line : Laid K mg "way_line" s_way_line ["way"] := laid_mk X G a15 l15 c15 k15 fun _ _ _ _ _ _ us hl => match us, hl with | [_], _ => rfl
  have L_with_line : Laid K mg "with_line" s_with_line ["made", "number", "words"] := laid_mk X G a16 l16 c16 k16 fun _ _ _ _ _ _ us hl => match us, hl with | [_, _, _], _ => rfl
  have L_with_row : Laid K mg "with_row" s_with_row ["made", "words"] := laid_mk X G a17 l17 c17 k17 fun _ _ _ _ _ _ us hl => match us, hl with | [_, _], _ => rfl
  have L_part_of : Laid K mg "part_of" s_part_of ["word"] := laid_mk X G a18 l18 c18 k18 fun _ _ _ _ _ _ us hl => match us, hl with | [_], _ => rfl
  have L_way_of : Laid K mg "way_of" s_way_of ["words"] := laid_mk X G a19 l19 c19 k19 fun _ _ _ _ _ _ us hl => match us, hl with | [_], _ => rfl
  have L_numbers_behind : Laid K mg "numbers_behind" s_numbers_behind ["word", "words", "many"] := laid_mk X G a20 l20 c20 k20 fun _ _ _ _ _ _ us hl => match us, hl with | [_, _, _], _ => rfl
  have L_numbers_of : Laid K mg "numbers_of" s_numbers_of ["words"] := laid_mk X G a21 l21 c21 k21 fun _ _ _ _ _ _ us hl => match us, hl with | [_], _ => rfl
  have L_is_number : Laid K mg "is_number" s_is_number ["word"] := laid_mk X G a22 l22 c22 k22 fun _ _ _ _ _ _ us hl => match us, hl with | [_], _ => rfl
  have L__law_cell : Laid K mg "_law_cell" s__law_cell ["_law_script", "_law_k"] := laid_mk X G a23 l23 c23 k23 fun _ _ _ _ _ _ us hl => match us, hl with | [_, _], _ => rfl
  have L__law_gate : Laid K mg "_law_gate" s__law_gate ["_law_cell_here"] := laid_mk X G a24 l24 c24 k24 fun _ _ _ _ _ _ us hl => match us, hl with | [_], _ => rfl
  have L__law_cellar : Laid K mg "_law_cellar" s__law_cellar ["_law_script"] := laid_mk X G a25 l25 c25 k25 fun _ _ _ _ _ _ us hl => match us, hl with | [_], _ => rfl
  have L__law_lines : Laid K mg "_law_lines" s__law_lines ["_law_one"] := laid_mk X G a26 l26 c26 k26 fun _ _ _ _ _ _ us hl => match us, hl with | [_], _ => rfl
  have L__law_alike : Laid K mg "_law_alike" s__law_alike ["_law_found", "_law_due"] := laid_mk X G a27 l27 c27 k27 fun _ _ _ _ _ _ us hl => match us, hl with | [_, _], _ => rfl
  have F_Gate_init : Fun K "__init__" "Gate.__init__" s_Gate_init f29 _ := fun_mk l29 c29 k29
  have B_Gate_init := F_Gate_init.binds (ps := ["self", "word", "numbers"]) fun _ _ _ _ _ _ us hl => match us, hl with | [_, _, _], _ => rfl
  have F_Gate_told : Fun K "told" "Gate.told" s_Gate_told f30 _ := fun_mk l30 c30 k30
  have B_Gate_told := F_Gate_told.binds (ps := ["self"]) fun _ _ _ _ _ _ us hl => match us, hl with | [_], _ => rfl
  have F_Gate_text : Fun K "text" "Gate.text" s_Gate_text f31 _ := fun_mk l31 c31 k31
  have B_Gate_text := F_Gate_text.binds (ps := ["self"]) fun _ _ _ _ _ _ us hl => match us, hl with | [_], _ => rfl
  have F_Plain_init : Fun K "__init__" "Plain.__init__" s_Plain_init f32 _ := fun_mk l32 c32 k32
  have B_Plain_init := F_Plain_init.binds (ps := ["self"]) fun _ _ _ _ _ _ us hl => match us, hl with | [_], _ => rfl
  have F_Door_init : Fun K "__init__" "Door.__init__" s_Door_init f33 _ := fun_mk l33 c33 k33
  have B_Door_init := F_Door_init.binds (ps := ["self", "kind"]) fun _ _ _ _ _ _ us hl => match us, hl with | [_, _], _ => rfl
  have F_Need_init : Fun K "__init__" "Need.__init__" s_Need_init f34 _ := fun_mk l34 c34 k34
  have B_Need_init := F_Need_init.binds (ps := ["self", "kind"]) fun _ _ _ _ _ _ us hl => match us, hl with | [_, _], _ => rfl
  have F_Bar_init : Fun K "__init__" "Bar.__init__" s_Bar_init f35 _ := fun_mk l35 c35 k35
  have B_Bar_init := F_Bar_init.binds (ps := ["self", "bar"]) fun _ _ _ _ _ _ us hl => match us, hl with | [_, _], _ => rfl
  have F_Wade_init : Fun K "__init__" "Wade.__init__" s_Wade_init f36 _ := fun_mk l36 c36 k36
  have B_Wade_init := F_Wade_init.binds (ps := ["self", "height", "kind"]) fun _ _ _ _ _ _ us hl => match us, hl with | [_, _, _], _ => rfl
  have F_Float_init : Fun K "__init__" "Float.__init__" s_Float_init f37 _ := fun_mk l37 c37 k37
  have B_Float_init := F_Float_init.binds (ps := ["self", "height"]) fun _ _ _ _ _ _ us hl => match us, hl with | [_, _], _ => rfl
  have LM_Plain_text : LaidM K cs.Plain "text" "Gate.text" s_Gate_text ["self"] := ⟨_, _, F_Gate_text, ⟨ai_Plain_text, i31, k31⟩, B_Gate_text⟩
  have LM_Plain_told : LaidM K cs.Plain "told" "Gate.told" s_Gate_told ["self"] := ⟨_, _, F_Gate_told, ⟨ai_Plain_told, i30, k30⟩, B_Gate_told⟩
  have LI_Plain : LaidI K mg "Plain" cs.Plain "Plain.__init__" s_Plain_init ["self"] := ⟨⟨_, _, F_Plain_init, ⟨mk_Plain, a32, i32, kc_Plain⟩, B_Plain_init⟩, T.c_Plain⟩
  have LM_Door_text : LaidM K cs.Door "text" "Gate.text" s_Gate_text ["self"] := ⟨_, _, F_Gate_text, ⟨ai_Door_text, i31, k31⟩, B_Gate_text⟩
  have LM_Door_told : LaidM K cs.Door "told" "Gate.told" s_Gate_told ["self"] := ⟨_, _, F_Gate_told, ⟨ai_Door_told, i30, k30⟩, B_Gate_told⟩
  have LI_Door : LaidI K mg "Door" cs.Door "Door.__init__" s_Door_init ["self", "kind"] := ⟨⟨_, _, F_Door_init, ⟨mk_Door, a33, i33, kc_Door⟩, B_Door_init⟩, T.c_Door⟩
  have LM_Need_text : LaidM K cs.Need "text" "Gate.text" s_Gate_text ["self"] := ⟨_, _, F_Gate_text, ⟨ai_Need_text, i31, k31⟩, B_Gate_text⟩
  have LM_Need_told : LaidM K cs.Need "told" "Gate.told" s_Gate_told ["self"] := ⟨_, _, F_Gate_told, ⟨ai_Need_told, i30, k30⟩, B_Gate_told⟩
  have LI_Need : LaidI K mg "Need" cs.Need "Need.__init__" s_Need_init ["self", "kind"] := ⟨⟨_, _, F_Need_init, ⟨mk_Need, a34, i34, kc_Need⟩, B_Need_init⟩, T.c_Need⟩
  have LM_Bar_text : LaidM K cs.Bar "text" "Gate.text" s_Gate_text ["self"] := ⟨_, _, F_Gate_text, ⟨ai_Bar_text, i31, k31⟩, B_Gate_text⟩
  have LM_Bar_told : LaidM K cs.Bar "told" "Gate.told" s_Gate_told ["self"] := ⟨_, _, F_Gate_told, ⟨ai_Bar_told, i30, k30⟩, B_Gate_told⟩
  have LI_Bar : LaidI K mg "Bar" cs.Bar "Bar.__init__" s_Bar_init ["self", "bar"] := ⟨⟨_, _, F_Bar_init, ⟨mk_Bar, a35, i35, kc_Bar⟩, B_Bar_init⟩, T.c_Bar⟩
  have LM_Wade_text : LaidM K cs.Wade "text" "Gate.text" s_Gate_text ["self"] := ⟨_, _, F_Gate_text, ⟨ai_Wade_text, i31, k31⟩, B_Gate_text⟩
  have LM_Wade_told : LaidM K cs.Wade "told" "Gate.told" s_Gate_told ["self"] := ⟨_, _, F_Gate_told, ⟨ai_Wade_told, i30, k30⟩, B_Gate_told⟩
  have LI_Wade : LaidI K mg "Wade" cs.Wade "Wade.__init__" s_Wade_init ["self", "height", "kind"] := ⟨⟨_, _, F_Wade_init, ⟨mk_Wade, a36, i36, kc_Wade⟩, B_Wade_init⟩, T.c_Wade⟩
  have LM_Float_text : LaidM K cs.Float "text" "Gate.text" s_Gate_text ["self"] := ⟨_, _, F_Gate_text, ⟨ai_Float_text, i31, k31⟩, B_Gate_text⟩
  have LM_Float_told : LaidM K cs.Float "told" "Gate.told" s_Gate_told ["self"] := ⟨_, _, F_Gate_told, ⟨ai_Float_told, i30, k30⟩, B_Gate_told⟩
  have LI_Float : LaidI K mg "Float" cs.Float "Float.__init__" s_Float_init ["self", "height"] := ⟨⟨_, _, F_Float_init, ⟨mk_Float, a37, i37, kc_Float⟩, B_Float_init⟩, T.c_Float⟩
  have LC_Gate_init : LaidC K mg "Gate" "__init__" "Gate.__init__" s_Gate_init ["self", "word", "numbers"] := ⟨C_Gate, _, _, T.c_Gate, F_Gate_init, ⟨rd_Gate___init__, fc_Gate___init__, sg_Gate___init__, k29⟩, B_Gate_init⟩
  exact ⟨PySem.W.fnOf "law" "law" (defArgs s_law) (defBody s_law) (defScope s_law) .none kV28 dc28 pm28 an28 cd28 ct28, fun s v => .of_eq rfl, fun base _ _ => ok_law (fun_mk l28 c28 k28) T TK TX TC L__wall L_within L_changed L_gate_of L_is_gate L_tops_of L_cellar L_made_of L_check_number L_made_ways L_made_pairs L_made_rows L_shown L_read L_numbers_line L_way_line L_with_line L_with_row L_part_of L_way_of L_numbers_behind L_numbers_of L_is_number L__law_cell L__law_gate L__law_cellar L__law_lines L__law_alike LM_Plain_text LM_Plain_told LI_Plain LM_Door_text LM_Door_told LI_Door LM_Need_text LM_Need_told LI_Need LM_Bar_text LM_Bar_told LI_Bar LM_Wade_text LM_Wade_told LI_Wade LM_Float_text LM_Float_told LI_Float LC_Gate_init⟩
theorem walk {l : PySem.W.OpenLaw} {q : Program} {loose : List Str} {XP : (Str → Option Value) → Heap → Prop} {YP : World → Heap → Prop} {d : DefRec} {K : Params → PySem.W.Frag} (hn : l.most = some 63) (hdf : d.params.defaults = [])
    (hY : ∀ (w : World) (h : Heap), YP w h → (K w.params).In h)
    (F : ∀ (w : World) (mg : Str → Option Value) (fa : Addr) (h : Heap), (K w.params).In h → h.Ns mainGlobals mg → mg d.name = some (.ref fa) →
      ∃ fd : FuncData, (∀ (s : Shared) (u : Value), BindsTo s fd ⟨[u], []⟩ [("_law_script", u)]) ∧ ∀ base : Heap, (K w.params).In base → base.Ns mainGlobals mg → FnOk l.prog w (K w.params) mg base CX0 9 fa fd ["_law_script"] (spLaw (K w.params))) :
    PySem.W.WalkO q loose XP YP l.row.toRowW d [] (fun f vs => PySem.call f vs) :=
  L2.walk_of (n := 63) (k := 9) (x := "_law_script") (CX := fun _ => CX0) (sp := fun w => spLaw (K w.params)) hn (by decide) hdf ⟨rfl, by decide, by decide, rfl⟩ hY F (fun _ _ a ns hl _ hS => ⟨a, ns, rfl, hS, hl, fun _ => rfl⟩) fun _ _ _ _ _ z => z
end Mine
open PySem PySem.W PyProof.Rows
set_option maxRecDepth 100000 in
set_option maxHeartbeats 0 in
theorem PySem.Challenge.cw_delve_k81_cellars_written_holds : PySem.Challenge.rw_delve_k81_cellars_written.Holds := by
  w_on; o_law; k_head; (case hw => w_witness2)
  k_fill
  refine Mine.walk (l := PySem.Challenge.rw_delve_k81_cellars_written) rfl rfl (fun w h Y => PySem.W.kIn_of Y) ?F
  case F =>
    intro w mg fa h KX G hmg
    refine' Mine.all_mk KX G hmg ?aC_Gate ?aC_Plain ?aC_Door ?aC_Need ?aC_Bar ?aC_Wade ?aC_Float ?a0 ?l0 ?c0 ?k0 ?a1 ?l1 ?c1 ?k1 ?a2 ?l2 ?c2 ?k2 ?a3 ?l3 ?c3 ?k3 ?a4 ?l4 ?c4 ?k4 ?a5 ?l5 ?c5 ?k5 ?a6 ?l6 ?d6_ ?c6 ?k6 ?a7 ?l7 ?c7 ?k7 ?a8 ?l8 ?c8 ?k8 ?a9 ?l9 ?c9 ?k9 ?a10 ?l10 ?c10 ?k10 ?a11 ?l11 ?c11 ?k11 ?a12 ?l12 ?c12 ?k12 ?a13 ?l13 ?c13 ?k13 ?a14 ?l14 ?c14 ?k14 ?a15 ?l15 ?c15 ?k15 ?a16 ?l16 ?c16 ?k16 ?a17 ?l17 ?c17 ?k17 ?a18 ?l18 ?c18 ?k18 ?a19 ?l19 ?c19 ?k19 ?a20 ?l20 ?c20 ?k20 ?a21 ?l21 ?c21 ?k21 ?a22 ?l22 ?c22 ?k22 ?a23 ?l23 ?c23 ?k23 ?a24 ?l24 ?c24 ?k24 ?a25 ?l25 ?c25 ?k25 ?a26 ?l26 ?c26 ?k26 ?a27 ?l27 ?c27 ?k27 ?a28 ?l28 ?c28 ?k28 ?a29 ?i29 ?l29 ?c29 ?k29 ?a30 ?i30 ?l30 ?c30 ?k30 ?a31 ?i31 ?l31 ?c31 ?k31 ?a32 ?i32 ?l32 ?c32 ?k32 ?a33 ?i33 ?l33 ?c33 ?k33 ?a34 ?i34 ?l34 ?c34 ?k34 ?a35 ?i35 ?l35 ?c35 ?k35 ?a36 ?i36 ?l36 ?c36 ?k36 ?a37 ?i37 ?l37 ?c37 ?k37 ?pg_Plain ?hd_Plain ?po_Plain ?sa_Plain ?mk_Plain ?kc_Plain ?no_Plain_numbers ?no_Plain_word ?ai_Plain_text ?ai_Plain_told ?pg_Door ?hd_Door ?po_Door ?sa_Door ?mk_Door ?kc_Door ?no_Door_numbers ?no_Door_word ?ai_Door_text ?ai_Door_told ?pg_Need ?hd_Need ?po_Need ?sa_Need ?mk_Need ?kc_Need ?no_Need_kind ?no_Need_numbers ?no_Need_word ?ai_Need_text ?ai_Need_told ?pg_Bar ?hd_Bar ?po_Bar ?sa_Bar ?mk_Bar ?kc_Bar ?no_Bar_bar ?no_Bar_numbers ?no_Bar_word ?ai_Bar_text ?ai_Bar_told ?pg_Wade ?hd_Wade ?po_Wade ?sa_Wade ?mk_Wade ?kc_Wade ?no_Wade_height ?no_Wade_kind ?no_Wade_numbers ?no_Wade_word ?ai_Wade_text ?ai_Wade_told ?pg_Float ?hd_Float ?po_Float ?sa_Float ?mk_Float ?kc_Float ?no_Float_height ?no_Float_numbers ?no_Float_word ?ai_Float_text ?ai_Float_told ?rd_Gate___init__ ?fc_Gate___init__ ?sg_Gate___init__ ?ax_NoCellar ?xex_NoCellar ?xmo_NoCellar_0 ?z_all ?z_any ?z_bool ?z_enumerate ?z_int ?z_isinstance ?z_len ?z_list ?z_min ?z_range ?z_str ?z_tuple ?z_zip ?ay_NOTHING_MORE ?ky_NOTHING_MORE ?kz0_NOTHING_MORE ?kz1_NOTHING_MORE ?kz2_NOTHING_MORE ?kz3_NOTHING_MORE ?y_ALL_BARS ?y_FIGURES ?y_FIRST ?y_FIRST_BARS ?y_FIRST_LINES ?y_FIRST_WATER ?y_LAST ?y_LAST_BAR ?y_LAST_KIND ?y_LEVERS ?y_MOST_LEVERS ?y_MOST_ROOMS ?y_MOST_THINGS ?y_MOST_WAYS ?y_MOST_WHEELS ?y_ROOMS ?y_THINGS ?y_TOP_HEIGHT ?y_WAYS ?y_WAY_A ?y_WAY_B ?y_WAY_BACK ?y_WAY_GATE ?y_WHEELS
    (case aC_Gate => k_is)
    (case aC_Plain => k_is)
    (case aC_Door => k_is)
    (case aC_Need => k_is)
    (case aC_Bar => k_is)
    (case aC_Wade => k_is)
    (case aC_Float => k_is)
    (case a0 => k_is)
    (case l0 => k_is)
    (case c0 => k_is)
    (case k0 => k_is)
    (case a1 => k_is)
    (case l1 => k_is)
    (case c1 => k_is)
    (case k1 => k_is)
    (case a2 => k_is)
    (case l2 => k_is)
    (case c2 => k_is)
    (case k2 => k_is)
    (case a3 => k_is)
    (case l3 => k_is)
    (case c3 => k_is)
    (case k3 => k_is)
    (case a4 => k_is)
    (case l4 => k_is)
    (case c4 => k_is)
    (case k4 => k_is)
    (case a5 => k_is)
    (case l5 => k_is)
    (case c5 => k_is)
    (case k5 => k_is)
    (case a6 => k_is)
    (case l6 => k_is)
    (case d6_ => k_is)
    (case c6 => k_is)
    (case k6 => k_is)
    (case a7 => k_is)
    (case l7 => k_is)
    (case c7 => k_is)
    (case k7 => k_is)
    (case a8 => k_is)
    (case l8 => k_is)
    (case c8 => k_is)
    (case k8 => k_is)
    (case a9 => k_is)
    (case l9 => k_is)
    (case c9 => k_is)
    (case k9 => k_is)
    (case a10 => k_is)
    (case l10 => k_is)
    (case c10 => k_is)
    (case k10 => k_is)
    (case a11 => k_is)
    (case l11 => k_is)
    (case c11 => k_is)
    (case k11 => k_is)
    (case a12 => k_is)
    (case l12 => k_is)
    (case c12 => k_is)
    (case k12 => k_is)
    (case a13 => k_is)
    (case l13 => k_is)
    (case c13 => k_is)
    (case k13 => k_is)
    (case a14 => k_is)
    (case l14 => k_is)
    (case c14 => k_is)
    (case k14 => k_is)
    (case a15 => k_is)
    (case l15 => k_is)
    (case c15 => k_is)
    (case k15 => k_is)
    (case a16 => k_is)
    (case l16 => k_is)
    (case c16 => k_is)
    (case k16 => k_is)
    (case a17 => k_is)
    (case l17 => k_is)
    (case c17 => k_is)
    (case k17 => k_is)
    (case a18 => k_is)
    (case l18 => k_is)
    (case c18 => k_is)
    (case k18 => k_is)
    (case a19 => k_is)
    (case l19 => k_is)
    (case c19 => k_is)
    (case k19 => k_is)
    (case a20 => k_is)
    (case l20 => k_is)
    (case c20 => k_is)
    (case k20 => k_is)
    (case a21 => k_is)
    (case l21 => k_is)
    (case c21 => k_is)
    (case k21 => k_is)
    (case a22 => k_is)
    (case l22 => k_is)
    (case c22 => k_is)
    (case k22 => k_is)
    (case a23 => k_is)
    (case l23 => k_is)
    (case c23 => k_is)
    (case k23 => k_is)
    (case a24 => k_is)
    (case l24 => k_is)
    (case c24 => k_is)
    (case k24 => k_is)
    (case a25 => k_is)
    (case l25 => k_is)
    (case c25 => k_is)
    (case k25 => k_is)
    (case a26 => k_is)
    (case l26 => k_is)
    (case c26 => k_is)
    (case k26 => k_is)
    (case a27 => k_is)
    (case l27 => k_is)
    (case c27 => k_is)
    (case k27 => k_is)
    (case a28 => k_is)
    (case l28 => k_is)
    (case c28 => k_is)
    (case k28 => k_is)
    (case a29 => k_is)
    (case i29 => k_is)
    (case l29 => k_is)
    (case c29 => k_is)
    (case k29 => k_is)
    (case a30 => k_is)
    (case i30 => k_is)
    (case l30 => k_is)
    (case c30 => k_is)
    (case k30 => k_is)
    (case a31 => k_is)
    (case i31 => k_is)
    (case l31 => k_is)
    (case c31 => k_is)
    (case k31 => k_is)
    (case a32 => k_is)
    (case i32 => k_is)
    (case l32 => k_is)
    (case c32 => k_is)
    (case k32 => k_is)
    (case a33 => k_is)
    (case i33 => k_is)
    (case l33 => k_is)
    (case c33 => k_is)
    (case k33 => k_is)
    (case a34 => k_is)
    (case i34 => k_is)
    (case l34 => k_is)
    (case c34 => k_is)
    (case k34 => k_is)
    (case a35 => k_is)
    (case i35 => k_is)
    (case l35 => k_is)
    (case c35 => k_is)
    (case k35 => k_is)
    (case a36 => k_is)
    (case i36 => k_is)
    (case l36 => k_is)
    (case c36 => k_is)
    (case k36 => k_is)
    (case a37 => k_is)
    (case i37 => k_is)
    (case l37 => k_is)
    (case c37 => k_is)
    (case k37 => k_is)
    (case pg_Plain => k_is)
    (case hd_Plain => k_is)
    (case po_Plain => k_is)
    (case sa_Plain => k_is)
    (case mk_Plain => k_is)
    (case kc_Plain => k_is)
    (case no_Plain_numbers => k_is)
    (case no_Plain_word => k_is)
    (case ai_Plain_text => k_is)
    (case ai_Plain_told => k_is)
    (case pg_Door => k_is)
    (case hd_Door => k_is)
    (case po_Door => k_is)
    (case sa_Door => k_is)
    (case mk_Door => k_is)
    (case kc_Door => k_is)
    (case no_Door_numbers => k_is)
    (case no_Door_word => k_is)
    (case ai_Door_text => k_is)
    (case ai_Door_told => k_is)
    (case pg_Need => k_is)
    (case hd_Need => k_is)
    (case po_Need => k_is)
    (case sa_Need => k_is)
    (case mk_Need => k_is)
    (case kc_Need => k_is)
    (case no_Need_kind => k_is)
    (case no_Need_numbers => k_is)
    (case no_Need_word => k_is)
    (case ai_Need_text => k_is)
    (case ai_Need_told => k_is)
    (case pg_Bar => k_is)
    (case hd_Bar => k_is)
    (case po_Bar => k_is)
    (case sa_Bar => k_is)
    (case mk_Bar => k_is)
    (case kc_Bar => k_is)
    (case no_Bar_bar => k_is)
    (case no_Bar_numbers => k_is)
    (case no_Bar_word => k_is)
    (case ai_Bar_text => k_is)
    (case ai_Bar_told => k_is)
    (case pg_Wade => k_is)
    (case hd_Wade => k_is)
    (case po_Wade => k_is)
    (case sa_Wade => k_is)
    (case mk_Wade => k_is)
    (case kc_Wade => k_is)
    (case no_Wade_height => k_is)
    (case no_Wade_kind => k_is)
    (case no_Wade_numbers => k_is)
    (case no_Wade_word => k_is)
    (case ai_Wade_text => k_is)
    (case ai_Wade_told => k_is)
    (case pg_Float => k_is)
    (case hd_Float => k_is)
    (case po_Float => k_is)
    (case sa_Float => k_is)
    (case mk_Float => k_is)
    (case kc_Float => k_is)
    (case no_Float_height => k_is)
    (case no_Float_numbers => k_is)
    (case no_Float_word => k_is)
    (case ai_Float_text => k_is)
    (case ai_Float_told => k_is)
    (case rd_Gate___init__ => k_is)
    (case fc_Gate___init__ => k_is)
    (case sg_Gate___init__ => k_is)
    (case ax_NoCellar => k_is)
    (case xex_NoCellar => k_exc)
    (case xmo_NoCellar_0 => kts_exm)
    (case z_all => k_is)
    (case z_any => k_is)
    (case z_bool => k_is)
    (case z_enumerate => k_is)
    (case z_int => k_is)
    (case z_isinstance => k_is)
    (case z_len => k_is)
    (case z_list => k_is)
    (case z_min => k_is)
    (case z_range => k_is)
    (case z_str => k_is)
    (case z_tuple => k_is)
    (case z_zip => k_is)
    (case ay_NOTHING_MORE => k_is)
    (case ky_NOTHING_MORE => k_is)
    (case kz0_NOTHING_MORE => k_is)
    (case kz1_NOTHING_MORE => k_is)
    (case kz2_NOTHING_MORE => k_is)
    (case kz3_NOTHING_MORE => k_is)
    (case y_ALL_BARS => k_is)
    (case y_FIGURES => k_is)
    (case y_FIRST => k_is)
    (case y_FIRST_BARS => k_is)
    (case y_FIRST_LINES => k_is)
    (case y_FIRST_WATER => k_is)
    (case y_LAST => k_is)
    (case y_LAST_BAR => k_is)
    (case y_LAST_KIND => k_is)
    (case y_LEVERS => k_is)
    (case y_MOST_LEVERS => k_is)
    (case y_MOST_ROOMS => k_is)
    (case y_MOST_THINGS => k_is)
    (case y_MOST_WAYS => k_is)
    (case y_MOST_WHEELS => k_is)
    (case y_ROOMS => k_is)
    (case y_THINGS => k_is)
    (case y_TOP_HEIGHT => k_is)
    (case y_WAYS => k_is)
    (case y_WAY_A => k_is)
    (case y_WAY_B => k_is)
    (case y_WAY_BACK => k_is)
    (case y_WAY_GATE => k_is)
    (case y_WHEELS => k_is)

