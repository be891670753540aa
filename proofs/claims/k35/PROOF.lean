import PyProof.Rows.All
import Wide.All
import OpenK.AllK
import Wide.FinOn
import Lean
import PyProof.EqAt
import PyProof.EqKinds
import PyProof.TupleCall
import PyProof.NeData
import PyProof.DictRoadsH
import Wide.Seal
import PyProof.CompMap
import PyProof.DictIter
import PyProof.DictWalks
import PyProof.CompUse
import PyProof.P3In
import OpenK.KOwn
import KE.KTryMore
import PyProof.RulesAs
import PyProof.ExcArgs
import PyProof.NsDelKeeps
import KE.KIsAll
import OpenK.KDescr
import PyProof.ZipIter
import PyProof.TupleIter
import KE.KRevSl
import PyProof.Rows.SortWalk
import PyProof.MeetsSeq
import KE.KDictSum
import PyProof.EnumMake
import PyProof.EnumFor
import PyProof.EnumStmt
import PyProof.ListRange
import KE.KSortKey
import PyProof.Rows.SortStr
import PyProof.Rows.CallKwBuiltin
import KE.KTab
import PyProof.ConsumeWalk
import PyProof.Comp
import PyProof.ForAny
import PyProof.Rows.StrJoin2
import PyProof.CallStr
import KE.KSortTup
import PySem.Challenge.RW_askring_k35_whole_nothing_lost_nobody_sl
namespace PySem.W.Fast
def tw10044467914359924096:=True
def tw10072337083894399984:=True
def tw10100985774076506060:=True
def tw10162109502621282749:=True
def tw10238116615720197113:=True
def tw10316725342762184777:=True
def tw10321782906144747619:=True
def tw1034296243542258269:=True
def tw10388736672313964364:=True
def tw10389733599168481656:=True
def tw1042163287588959506:=True
def tw10492726030233397777:=True
def tw10503740793541276425:=True
def tw1051460498285813807:=True
def tw10543971851330888115:=True
def tw10559103029858573010:=True
def tw10598470264326494004:=True
def tw10621085756381877132:=True
def tw10635120798337548217:=True
def tw10686664788559704367:=True
def tw10696100660832616309:=True
def tw10714023897998302:=True
def tw10780315287346825618:=True
def tw10784235678309800767:=True
def tw10789994378332573727:=True
def tw10790508374974160168:=True
def tw10838035275056960070:=True
def tw10839761855999006693:=True
def tw10919178551829057260:=True
def tw10919702269827142188:=True
def tw10957070139235753662:=True
def tw10992176291710863794:=True
def tw11029833292034445511:=True
def tw11034800767756570030:=True
def tw11048557552963896428:=True
def tw11071090112924338982:=True
def tw11138263338338081251:=True
def tw11142696323248690229:=True
def tw11163776352858899420:=True
def tw11201167325925970203:=True
def tw11302138537982457946:=True
def tw11302628502171528640:=True
def tw11343287680891084282:=True
def tw11396404145786655639:=True
def tw11422567404763493501:=True
def tw11423712523924181061:=True
def tw11463402932962614240:=True
def tw1155745150486542926:=True
def tw11602685229062070748:=True
def tw11605036333186536188:=True
def tw1163412457521202809:=True
def tw11718306450488001812:=True
def tw1172989986484120582:=True
def tw11735637988024176056:=True
def tw11767544990702289454:=True
def tw11788764318208580302:=True
def tw11811906493207462712:=True
def tw11849408922027969074:=True
def tw11864086180872974736:=True
def tw11888132720009994314:=True
def tw11907282060368894633:=True
def tw11927169747979005300:=True
def tw12065468432457944947:=True
def tw12070841781573219523:=True
def tw12108522376495925099:=True
def tw12114213554650091422:=True
def tw12126746939320060823:=True
def tw12155178279951771362:=True
def tw12270576348528042206:=True
def tw12353195605650330340:=True
def tw12390523109097706102:=True
def tw1250141203857857797:=True
def tw12514579405866254697:=True
def tw12533384277655837233:=True
def tw12535338986567405542:=True
def tw12542024344955094512:=True
def tw1255108753374489515:=True
def tw12553962298410024099:=True
def tw12626294666132020516:=True
def tw12630871369769206635:=True
def tw12638077828429987279:=True
def tw12695462689855374649:=True
def tw12696578966189177832:=True
def tw127304691658380829:=True
def tw12731909998338600517:=True
def tw12733167838792619176:=True
def tw12892270461193922514:=True
def tw12895111186700310208:=True
def tw12916429392459600103:=True
def tw12916441698177395115:=True
def tw12928035873358572716:=True
def tw12947433848770088902:=True
def tw12972441291081122742:=True
def tw12979633583483610122:=True
def tw12980597135492159889:=True
def tw12982763723854865342:=True
def tw129990346375983781:=True
def tw13014881088149439871:=True
def tw13031673984397617808:=True
def tw13048344098808935935:=True
def tw1305150449206506019:=True
def tw13202647034060923185:=True
def tw13220585050513450267:=True
def tw13262545429518301607:=True
def tw13295450088033206369:=True
def tw13298602098788938533:=True
def tw13319562514533415759:=True
def tw13349537627817221809:=True
def tw13381832374592240285:=True
def tw13382165905625878299:=True
def tw13392958698521508929:=True
def tw13442520025396584705:=True
def tw13446283312522580385:=True
def tw13451687384217101065:=True
def tw13466831403525934936:=True
def tw13483898884763958674:=True
def tw13548526379239186878:=True
def tw13558307146033553160:=True
def tw13584266981889212371:=True
def tw13635957163089388986:=True
def tw13660043833826200268:=True
def tw13682217014241743755:=True
def tw13722556552238904441:=True
def tw13761714624194543034:=True
def tw13767102761724293315:=True
def tw13785422769162891713:=True
def tw1379248979783082442:=True
def tw1388955021731137255:=True
def tw13892597601065425559:=True
def tw13909281803081991226:=True
def tw13943105418361607878:=True
def tw13979710607465351480:=True
def tw13981357696476939842:=True
def tw14003683051893824052:=True
def tw14042861352168161497:=True
def tw14055224895921801638:=True
def tw14101831497041585129:=True
def tw14155255132945470779:=True
def tw14176038691795647457:=True
def tw14205612482665674300:=True
def tw14212057493629547082:=True
def tw14238146882515653043:=True
def tw14284015047850597344:=True
def tw14322460102260231429:=True
def tw14323382856119286772:=True
def tw14328799477148875375:=True
def tw14333375660246700100:=True
def tw14346050876108815072:=True
def tw14363068195659406378:=True
def tw14371050522164227635:=True
def tw14371639698094280738:=True
def tw14425044604995106518:=True
def tw14582966458999418847:=True
def tw14593820991616036440:=True
def tw14610856707078773838:=True
def tw14672227076415307358:=True
def tw14694999150998145554:=True
def tw14737332612511048551:=True
def tw14761539951877463598:=True
def tw14831529688688599028:=True
def tw14884888780039814701:=True
def tw14890232110593213283:=True
def tw14924159484528003496:=True
def tw14974064782027669395:=True
def tw15050688496944111131:=True
def tw15056887449478465201:=True
def tw15135841902794509572:=True
def tw15160115509080527550:=True
def tw15170912171109728398:=True
def tw15243540309863436598:=True
def tw15261849909660296762:=True
def tw15284250335989403955:=True
def tw15326122743890402035:=True
def tw15328985704912892913:=True
def tw15336159628547887384:=True
def tw15337281533911292012:=True
def tw15340983732612209472:=True
def tw15388383029476225505:=True
def tw15423055182526827431:=True
def tw15459407920750971754:=True
def tw15463581116371189932:=True
def tw15468126582398876465:=True
def tw15468667025154068557:=True
def tw15479705414515026307:=True
def tw15570085019207739703:=True
def tw15622646255546799166:=True
def tw15654220825569827961:=True
def tw15693004431086377475:=True
def tw15693395025049683381:=True
def tw15735022631082967289:=True
def tw15799570655501136148:=True
def tw15875454956767630058:=True
def tw15902726795690018806:=True
def tw1591203832271984416:=True
def tw15930944238475488160:=True
def tw15943991817550977501:=True
def tw1595184078216098376:=True
def tw15957412227743251041:=True
def tw15959252433082023838:=True
def tw15973588595947829566:=True
def tw1604910351286741789:=True
def tw16099882646655369904:=True
def tw16143234089692999189:=True
def tw16233473195058442476:=True
def tw16258583619714674066:=True
def tw16291286950870789693:=True
def tw16302503968283335684:=True
def tw16374976222554174417:=True
def tw1639582093885401348:=True
def tw16545320808612175153:=True
def tw16565087202131004501:=True
def tw16608301362143275399:=True
def tw16641615870633654987:=True
def tw16656148929086694595:=True
def tw16685774177831787291:=True
def tw16697538319403639787:=True
def tw16711323466657869216:=True
def tw16793560163448035913:=True
def tw16799324322300853699:=True
def tw16904284373392907210:=True
def tw1692581109089329570:=True
def tw16936392474110941077:=True
def tw16953862880799280827:=True
def tw1697563286486248977:=True
def tw16991971301964425806:=True
def tw17034853763736045028:=True
def tw17125510982637660374:=True
def tw17133937632241215540:=True
def tw17135002765500955397:=True
def tw17135658153944809797:=True
def tw17204540373588615312:=True
def tw17259207450801735974:=True
def tw17332142617207430557:=True
def tw17393313435325160641:=True
def tw17404345199289568497:=True
def tw17422826585096894845:=True
def tw17424425756300503708:=True
def tw17470406720820118659:=True
def tw17481325892790551374:=True
def tw17499110528367685566:=True
def tw17512388008498489215:=True
def tw1756869684687021195:=True
def tw17598709907697704283:=True
def tw17603821161570494958:=True
def tw17628611827639568289:=True
def tw17644597635370105184:=True
def tw17679727472793830581:=True
def tw17758059384330156051:=True
def tw17786676702426522104:=True
def tw17804855551507616649:=True
def tw1784871486262377081:=True
def tw17874485053625941879:=True
def tw17879608206720317545:=True
def tw17904188338031519706:=True
def tw17907428196643984429:=True
def tw17908489953935048522:=True
def tw17973009355492885648:=True
def tw18039458677162414962:=True
def tw18118910044541038451:=True
def tw18121488230643857859:=True
def tw18157103864695816115:=True
def tw18206345763594798718:=True
def tw18213701203589591612:=True
def tw18265373752119169512:=True
def tw18282165558465107713:=True
def tw18320712167895224940:=True
def tw1833021808145297611:=True
def tw18332875956083226759:=True
def tw18393882023004527720:=True
def tw18407056607796552367:=True
def tw1846079223427127326:=True
def tw1892096290237096576:=True
def tw1914015571266105297:=True
def tw1929755595041676141:=True
def tw1956463175500552582:=True
def tw1962772881464075186:=True
def tw1978263991498185770:=True
def tw1978767889078445238:=True
def tw2099647844757503364:=True
def tw2110531597686644286:=True
def tw2130493235765583192:=True
def tw21929387264184205:=True
def tw2246925407328489334:=True
def tw2248836519980157579:=True
def tw2283184535742728033:=True
def tw2293570362878599820:=True
def tw2328837492796045943:=True
def tw2339950466577238463:=True
def tw2407742446226596052:=True
def tw2410122137326354424:=True
def tw2454977399740255405:=True
def tw2504354198413023150:=True
def tw2552698440145243103:=True
def tw2686733101486054271:=True
def tw2745996554428698615:=True
def tw2790710452620229567:=True
def tw2809215795047654:=True
def tw2844485395121195010:=True
def tw2893596049531596993:=True
def tw2907756308226464119:=True
def tw2909353388610068050:=True
def tw3000691930305210491:=True
def tw3008892291505148430:=True
def tw3032257018254768362:=True
def tw3068913357129113351:=True
def tw3071532014107420312:=True
def tw3186916289751739270:=True
def tw3201127900821794003:=True
def tw3251128745882777368:=True
def tw3277668036296291615:=True
def tw3292601675721569647:=True
def tw3304307988098165360:=True
def tw3395503373551008920:=True
def tw3398452421861183104:=True
def tw3427423312769634400:=True
def tw3480559605807551506:=True
def tw3490554212210143937:=True
def tw3529431098106842821:=True
def tw3566165935092731671:=True
def tw3586397390423042420:=True
def tw3611342284400420446:=True
def tw3648453556784049852:=True
def tw3649632750291049068:=True
def tw3700827820512748471:=True
def tw3731890409849720685:=True
def tw3739216431421741895:=True
def tw37800541422204097:=True
def tw3803191404087560811:=True
def tw3859232313267621581:=True
def tw3944879970496550911:=True
def tw3976757077101870163:=True
def tw4024199221850610606:=True
def tw4044159643727855894:=True
def tw4048701668657913069:=True
def tw406624098182552885:=True
def tw4090982870065199923:=True
def tw4132494720033456896:=True
def tw4139767652712123359:=True
def tw4188972919648329622:=True
def tw4212238570092618549:=True
def tw4236294621989299392:=True
def tw4249647832082614726:=True
def tw429106153467527002:=True
def tw4291826150298083981:=True
def tw4342988932984122444:=True
def tw4359230220092344348:=True
def tw4397303965449614201:=True
def tw4402404255932274494:=True
def tw4423199979463914263:=True
def tw4429529129744190456:=True
def tw4455567732065424179:=True
def tw4468920052749390862:=True
def tw4567173012117607317:=True
def tw4580617298433839327:=True
def tw459084317332728127:=True
def tw460418531242314508:=True
def tw468398881756414929:=True
def tw4743742384985147835:=True
def tw4764099986695161732:=True
def tw4766313583804298535:=True
def tw4794702068224950882:=True
def tw4804427282398024862:=True
def tw480563584335631286:=True
def tw4825438520565552504:=True
def tw4851048218969957320:=True
def tw4883290706769244064:=True
def tw4962757275285844815:=True
def tw4992033865852806095:=True
def tw5073644271886270575:=True
def tw5091033291128532734:=True
def tw5164670308980064031:=True
def tw5165613266496811666:=True
def tw5168695546078816700:=True
def tw5193103813430751743:=True
def tw5194431110681828673:=True
def tw5201533260516825534:=True
def tw5224643365321216159:=True
def tw5233549895161572187:=True
def tw5234778212504360089:=True
def tw5274317623165202710:=True
def tw5288810853296598585:=True
def tw5303832804273670480:=True
def tw5330221922753872385:=True
def tw5434931526058447847:=True
def tw5445685945819732450:=True
def tw5483235029436916358:=True
def tw5539672693105778868:=True
def tw5549744519259586590:=True
def tw5580926798610236034:=True
def tw5593608477103958480:=True
def tw5598235445386061278:=True
def tw567661842037325472:=True
def tw5744279959886690626:=True
def tw5764048958174040762:=True
def tw5790686173387186426:=True
def tw5804490906056242616:=True
def tw5855043961107642576:=True
def tw5861973157329409197:=True
def tw5915190824489241788:=True
def tw5948031373331395626:=True
def tw5965835821462292138:=True
def tw5976885487294346453:=True
def tw5997812133604522335:=True
def tw6015806120685052312:=True
def tw6036047654905505669:=True
def tw6050934898836641187:=True
def tw6056902603859655754:=True
def tw6068804160123110603:=True
def tw6092936294319030854:=True
def tw6100649982215932627:=True
def tw6110359056284483367:=True
def tw6138188458912600886:=True
def tw6197008567818358991:=True
def tw6256327600075151139:=True
def tw6275713036956673435:=True
def tw6277272182499184256:=True
def tw6287148890272824403:=True
def tw6370250798596659536:=True
def tw6473546868900740551:=True
def tw6492704828216991608:=True
def tw65608648026870510:=True
def tw6581859879041062933:=True
def tw6602302069688659236:=True
def tw6704940981126755024:=True
def tw6744675155349001298:=True
def tw6781408101033069790:=True
def tw6804927812285990084:=True
def tw6856014584755719349:=True
def tw6857870005809851840:=True
def tw6922738459075232945:=True
def tw6932755236350651341:=True
def tw6940215185599288850:=True
def tw6952252054914156228:=True
def tw7047469892284205936:=True
def tw7091511788737602536:=True
def tw7106028908358866744:=True
def tw7108190659926068147:=True
def tw7111835725131946334:=True
def tw7119001647633927683:=True
def tw7122061533524322021:=True
def tw7160057229894716514:=True
def tw7195798944813453584:=True
def tw7204824699509903990:=True
def tw7269230773827949974:=True
def tw7282329668262285299:=True
def tw7300171116566484993:=True
def tw7316281294558124152:=True
def tw7316944319480544467:=True
def tw7383833051112772288:=True
def tw7454907533325592465:=True
def tw757221972786482626:=True
def tw7578210727131194358:=True
def tw7634345569363138488:=True
def tw7667847558207730938:=True
def tw7747105057874077738:=True
def tw7831273709841735650:=True
def tw7900318489432756217:=True
def tw7904747765836612774:=True
def tw7936680682731085067:=True
def tw7947888060827011232:=True
def tw7966121240212399177:=True
def tw8005792688721576422:=True
def tw8031002360108178573:=True
def tw8062718952068430946:=True
def tw817882715988548071:=True
def tw8197783384559765593:=True
def tw8197950341886628369:=True
def tw8201971028755563660:=True
def tw8207841087979935895:=True
def tw822693632601428842:=True
def tw8268693577679951581:=True
def tw8290596562083404371:=True
def tw8357160669734776425:=True
def tw8365143183183381802:=True
def tw8446472833073394618:=True
def tw8484939359694764037:=True
def tw8534794923215011254:=True
def tw8541320100522670291:=True
def tw8551557237067401795:=True
def tw8573240410573623552:=True
def tw8586301771953799120:=True
def tw8658818006379216283:=True
def tw8728910533921883061:=True
def tw8747378525784368364:=True
def tw8766442738221663970:=True
def tw8799992590855998807:=True
def tw8834535962016273078:=True
def tw8902092275587385812:=True
def tw8904790913219138107:=True
def tw8904802801251307266:=True
def tw8907240803271049701:=True
def tw8938904890490923295:=True
def tw8958594317855460867:=True
def tw8969493900119617267:=True
def tw897561570056353428:=True
def tw8981758253505568991:=True
def tw9041765629324338622:=True
def tw9078954893541121613:=True
def tw9086535469440127262:=True
def tw9138388216546691220:=True
def tw9154940220678494478:=True
def tw9183444129334331877:=True
def tw9194174909801311033:=True
def tw9217134619148958349:=True
def tw9246370434786560570:=True
def tw930171460184645993:=True
def tw9312631539694685126:=True
def tw9326672553966074947:=True
def tw9361701183941368510:=True
def tw9398404557457539414:=True
def tw9399322362920247324:=True
def tw9406373167852560405:=True
def tw9450912665195068504:=True
def tw9451843372586666131:=True
def tw948463383202007170:=True
def tw9498013673675212579:=True
def tw9499377748492163828:=True
def tw9514105425714020858:=True
def tw9522051511880323002:=True
def tw9600487701978497094:=True
def tw9618207488920901064:=True
def tw9685411771957937469:=True
def tw9695761517324266275:=True
def tw9726451763652882761:=True
def tw9732640931750278159:=True
def tw9770885260120230502:=True
def tw9837063786763721736:=True
def tw9856056942966846518:=True
def tw9887638382804236175:=True
def tw991083991863294547:=True
def tw9945958529800668055:=True
def tw9946110928640823504:=True
def tw9964228797515484204:=True
def tw997008005753439556:=True
end PySem.W.Fast
open PySem.W (InitBack InstAt Looks any_some bind_fn callWith_K callWith_K0 cellsFrom_some codeIn codeRec_of emptyDict eq_bytes excIn exmOne exm_one findIn findObj_own fnOf funFrames_hide get_value handedIn hasDictIn hideAll hideAll_get hideAll_none hideAll_size instObj isFn isNs_of_in kdl_dict kdu_collect keepIn ki_setAt ki_setBack kia_one kitOne kitx_bool kitx_dict kitx_float kitx_int kitx_list kitx_none kitx_own kitx_str kitx_tuple lookIn looks_clsIn looks_findIn make_core makesIn makes_of methodCall_KW methodObj method_fn mg_none_of mg_of mroIn ne_bytes nsIn nsMap_none_of_in of_hideAll osa_open plainGet plainGet_of plainOver set_plain specialIn tail_of_in takerIn takesIn truthy_bytes typeIn)
open Nat (min_eq_left ne_of_gt ne_of_lt zero_le)
open List (Nodup Pairwise all_cons all_eq_true any_cons any_eq_true append_nil cons_append contains_cons contains_eq_mem contains_iff_mem drop_append_of_le_length drop_drop drop_eq_getElem_cons drop_of_length_le drop_zero filterMap_cons filter_append filter_congr filter_cons find?_cons find?_eq_none findSome?_cons forIn_cons forIn_nil getD_eq_getElem?_getD getElem?_append_left getElem?_eq_getElem getElem?_map head? length_cons length_drop length_eq_zero_iff length_filter_le length_map length_nil length_replicate length_take map_append map_cons map_map map_nil mem_append mem_append_right mem_cons mem_cons_of_mem mem_cons_self mem_filter mem_filterMap mem_map mem_of_getElem? mem_range mem_reverse mem_singleton nodup_append nodup_cons nodup_nil not_mem_nil of_mem_zip perm_append_comm perm_middle prefix_append prefix_refl replicate reverse_append size_toArray take_add_one take_append_drop take_append_of_le_length take_length take_nil take_of_length_le take_succ take_zero)
open Bool (and_eq_true false_eq_true not_eq_true')
open Option (getD_none isSome_map isSome_none isSome_some map_eq_some_iff)
open Int (dvd_mul_right emod_lt_of_pos emod_nonneg)
set_option Elab.async false
set_option linter.all false
set_option compiler.extract_closed false
set_option maxRecDepth 100000
open Option renaming some→dk,none→JZ
open Bool renaming false→f',true→j',false_ne_true→Kr,and_eq_true→Lk,false_eq_true→Ll,eq_iff_iff→Lz,not_eq_true'→Mf
open PySem renaming Addr→D',wpAny_bind→G',Value→JW,PyData→Ka,Shared→Kb,wpAny_pure→Ke,sizeLine→Ki,FuncData→Kj,World→Kk,wpAny→Kq,Paired→Kx,Program→Kz,Heap→KN,starEach→KP,DictEntry→KQ,mainGlobals→KR,Around→KY,Stmt→K0,bootBuiltins→K7,placesWithHash→La,compareOp→Lg,wpAny_dictEpoch→Ln,sysModules→Ls,wpAny_truthy_bool→Lw,wpAny_field→Lx,wpAny_call_entry→LB,wpAny_callSpecial?_slot→LC,Obj→LF,wpAny_holding→LG,wpAny_newObj_type→LP,wpAny_rule→LU,wpAny_seqItems→LV,wpAny_passesOwn→L1,backTo→L7,cLine→L8,wpAny_Call_Name_kw→L9,wpAny_mono→Md
open List renaming length_append→JX,mem_singleton→JY,getElem?_eq_getElem→Kh,mem_cons_of_mem→Kl,mem_cons_self→Km,take_append_of_le_length→Ko,append_assoc→Ku,length_map→Kv,getElem?_eq_some_iff→Kw,mem_cons→KA,append_nil→KC,size_toArray→KD,length_cons→KJ,not_mem_nil→KL,mem_append→KS,mem_of_getElem?→KZ,map_cons→K1,drop_append_of_le_length→K3,filter_cons→K4,contains_eq_mem→K5,map_append→K8,filter_append→Lb,take_of_length_le→Li,getElem?_map→Lo,mem_append_right→Lp,length_take→Lu,nodup_cons→LK,find?_cons→LL,length→LN,length_replicate→LS,findSome?_cons→LW,getD_eq_getElem?_getD→LY,getElem?_append_left→L3,drop_eq_getElem_cons→L4,mem_map→Me,length_filter_le→Mg,range→Mm,mem_filter→Mn,Perm→Mo
open PySem.W renaming Frag→Kc,exmOne→K',mg_none_of→LQ
open PySem.Heap renaming get?_push_of_some→Kd,lt_size→Ks,get?_push_size→Ky,SameBut→LH,get?_update_self→Ma
open Nat renaming le_refl→Kf,lt_of_lt_of_le→Kg,le_trans→K6,ne_of_lt→Ld,zero_le→LJ,lt_irrefl→L6
open PySem.PyData renaming eqv→Kn,strOk→Lf,canLayAll0→Lv,depthAll→L0
open PySem.F renaming plainAttrs_list→KG,slot_list_append→K9,slot_dict_pop→LZ
open Option.some renaming inj→KH
open PySem.Value renaming ref→KI,none→Lr
open Or renaming inl→KU
open Array renaming getElem?_eq_getElem→KW,getElem?_toList→LX,length_toList→Mi
open PySem.SeqAt renaming EqAt→K2
open Sum renaming inl→Lc
open PySem.Builtin.SmallTypes renaming nextOf→Le,ownedTupleIsFree→Ly
open List.Perm renaming append_left→Lh,append_right→Lq
open False renaming elim→Lj
open PySem.PassesOwn renaming never→Lm
open PyProof.Rows renaming callWith_type1→LD
open True renaming intro→LI
open PySem.Calls renaming spliced_cons→LM,evalArgs_plain→LO,callWith_builtin→LR
open Ne renaming symm→Mb
open Int renaming emod_lt_of_pos→Mc,emod_nonneg→Mj
open PySem.Heap.SameBut renaming update→Mh
open PySem.Str renaming ofString→Ml
open PySem.Obj renaming mapSeq→Mp
theorem Qq{c:Prop}[h:Decidable c](hc:c){α:Sort _}{t e:α}:ite c t e=t:=if_pos hc
theorem Qr{c:Prop}[h:Decidable c](hc:¬c){α:Sort _}{t e:α}:ite c t e=e:=if_neg hc
theorem Qs{p:Prop}[Decidable p]:(decide p=true)=p:=decide_eq_true_eq
theorem Qt{p:Prop}[h:Decidable p](x:p):decide p=true:=decide_eq_true x
local macro_rules|`(tactic|omega)=>`(tactic|lia)
namespace L2
open PySem PySem.Spec PyProof.Rows
abbrev Key:=Sum Int Str
def o5:Key->JW->Bool
|.inl k,v=>JW.isInt k v
|.inr x,v=>JW.isStrOf x v
def IE (w:Kk):Key->Int
|.inl k=>hashInt k
|.inr x=>hashStr w x
def bc:∀ {k:Key}{v:JW},o5 k v=j'->(∃ i t,k=Lc i/\v=JW.int i t)\/(∃ x t,k=Sum.inr x/\v=JW.str x t)
|.inl i,v,h=>by
  obtain⟨t,e⟩:=JW.isInt_shape (k:=i) (v:=v) h;exact .inl ⟨i,t,rfl,e⟩
|.inr x,v,h=>by
  obtain⟨t,e⟩:=JW.isStrOf_shape (x:=x) (v:=v) h;exact .inr ⟨x,t,rfl,e⟩
def zc (i:Int) (t:Tok):o5 (.inl i) (.int i t)=j':=by simp[o5,JW.isInt]
def zL (x:Str) (t:Tok):o5 (.inr x) (.str x t)=j':=by simp[o5,JW.isStrOf]
def GW (a b:Int):decide ((Lc a:Key)=Lc b)=(a == b):=by
 by_cases e:a=b
 . subst e;simp
 . have h:¬ (Lc a:Key)=Lc b:=λq=>e (Lc.inj q)
   rw[decide_eq_false h];exact(beq_eq_false_iff_ne.mpr e).symm
def Fn (a b:Str):decide ((Sum.inr a:Key)=Sum.inr b)=decide (a=b):=by
 by_cases e:a=b
 . subst e;simp
 . have h:¬ (Sum.inr a:Key)=Sum.inr b:=λq=>e (Sum.inr.inj q)
   rw[decide_eq_false h,decide_eq_false e]
def FS (a:Int) (b:Str):decide ((Lc a:Key)=Sum.inr b)=f':=decide_eq_false (λq=>nomatch q)
def GV (a:Str) (b:Int):decide ((Sum.inr a:Key)=Lc b)=f':=decide_eq_false (λq=>nomatch q)
def bg (prog:Kz) (w:Kk):PySem.KeyKind prog w Key where
 is:=o5
 hash:=IE w
 inj:=λv a b ha hb=>by
  rcases bc ha with⟨i,t,rfl,rfl⟩|⟨x,t,rfl,rfl⟩
  . rcases bc hb with⟨j,u,rfl,e⟩|⟨y,u,rfl,e⟩
    . injection e with e1 _;rw[e1]
    . exact nomatch e
  . rcases bc hb with⟨j,u,rfl,e⟩|⟨y,u,rfl,e⟩
    . exact nomatch e
    . injection e with e1 _;rw[e1]
 byValue:=λk v h=>by
  rcases bc h with⟨i,t,rfl,rfl⟩|⟨x,t,rfl,rfl⟩<;>rfl
 pyHash:=λhv h=>by
  rcases bc hv with⟨i,t,rfl,rfl⟩|⟨x,t,rfl,rfl⟩
  . exact wpAny_pyHash_int h
  . exact wpAny_pyHash_str h
 eqBool:=λhu hv h=>by
  rcases bc hu with⟨i,t,rfl,rfl⟩|⟨x,t,rfl,rfl⟩
  . rcases bc hv with⟨j,u,rfl,rfl⟩|⟨y,u,rfl,rfl⟩
    . rw[GW]at h;exact wpAny_eqBool_int h
    . rw[FS]at h;exact K2.int_str i t y u _ _ _ _ h
  . rcases bc hv with⟨j,u,rfl,rfl⟩|⟨y,u,rfl,rfl⟩
    . rw[GV]at h;exact K2.str_int x t j u _ _ _ _ h
    . rw[Fn]at h;exact wpAny_eqBool_str h
 «strs»:=λk x t v h=>by
  rcases bc h with⟨i,u,rfl,e⟩|⟨y,u,rfl,e⟩
  . exact nomatch e
  . injection e with e1 _
    subst e1;cases v<;>rfl
def vI (prog:Kz) (w:Kk) (i:Int) (t:Tok):(bg prog w).is (.inl i) (.int i t)=j':=zc i t
def vF (prog:Kz) (w:Kk) (x:Str) (t:Tok):(bg prog w).is (.inr x) (.str x t)=j':=zL x t
inductive V where
|non|bl (b:Bool)|int (i:Int)|str (x:Str)|byt (b:Array UInt8)|flt (b:UInt64)|ref (a:D')|ty (n:String)
 deriving DecidableEq
def cm:V->JW->Prop
|.non,u=>u=Lr
|.bl b,u=>u=JW.bool b
|.int i,u=>∃ t,u=JW.int i t
|.str x,u=>∃ t,u=JW.str x t
|.byt b,u=>∃ t,u=JW.bytes b t
|.flt b,u=>∃ t,u=JW.float b t
|.ref a,u=>u=KI a
|.ty n,u=>u=JW.type n
abbrev bZ:List V->List JW->Prop:=Kx cm
theorem bZ.length {xs:List V}{us:List JW}(r:bZ xs us):xs.length=us.length:=Kx.length r
theorem bZ.get:∀ {xs:List V}{us:List JW}{i:Nat}{x:V},bZ xs us->xs[i]?=dk x->∃ u,us[i]?=dk u/\cm x u
|_,_,_,_,.nil,e=>by simp at e
|_,_,0,_,.cons r _,e=>by simp at e;subst e;exact⟨_,rfl,r⟩
|_,_,i+1,x,.cons _ t,e=>by
  obtain⟨u,h1,h2⟩:=bZ.get (i:=i) (x:=x) t (by simpa using e);exact⟨u,by simpa using h1,h2⟩
theorem bZ.set {x:V}{u:JW}(r:cm x u):∀ {xs:List V}{us:List JW}(i:Nat),bZ xs us->bZ (xs.set i x) (us.set i u)
|_,_,_,.nil=>.nil
|_,_,0,.cons _ t=>.cons r t
|_,_,i+1,.cons q t=>.cons q (bZ.set r i t)
theorem bZ.append:∀ {xs ys:List V}{us ws:List JW},bZ xs us->bZ ys ws->bZ (xs++ys) (us++ws)
|_,_,_,_,.nil,s=>s
|_,_,_,_,.cons r t,s=>.cons r (bZ.append t s)
theorem bZ.take:∀ {xs:List V}{us:List JW}(n:Nat),bZ xs us->bZ (xs.take n) (us.take n)
|_,_,0,_=>.nil
|_,_,_+1,.nil=>.nil
|_,_,n+1,.cons r t=>.cons r (bZ.take n t)
theorem bZ.drop:∀ {xs:List V}{us:List JW}(n:Nat),bZ xs us->bZ (xs.drop n) (us.drop n)
|_,_,0,r=>r
|_,_,_+1,.nil=>.nil
|_,_,n+1,.cons _ t=>bZ.drop n t
def tP:Option V->Option JW->Prop
|some v,dk u=>cm v u
|none,JZ=>True
|_,_=>False
def KV {κ:Type}:List (κ × V)->List (κ × JW)->Prop:=Kx λ(p:κ × V) (q:κ × JW)=>p.1=q.1/\cm p.2 q.2
def kV:Key->V
|.inl i=>.int i
|.inr x=>.str x
inductive HO where
 /-- a list -/
|lst (xs:List V)
 /-- a tuple (never changes) -/
|tup (xs:List V)
 /-- a dict whose keys are ints and texts;one whose keys are tuples of ints and texts (the empty one is both) -/
|dK (kvs:List (Key × V))|dT (kvs:List (List Key × V))
 /-- a set of ints: its members,its size -/
|set (S:Int->Bool) (n:Nat)
 /-- an instance of the class at C,its dict at dx,its attributes -/
|ins (C dx:D') (fs:List (Str × V))
 /-- the dict of the instance at x -/
|own (x:D')
 /-- the dict of an exception -/
|xd (fs:List (Str × V))
 /-- a bound method,f of x -/
|met (f x:D')
 /-- a range object lo,lo+1,.. below hi -/
|rng (lo hi:Int)
 /-- a thing that is known to the object (the script;a dict while a loop walks it): read,never written while it is so -/
|frz (o:LF) (u:HO)
 /-- a code object's table -/
|tbl (ps:Array JW)
 /-- any other thing,by what is j' of its one object (a def of one's own: SetO a S n:=HO.ext λh=>..) -/
|ext (φ:KN->Prop)
abbrev Hp:=D'->Option HO
def upd (H:Hp) (a:D') (o:HO):Hp:=λb=>if b=a then dk o else H b
def a8 {H:Hp}{a:D'}{o:HO}:upd H a o a=dk o:=by unfold upd;rw[Qq rfl]
def ac {H:Hp}{a b:D'}{o:HO}(h:b≠a):upd H a o b=H b:=by unfold upd;rw[Qr h]
def dU {H:Hp}{a:D'}{o u:HO}:upd (upd H a o) a u=upd H a u:=by
 funext b;unfold upd;split<;>rfl
def iK {H:Hp}{a b:D'}{o u:HO}(h:H a=dk o) (h':H b=dk u) (d:o≠u):a≠b:=by
 intro e;subst e;rw[h]at h';exact d (KH h')
def ae {H:Hp}{a b:D'}{o:HO}(h:H a=dk o) (h':H b=JZ):a≠b:=by
 intro e;subst e;rw[h]at h';cases h'
section
variable (P:Kz) (w:Kk)
def dJ (H:Hp) (h:KN) (a:D'):HO->Prop
|.lst xs=>xs.length <= Ki/\∃ (its:List JW) (n:Nat),bZ xs its/\h.get? a=dk { cls:=.type "list",data:=.seq its.toArray n }
|.tup xs=>xs.length <= Ki/\∃ its:List JW,bZ xs its/\IsTup h a its.toArray
|.dK kvs=>kvs.length <= Ki/\(a == Ls)=f'/\∃ vs,KV kvs vs/\h.DictOf (bg P w) a vs
|.dT kvs=>kvs.length <= Ki/\(a == Ls)=f'/\∃ xs:List (List Key × D' × JW),
  Kx (λ(p:List Key × V) (q:List Key × D' × JW)=>p.1=q.1/\H q.2.1=dk (.tup (p.1.map kV))/\cm p.2 q.2.2) kvs xs /\
  ∃ o es ep,h.get? a=dk o/\o.ExactDict/\o.data=.dict es ep/\es.toList=xs.map (entryOfKey (tupleKind (bg P w)))/\(xs.map (·.1)).Nodup
|.set S n=>h.SetOf (intKind P w) a S n
|.ins C dx fs=>H dx=dk (.own a)/\fs.length <= 1000/\dx≠a/\h.get? a=dk (instObj C dx) /\
  ∃ mA,h.Ns1 dx mA/\(∀ f,tP (fs.lookup f) (mA f))/\PySem.Within mA (fs.map (·.1))
|.own _=>∃ o,h.get? a=dk o
|.xd fs=>∃ mA,h.Ns1 a mA/\∀ f,tP (fs.lookup f) (mA f)
|.rng lo hi=>∃ t u v,h.get? a=dk { cls:=.type "range",data:=.fields #[.int lo t,.int hi u,.int 1 v] }
|.frz o u=>h.get? a=dk o/\dJ H h a u
|.tbl ps=>h.get? a=dk { cls:=.none,data:=.fields ps }
|.met f x=>h.get? a=dk (methodObj (.ref f) (.ref x))
|.ext φ=>φ h/\(∃ o,h.get? a=dk o)/\∀ h1 h2:KN,φ h1->(∀ o,h1.get? a=dk o->h2.get? a=dk o)->φ h2
def HOk (H:Hp) (h:KN):Prop:=∀ a o,H a=dk o->dJ P w H h a o
end
section
variable {P:Kz}{w:Kk}{H H':Hp}{h h':KN}{a:D'}{o:HO}
theorem dJ.lt (x:dJ P w H h a o):a < h.objs.size:=by
 cases o with
|lst xs=>obtain⟨_,_,_,_,e⟩:=x;exact Ks e
|tup xs=>obtain⟨_,_,_,p⟩:=x;exact p.lt
|dK kvs=>obtain⟨_,_,_,_,o,_,_,e,_⟩:=x;exact Ks e
|dT kvs=>obtain⟨_,_,_,_,o,_,_,e,_⟩:=x;exact Ks e
|set S n=>obtain⟨o,_,_,_,e,_⟩:=x;exact Ks e
|ins C dx fs=>obtain⟨_,_,_,e,_⟩:=x;exact Ks e
|own y=>obtain⟨_,e⟩:=x;exact Ks e
|xd fs=>obtain⟨_,⟨_,_,_,e,_⟩,_⟩:=x;exact Ks e
|rng lo hi=>obtain⟨_,_,_,e⟩:=x;exact Ks e
|frz ob u=>obtain⟨e,_⟩:=x;exact Ks e
|tbl ps=>exact Ks (show h.get? a=dk _ from x)
|met f y=>exact Ks (show h.get? a=dk _ from x)
|ext φ=>obtain⟨_,⟨_,e⟩,_⟩:=x;exact Ks e
theorem Paired.mapP {α β:Type}{F G:α->β->Prop}:∀ {l₁:List α}{l₂:List β},Kx F l₁ l₂->(∀ a b,F a b->G a b)->Kx G l₁ l₂
|_,_,.nil,_=>.nil
|_,_,.cons r t,f=>.cons (f _ _ r) (Paired.mapP t f)
def dJ.stay (x:dJ P w H h a o) (k:∀ b u,(b=a\/H b=dk (.own a))->h.get? b=dk u->h'.get? b=dk u)
 (ho:∀ b,H b=dk (.own a)->H' b=dk (.own a)) (ht:∀ b xs,H b=dk (.tup xs)->H' b=dk (.tup xs)):dJ P w H' h' a o:=by
 induction o with
|lst xs=>obtain⟨z,its,n,r,e⟩:=x;exact⟨z,its,n,r,k _ _ (.inl rfl) e⟩
|tup xs=>obtain⟨z,its,r,ob,e,c⟩:=x;exact⟨z,its,r,ob,k _ _ (.inl rfl) e,c⟩
|dK kvs=>obtain⟨z,y,vs,r,ob,es,ep,e,c⟩:=x;exact⟨z,y,vs,r,ob,es,ep,k _ _ (.inl rfl) e,c⟩
|dT kvs =>
  obtain⟨z,y,xs,r,ob,es,ep,e,c⟩:=x;exact⟨z,y,xs,Paired.mapP r λp q z=>⟨z.1,ht _ _ z.2.1,z.2.2⟩,ob,es,ep,k _ _ (.inl rfl) e,c⟩
|set S n=>obtain⟨ob,es,ep,t,e,c⟩:=x;exact⟨ob,es,ep,t,k _ _ (.inl rfl) e,c⟩
|ins C dx fs =>
  obtain⟨d,z,ne,e,mA,⟨od,es,ep,e2,c⟩,r⟩:=x;exact⟨ho _ d,z,ne,k _ _ (.inl rfl) e,mA,⟨od,es,ep,k _ _ (.inr d) e2,c⟩,r⟩
|own y=>obtain⟨ob,e⟩:=x;exact⟨ob,k _ _ (.inl rfl) e⟩
|xd fs=>obtain⟨mA,⟨od,es,ep,e,c⟩,r⟩:=x;exact⟨mA,⟨od,es,ep,k _ _ (.inl rfl) e,c⟩,r⟩
|rng lo hi=>obtain⟨t,u,v,e⟩:=x;exact⟨t,u,v,k _ _ (.inl rfl) e⟩
|frz ob u ih=>obtain⟨e,q⟩:=x;exact⟨k _ _ (.inl rfl) e,ih q⟩
|tbl ps =>
  have e:h.get? a=dk { cls:=.none,data:=.fields ps }:=x;show h'.get? a=dk { cls:=.none,data:=.fields ps };exact k a _ (.inl rfl) e
|met f y =>
  have e:h.get? a=dk (methodObj (.ref f) (.ref y)):=x;show h'.get? a=dk (methodObj (.ref f) (.ref y));exact k a _ (.inl rfl) e
|ext φ=>obtain⟨p,⟨o,e⟩,st⟩:=x;exact⟨st _ _ p λo q=>k _ _ (.inl rfl) q,⟨o,k _ _ (.inl rfl) e⟩,st⟩
theorem HOk.lt (x:HOk P w H h) (e:H a=dk o):a < h.objs.size:=(x a o e).lt
def HOk.fresh (x:HOk P w H h) (e:h.objs.size <= a):H a=JZ:=by
 cases q:H a with
|none=>rfl
|some u=>exact absurd (Kg (x.lt q) e) (L6 _)
def HOk.kept (x:HOk P w H h) (k:∀ b u,h.get? b=dk u->h'.get? b=dk u):HOk P w H h':=λa o e =>
 (x a o e).stay (λb u _ q=>k b u q) (λ_ q=>q) λ_ _ q=>q
def HOk.laid (x:HOk P w H h) (k:∀ b u,h.get? b=dk u->h'.get? b=dk u) (hp:h.objs.size <= a) (new:dJ P w (upd H a o) h' a o):HOk P w (upd H a o) h':=λb u e=>by
 have hn:=x.fresh hp;by_cases hb:b=a
 . subst hb;rw[a8]at e;cases e;exact new
 . rw[ac hb]at e;exact(x b u e).stay (λc v _ q=>k c v q) (λc q=>by rw[ac (ae q hn)];exact q) λc xs q=>by rw[ac (ae q hn)];exact q
end
def Rd (H:Hp) (a:D') (u:HO):Prop:=H a=dk u\/∃ o,H a=dk (.frz o u)
def Rd.ok {P:Kz}{w:Kk}{H:Hp}{h:KN}{a:D'}{u:HO}(r:Rd H a u) (x:HOk P w H h):dJ P w H h a u:=by
 rcases r with r|⟨o,r⟩
 . exact x a u r
 . obtain⟨_,q⟩:=x a _ r;exact q
def Mut:Option HO->Prop
|some (.lst _)=>True
|some (.dK _)=>True
|some (.dT _)=>True
|some (.set _ _)=>True
|some (.ins _ _ _)=>True
|some (.ext _)=>True
|_=>False
section
variable {P:Kz}{w:Kk}{H:Hp}{h h':KN}{x e:D'}{o':HO}
def HOk.write (ok:HOk P w H h) (mu:Mut (H x)) (he:e=x\/H e=dk (.own x)) (k:∀ b u,b≠e->h.get? b=dk u->h'.get? b=dk u) (heo:∃ u,h'.get? e=dk u)
 (new:dJ P w (upd H x o') h' x o'):HOk P w (upd H x o') h':=λb u q=>by
 have nown:∀ c y,H c=dk (.own y)->c≠x:=λc y r z=>by subst z;rw[r]at mu;exact mu
 have ntup:∀ c xs,H c=dk (.tup xs)->c≠x:=λc xs r z=>by subst z;rw[r]at mu;exact mu
 by_cases hb:b=x
 . subst hb;rw[a8]at q;cases q;exact new
 . rw[ac hb]at q;by_cases hbe:b=e
   . have q':H b=dk (.own x):=by
      rcases he with z|z
      . exact absurd (hbe.trans z) hb
      . rw[hbe];exact z
     rw[q]at q';cases q';obtain⟨v,hv⟩:=heo;exact⟨v,by rw[hbe];exact hv⟩
   . refine(ok b u q).stay (λc v hc r=>k c v ?_ r) (λc r=>by rw[ac (nown c b r)];exact r) λc xs r=>by rw[ac (ntup c xs r)];exact r
     rcases hc with rfl|hc
     . exact hbe
     . rintro rfl;rcases he with z|z
       . exact nown c b hc z
       . rw[hc]at z;cases z;exact hb rfl
end
structure Un (fs ex:List D') (H H':Hp) (h h':KN):Prop where
 keep:∀ b o,h.get? b=dk o->H b=JZ->b ∉ fs->b ∉ ex->h'.get? b=dk o
 slot:∀ b o,h.get? b=dk o->H b=JZ->b∈fs->b ∉ ex->∃ sl,h'.get? b=dk { o with slots:=sl }
 free:∀ b o,h.get? b=dk o->H b=JZ->b ∉ ex->H' b=JZ
 there:∀ b o,h.get? b=dk o->b ∉ ex->∃ o',h'.get? b=dk o'
 tups:∀ b xs,H b=dk (.tup xs)->H' b=dk (.tup xs)
 frzs:∀ b o u,H b=dk (.frz o u)->H' b=dk (.frz o u)
 tbls:∀ b ps,H b=dk (.tbl ps)->∃ more,H' b=dk (.tbl (ps++more))
section
variable {fs fs' ex ex':List D'}{H H1 H2:Hp}{h h1 h2 h':KN}{a x e:D'}{o:HO}
def Un.any (u:Un fs ex H H1 h h1) {b:D'}{ob:LF}(q:h.get? b=dk ob) (n:H b=JZ) (hx:b ∉ ex):∃ sl,h1.get? b=dk { ob with slots:=sl }:=by
 by_cases hb:b∈fs
 . exact u.slot b ob q n hb hx
 . exact⟨ob.slots,u.keep b ob q n hb hx⟩
def Un.kept (k:∀ b u,h.get? b=dk u->h'.get? b=dk u):Un fs ex H H h h' :=
 ⟨λb ob q _ _ _=>k b ob q,λb ob q _ _ _=>⟨ob.slots,k b ob q⟩,λ_ _ _ n _=>n,λb ob q _=>⟨ob,k b ob q⟩,λ_ _ q=>q,λ_ _ _ q=>q,λ_ ps q=>⟨#[],by rw[q];simp⟩⟩
def Un.refl:Un fs ex H H h h:=Un.kept λ_ _ q=>q
def Un.laid (k:∀ b u,h.get? b=dk u->h'.get? b=dk u) (hp:h.objs.size <= a) (hn:H a=JZ):Un fs ex H (upd H a o) h h' where
 keep:=λb u q _ _ _=>k b u q
 slot:=λb u q _ _ _=>⟨u.slots,k b u q⟩
 free:=λb u q n _=>by rw[ac (Ld (Kg (Ks q) hp))];exact n
 there:=λb u q _=>⟨u,k b u q⟩
 tups:=λb xs q=>by rw[ac (ae q hn)];exact q
 frzs:=λb u xs q=>by rw[ac (ae q hn)];exact q
 tbls:=λb ps q=>⟨#[],by rw[ac (ae q hn),q];simp⟩
def Un.write (mu:Mut (H x)) (he:e=x\/H e=dk (.own x)) (k:∀ b u,b≠e->h.get? b=dk u->h'.get? b=dk u) (heo:∃ u,h'.get? e=dk u):Un fs ex H (upd H x o) h h':=by
 have hx:∀ b,H b=JZ->b≠x:=λb n z=>by subst z;rw[n]at mu;exact mu
 have hb:∀ b,H b=JZ->b≠e:=λb n z=>by
  subst z;rcases he with r|r
  . exact hx b n r
  . rw[n]at r;cases r
 have hm:∀ b u,H b=dk u->¬ Mut (dk u)->b≠x:=λb u q nm z=>by subst z;rw[q]at mu;exact nm mu
 refine⟨λb u q n _ _=>k b u (hb b n) q,λb u q n _ _=>⟨u.slots,k b u (hb b n) q⟩,λb u q n _=>by rw[ac (hx b n)];exact n,λb u q _=>?_,
  λb xs q=>by rw[ac (hm b _ q λz=>z)];exact q,λb u xs q=>by rw[ac (hm b _ q λz=>z)];exact q,λb ps q=>⟨#[],by rw[ac (hm b _ q λz=>z),q];simp⟩⟩
 by_cases hbe:b=e
 . subst hbe;exact heo
 . exact⟨u,k b u hbe q⟩
end
def trk (h:KN) (H:Hp):List D':=(Mm h.objs.size).filter λa=>(H a).isSome
def BQ (h:KN) (H:Hp):KN:=hideAll h (trk h H)
def yO (h:KN) (H:Hp):(BQ h H).objs.size=h.objs.size:=hideAll_size _ _
def BN {h:KN}{H:Hp}{b:D'}{o:LF}(e:h.get? b=dk o) (n:H b=JZ):(BQ h H).get? b=dk o :=
 hideAll_get _ e λhm=>by
  have q:(H b).isSome=j':=(Mn.mp hm).2;rw[n]at q;simp at q
def F8 {h:KN}{H:Hp}{b:D'}{o:LF}(e:(BQ h H).get? b=dk o):h.get? b=dk o/\H b=JZ:=by
 have e':h.get? b=dk o:=of_hideAll (trk h H) e;refine⟨e',?_⟩;cases q:H b with
|none=>rfl
|some x =>
  have hm:b∈trk h H:=Mn.mpr ⟨mem_range.mpr (Ks e'),by simp[q]⟩;have z:(BQ h H).get? b=JZ:=hideAll_none (trk h H) hm;rw[z]at e;cases e
def Fc (g h:KN) (L:D'):List (D' × LF):=(Mm h.objs.size).filterMap λa=>if a=L\/(g.get? a).isSome=j' then JZ else (h.get? a).map λo=>(a,o)
def rest (g h:KN) (L d:D'):List (D' × LF):=(Fc g h L).filter λp=>decide (p.1≠d)
structure Mod (K:Kc) (mg:Str->Option JW) (base:KN):Prop where
 kin:K.In base
 glob:base.Ns KR mg
 blt:∃ mb,base.Ns builtinsNs mb/\∀ x:Str,x≠"__name__"->mb x=K7 x
 nolimit:base.NoLimit
structure Cx where
 prog:Kz
 w:Kk
 K:Kc
 mg:Str->Option JW
 base:KN
 A:KY
 N:List Str
 s₀:Kb
 H₀:Hp
 env:Env
 outer:List Env
 stack:List Env
 ex:List D'
 fn:Str->Bool
 calm:Bool
 pn:List (D' × LF)
 xe:JW->Kb->Prop
def frs (l:List Env):List D':=l.filterMap (·.frame)
abbrev Cx.fs (X:Cx):List D':=frs X.outer
def Vis (sc:Scope) (x:Str):Prop:=sc.names.lookup x=dk .local\/sc.names.lookup x=dk .cell\/sc.names.lookup x=dk .free
def Loc (sc:Scope) (x:Str):Prop:=sc.names.lookup x=dk .local\/sc.names.lookup x=dk .cell
def JV (env:Env) (h:KN) (m:Str->Option JW) (x:Str) (u:JW):Prop :=
 (env.kindOf x=dk .local/\m x=dk u)\/((env.kindOf x=dk .cell\/env.kindOf x=dk .free)/\∃ c,env.cells.lookup x=dk c/\h.IsCell c (dk u))
structure Cx.Ok (X:Cx):Prop where
 mod:Mod X.K X.mg X.base
 kind:X.env.scope.kind=.function
 glob:X.env.globals=KR
 blt:X.env.builtins=builtinsNs
 above:X.s₀.heap.objs.size <= X.env.locals
 inj:∀ x y c,X.env.cells.lookup x=dk c->X.env.cells.lookup y=dk c->x=y
 has:∀ x,(X.env.kindOf x=dk .cell\/X.env.kindOf x=dk .free)->∃ c,X.env.cells.lookup x=dk c
 cab:∀ x c,X.fn x=j'->X.env.cells.lookup x=dk c->X.s₀.heap.objs.size <= c
 hd:X.calm=j'->X.A.handled=JZ
 frames:X.A.frames=dk X.stack
 stk:X.stack=X.outer\/(X.stack=X.env :: X.outer/\X.env.frame=dk X.env.locals)
 exf:∀ b∈X.ex,b≠X.env.locals/\∀ x c,X.env.cells.lookup x=dk c->c≠b
 bs:∀ b o,X.base.get? b=dk o->X.s₀.heap.get? b=dk o/\X.H₀ b=JZ
 bsz:X.base.objs.size <= X.s₀.heap.objs.size
 noex:∀ b o,X.base.get? b=dk o->b ∉ X.ex
 exfs:∀ b∈X.ex,b ∉ X.fs
 funs:X.s₀.heap.FunFrames X.base X.outer
 frf:∀ b∈X.fs,X.H₀ b=JZ
structure Inv (X:Cx) (Mq:List (D' × LF)) (σ:List (Option V)) (H:Hp) (s:Kb):Prop where
 ok:X.Ok
 os:s.os=X.s₀.os
 bare:AllBare s.gens
 base:Un X.fs X.ex X.H₀ H X.s₀.heap s.heap
 loc:∃ m,s.heap.Ns X.env.locals m/\∀ (i:Nat) (x:Str) (v:V),X.N[i]?=dk x->σ[i]?=dk (dk v)->Vis X.env.scope x->∃ u,cm v u/\JV X.env s.heap m x u
 cell:∀ x c,X.env.cells.lookup x=dk c->∃ v,s.heap.IsCell c v
 free:H X.env.locals=JZ
 freeC:∀ x c,X.env.cells.lookup x=dk c->H c=JZ
 pin:∀ p∈X.pn++Mq,s.heap.get? p.1=dk p.2/\H p.1=JZ/\p.1≠X.env.locals/\p.1 ∉ X.fs/\∀ v,p.2.data≠.cell v
 hok:HOk X.prog X.w H s.heap
 len:σ.length=X.N.length
section
variable {X:Cx}{Mq:List (D' × LF)}{σ:List (Option V)}{H H':Hp}{s:Kb}{h':KN}
def Cx.Ok.nofr (ok:X.Ok) {b:D'}{o:LF}(e:X.base.get? b=dk o):b ∉ X.fs:=λhb=>by
 have:=(ok.funs.mem hb).1;rw[e]at this;cases this
theorem Inv.bs (I:Inv X Mq σ H s):∀ b o,X.base.get? b=dk o->s.heap.get? b=dk o/\H b=JZ:=λb o e =>
 ⟨I.base.keep b o (I.ok.bs b o e).1 (I.ok.bs b o e).2 (I.ok.nofr e) (I.ok.noex b o e),I.base.free b o (I.ok.bs b o e).1 (I.ok.bs b o e).2 (I.ok.noex b o e)⟩
def Inv.bk (I:Inv X Mq σ H s):∀ b o,X.base.get? b=dk o->s.heap.get? b=dk o:=λb o e=>(I.bs b o e).1
theorem Inv.mod (I:Inv X Mq σ H s):Mod X.K X.mg X.base:=I.ok.mod
def Inv.kIn (I:Inv X Mq σ H s):X.K.In s.heap:=I.ok.mod.kin.keeps I.bk
theorem Inv.lt (I:Inv X Mq σ H s):X.env.locals < s.heap.objs.size:=let ⟨_,hn,_⟩:=I.loc;hn.lt
def Inv.sz (I:Inv X Mq σ H s):X.s₀.heap.objs.size <= s.heap.objs.size:=K6 I.ok.above (Nat.le_of_lt I.lt)
def Inv.nofs (I:Inv X Mq σ H s) {a:D'}(h:s.heap.objs.size <= a):a ∉ X.fs:=λhb=>by
 obtain⟨_,o,ho,_⟩:=I.ok.funs.mem hb;exact absurd (Kg (Ks ho) (K6 I.sz h)) (L6 _)
def Inv.cne (I:Inv X Mq σ H s):∀ x c,X.env.cells.lookup x=dk c->c≠X.env.locals:=λx c e z=>by
 obtain⟨v,o,ho,hd⟩:=I.cell x c e;obtain⟨m,⟨o',es,ep,ho',hd',_⟩,_⟩:=I.loc;rw[z,ho']at ho;cases ho;rw[hd']at hd;cases hd
theorem Inv.funs (I:Inv X Mq σ H s):s.heap.FunFrames X.base X.outer:=by
 have all:∀ (l:List Env),(∀ b∈frs l,b∈X.fs)->X.s₀.heap.FunFrames X.base l->s.heap.FunFrames X.base l:=by
  intro l
  induction l with
 |nil=>intro _ _;trivial
 |cons env r ih =>
   intro hs hl;obtain⟨hk,⟨L,o,hf,hn,ho,hd⟩,hr⟩:=hl;have hL:L∈X.fs:=hs L (by unfold frs;rw[filterMap_cons,hf];exact Km);obtain⟨sl,e⟩:=I.base.slot L o ho (I.ok.frf L hL) hL λz=>I.ok.exfs L z hL
   exact⟨hk,⟨L,_,hf,hn,e,hd⟩,ih (λb hb=>hs b (by unfold frs;rw[filterMap_cons,hf];exact Kl _ hb)) hr⟩
 exact all X.outer (λ_ hb=>hb) I.ok.funs
theorem Inv.stack (I:Inv X Mq σ H s):s.heap.FunFrames X.base X.stack:=by
 rcases I.ok.stk with e|⟨e,hf⟩
 . rw[e];exact I.funs
 . rw[e];obtain⟨m,hn,_⟩:=I.loc;refine .cons (by rw[I.ok.kind];decide) hf hn ?_ I.funs;exact KN.get?_none_of_le (K6 I.ok.bsz I.ok.above)
def Inv.stkSub (I:Inv X Mq σ H s):∀ b∈frs X.stack,b∈X.env.locals :: X.fs:=λb hb=>by
 rcases I.ok.stk with e|⟨e,hf⟩
 . rw[e]at hb;exact Kl _ hb
 . rw[e]at hb;unfold frs at hb;rw[filterMap_cons,hf]at hb;exact hb
def Inv.stkFree (I:Inv X Mq σ H s):∀ b∈frs X.stack,H b=JZ:=λb hb=>by
 rcases KA.mp (I.stkSub b hb) with e|hb
 . rw[e];exact I.free
 . obtain⟨_,o,ho,_⟩:=I.ok.funs.mem hb;exact I.base.free b o ho (I.ok.frf b hb) λz=>I.ok.exfs b z hb
def Inv.step {g':Array GenState}{t':Nat}{d':Drawn}{ch:List D'}(I:Inv X Mq σ H s)
 (hch:∀ b∈ch,(b∈X.ex\/X.s₀.heap.objs.size <= b)/\b≠X.env.locals/\(∀ x c,X.env.cells.lookup x=dk c->c≠b)/\∀ p∈X.pn++Mq,p.1≠b)
 (keep:∀ b o,b≠X.env.locals->b ∉ X.fs->b ∉ ch->s.heap.get? b=dk o->H b=JZ->h'.get? b=dk o)
 (slot:∀ b o,b≠X.env.locals->b∈X.fs->b ∉ ch->s.heap.get? b=dk o->H b=JZ->∃ sl,h'.get? b=dk { o with slots:=sl }) (free:∀ b o,b ∉ ch->s.heap.get? b=dk o->H b=JZ->H' b=JZ)
 (there:∀ b o,b ∉ ch->s.heap.get? b=dk o->∃ o',h'.get? b=dk o')
 (tups:∀ b xs,H b=dk (.tup xs)->H' b=dk (.tup xs)) (frzs:∀ b o u,H b=dk (.frz o u)->H' b=dk (.frz o u)) (tbls:∀ b ps,H b=dk (.tbl ps)->∃ more,H' b=dk (.tbl (ps++more)))
 (ns:∀ m,s.heap.Ns X.env.locals m->h'.Ns X.env.locals m) (hok:HOk X.prog X.w H' h') (hg:AllBare g') :
 Inv X Mq σ H' { s with heap:=h',gens:=g',drawn:=d',toks:=t' }:=by
 have neL:∀ b o,X.s₀.heap.get? b=dk o->b≠X.env.locals:=λb o e=>Ld (Kg (Ks e) I.ok.above)
 have neC:∀ b o,X.s₀.heap.get? b=dk o->b ∉ X.ex->b ∉ ch:=λb o e hx hb=>by
  rcases(hch b hb).1 with z|z
  . exact hx z
  . exact absurd (Kg (Ks e) z) (L6 _)
 have cellK:∀ x c,X.env.cells.lookup x=dk c->∀ v,s.heap.IsCell c v->h'.IsCell c v:=λx c e v ⟨o,ho,hd⟩=>by
  have nch:c ∉ ch:=λz=>(hch c z).2.2.1 x c e rfl
  by_cases hc:c∈X.fs
  . obtain⟨sl,q⟩:=slot c o (I.cne x c e) hc nch ho (I.freeC x c e);exact⟨_,q,hd⟩
  . exact⟨o,keep c o (I.cne x c e) hc nch ho (I.freeC x c e),hd⟩
 refine⟨I.ok,I.os,hg,⟨λb o e n hb hx=>?_,λb o e n hb hx=>?_,λb o e n hx=>?_,λb o e hx=>?_,λb xs e=>tups b xs (I.base.tups b xs e),λb o xs e=>frzs b o xs (I.base.frzs b o xs e),λb ps e=>?_⟩,?_,λx c e=>?_,?_,λx c e=>?_,λp hp=>?_,hok,I.len⟩
 . exact keep b o (neL b o e) hb (neC b o e hx) (I.base.keep b o e n hb hx) (I.base.free b o e n hx)
 . obtain⟨sl,e1⟩:=I.base.slot b o e n hb hx;obtain⟨sl',e2⟩:=slot b _ (neL b o e) hb (neC b o e hx) e1 (I.base.free b o e n hx);exact⟨sl',e2⟩
 . obtain⟨o',e1⟩:=I.base.there b o e hx;exact free b o' (neC b o e hx) e1 (I.base.free b o e n hx)
 . obtain⟨o',e1⟩:=I.base.there b o e hx;exact there b o' (neC b o e hx) e1
 . obtain⟨m1,e1⟩:=I.base.tbls b ps e;obtain⟨m2,e2⟩:=tbls b _ e1;exact⟨m1++m2,by rw[e2,Array.append_assoc]⟩
 . obtain⟨m,hn,hl⟩:=I.loc;refine⟨m,ns m hn,λi x v e1 e2 e3=>?_⟩;obtain⟨u,r,l⟩:=hl i x v e1 e2 e3;refine⟨u,r,?_⟩;rcases l with l|⟨k,c,e,z⟩
   . exact .inl l
   . exact .inr ⟨k,c,e,cellK x c e _ z⟩
 . obtain⟨v,z⟩:=I.cell x c e;exact⟨v,cellK x c e v z⟩
 . obtain⟨m,⟨o,_,_,ho,_⟩,_⟩:=I.loc;exact free _ o (λz=>(hch _ z).2.1 rfl) ho I.free
 . obtain⟨v,o,ho,hd⟩:=I.cell x c e;exact free c o (λz=>(hch c z).2.2.1 x c e rfl) ho (I.freeC x c e)
 . obtain⟨e,n,ne,nf,d⟩:=I.pin p hp;have nch:p.1 ∉ ch:=λz=>(hch p.1 z).2.2.2 p hp rfl
   exact⟨keep p.1 p.2 ne nf nch e n,free p.1 p.2 nch e n,ne,nf,d⟩
def Inv.un {t':Nat}(I:Inv X Mq σ H s) (u:Un X.fs [] H H' s.heap h') (hok:HOk X.prog X.w H' h'):Inv X Mq σ H' { s with heap:=h',toks:=t' }:=by
 obtain⟨m,⟨o,es,ep,ho,r⟩,_⟩:=id I.loc;obtain⟨sl,hL⟩:=u.any ho I.free (by simp);exact I.step (g':=s.gens) (d':=s.drawn) (ch:=[]) (λ_ z=>nomatch z) (λb o _ hb _ e n=>u.keep b o e n hb (by simp)) (λb o _ hb _ e n=>u.slot b o e n hb (by simp)) (λb o _ e n=>u.free b o e n (by simp)) (λb o _ e=>u.there b o e (by simp)) u.tups u.frzs u.tbls (λm' hm=>by
  obtain⟨o',es',ep',ho',r'⟩:=hm;rw[ho]at ho';cases ho';exact⟨_,es',ep',hL,r'⟩) hok I.bare
def Inv.call {g':Array GenState}{t':Nat}{d':Drawn}{ch:List D'}(I:Inv X Mq σ H s) (u:Un (frs X.stack) ch H H' s.heap h') (hok:HOk X.prog X.w H' h') (hg:AllBare g')
 (hch:∀ b∈ch,(b∈X.ex\/X.s₀.heap.objs.size <= b)/\b≠X.env.locals/\(∀ x c,X.env.cells.lookup x=dk c->c≠b)/\∀ p∈X.pn++Mq,p.1≠b) :
 Inv X Mq σ H' { s with heap:=h',gens:=g',drawn:=d',toks:=t' }:=by
 obtain⟨m,⟨o,es,ep,ho,r⟩,_⟩:=id I.loc;obtain⟨sl,hL⟩:=u.any ho I.free λz=>(hch _ z).2.1 rfl
 exact I.step (ch:=ch) hch (λb o hL hb hc e n=>u.keep b o e n (λz=>(KA.mp (I.stkSub b z)).elim hL hb) hc) (λb o _ _ hc e n=>u.any e n hc) (λb o hc e n=>u.free b o e n hc) (λb o hc e=>u.there b o e hc) u.tups u.frzs u.tbls (λm' hm=>by
  obtain⟨o',es',ep',ho',r'⟩:=hm;rw[ho]at ho';cases ho';exact⟨_,es',ep',hL,r'⟩) hok hg
def Inv.turned {t':Nat}{it:D'}(I:Inv X Mq σ H s) (k:∀ b o,b≠it->s.heap.get? b=dk o->h'.get? b=dk o) (hn:H it=JZ) (hL:it≠X.env.locals)
 (h1:it∈X.ex\/X.s₀.heap.objs.size <= it) (h2:∀ x c,X.env.cells.lookup x=dk c->c≠it) (h3:∀ p∈X.pn++Mq,p.1≠it):Inv X Mq σ H { s with heap:=h',toks:=t' }:=by
 have nit:∀ b u,H b=dk u->b≠it:=λb u e z=>by rw[z,hn]at e;cases e
 refine I.step (g':=s.gens) (d':=s.drawn) (ch:=[it]) (λb hb=>?_) (λb o _ _ hc e _=>k b o (λz=>hc (by simp[z])) e) (λb o _ _ hc e _=>⟨o.slots,k b o (λz=>hc (by simp[z])) e⟩) (λ_ _ _ _ n=>n)
  (λb o hc e=>⟨o,k b o (λz=>hc (by simp[z])) e⟩) (λ_ _ e=>e) (λ_ _ _ e=>e) (λb ps e=>⟨#[],by rw[e];simp⟩) (λm hm=>?_) (λb u e=>?_) I.bare
 . have e:b=it:=by simpa using hb
   subst e;exact⟨h1,hL,h2,h3⟩
 . obtain⟨o,es,ep,ho,r⟩:=hm;exact⟨o,es,ep,k _ o (Mb hL) ho,r⟩
 . refine(I.hok b u e).stay (λc v hc q=>k c v ?_ q) (λ_ q=>q) λ_ _ q=>q
   rcases hc with z|z
   . rw[z];exact nit b u e
   . exact nit c _ z
def Inv.tok (I:Inv X Mq σ H s) (t:Nat):Inv X Mq σ H { s with toks:=t }:=I.un (h':=s.heap) (t':=t) Un.refl I.hok
theorem Inv.kept {t':Nat}(I:Inv X Mq σ H s) (k:∀ b u,s.heap.get? b=dk u->h'.get? b=dk u):Inv X Mq σ H { s with heap:=h',toks:=t' }:=I.un (Un.kept k) (I.hok.kept k)
theorem Inv.laid {a:D'}{o:HO}{t':Nat}(I:Inv X Mq σ H s) (k:∀ b u,s.heap.get? b=dk u->h'.get? b=dk u) (hp:s.heap.objs.size <= a) (new:dJ X.prog X.w (upd H a o) h' a o) :
 Inv X Mq σ (upd H a o) { s with heap:=h',toks:=t' }:=I.un (Un.laid k hp (I.hok.fresh hp)) (I.hok.laid k hp new)
theorem Inv.write {x e:D'}{o:HO}{t':Nat}(I:Inv X Mq σ H s) (mu:Mut (H x)) (he:e=x\/H e=dk (.own x)) (k:∀ b u,b≠e->s.heap.get? b=dk u->h'.get? b=dk u) (heo:∃ u,h'.get? e=dk u)
 (new:dJ X.prog X.w (upd H x o) h' x o):Inv X Mq σ (upd H x o) { s with heap:=h',toks:=t' }:=I.un (Un.write mu he k heo) (I.hok.write mu he k heo new)
def Inv.pins_of {pins':List (D' × LF)}(I:Inv X Mq σ H s) (h:∀ p∈pins',s.heap.get? p.1=dk p.2/\H p.1=JZ/\p.1≠X.env.locals/\p.1 ∉ X.fs/\∀ v,p.2.data≠.cell v):Inv X pins' σ H s :=
 ⟨I.ok,I.os,I.bare,I.base,I.loc,I.cell,I.free,I.freeC,λp hp=>(KS.mp hp).elim (λz=>I.pin p (List.mem_append_left _ z)) (h p),I.hok,I.len⟩
def xc {N:List Str}(hN:N.Nodup) {i j:Nat}{x:Str}(a:N[i]?=dk x) (b:N[j]?=dk x):i=j:=by
 obtain⟨h1,e1⟩:=Kw.mp a;obtain⟨h2,e2⟩:=Kw.mp b;exact(List.getElem_inj hN).mp (e1.trans e2.symm)
def uX {M:Model}{A:KY}{E:JW->Kb->Prop}{i:Nat}{x:Str}{v:V}{u:JW}{Q:Unit->Kb->Prop}(I:Inv X Mq σ H s) (hN:X.N.Nodup) (hi:X.N[i]?=dk x) (hx:Loc X.env.scope x) (r:cm v u)
 (h:∀ s',Inv X Mq (σ.set i (dk v)) H s'->(∃ a,LH a s.heap s'.heap/\(a=X.env.locals\/X.env.cells.lookup x=dk a))->Q () s') (hf:X.fn x=j'\/X.env.scope.names.lookup x=dk .local:=by first|exact .inl rfl|exact .inr rfl|assumption):Kq M A (storeName X.env x u) Q E s:=by
 obtain⟨m,hn,hl⟩:=id I.loc;have hcls:(X.env.scope.kind == .class || (X.env.scope.kind == .module && X.env.locals != X.env.globals))=f':=by rw[I.ok.kind];rfl
 have hiσ:i < σ.length:=by rw[I.len];exact(Kw.mp hi).1
 have cne:=I.cne;have tracked:∀ {a:D'} {h':KN},(∃ o,s.heap.get? a=dk o/\H a=JZ)->LH a s.heap h'->HOk X.prog X.w H h':=λ{a h'} ha hs b ob e=>by
  obtain⟨_,_,hfree⟩:=ha;refine(I.hok b ob e).stay (λc w' hc q=>(hs.2 c ?_).trans q) (λ_ q=>q) λ_ _ q=>q
  rintro rfl;rcases hc with rfl|hc
  . rw[hfree]at e;cases e
  . rw[hfree]at hc;cases hc
 rcases hx with hk|hk
 . refine wpAny_storeName_local hk hn (λh' hn' hs=>?_) hcls;obtain⟨oL,_,_,hoL,_⟩:=id hn;refine h _ ⟨I.ok,I.os,I.bare,⟨λb o e n hb hx=>?_,λb o e n hb hx=>?_,I.base.free,λb o e hx=>?_,I.base.tups,I.base.frzs,I.base.tbls⟩,⟨_,hn',λj y v' e1 e2 e3=>?_⟩,λy c e=>?_,I.free,I.freeC,λp hp=>?_,tracked ⟨oL,hoL,I.free⟩ hs,by simpa using I.len⟩ ⟨_,hs,.inl rfl⟩
   . exact(hs.2 b (Ld (Kg (Ks e) I.ok.above))).trans (I.base.keep b o e n hb hx)
   . obtain⟨sl,e1⟩:=I.base.slot b o e n hb hx;exact⟨sl,(hs.2 b (Ld (Kg (Ks e) I.ok.above))).trans e1⟩
   . obtain⟨o',e1⟩:=I.base.there b o e hx;exact⟨o',(hs.2 b (Ld (Kg (Ks e) I.ok.above))).trans e1⟩
   . by_cases hj:j=i
     . subst hj;rw[hi]at e1;cases e1;rw[List.getElem?_set_self hiσ]at e2;cases e2;exact⟨u,r,.inl ⟨hk,by simp⟩⟩
     . rw[List.getElem?_set_ne (Mb hj)]at e2;obtain⟨u',r',q⟩:=hl j y v' e1 e2 e3;refine⟨u',r',?_⟩;rcases q with⟨k,e⟩|⟨k,c,e,z⟩
       . refine .inl ⟨k,?_⟩;have:y≠x:=λe=>hj (xc hN e1 (e ▸ hi))
         simp[this,e]
       . exact .inr ⟨k,c,e,z.sameBut hs (cne y c e)⟩
   . obtain⟨w',z⟩:=I.cell y c e;exact⟨w',z.sameBut hs (cne y c e)⟩
   . obtain⟨e,n,ne,nf,d⟩:=I.pin p hp;exact⟨(hs.2 p.1 ne).trans e,n,ne,nf,d⟩
 . have hfn:X.fn x=j':=by
    rcases hf with z|z
    . exact z
    . rw[z]at hk;cases hk
   obtain⟨c,hc⟩:=I.ok.has x (.inl hk);obtain⟨w',z⟩:=I.cell x c hc;refine wpAny_storeName_cell I.ok.kind hk hc z (λh' hc' hs=>?_);obtain⟨oc,hoc,hocd⟩:=id z;refine h { s with heap:=h' } ⟨I.ok,I.os,I.bare,⟨λb o e n hb hx=>?_,λb o e n hb hx=>?_,I.base.free,λb o e hx=>?_,I.base.tups,I.base.frzs,I.base.tbls⟩,⟨m,hn.sameBut hs (Mb (cne x c hc)),λj y v' e1 e2 e3=>?_⟩,λy c' e=>?_,I.free,I.freeC,λp hp=>?_,tracked ⟨oc,hoc,I.freeC x c hc⟩ hs,by simpa using I.len⟩ ⟨c,hs,.inr hc⟩
   . exact(hs.2 b (Ld (Kg (Ks e) (I.ok.cab x c hfn hc)))).trans (I.base.keep b o e n hb hx)
   . obtain⟨sl,e1⟩:=I.base.slot b o e n hb hx;exact⟨sl,(hs.2 b (Ld (Kg (Ks e) (I.ok.cab x c hfn hc)))).trans e1⟩
   . obtain⟨o',e1⟩:=I.base.there b o e hx;exact⟨o',(hs.2 b (Ld (Kg (Ks e) (I.ok.cab x c hfn hc)))).trans e1⟩
   . by_cases hj:j=i
     . subst hj;rw[hi]at e1;cases e1;rw[List.getElem?_set_self hiσ]at e2;cases e2;exact⟨u,r,.inr ⟨.inl hk,c,hc,hc'⟩⟩
     . rw[List.getElem?_set_ne (Mb hj)]at e2;obtain⟨u',r',q⟩:=hl j y v' e1 e2 e3;refine⟨u',r',?_⟩;rcases q with q|⟨k,c',e,z'⟩
       . exact .inl q
       . refine .inr ⟨k,c',e,z'.sameBut hs ?_⟩;rintro rfl;exact hj (xc hN e1 (I.ok.inj _ _ _ e hc ▸ hi))
   . by_cases hcc:c'=c
     . subst hcc;exact⟨_,hc'⟩
     . obtain⟨w2,z2⟩:=I.cell y c' e;exact⟨w2,z2.sameBut hs hcc⟩
   . obtain⟨e,n,ne,nf,d⟩:=I.pin p hp;refine⟨(hs.2 p.1 ?_).trans e,n,ne,nf,d⟩;intro q;rw[q,hoc]at e;have q':oc=p.2:=KH e;exact d w' (by rw[<-q'];exact hocd)
def xG {M:Model}{A:KY}{E:JW->Kb->Prop}{i:Nat}{x:Str}{v:V}{u:JW}{Q:Unit->Kb->Prop}(I:Inv X Mq σ H s) (hN:X.N.Nodup) (hi:X.N[i]?=dk x) (hx:Loc X.env.scope x) (r:cm v u)
 (h:∀ s',Inv X Mq (σ.set i (dk v)) H s'->Q () s') (hf:X.fn x=j'\/X.env.scope.names.lookup x=dk .local:=by first|exact .inl rfl|exact .inr rfl|assumption):Kq M A (storeName X.env x u) Q E s :=
 uX I hN hi hx r (λs' I' _=>h s' I') hf
def Inv.call' {s':Kb}{ch:List D'}(I:Inv X Mq σ H s) (ho:s'.os=s.os) (u:Un (frs X.stack) ch H H' s.heap s'.heap) (hok:HOk X.prog X.w H' s'.heap) (hg:AllBare s'.gens)
 (hch:∀ b∈ch,(b∈X.ex\/X.s₀.heap.objs.size <= b)/\b≠X.env.locals/\(∀ x c,X.env.cells.lookup x=dk c->c≠b)/\∀ p∈X.pn++Mq,p.1≠b):Inv X Mq σ H' s':=by
 obtain⟨h',g',d',t',o'⟩:=s';have e:o'=s.os:=ho;subst e;exact I.call (g':=g') (t':=t') (d':=d') u hok hg hch
end
abbrev XK:=JW->Option D'->Hp->Prop
abbrev St:=List (Option V)
abbrev VK:=V->Hp->Prop
abbrev TE:=St->Hp->VK->Prop
abbrev TT:=St->Hp->(Bool->Hp->Prop)->Prop
abbrev TA:=St->Hp->(List V->Hp->Prop)->Prop
structure Ends where
 nx:St->Hp->Prop
 rt:VK
 bk:St->Hp->Prop:=λ_ _=>False
 ct:St->Hp->Prop:=λ_ _=>False
abbrev TS:=Ends->St->Hp->Prop
def EP (X:Cx) (Mq:List (D' × LF)) (σ:St) (Q:VK) (u:JW) (s':Kb):Prop:=∃ v H',Inv X Mq σ H' s'/\cm v u/\Q v H'
def TP (X:Cx) (Mq:List (D' × LF)) (σ:St) (Q:Bool->Hp->Prop) (b:Bool) (s':Kb):Prop:=∃ H',Inv X Mq σ H' s'/\Q b H'
def AP (X:Cx) (Mq:List (D' × LF)) (σ:St) (Q:List V->Hp->Prop) (us:List JW) (s':Kb):Prop:=∃ vs H',Inv X Mq σ H' s'/\bZ vs us/\Q vs H'
def SP (X:Cx) (Mq:List (D' × LF)) (D:Ends) (f:Flow) (s':Kb):Prop :=
 match f with
|.next=>∃ σ' H',Inv X Mq σ' H' s'/\D.nx σ' H'
|.brk=>∃ σ' H',Inv X Mq σ' H' s'/\D.bk σ' H'
|.cont=>∃ σ' H',Inv X Mq σ' H' s'/\D.ct σ' H'
|.ret u=>∃ v σ' H',Inv X Mq σ' H' s'/\cm v u/\D.rt v H'
def PE (X:Cx) (e:Expr) (t:TE):Prop :=
 ∀ (Mq:List (D' × LF)) (s:Kb) (σ:St) (H:Hp) (Q:VK),Inv X Mq σ H s->t σ H Q->Kq (model X.prog X.w) X.A (eval e X.env) (EP X Mq σ Q) X.xe s
def PT (X:Cx) (e:Expr) (t:TT):Prop :=
 ∀ (Mq:List (D' × LF)) (s:Kb) (σ:St) (H:Hp) (Q:Bool->Hp->Prop),Inv X Mq σ H s->t σ H Q->Kq (model X.prog X.w) X.A (isTrue e X.env (eval e X.env)) (TP X Mq σ Q) X.xe s
def PW (X:Cx) (e:Expr) (t:TT):Prop :=
 ∀ (whole:Sem JW) (Mq:List (D' × LF)) (s:Kb) (σ:St) (H:Hp) (Q:Bool->Hp->Prop),Inv X Mq σ H s->t σ H Q->Kq (model X.prog X.w) X.A (isTrue e X.env whole) (TP X Mq σ Q) X.xe s
def PW.pt {X:Cx}{e:Expr}{t:TT}(h:PW X e t):PT X e t:=h _
def PA (X:Cx) (es:List Expr) (t:TA):Prop :=
 ∀ (pos:Pos) (Mq:List (D' × LF)) (s:Kb) (σ:St) (H:Hp) (Q:List V->Hp->Prop),Inv X Mq σ H s->t σ H Q->Kq (model X.prog X.w) X.A (spliced (L7 pos (KP es X.env))) (AP X Mq σ Q) X.xe s
def PS (X:Cx) (st:K0) (t:TS):Prop :=
 ∀ (Mq:List (D' × LF)) (s:Kb) (σ:St) (H:Hp) (D:Ends),Inv X Mq σ H s->t D σ H->Kq (model X.prog X.w) X.A (exec st X.env) (SP X Mq D) X.xe s
def PSs (X:Cx) (st:List K0) (t:TS):Prop :=
 ∀ (Mq:List (D' × LF)) (s:Kb) (σ:St) (H:Hp) (D:Ends),Inv X Mq σ H s->t D σ H->Kq (model X.prog X.w) X.A (execs st X.env) (SP X Mq D) X.xe s
def thn {α:Type}{t:Sem α}{Q Q':α->Kb->Prop}{M:Model}{A:KY}{E:JW->Kb->Prop}{s:Kb}(h:Kq M A t Q E s) (hQ:∀ a s,Q a s->Q' a s):Kq M A t Q' E s:=Md h hQ λ_ _ x=>x
section
variable {X:Cx}
def tO (i:Nat):TE:=λσ H Q=>∃ v,σ[i]?=dk (dk v)/\Q v H
def tC (v:V):TE:=λ_ H Q=>Q v H
def GY {i:Nat}{x:Str}{pos:Pos}(hN:X.N[i]?=dk x) (hv:Vis X.env.scope x) (hd:(x == ("__debug__":Str))=f':=by decide) (hcd:(x == ("__classdict__":Str))=f':=by decide):PE X (.Name x pos) (tO i):=by
 intro Mq s σ H Q I h;obtain⟨v,e,h⟩:=h;obtain⟨m,hn,hl⟩:=I.loc;obtain⟨u,r,l⟩:=hl i x v hN e hv;have fin:EP X Mq σ Q u s:=⟨v,H,I,r,h⟩
 rcases l with⟨hk,hm⟩|⟨hk,c,hc,hcell⟩
 . exact wpAny_Name (wpAny_loadName_local I.ok.kind hk hn hm fin) hd
 . rcases hk with hk|hk
   . exact wpAny_Name (wpAny_loadName_cell I.ok.kind hk hc hcell fin) hd
   . exact wpAny_Name (wpAny_loadName_free I.ok.kind hk hc hcell fin hcd) hd
def ai {i j pos}:PE X (.Constant (.int i) j pos) (tC (.int i)):=λ_ _ _ H _ I h=>wpAny_Constant_int ⟨.int i,H,I.tok _,⟨_,rfl⟩,h⟩
def bF {b j pos}:PE X (.Constant (.bool b) j pos) (tC (.bl b)):=λ_ _ _ H _ I h=>Constant_bool ⟨.bl b,H,I,rfl,h⟩
def ib {j pos}:PE X (.Constant .none j pos) (tC .non):=λ_ _ _ H _ I h=>Constant_none ⟨.non,H,I,rfl,h⟩
def au {x j pos}:PE X (.Constant (.str x) j pos) (tC (.str x)):=λ_ _ _ H _ I h=>Calls.Constant_str ⟨.str x,H,I.tok _,⟨_,rfl⟩,h⟩
def Gl (X:Cx) (x:Str):Prop:=X.env.kindOf x=dk .globalImplicit
def jZ {E:JW->Kb->Prop}{Mq:List (D' × LF)}{s:Kb}{σ:St}{H:Hp}{x:Str}{u:JW}{pos:Pos}{Q:JW->Kb->Prop}(I:Inv X Mq σ H s) (hg:Gl X x) (hm:X.mg x=dk u) (h:Q u s)
 (hd:(x == ("__debug__":Str))=f':=by decide):Kq (model X.prog X.w) X.A (eval (.Name x pos) X.env) Q E s :=
 Calls.Name_function_global I.ok.kind hg (Calls.loadGlobal_global (by rw[I.ok.glob];exact I.mod.glob.keeps I.bk) hm h) hd
def pc {E:JW->Kb->Prop}{Mq:List (D' × LF)}{s:Kb}{σ:St}{H:Hp}{x:Str}{u:JW}{pos:Pos}{Q:JW->Kb->Prop}(I:Inv X Mq σ H s) (hg:Gl X x) (hm:X.mg x=JZ) (hv:K7 x=dk u) (h:Q u s)
 (hn:x≠"__name__":=by decide) (hd:(x == ("__debug__":Str))=f':=by decide):Kq (model X.prog X.w) X.A (eval (.Name x pos) X.env) Q E s:=by
 obtain⟨mb,h1,h2⟩:=I.mod.blt;exact Calls.Name_function_global I.ok.kind hg (Calls.loadGlobal_builtin (by rw[I.ok.glob];exact I.mod.glob.keeps I.bk) hm (by rw[I.ok.blt];exact h1.keeps I.bk) ((h2 x hn).trans hv) h) hd
def fm {x:Str}{v:V}{u:JW}{pos:Pos}(hg:Gl X x) (hm:X.mg x=dk u) (r:cm v u) (hd:(x == ("__debug__":Str))=f':=by decide):PE X (.Name x pos) (tC v) :=
 λ_ _ _ H _ I h=>jZ I hg hm ⟨v,H,I,r,h⟩ hd
def oM {x:Str}{v:V}{u:JW}{pos:Pos}(hg:Gl X x) (hm:X.mg x=JZ) (hv:K7 x=dk u) (r:cm v u) (hn:x≠"__name__":=by decide) (hd:(x == ("__debug__":Str))=f':=by decide):PE X (.Name x pos) (tC v) :=
 λ_ _ _ H _ I h=>pc I hg hm hv ⟨v,H,I,r,h⟩ hn hd
variable {a b:Expr}{ta tb:TE}{pos:Pos}
def PC (X:Cx) (op:CmpOp) (a b:Expr) (t:TE):Prop :=
 ∀ (Mq:List (D' × LF)) (s:Kb) (σ:St) (H:Hp) (Q:VK),Inv X Mq σ H s->t σ H Q ->
  Kq (model X.prog X.w) X.A (eval a X.env) (λv s₁=>Kq (model X.prog X.w) X.A (eval b X.env) (λu s₂=>Kq (model X.prog X.w) X.A (Lg op v u) (EP X Mq σ Q) X.xe s₂) X.xe s₁) X.xe s
def wB (b:Expr) {op:CmpOp}(h:op≠.In) (h2:op≠.NotIn):behindInMarks op b=f':=by
 have e1:(op == CmpOp.In)=f':=by cases op<;>first|rfl|exact absurd rfl h
 have e2:(op == CmpOp.NotIn)=f':=by cases op<;>first|rfl|exact absurd rfl h2
 cases b<;>simp[behindInMarks,e1,e2]
def tB (t:TE):TT:=λσ H Q=>t σ H λx H1=>∃ c,x=.bl c/\Q c H1
def xz {op:CmpOp}{t:TE}(h:PC X op a b t) (h1:behindInMarks op b=f':=by first|exact wB _ (by decide) (by decide)|rfl):PE X (.Compare a [op] [b] pos) t:=λMq s σ H Q I hw=>wpAny_Compare1 (h Mq s σ H Q I hw) h1
def wK {op:CmpOp}{t:TE}(h:PC X op a b t) (h1:behindInMarks op b=f':=by first|exact wB _ (by decide) (by decide)|rfl):PT X (.Compare a [op] [b] pos) (tB t):=by
 intro Mq s σ H Q I hw;refine wpAny_isTrue_Compare1 (thn (h Mq s σ H _ I hw) λv s1 h1=>thn h1 λu s2 h2=>thn h2 λc s3 ur1=>?_) h1;obtain⟨x,H1,I1,r1,q1⟩:=ur1;obtain⟨d,rfl,q⟩:=q1;cases r1;exact Lw ⟨H1,I1,q⟩
def cJ {e:Expr}{t:TE}(h:PE X e t) (he:∀ whole,isTrue e X.env whole=(do let v <-whole;standAt e.pos;holding [v] (truthy v)):=by intro _;rfl):PT X e (tB t):=by
 intro Mq s σ H Q I hw;refine isTrue_plain (thn (h Mq s σ H _ I hw) λv s1 ur2=>?_) (he _);obtain⟨x,H1,I1,r1,q1⟩:=ur2;obtain⟨d,rfl,q⟩:=q1;cases r1;exact Lw ⟨H1,I1,q⟩
variable {tA tB':TT}{rest:List Expr}
def Ja (t u:TT):TT:=λσ H Q=>t σ H λc H1=>if c=j' then u σ H1 Q else Q f' H1
def tOr (t u:TT):TT:=λσ H Q=>t σ H λc H1=>if c=j' then Q j' H1 else u σ H1 Q
def J0 (t:TT):TT:=λσ H Q=>t σ H λc H1=>Q (!c) H1
def pJ (ha:PT X a tA):PW X (.BoolOp .And [a] pos) tA:=by
 intro wh Mq s σ H Q I h;refine isTrue_and (thn (ha Mq s σ H Q I h) λc s1 e=>?_);cases c with
|true=>exact isTrue_and_nil e
|false=>exact e
def kF (ha:PT X a tA):PW X (.BoolOp .Or [a] pos) tA:=by
 intro wh Mq s σ H Q I h;refine isTrue_or (thn (ha Mq s σ H Q I h) λc s1 e=>?_);cases c with
|false=>exact isTrue_or_nil e
|true=>exact e
def rq (ha:PT X a tA) (hb:PW X (.BoolOp .And (b :: rest) pos) tB'):PW X (.BoolOp .And (a :: b :: rest) pos) (Ja tA tB'):=by
 intro wh Mq s σ H Q I h;refine isTrue_and (thn (ha Mq s σ H _ I h) λc s1 ur3=>?_);obtain⟨H1,I1,q1⟩:=ur3;cases c with
|true=>exact hb wh Mq s1 σ H1 Q I1 q1
|false=>exact⟨H1,I1,q1⟩
def pH (ha:PT X a tA) (hb:PW X (.BoolOp .Or (b :: rest) pos) tB'):PW X (.BoolOp .Or (a :: b :: rest) pos) (tOr tA tB'):=by
 intro wh Mq s σ H Q I h;refine isTrue_or (thn (ha Mq s σ H _ I h) λc s1 ur4=>?_);obtain⟨H1,I1,q1⟩:=ur4;cases c with
|true=>exact⟨H1,I1,q1⟩
|false=>exact hb wh Mq s1 σ H1 Q I1 q1
def i9 (ha:PT X a tA):PT X (.UnaryOp .Not a pos) (J0 tA):=by
 intro Mq s σ H Q I h;exact isTrue_not (ha Mq s σ H (λc H1=>Q (!c) H1) I h)
def HD (ta tb:TE):TE:=λσ H Q=>ta σ H λx H1=>∃ c,x=.bl c/\if c=j' then tb σ H1 Q else Q (.bl f') H1
def Jm (ta tb:TE):TE:=λσ H Q=>ta σ H λx H1=>∃ c,x=.bl c/\if c=j' then Q (.bl j') H1 else tb σ H1 Q
def Ir (ta:TE):TE:=λσ H Q=>ta σ H λx H1=>∃ c,x=.bl c/\Q (.bl (!c)) H1
def De {op}{t:TE}(h:PE X a t):PE X (.BoolOp op [a] pos) t:=λMq s σ H Q I hw=>BoolOp_one (h Mq s σ H Q I hw)
def FL (ha:PE X a ta) (hb:PE X (.BoolOp .And (b :: rest) pos) tb):PE X (.BoolOp .And (a :: b :: rest) pos) (HD ta tb):=by
 intro Mq s σ H Q I h;refine BoolOp_and (thn (ha Mq s σ H _ I h) λv s1 ur5=>?_);obtain⟨x,H1,I1,r1,q1⟩:=ur5;obtain⟨c,rfl,q1⟩:=q1;cases r1;refine Lw ?_;cases c with
|true=>exact hb Mq s1 σ H1 Q I1 q1
|false=>exact⟨.bl f',H1,I1,rfl,q1⟩
def Hw (ha:PE X a ta) (hb:PE X (.BoolOp .Or (b :: rest) pos) tb):PE X (.BoolOp .Or (a :: b :: rest) pos) (Jm ta tb):=by
 intro Mq s σ H Q I h;refine BoolOp_or (thn (ha Mq s σ H _ I h) λv s1 ur6=>?_);obtain⟨x,H1,I1,r1,q1⟩:=ur6;obtain⟨c,rfl,q1⟩:=q1;cases r1;refine Lw ?_;cases c with
|false=>exact hb Mq s1 σ H1 Q I1 q1
|true=>exact⟨.bl j',H1,I1,rfl,q1⟩
def FY (ha:PE X a ta):PE X (.UnaryOp .Not a pos) (Ir ta):=by
 intro Mq s σ H Q I h;refine UnaryOp_ (thn (ha Mq s σ H _ I h) λv s1 ur7=>?_);obtain⟨x,H1,I1,r1,q1⟩:=ur7;obtain⟨c,rfl,q1⟩:=q1;cases r1;exact not_of (Lw ⟨.bl (!c),H1,I1,rfl,q1⟩)
def tIf (t:TT) (ta tb:TE):TE:=λσ H Q=>t σ H λc H1=>if c=j' then ta σ H1 Q else tb σ H1 Q
def ms {c:Expr}(hc:PT X c tA) (ha:PE X a ta) (hb:PE X b tb):PE X (.IfExp c a b pos) (tIf tA ta tb):=by
 intro Mq s σ H Q I h;refine wpAny_IfExp (thn (hc Mq s σ H _ I h) λd s1 ur8=>?_);obtain⟨H1,I1,q1⟩:=ur8;cases d with
|true=>exact ha Mq s1 σ H1 Q I1 q1
|false=>exact hb Mq s1 σ H1 Q I1 q1
end
def SqL (K:Kc) (H:Hp) (a:D') (xs:List V):Prop :=
 Rd H a (.lst xs) \/
  ∃ (o:LF) (its:Array JW) (n:Nat),K.lookup a=dk o/\o.cls=.type "list"/\o.dict=JZ/\o.data=.seq its n/\its.size <= Ki/\bZ xs its.toList
def SqT (K:Kc) (H:Hp) (a:D') (xs:List V):Prop :=
 Rd H a (.tup xs) \/
  ∃ (o:LF) (its:Array JW) (n:Nat),K.lookup a=dk o/\o.cls=.type "tuple"/\o.data=.seq its n/\its.size <= Ki/\bZ xs its.toList
def JK:JW->Option V
|.none=>dk .non
|.bool b=>dk (.bl b)
|.int i _=>dk (.int i)
|.str x _=>dk (.str x)
|.bytes b _=>dk (.byt b)
|.float b _=>dk (.flt b)
|.ref a=>dk (.ref a)
|.type n=>dk (.ty n)
|_=>JZ
def cm.abs {x:V}{u:JW}(r:cm x u):JK u=dk x:=by
 cases x with
|non=>cases r;rfl
|bl _=>cases r;rfl
|int _=>obtain⟨t,rfl⟩:=r;rfl
|str _=>obtain⟨t,rfl⟩:=r;rfl
|byt _=>obtain⟨t,rfl⟩:=r;rfl
|flt _=>obtain⟨t,rfl⟩:=r;rfl
|ref _=>cases r;rfl
|ty _=>cases r;rfl
theorem cm.inj {x y:V}{u:JW}(r:cm x u) (q:cm y u):x=y:=KH (r.abs.symm.trans q.abs)
theorem bZ.inj:∀ {xs ys:List V}{us:List JW},bZ xs us->bZ ys us->xs=ys
|_,_,_,.nil,.nil=>rfl
|_,_,_,.cons r t,.cons r' t'=>by rw[r.inj r',bZ.inj t t']
section
variable {X:Cx}{Mq:List (D' × LF)}{σ:St}{H:Hp}{s:Kb}{a:D'}{xs ys:List V}
def SqL.of {K:Kc}(h:H a=dk (.lst xs)):SqL K H a xs:=.inl (.inl h)
def SqT.of {K:Kc}(h:H a=dk (.tup xs)):SqT K H a xs:=.inl (.inl h)
def Inv.list (I:Inv X Mq σ H s) (h:SqL X.K H a xs):∃ its:List JW,bZ xs its/\PlainL s.heap a its.toArray/\xs.length <= Ki:=by
 rcases h with h|⟨o,its,n,hk,hc,hd,hs,hz,r⟩
 . obtain⟨z,its,n,r,e⟩:=h.ok I.hok;exact⟨its,r,⟨_,n,e,rfl,rfl,rfl⟩,z⟩
 . refine⟨its.toList,r,⟨o,n,I.kIn a o hk,hc,hd,by simpa using hs⟩,?_⟩;have e:=r.length;simp only[Mi]at e;omega
def Inv.tuple (I:Inv X Mq σ H s) (h:SqT X.K H a xs):∃ its:List JW,bZ xs its/\IsTup s.heap a its.toArray/\xs.length <= Ki:=by
 rcases h with h|⟨o,its,n,hk,hc,hs,hz,r⟩
 . obtain⟨z,its,r,p⟩:=h.ok I.hok;exact⟨its,r,p,z⟩
 . refine⟨its.toList,r,⟨o,I.kIn a o hk,hc,n,by simpa using hs⟩,?_⟩;have e:=r.length;simp only[Mi]at e;omega
def Inv.list_inj (I:Inv X Mq σ H s) (h:SqL X.K H a xs) (h':SqL X.K H a ys):xs=ys:=by
 obtain⟨its,r,⟨o,n,e,_,_,d⟩,_⟩:=I.list h;obtain⟨its',r',⟨o',n',e',_,_,d'⟩,_⟩:=I.list h';rw[e]at e';cases e';rw[d]at d';injection d' with d1 _
 have:its=its':=by simpa using congrArg Array.toList d1
 subst this;exact r.inj r'
def Inv.tuple_inj (I:Inv X Mq σ H s) (h:SqT X.K H a xs) (h':SqT X.K H a ys):xs=ys:=by
 obtain⟨its,r,⟨o,e,_,n,d⟩,_⟩:=I.tuple h;obtain⟨its',r',⟨o',e',_,n',d'⟩,_⟩:=I.tuple h';rw[e]at e';cases e';rw[d]at d';injection d' with d1 _
 have:its=its':=by simpa using congrArg Array.toList d1
 subst this;exact r.inj r'
end
abbrev Cx.wish (X:Cx) (E:JW->Kb->Prop):Cx:={ X with xe:=E }
abbrev Cx.nox (X:Cx):Cx:=X.wish λ_ _=>False
theorem Cx.Ok.wish {X:Cx}(ok:X.Ok) (E:JW->Kb->Prop):(X.wish E).Ok :=
 ⟨ok.mod,ok.kind,ok.glob,ok.blt,ok.above,ok.inj,ok.has,ok.cab,ok.hd,ok.frames,ok.stk,ok.exf,ok.bs,ok.bsz,ok.noex,ok.exfs,ok.funs,ok.frf⟩
def Cx.Ok.unwish {X:Cx}{E:JW->Kb->Prop}(ok:(X.wish E).Ok):X.Ok :=
 ⟨ok.mod,ok.kind,ok.glob,ok.blt,ok.above,ok.inj,ok.has,ok.cab,ok.hd,ok.frames,ok.stk,ok.exf,ok.bs,ok.bsz,ok.noex,ok.exfs,ok.funs,ok.frf⟩
section
variable {X:Cx}{Mq:List (D' × LF)}{σ:St}{H:Hp}{s:Kb}{E:JW->Kb->Prop}
theorem Inv.wish (I:Inv X Mq σ H s) (E:JW->Kb->Prop):Inv (X.wish E) Mq σ H s:=⟨I.ok.wish E,I.os,I.bare,I.base,I.loc,I.cell,I.free,I.freeC,I.pin,I.hok,I.len⟩
theorem Inv.unwish (I:Inv (X.wish E) Mq σ H s):Inv X Mq σ H s:=⟨I.ok.unwish,I.os,I.bare,I.base,I.loc,I.cell,I.free,I.freeC,I.pin,I.hok,I.len⟩
theorem SP.unwish {D:Ends}{f:Flow}{s':Kb}(h:SP (X.wish E) Mq D f s'):SP X Mq D f s':=by
 cases f with
|next=>obtain⟨σ',H',I,q⟩:=h;exact⟨σ',H',I.unwish,q⟩
|brk=>obtain⟨σ',H',I,q⟩:=h;exact⟨σ',H',I.unwish,q⟩
|cont=>obtain⟨σ',H',I,q⟩:=h;exact⟨σ',H',I.unwish,q⟩
|ret u=>obtain⟨v,σ',H',I,r,q⟩:=h;exact⟨v,σ',H',I.unwish,r,q⟩
theorem PSs.nox {st:List K0}{t:TS}(h:PSs X.nox st t):PSs X st t:=λMq s σ H D I hw =>
 Md (h Mq s σ H D (I.wish _) hw) (λ_ _ q=>q.unwish) λ_ _ z=>Lj z
end
section
variable {X:Cx}{st:K0}{rest:List K0}{t u:TS}{e:Expr}{te:TE}{pos:Pos}
def Iq:TS:=λD σ H=>D.nx σ H
def Ji (t u:TS):TS:=λD σ H=>t { D with nx:=u D } σ H
def aq:PSs X [] Iq:=λ_ _ σ H _ I h=>wpAny_execs_nil ⟨σ,H,I,h⟩
def Cm (h1:PS X st t) (h2:PSs X rest u):PSs X (st :: rest) (Ji t u):=by
 intro Mq s σ H D I h;refine wpAny_execs_cons (thn (h1 Mq s σ H { D with nx:=u D } I h) λf s1 q=>?_);cases f with
|next =>
  obtain⟨σ',H',I',q⟩:=q;exact h2 Mq s1 σ' H' D I' q
|ret v=>exact q
|brk=>exact q
|cont=>exact q
def ar (h1:PS X st t):PSs X [st] t:=by
 intro Mq s σ H D I h;refine wpAny_execs_cons (thn (h1 Mq s σ H D I h) λf s1 q=>?_);cases f with
|next=>exact wpAny_execs_nil q
|ret v=>exact q
|brk=>exact q
|cont=>exact q
def Fz:TS:=λD σ H=>D.bk σ H
def Cz:PS X (.Break pos) Fz:=λ_ _ σ H _ I h=>wpAny_Break ⟨σ,H,I,h⟩
def Inv.quiet {Mq:List (D' × LF)}{σ:St}{H:Hp}{s:Kb}(I:Inv X Mq σ H s):interactive X.env=f':=by simp[interactive,I.ok.kind]
def Ij (te:TE):TS:=λD σ H=>te σ H λ_ H1=>D.nx σ H1
def aK (he:PE X e te) (hs:swapsWith e JZ pos.line X.env=pure f':=by rfl):PS X (.Expr e pos) (Ij te):=by
 intro Mq s σ H D I h;exact wpAny_Expr_any (thn (he Mq s σ H _ I h) λv s1 uq1=>by(obtain⟨x,H1,I1,r1,q1⟩:=uq1;exact ⟨σ,H1,I1,q1⟩)) I.quiet hs
def Je (te:TE):TS:=λD σ H=>te σ H D.rt
def GB (he:PE X e te):PS X (.Return (dk e) pos) (Je te):=by
 intro Mq s σ H D I h;exact wpAny_Return_some (thn (he Mq s σ H _ I h) λv s1 uq2=>by(obtain⟨x,H1,I1,r1,q1⟩:=uq2;exact ⟨x,σ,H1,I1,r1,q1⟩))
def Iv:TS:=λD _ H=>D.rt .non H
def E9:PS X (.Return JZ pos) Iv:=λ_ _ σ H _ I h=>wpAny_Return_none ⟨.non,σ,H,I,rfl,h⟩
def Jx (c:TT) (t u:TS):TS:=λD σ H=>c σ H λb H1=>if b=j' then t D σ H1 else u D σ H1
def aO {c:Expr}{a b:List K0}{tc:TT}(hc:PT X c tc) (ha:PSs X a t) (hb:PSs X b u):PS X (.If c a b pos) (Jx tc t u):=by
 intro Mq s σ H D I h;refine wpAny_If (thn (hc Mq s σ H _ I h) λd s1 ur9=>?_);obtain⟨H1,I1,q1⟩:=ur9;cases d with
|true=>exact ha Mq s1 σ H1 D I1 q1
|false=>exact hb Mq s1 σ H1 D I1 q1
def FR:TS:=λ_ _ _=>False
def BF:PS X st FR:=λ_ _ _ _ _ _ h=>h.elim
end
abbrev TG:=V->St->Hp->(St->Hp->Prop)->Prop
abbrev TGs:=List V->St->Hp->(St->Hp->Prop)->Prop
def PG (X:Cx) (target:Expr) (t:TG):Prop :=
 ∀ (Mq:List (D' × LF)) (s:Kb) (σ:St) (H:Hp) (v:V) (u:JW) (Q:St->Hp->Prop),Inv X Mq σ H s->cm v u->t v σ H Q ->
  Kq (model X.prog X.w) X.A (assign target X.env u) (λ_ s'=>∃ σ' H',Inv X Mq σ' H' s'/\Q σ' H') X.xe s
def PGs (X:Cx) (ts:List Expr) (t:TGs):Prop :=
 ∀ (Mq:List (D' × LF)) (s:Kb) (σ:St) (H:Hp) (vs:List V) (us:List JW) (Q:St->Hp->Prop),Inv X Mq σ H s->bZ vs us->t vs σ H Q ->
  Kq (model X.prog X.w) X.A (assignInOrder ((assignEach ts X.env).map (·.2)) us) (λ_ s'=>∃ σ' H',Inv X Mq σ' H' s'/\Q σ' H') X.xe s
abbrev Ho:=V->V->V->Hp->(Hp->Prop)->Prop
def Iz (X:Cx) (t:Ho):Prop :=
 ∀ (Mq:List (D' × LF)) (s:Kb) (σ:St) (H:Hp) (o i v:V) (ov iv u:JW) (Q:Hp->Prop),Inv X Mq σ H s->cm o ov->cm i iv->cm v u->t o i v H Q ->
  Kq (model X.prog X.w) X.A (setItem ov iv u) (λ_ s'=>∃ H',Inv X Mq σ H' s'/\Q H') X.xe s
section
variable {X:Cx}{pos:Pos}
def o9 (i:Nat):TG:=λv σ H Q=>Q (σ.set i (dk v)) H
def bV {i:Nat}{x:Str}(hN:X.N.Nodup) (hi:X.N[i]?=dk x) (hx:Loc X.env.scope x) (hf:X.fn x=j'\/X.env.scope.names.lookup x=dk .local:=by first|exact .inl rfl|exact .inr rfl|assumption):PG X (.Name x pos) (o9 i):=by
 intro Mq s σ H v u Q I r h;exact wpAny_assign_Name (xG I hN hi hx r (λs' I'=>⟨_,H,I',h⟩) hf)
def Ie:TGs:=λvs σ H Q=>vs=[]/\Q σ H
def zh (t:TG) (u:TGs):TGs:=λvs σ H Q=>∃ v r,vs=v :: r/\t v σ H λσ' H'=>u r σ' H' Q
def pL:PGs X [] Ie:=by
 intro Mq s σ H vs us Q I r h;obtain⟨e,h⟩:=h;subst e;cases r;exact assignInOrder_nil ⟨σ,H,I,h⟩
def eg {e:Expr}{es:List Expr}{t:TG}{u:TGs}(h1:PG X e t) (h2:PGs X es u)
 (hs:(assignEach (e :: es) X.env).map (·.2)=assign e X.env :: (assignEach es X.env).map (·.2):=by rfl):PGs X (e :: es) (zh t u):=by
 intro Mq s σ H vs us Q I r h;obtain⟨v,vr,e1,h⟩:=h;subst e1;cases r with
|cons r rr =>
  rw[hs];refine assignInOrder_cons (thn (h1 Mq s σ H _ _ _ I r h) λ_ s1 ur10=>?_);obtain⟨σ1,H1,I1,q1⟩:=ur10;exact h2 Mq s1 σ1 H1 _ _ Q I1 rr q1
def HP (K:Kc) (n:Nat) (t:TGs):TG:=λv σ H Q=>∃ a xs,v=.ref a/\SqT K H a xs/\xs.length=n/\t xs σ H Q
def uk {es:List Expr}{k:Nat}{t:TGs}{n:Nat}(hc:X.calm=j') (h:PGs X es t)
 (hn:(assignEach es X.env).length=n:=by rfl) (hst:(assignEach es X.env).findIdx? (·.1)=JZ:=by rfl):PG X (.Tuple es k pos) (HP X.K n t):=by
 intro Mq s σ H v u Q I r hw;obtain⟨a,xs,e1,hq,hl,hw⟩:=hw;subst e1;cases r;obtain⟨its,rv,ht,hz⟩:=I.tuple hq;refine assign_Tuple_tuple (I.ok.hd hc) ht (by simp[hn,<-hl,rv.length]) hst λh' hx=>?_
 have I1:Inv X Mq σ H { s with heap:=h' }:=I.kept (t':=s.toks) λb o e=>hx b o (Ld (Ks e)) e
 exact h Mq _ σ H xs _ Q I1 (by simpa using rv) hw
def JR (to ti:TE) (t:Ho):TG:=λv σ H Q=>to σ H λo H1=>ti σ H1 λi H2=>t o i v H2 λH3=>Q σ H3
def jd {o i:Expr}{to ti:TE}{t:Ho}(ho:PE X o to) (hi:PE X i ti) (hs:Iz X t)
 (ha:∀ v,assign (.Subscript o i pos) X.env v=(do
  let ov <-holding [v] (eval o X.env);let iv <-holding [v,ov] (eval i X.env)
  standAt pos
  holding [v,ov,iv] (setItem ov iv v)
  release [v,ov,iv] []):=by intro _;rfl):PG X (.Subscript o i pos) (JR to ti t):=by
 intro Mq s σ H v u Q I r h;rw[ha];refine G' (LG (thn (ho Mq s σ H _ I h) λov s1 ur11=>?_));obtain⟨x,H1,I1,r1,q1⟩:=ur11;refine G' (LG (thn (hi Mq s1 σ H1 _ I1 q1) λiv s2 ⟨y,H2,I2,r2,q2⟩=>?_));refine G' (wpAny_standAt (G' (LG (thn (hs Mq s2 σ H2 x y v ov iv u _ I2 r1 r2 r q2) λ_ s3 ur12=>?_))));obtain⟨H3,I3,q3⟩:=ur12;exact wpAny_release ⟨σ,H3,I3,q3⟩
def HS (te:TE) (g:TG):TS:=λD σ H=>te σ H λx H1=>g x σ H1 D.nx
def gE {tg e:Expr}{te:TE}{g:TG}(he:PE X e te) (hg:PG X tg g) (hs:swapsWithSole [tg] e pos.line X.env=pure f':=by rfl) (hw:swappedStores [tg] e X.env=pure JZ:=by rfl)
 (h1:(assignEach [tg] X.env).map (·.2)=[assign tg X.env]:=by rfl):PS X (.Assign [tg] e pos) (HS te g):=by
 intro Mq s σ H D I h;refine wpAny_Assign_stores (thn (he Mq s σ H _ I h) λv s1 ur13=>?_) hs hw;obtain⟨x,H1,I1,r1,q1⟩:=ur13;rw[h1];exact thn (hg Mq s1 σ H1 x v _ I1 r1 q1) λ_ s2 q=>q
def bi {i:Nat}{x:Str}{e:Expr}{te:TE}{pos':Pos}(hN:X.N.Nodup) (hi:X.N[i]?=dk x) (hx:Loc X.env.scope x) (he:PE X e te) (hs:swapsWith e (dk (.Name x pos')) pos.line X.env=pure f':=by rfl) (hf:X.fn x=j'\/X.env.scope.names.lookup x=dk .local:=by first|exact .inl rfl|exact .inr rfl|assumption) :
 PS X (.Assign [.Name x pos'] e pos) (HS te (o9 i)):=by
 intro Mq s σ H D I h;refine wpAny_Assign_Name (thn (he Mq s σ H _ I h) λv s1 ur14=>?_) hs;obtain⟨y,H1,I1,r1,q1⟩:=ur14;exact xG I1 hN hi hx r1 (λs2 I2=>⟨_,H1,I2,q1⟩) hf
end
section
variable {X:Cx}{pos:Pos}
def G4 (c:TT) (tb:TS):TS:=λD σ H=>∃ W:Nat->St->Hp->Prop,(∃ m,W m σ H)/\∀ m σ H,W m σ H ->
 c σ H λb H1=>if b=j' then ∃ N:St->Hp->Prop,(∀ σ' H',N σ' H'->∃ m',m' < m/\W m' σ' H')/\tb { D with nx:=N,ct:=N,bk:=D.nx } σ H1 else D.nx σ H1
def CB {c:Expr}{body:List K0}{tc:TT}{tb:TS}(hp:PassesOwn (model X.prog X.w) X.A X.env X.xe) (hc:PT X c tc) (hb:PSs X body tb):PS X (.While c body [] pos) (G4 tc tb):=by
 intro Mq s σ H D I h;obtain⟨W,⟨m0,w0⟩,turn⟩:=h;refine wpAny_While (codeAny_whileLoop (λn s'=>∃ σ' H',Inv X Mq σ' H' s'/\W n σ' H') ?_ m0 ⟨σ,H,I,w0⟩);rintro n s1 ⟨σ1,H1,I1,w1⟩;refine L1 hp (thn (hc Mq s1 σ1 H1 _ I1 (turn n σ1 H1 w1)) λb s2 ur15=>?_);obtain⟨H2,I2,q2⟩:=ur15;cases b with
|true =>
  obtain⟨N,hN,q2⟩:=q2;rw[Qq rfl];refine L1 hp (thn (hb Mq s2 σ1 H2 _ I2 q2) λf s3 q3=>?_);cases f with
 |next =>
   obtain⟨σ3,H3,I3,n3⟩:=q3;obtain⟨m',hm,w3⟩:=hN σ3 H3 n3;exact⟨m',hm,σ3,H3,I3,w3⟩
 |cont =>
   obtain⟨σ3,H3,I3,n3⟩:=q3;obtain⟨m',hm,w3⟩:=hN σ3 H3 n3;exact⟨m',hm,σ3,H3,I3,w3⟩
 |brk=>exact q3
 |ret v=>exact q3
|false =>
  rw[Qr Kr];exact wpAny_execs_nil ⟨σ1,H2,I2,q2⟩
end
structure It where
 go:Nat->Hp->Prop
 yld:Nat->Hp->V->Hp->Prop
 stop:Nat->Hp->Prop
def wD (X:Cx) (Mq:List (D' × LF)) (H:Hp) (b:D'):Prop :=
 H b=JZ/\b≠X.env.locals/\b ∉ X.fs/\(b∈X.ex\/X.s₀.heap.objs.size <= b)/\(∀ x c,X.env.cells.lookup x=dk c->c≠b)/\∀ p∈X.pn++Mq,p.1≠b
def Inv.fpOk {X:Cx}{Mq:List (D' × LF)}{σ:St}{H H':Hp}{s:Kb}{b:D'}(I:Inv X Mq σ H s) (hb:s.heap.objs.size <= b) (hn:H' b=JZ):wD X Mq H' b:=by
 refine⟨hn,ne_of_gt (Kg I.lt hb),I.nofs hb,.inr (K6 I.sz hb),λx c e z=>?_,λp hp z=>?_⟩
 . obtain⟨v,q⟩:=I.cell x c e;exact absurd (Kg q.lt (by rw[z];exact hb)) (L6 _)
 . exact absurd (Kg (Ks (I.pin p hp).1) (by rw[z];exact hb)) (L6 _)
structure Turn (P:Kz) (w:Kk) (K:Kc) (tg:Expr) (J:It) (fp:List D') (it:D') (tn:Nat->KN->Prop):Prop where
 mem:it∈fp
 obj:∀ i h,tn i h->∀ b∈fp,∃ o,h.get? b=dk o/\∀ v,o.data≠.cell v
 keep:∀ i h h',tn i h->(∀ b∈fp,∀ o,h.get? b=dk o->h'.get? b=dk o)->tn i h'
 item:∀ (X:Cx),X.prog=P->X.w=w->X.K=K->X.calm=j'->∀ (i:Nat) (Mq:List (D' × LF)) (s:Kb) (σ:St) (H:Hp) (E:JW->Kb->Prop),Inv X Mq σ H s->(∀ b∈fp,wD X Mq H b)->tn i s.heap->J.go i H ->
  Kq (model P w) X.A (pyNext (.ref it)) (λr s1=>∃ u,r=dk u /\
   Kq (model P w) X.A (letOwnedTupleGo tg (.ref it) u) (λ_ s2=>∃ x H',Inv X Mq σ H' s2/\cm x u/\J.yld i H x H'/\tn (i+1) s2.heap/\∀ b∈fp,H' b=JZ) E s1) E s
 done:∀ (X:Cx),X.prog=P->X.w=w->X.K=K->X.calm=j'->∀ (i:Nat) (Mq:List (D' × LF)) (s:Kb) (σ:St) (H:Hp) (E:JW->Kb->Prop),Inv X Mq σ H s->(∀ b∈fp,wD X Mq H b)->tn i s.heap->J.stop i H ->
  Kq (model P w) X.A (pyNext (.ref it)) (λr s1=>r=JZ/\Inv X Mq σ H s1) E s
 self:∀ (A:KY) (i:Nat) (s:Kb) (Q:JW->Kb->Prop) (E:JW->Kb->Prop),tn i s.heap->Q (.ref it) s->Kq (model P w) A (pyIter (.ref it)) Q E s
abbrev TI:=St->Hp->(It->Hp->Prop)->Prop
def PIE (X:Cx) (Mq:List (D' × LF)) (σ:St) (tg:Expr) (R:It->Hp->Prop) (itv:JW) (s2:Kb):Prop :=
 ∃ (it:D') (fp:List D') (tn:Nat->KN->Prop) (J:It) (H':Hp),itv=.ref it/\Inv X Mq σ H' s2/\Turn X.prog X.w X.K tg J fp it tn/\tn 0 s2.heap/\(∀ b∈fp,wD X Mq H' b)/\R J H'
def PI (X:Cx) (tg iter:Expr) (wi:TI):Prop :=
 ∀ (Mq:List (D' × LF)) (s:Kb) (σ:St) (H:Hp) (R:It->Hp->Prop),Inv X Mq σ H s->wi σ H R ->
  Kq (model X.prog X.w) X.A (eval iter X.env) (λv s1=>Kq (model X.prog X.w) X.A (pyIter v) (PIE X Mq σ tg R) X.xe s1) X.xe s
def Ce {M:Model}{A:KY}{E:JW->Kb->Prop}{s:Kb}{tg:Expr}{it:D'}{u:JW}{o:LF}{n:String}{vs:Array JW}{Q:Unit->Kb->Prop}(ho:s.heap.get? it=dk o) (hc:o.cls=.type n) (hd:o.data=.fields vs)
 (hn:["enumerate","zip","dict_itemiterator","dict_reverseitemiterator","odict_iterator","itertools.zip_longest","itertools.pairwise"].contains n=f') (hQ:Q () s):Kq M A (letOwnedTupleGo tg (.ref it) u) Q E s:=by
 unfold letOwnedTupleGo;cases tg<;>first
 |exact Ke hQ
 |(cases u<;>first
  |exact Ke hQ
  |(refine G' (wpAny_load ho ?_)
    rw[hc,hd];show Kq M A (if (["enumerate","zip","dict_itemiterator","dict_reverseitemiterator","odict_iterator","itertools.zip_longest","itertools.pairwise"].contains n && vs[0]? == dk (rawInt _))=j' then _ else _) Q E s;rw[Qr (by intro h;rw[hn,Bool.false_and]at h;cases h)];exact Ke hQ))
def Itl (K:Kc) (a:D'):It :=
 ⟨λi H=>∃ xs x,SqL K H a xs/\xs[i]?=dk x,λi H x H'=>H'=H/\∀ xs,SqL K H a xs->xs[i]?=dk x,λi H=>∃ xs,SqL K H a xs/\xs.length <= i⟩
def Itt (K:Kc) (a:D'):It :=
 ⟨λi H=>∃ xs x,SqT K H a xs/\xs[i]?=dk x,λi H x H'=>H'=H/\∀ xs,SqT K H a xs->xs[i]?=dk x,λi H=>∃ xs,SqT K H a xs/\xs.length <= i⟩
def Itr (lo:Int) (n:Nat):It:=⟨λi _=>i < n,λi H x H'=>H'=H/\x=.int (lo+i),λi _=>n <= i⟩
def AC {P:Kz}{w:Kk}{K:Kc}{tg:Expr}(a it:D'):Turn P w K tg (Itl K a) [it] it (λi h=>h.IsListIter it a i) where
 mem:=by simp
 obj:=λi h st b hb=>by
  have e:b=it:=by simpa using hb
  subst e;obtain⟨o,e,c,d⟩:=st;exact⟨o,e,λv z=>by rw[d]at z;cases z⟩
 keep:=λi h h' st k=>st.at λo e=>k it (by simp) o e
 item:=by
  intro X hP hw hK hc i Mq s σ H E I hf st hg;subst hP hw hK;obtain⟨xs,x,hq,hx⟩:=hg;obtain⟨its,rv,p,hz⟩:=I.list hq;obtain⟨u,hu,ru⟩:=rv.get hx;obtain⟨f0,f1,f2,f3,f4,f5⟩:=hf it (by simp);refine wpAny_pyNext_list_item st p.isList (x:=u) (by simpa using hu) λh' st' sb=>?_
  have I1:Inv X Mq σ H { s with heap:=h' }:=I.turned (t':=s.toks) (λb o hb e=>(sb.2 b hb).trans e) f0 f1 f3 f4 f5;obtain⟨o,e,c,d⟩:=id st';exact⟨u,rfl,Ce (s:={ s with heap:=h' }) e c d (by decide) ⟨x,H,I1,ru,⟨rfl,λys hy=>by rw[I.list_inj hy hq];exact hx⟩,st',λb hb=>(hf b hb).1⟩⟩
 done:=by
  intro X hP hw hK hc i Mq s σ H E I hf st hg;subst hP hw hK;obtain⟨xs,hq,hx⟩:=hg;obtain⟨its,rv,p,hz⟩:=I.list hq;obtain⟨f0,f1,f2,f3,f4,f5⟩:=hf it (by simp);have hl:=rv.length;exact wpAny_pyNext_list_end (I.ok.hd hc) st p.isList (by simp;omega) λh' eb=>⟨rfl,I.turned (t':=s.toks) (λb o hb e=>eb b o hb e) f0 f1 f3 f4 f5⟩
 self:=λ_ _ _ _ _ st h=>wpAny_pyIter_listiter st h
def xN {P:Kz}{w:Kk}{K:Kc}{tg:Expr}(a it:D'):Turn P w K tg (Itt K a) [it] it (λi h=>h.IsTupleIter it a i) where
 mem:=by simp
 obj:=λi h st b hb=>by
  have e:b=it:=by simpa using hb
  subst e;obtain⟨o,e,c,d⟩:=st;exact⟨o,e,λv z=>by rw[d]at z;cases z⟩
 keep:=λi h h' st k=>st.at λo e=>k it (by simp) o e
 item:=by
  intro X hP hw hK hc i Mq s σ H E I hf st hg;subst hP hw hK;obtain⟨xs,x,hq,hx⟩:=hg;obtain⟨its,rv,p,hz⟩:=I.tuple hq;obtain⟨u,hu,ru⟩:=rv.get hx;obtain⟨f0,f1,f2,f3,f4,f5⟩:=hf it (by simp);refine wpAny_pyNext_tuple_item st (show s.heap.IsTuple a its.toArray from p) (x:=u) (by simpa using hu) λh' st' sb=>?_
  have I1:Inv X Mq σ H { s with heap:=h' }:=I.turned (t':=s.toks) (λb o hb e=>(sb.2 b hb).trans e) f0 f1 f3 f4 f5;obtain⟨o,e,c,d⟩:=id st';exact⟨u,rfl,Ce (s:={ s with heap:=h' }) e c d (by decide) ⟨x,H,I1,ru,⟨rfl,λys hy=>by rw[I.tuple_inj hy hq];exact hx⟩,st',λb hb=>(hf b hb).1⟩⟩
 done:=by
  intro X hP hw hK hc i Mq s σ H E I hf st hg;subst hP hw hK;obtain⟨xs,hq,hx⟩:=hg;obtain⟨its,rv,p,hz⟩:=I.tuple hq;obtain⟨f0,f1,f2,f3,f4,f5⟩:=hf it (by simp);have hl:=rv.length;exact wpAny_pyNext_tuple_end (I.ok.hd hc) st (show s.heap.IsTuple a its.toArray from p) (by simp;omega) λh' eb=>⟨rfl,I.turned (t':=s.toks) (λb o hb e=>eb b o hb e) f0 f1 f3 f4 f5⟩
 self:=λ_ _ _ _ _ st h=>wpAny_pyIter_tupleiter st h
def xW {P:Kz}{w:Kk}{K:Kc}{tg:Expr}(it:D') (lo:Int) (n:Nat):Turn P w K tg (Itr lo n) [it] it (λi h=>IsRangeIter h it (lo+(i:Nat) * 1) ((n:Int) - (i:Nat)) 1) where
 mem:=by simp
 obj:=λi h st b hb=>by
  have e:b=it:=by simpa using hb
  subst e;exact⟨_,st,λv z=>by
   have z':Data.fields _=Data.cell v:=z;cases z'⟩
 keep:=λi h h' st k=>k it (by simp) _ st
 item:=by
  intro X hP hw hK hc i Mq s σ H E I hf st hg;subst hP hw hK;obtain⟨f0,f1,f2,f3,f4,f5⟩:=hf it (by simp);have W:=Walks.range (prog:=X.prog) (w:=X.w) (I.ok.hd hc) it lo 1 n;refine W.item i s _ _ hg st λv h' tk hv st' kk=>?_
  obtain⟨t,rfl⟩:=hv;have I1:Inv X Mq σ H { s with heap:=h',toks:=tk }:=I.turned (λb o hb e=>kk b o (by simpa using hb) e) f0 f1 f3 f4 f5;refine⟨_,rfl,Ce (s:={ s with heap:=h',toks:=tk }) (n:="range_iterator") st' rfl rfl (by decide) ⟨.int (lo+i),H,I1,⟨t,?_⟩,⟨rfl,rfl⟩,st',λb hb=>(hf b hb).1⟩⟩;rw[Int.mul_one]
 done:=by
  intro X hP hw hK hc i Mq s σ H E I hf st hg;subst hP hw hK;obtain⟨f0,f1,f2,f3,f4,f5⟩:=hf it (by simp);exact wpAny_pyNext_range_end (I.ok.hd hc) st (by have:n <= i:=hg;omega) λh' eb=>⟨rfl,I.turned (t':=s.toks) (λb o hb e=>eb b o hb e) f0 f1 f3 f4 f5⟩
 self:=λ_ _ _ _ _ st h=>wpAny_pyIter_rangeiter st h
section
variable {X:Cx}{tg:Expr}
def HY (K:Kc) (tl:TE):TI:=λσ H R=>tl σ H λx H1=>∃ a,x=.ref a/\(∃ xs,SqL K H1 a xs)/\R (Itl K a) H1
def JE (K:Kc) (tl:TE):TI:=λσ H R=>tl σ H λx H1=>∃ a,x=.ref a/\(∃ xs,SqT K H1 a xs)/\R (Itt K a) H1
def fY {l:Expr}{tl:TE}(hl:PE X l tl):PI X tg l (HY X.K tl):=by
 intro Mq s σ H R I h;refine thn (hl Mq s σ H _ I h) λv s1 ur16=>?_
 obtain⟨x,H1,I1,r1,q1⟩:=ur16;obtain⟨a,e,⟨xs,hq⟩,q⟩:=q1;subst e;cases r1;obtain⟨its,rv,p,hz⟩:=I1.list hq;refine wpAny_pyIter_list p.isList ?_;refine⟨s1.heap.objs.size,[s1.heap.objs.size],_,_,H1,rfl,I1.kept (t':=s1.toks) λb o e=>Kd _ e,AC a _,⟨_,Ky _ rfl,rfl,rfl⟩,λb hb=>?_,q⟩;have e:b=s1.heap.objs.size:=by simpa using hb
 subst e;exact I1.fpOk (Kf _) (I1.hok.fresh (Kf _))
def yU {l:Expr}{tl:TE}(hl:PE X l tl):PI X tg l (JE X.K tl):=by
 intro Mq s σ H R I h;refine thn (hl Mq s σ H _ I h) λv s1 ur17=>?_
 obtain⟨x,H1,I1,r1,q1⟩:=ur17;obtain⟨a,e,⟨xs,hq⟩,q⟩:=q1;subst e;cases r1;obtain⟨its,rv,p,hz⟩:=I1.tuple hq;refine wpAny_pyIter_tuple (show s1.heap.IsTuple a its.toArray from p) ?_;refine⟨s1.heap.objs.size,[s1.heap.objs.size],_,_,H1,rfl,I1.kept (t':=s1.toks) λb o e=>Kd _ e,xN a _,⟨_,Ky _ rfl,rfl,rfl⟩,λb hb=>?_,q⟩;have e:b=s1.heap.objs.size:=by simpa using hb
 subst e;exact I1.fpOk (Kf _) (I1.hok.fresh (Kf _))
def C8 {Mq:List (D' × LF)}{σ:St}{H:Hp}{s:Kb}{R:It->Hp->Prop}{E:JW->Kb->Prop}{lo hi:Int}{t u v:Tok}{tk:Nat}(I:Inv X Mq σ H s) (h1:-(2 ^ 62) <= lo) (h2:lo < 2 ^ 62) (h3:-(2 ^ 62) <= hi) (h4:hi < 2 ^ 62)
 (q:R (Itr lo (hi - lo).toNat) H):Kq (model X.prog X.w) X.A (pyIter (.ref s.heap.objs.size)) (PIE X Mq σ tg R) E { s with heap:=s.heap.push { cls:=.type "range",data:=.fields #[.int lo t,.int hi u,.int 1 v] },toks:=tk }:=by
 refine wpAny_pyIter_range (IsRange.new ..) (small_one h1 h2 h3 h4) ?_;have I1:Inv X Mq σ H { s with heap:=s.heap.push { cls:=.type "range",data:=.fields #[.int lo t,.int hi u,.int 1 v] },toks:=tk }:=I.kept λb o e=>Kd _ e
 refine⟨(s.heap.push { cls:=.type "range",data:=.fields #[.int lo t,.int hi u,.int 1 v] }).objs.size,[(s.heap.push { cls:=.type "range",data:=.fields #[.int lo t,.int hi u,.int 1 v] }).objs.size],_,_,H,rfl,
  I1.kept (t':=tk) λb o e=>Kd _ e,xW _ lo (hi - lo).toNat,?_,λb hb=>?_,q⟩
 . have e1:lo+((0:Nat):Int) * 1=lo:=by simp
   have e2:(((hi - lo).toNat:Nat):Int) - ((0:Nat):Int)=Builtin.Range.rangeSize lo hi 1:=by rw[rangeSize_one];split<;>omega
   show IsRangeIter _ _ (lo+((0:Nat):Int) * 1) ((((hi - lo).toNat:Nat):Int) - ((0:Nat):Int)) 1;rw[e1,e2];exact Ky _ rfl
 . have e:b=(s.heap.push { cls:=.type "range",data:=.fields #[.int lo t,.int hi u,.int 1 v] }).objs.size:=by simpa using hb
   subst e;exact I1.fpOk (Kf _) (I1.hok.fresh (Kf _))
def HH (ta:TA):TI:=λσ H R=>ta σ H λvs H1=>∃ j:Int,vs=[.int j]/\-(2 ^ 62) <= j/\j < 2 ^ 62/\R (Itr 0 j.toNat) H1
def uD {a:Expr}{ta:TA}{p pos:Pos}(hg:Gl X "range") (hm:X.mg "range"=JZ) (ha:PA X [a] ta) (hs:KP [a] X.env=[(f',eval a X.env)]:=by rfl):PI X tg (.Call (.Name "range" p) [a] [] pos) (HH ta):=by
 intro Mq s σ H R I h;refine Call_ (pc I hg hm boot_range (LD (thn (ha pos Mq s σ H _ I h) λus s1 ur18=>?_) hs rfl));obtain⟨vs,H1,I1,r1,q1⟩:=ur18;obtain⟨j,e,q1,q2,q⟩:=q1;subst e;cases r1 with
|cons r rr =>
  cases rr;obtain⟨t,rfl⟩:=r;exact call_range_1 (C8 I1 (by omega) (by omega) q1 q2 (by simpa using q))
def JF (wi:TI) (g:TG) (tb:TS):TS:=λD σ H=>wi σ H λJ H1=>∃ W:Nat->Nat->St->Hp->Prop,(∃ m,W 0 m σ H1)/\∀ i m σ H,W i m σ H ->
 (J.stop i H/\D.nx σ H)\/(J.go i H/\∃ N:St->Hp->Prop,(∀ σ' H',N σ' H'->∃ m',m' < m/\W (i+1) m' σ' H')/\∀ x H',J.yld i H x H'->g x σ H' λσ2 H2=>tb { D with nx:=N,ct:=N,bk:=D.nx } σ2 H2)
def uR (fp:List D') (h:KN):List (D' × LF):=fp.filterMap λb=>(h.get? b).map λo=>(b,o)
def kj {fp:List D'}{h:KN}{b:D'}{o:LF}(hb:b∈fp) (e:h.get? b=dk o):(b,o)∈uR fp h:=mem_filterMap.mpr ⟨b,hb,by rw[e];rfl⟩
def Aq {fp:List D'}{h:KN}{p:D' × LF}(hp:p∈uR fp h):p.1∈fp/\h.get? p.1=dk p.2:=by
 obtain⟨b,hb,e⟩:=mem_filterMap.mp hp;cases q:h.get? b with
|none=>rw[q]at e;cases e
|some o =>
  rw[q]at e;have e':(b,o)=p:=KH e;subst e';exact⟨hb,q⟩
def Inv.pinned {Mq:List (D' × LF)}{σ:St}{H:Hp}{s:Kb}{fp:List D'}(I:Inv X Mq σ H s) (hf:∀ b∈fp,wD X Mq H b) (ho:∀ b∈fp,∃ o,s.heap.get? b=dk o/\∀ v,o.data≠.cell v):Inv X (Mq++uR fp s.heap) σ H s :=
 I.pins_of λp hp=>(KS.mp hp).elim (λz=>I.pin p (Lp _ z)) λz=>by
  obtain⟨hb,e⟩:=Aq z;obtain⟨f0,f1,f2,_⟩:=hf p.1 hb;obtain⟨o,e',d⟩:=ho p.1 hb;rw[e]at e';cases e';exact⟨e,f0,f1,f2,d⟩
def Inv.unpinned {Mq pl:List (D' × LF)}{σ:St}{H:Hp}{s:Kb}(I:Inv X (Mq++pl) σ H s):Inv X Mq σ H s:=I.pins_of λp hp=>I.pin p (Lp _ (List.mem_append_left _ hp))
def kH {iter:Expr}{body:List K0}{wi:TI}{g:TG}{tb:TS}{pos:Pos}(hp:PassesOwn (model X.prog X.w) X.A X.env X.xe) (hc:X.calm=j') (hi:PI X tg iter wi) (hg:PG X tg g) (hb:PSs X body tb)
 (hs:∀ x,foldedSetIterable iter X.env x=pure x:=by intro _;rfl):PS X (.For tg iter body [] pos) (JF wi g tb):=by
 intro Mq s σ H D I h;refine wpAny_For (thn (hi Mq s σ H _ I h) λv s1 h1=>thn h1 λitv s2 h2=>?_) hs;obtain⟨it,fp,tn,J,H2,e,I2,T,st2,f2,W,⟨m0,w0⟩,turn⟩:=h2;subst e;have stat:∀ {H':Hp},(∀ b∈fp,H' b=JZ)->∀ b∈fp,wD X Mq H' b:=λhn b hb=>⟨hn b hb,(f2 b hb).2⟩
 refine codeAny_forLoop_any (λn s'=>∃ i σ' H',Inv X Mq σ' H' s'/\tn i s'.heap/\(∀ b∈fp,H' b=JZ)/\W i n σ' H') ?_ m0 ⟨0,σ,H2,I2,st2,λb hb=>(f2 b hb).1,w0⟩;rintro n s3 ⟨i,σ3,H3,I3,st3,fr3,w3⟩;rcases turn i n σ3 H3 w3 with⟨stop,qn⟩|⟨go,N,hN,step⟩
 . refine L1 hp (thn (T.done X rfl rfl rfl hc i Mq s3 σ3 H3 X.xe I3 (stat fr3) st3 stop) λr s4 ur19=>?_);obtain⟨hr,I4⟩:=ur19;subst hr;exact wpAny_execs_nil ⟨σ3,H3,I4,qn⟩
 . refine L1 hp (thn (T.item X rfl rfl rfl hc i Mq s3 σ3 H3 X.xe I3 (stat fr3) st3 go) λr s4 ur20=>?_);obtain⟨u,hr,h4⟩:=ur20;subst hr;refine L1 hp (thn h4 λ_ s5 ur21=>?_);obtain⟨x,H5,I5,r5,y5,st5,fr5⟩:=ur21;have I5':=I5.pinned (stat fr5) (T.obj _ _ st5);refine L1 hp (thn (hg _ s5 σ3 H5 x u _ I5' r5 (step x H5 y5)) λ_ s6 ur22=>?_);obtain⟨σ6,H6,I6,q6⟩:=ur22;refine L1 hp (thn (hb _ s6 σ6 H6 _ I6 q6) λf s7 q7=>?_);have again:∀ {σ7:St} {H7:Hp},Inv X (Mq++uR fp s5.heap) σ7 H7 s7->N σ7 H7->∃ m,m < n/\∃ i σ' H',Inv X Mq σ' H' s7/\tn i s7.heap/\(∀ b∈fp,H' b=JZ)/\W i m σ' H':=λ{σ7 H7} I7 n7=>by
    obtain⟨m',hm,w7⟩:=hN σ7 H7 n7;refine⟨m',hm,i+1,σ7,H7,I7.unpinned,T.keep _ _ _ st5 λb hb o e=>(I7.pin (b,o) (Lp _ (Lp _ (kj hb e)))).1,λb hb=>?_,w7⟩;obtain⟨o,e,d⟩:=T.obj _ _ st5 b hb;exact(I7.pin (b,o) (Lp _ (Lp _ (kj hb e)))).2.1
   cases f with
  |next=>obtain⟨σ7,H7,I7,n7⟩:=q7;exact again I7 n7
  |cont=>obtain⟨σ7,H7,I7,n7⟩:=q7;exact again I7 n7
  |brk=>obtain⟨σ7,H7,I7,q7⟩:=q7;exact⟨σ7,H7,I7.unpinned,q7⟩
  |ret v=>obtain⟨x7,σ7,H7,I7,r7,q7⟩:=q7;exact⟨x7,σ7,H7,I7.unpinned,r7,q7⟩
end
def sD {K:Kc}{a:D'}{xs:List V}{g:TG}{tb:TS}{D:Ends}{σ:St}{H:Hp}(Pv:Nat->St->Hp->Prop) (h0:Pv 0 σ H) (hl:∀ i σ H,i <= xs.length->Pv i σ H->SqL K H a xs)
 (hs:∀ i x σ H,xs[i]?=dk x->Pv i σ H->g x σ H λσ2 H2=>tb { D with nx:=Pv (i+1),ct:=Pv (i+1),bk:=D.nx } σ2 H2) (hd:∀ σ H,Pv xs.length σ H->D.nx σ H) :
 ∃ W:Nat->Nat->St->Hp->Prop,(∃ m,W 0 m σ H)/\∀ i m σ H,W i m σ H ->
  ((Itl K a).stop i H/\D.nx σ H)\/((Itl K a).go i H/\∃ N:St->Hp->Prop,(∀ σ' H',N σ' H'->∃ m',m' < m/\W (i+1) m' σ' H')/\∀ x H',(Itl K a).yld i H x H'->g x σ H' λσ2 H2=>tb { D with nx:=N,ct:=N,bk:=D.nx } σ2 H2):=by
 refine⟨λi m σ H=>m=xs.length - i/\i <= xs.length/\Pv i σ H,⟨xs.length,by simp,LJ _,h0⟩,?_⟩;rintro i m σ H ⟨rfl,hi,p⟩;have q:=hl i σ H hi p;by_cases hlt:i < xs.length
 . refine .inr ⟨⟨xs,xs[i],q,by simp[hlt]⟩,Pv (i+1),λσ' H' p'=>⟨xs.length - (i+1),by omega,rfl,hlt,p'⟩,λx H' y=>?_⟩;obtain⟨e,y⟩:=y;subst e;exact hs i x σ _ (y xs q) p
 . have e:i=xs.length:=by omega
   subst e;exact .inl ⟨⟨xs,q,Kf _⟩,hd σ H p⟩
def we {K:Kc}{a:D'}{xs:List V}{g:TG}{tb:TS}{D:Ends}{σ:St}{H:Hp}(Pv:Nat->St->Hp->Prop) (h0:Pv 0 σ H) (hl:∀ i σ H,i <= xs.length->Pv i σ H->SqT K H a xs)
 (hs:∀ i x σ H,xs[i]?=dk x->Pv i σ H->g x σ H λσ2 H2=>tb { D with nx:=Pv (i+1),ct:=Pv (i+1),bk:=D.nx } σ2 H2) (hd:∀ σ H,Pv xs.length σ H->D.nx σ H) :
 ∃ W:Nat->Nat->St->Hp->Prop,(∃ m,W 0 m σ H)/\∀ i m σ H,W i m σ H ->
  ((Itt K a).stop i H/\D.nx σ H)\/((Itt K a).go i H/\∃ N:St->Hp->Prop,(∀ σ' H',N σ' H'->∃ m',m' < m/\W (i+1) m' σ' H')/\∀ x H',(Itt K a).yld i H x H'->g x σ H' λσ2 H2=>tb { D with nx:=N,ct:=N,bk:=D.nx } σ2 H2):=by
 refine⟨λi m σ H=>m=xs.length - i/\i <= xs.length/\Pv i σ H,⟨xs.length,by simp,LJ _,h0⟩,?_⟩;rintro i m σ H ⟨rfl,hi,p⟩;have q:=hl i σ H hi p;by_cases hlt:i < xs.length
 . refine .inr ⟨⟨xs,xs[i],q,by simp[hlt]⟩,Pv (i+1),λσ' H' p'=>⟨xs.length - (i+1),by omega,rfl,hlt,p'⟩,λx H' y=>?_⟩;obtain⟨e,y⟩:=y;subst e;exact hs i x σ _ (y xs q) p
 . have e:i=xs.length:=by omega
   subst e;exact .inl ⟨⟨xs,q,Kf _⟩,hd σ H p⟩
def uI {lo:Int}{n:Nat}{g:TG}{tb:TS}{D:Ends}{σ:St}{H:Hp}(Pv:Nat->St->Hp->Prop) (h0:Pv 0 σ H)
 (hs:∀ i σ H,i < n->Pv i σ H->g (.int (lo+i)) σ H λσ2 H2=>tb { D with nx:=Pv (i+1),ct:=Pv (i+1),bk:=D.nx } σ2 H2) (hd:∀ σ H,Pv n σ H->D.nx σ H) :
 ∃ W:Nat->Nat->St->Hp->Prop,(∃ m,W 0 m σ H)/\∀ i m σ H,W i m σ H ->
  ((Itr lo n).stop i H/\D.nx σ H)\/((Itr lo n).go i H/\∃ N:St->Hp->Prop,(∀ σ' H',N σ' H'->∃ m',m' < m/\W (i+1) m' σ' H')/\∀ x H',(Itr lo n).yld i H x H'->g x σ H' λσ2 H2=>tb { D with nx:=N,ct:=N,bk:=D.nx } σ2 H2):=by
 refine⟨λi m σ H=>m=n - i/\i <= n/\Pv i σ H,⟨n,by simp,LJ _,h0⟩,?_⟩;rintro i m σ H ⟨rfl,hi,p⟩;by_cases hlt:i < n
 . refine .inr ⟨hlt,Pv (i+1),λσ' H' p'=>⟨n - (i+1),by omega,rfl,hlt,p'⟩,λx H' y=>?_⟩;obtain⟨e,y⟩:=y;subst e y;exact hs i σ _ hlt p
 . have e:i=n:=by omega
   subst e;exact .inl ⟨Kf _,hd σ H p⟩
abbrev R2:=V->V->Hp->VK->Prop
def OpR (X:Cx) (f:JW->JW->Sem JW) (r:R2):Prop :=
 ∀ (Mq:List (D' × LF)) (s:Kb) (σ:St) (H:Hp) (x y:V) (v u:JW) (Q:VK),Inv X Mq σ H s->cm x v->cm y u->r x y H Q ->
  Kq (model X.prog X.w) X.A (f v u) (EP X Mq σ Q) X.xe s
def UnR (X:Cx) (f:JW->Sem JW) (r:V->Hp->VK->Prop):Prop :=
 ∀ (Mq:List (D' × LF)) (s:Kb) (σ:St) (H:Hp) (x:V) (v:JW) (Q:VK),Inv X Mq σ H s->cm x v->r x H Q ->
  Kq (model X.prog X.w) X.A (f v) (EP X Mq σ Q) X.xe s
def uP (X:Cx) (f:JW) (r:List V->Hp->VK->Prop):Prop :=
 ∀ (Mq:List (D' × LF)) (s:Kb) (σ:St) (H:Hp) (xs:List V) (us:List JW) (Q:VK),Inv X Mq σ H s->bZ xs us->r xs H Q ->
  Kq (model X.prog X.w) X.A (call f us) (EP X Mq σ Q) X.xe s
def Ju (X:Cx) (r:V->Hp->(Bool->Hp->Prop)->Prop):Prop :=
 ∀ (Mq:List (D' × LF)) (s:Kb) (σ:St) (H:Hp) (x:V) (v:JW) (Q:Bool->Hp->Prop),Inv X Mq σ H s->cm x v->r x H Q ->
  Kq (model X.prog X.w) X.A (truthy v) (TP X Mq σ Q) X.xe s
def tOp (r:R2) (ta tb:TE):TE:=λσ H Q=>ta σ H λx H1=>tb σ H1 λy H2=>r x y H2 Q
def tUn (r:V->Hp->VK->Prop) (ta:TE):TE:=λσ H Q=>ta σ H λx H1=>r x H1 Q
def rI (C:Int->Int->Prop) (g:Int->Int->V):R2:=λx y H Q=>∃ i j,x=.int i/\y=.int j/\C i j/\Q (g i j) H
def rI0 (g:Int->Int->V):R2:=λx y H Q=>∃ i j,x=.int i/\y=.int j/\Q (g i j) H
def rU (g:Int->V):V->Hp->VK->Prop:=λx H Q=>∃ i,x=.int i/\Q (g i) H
section
variable {X:Cx}{a b c:Expr}{ta tb tc:TE}{pos:Pos}
def HF (ha:PE X a ta) (hb:PE X b tb) {Mq:List (D' × LF)}{s:Kb}{σ:St}{H:Hp}{R:V->V->Hp->Prop}(I:Inv X Mq σ H s)
 (h:ta σ H λx H1=>tb σ H1 λy H2=>R x y H2) {Q:JW->Kb->Prop} {f:JW->JW->Sem JW}
 (hf:∀ v u s2 x y H2,Inv X Mq σ H2 s2->cm x v->cm y u->R x y H2->Kq (model X.prog X.w) X.A (f v u) Q X.xe s2) :
 Kq (model X.prog X.w) X.A (eval a X.env) (λv s₁=>Kq (model X.prog X.w) X.A (eval b X.env) (λu s₂=>Kq (model X.prog X.w) X.A (f v u) Q X.xe s₂) X.xe s₁) X.xe s:=by
 refine thn (ha Mq s σ H _ I h) λv s1 ur23=>?_
 obtain⟨x,H1,I1,r1,q1⟩:=ur23;refine thn (hb Mq s1 σ H1 _ I1 q1) λu s2 ur24=>?_
 obtain⟨y,H2,I2,r2,q2⟩:=ur24;exact hf v u s2 x y H2 I2 r1 r2 q2
def cy {op:Operator}{r:R2}(ho:OpR X (binaryOp op) r) (ha:PE X a ta) (hb:PE X b tb):PE X (.BinOp a op b pos) (tOp r ta tb):=by
 intro Mq s σ H Q I h;exact wpAny_BinOp (HF ha hb I h λv u s2 x y H2 I2 rx ry q=>ho Mq s2 σ H2 x y v u Q I2 rx ry q)
def Gd {op:UnaryOp}{r:V->Hp->VK->Prop}(ho:UnR X (unaryOp op) r) (ha:PE X a ta):PE X (.UnaryOp op a pos) (tUn r ta):=by
 intro Mq s σ H Q I h;exact UnaryOp_ (thn (ha Mq s σ H _ I h) λv s1 uq3=>by(obtain⟨x,H1,I1,r1,q1⟩:=uq3;exact ho Mq s1 σ H1 x v Q I1 r1 q1))
def opI {f:JW->JW->Sem JW}{C:Int->Int->Prop}{g:Int->Int->Int}
 (rule:∀ (i j:Int) (t u:Tok) (s:Kb) (Q:JW->Kb->Prop) (E:JW->Kb->Prop),C i j->Q (.int (g i j) s.toks) { s with toks:=s.toks+1 }->Kq (model X.prog X.w) X.A (f (.int i t) (.int j u)) Q E s) :
 OpR X f (rI C λi j=>.int (g i j)):=by
 intro Mq s σ H x y v u Q I rx ry h;obtain⟨i,j,rfl,rfl,hc,q⟩:=h;obtain⟨t,rfl⟩:=rx;obtain⟨t',rfl⟩:=ry;exact rule i j t t' s _ _ hc ⟨.int (g i j),H,I.tok _,⟨_,rfl⟩,q⟩
def IV {f:JW->JW->Sem JW}{g:Int->Int->Int}
 (rule:∀ (i j:Int) (t u:Tok) (s:Kb) (Q:JW->Kb->Prop) (E:JW->Kb->Prop),Q (.int (g i j) s.toks) { s with toks:=s.toks+1 }->Kq (model X.prog X.w) X.A (f (.int i t) (.int j u)) Q E s) :
 OpR X f (rI0 λi j=>.int (g i j)):=by
 intro Mq s σ H x y v u Q I rx ry h;obtain⟨i,j,rfl,rfl,q⟩:=h;obtain⟨t,rfl⟩:=rx;obtain⟨t',rfl⟩:=ry;exact rule i j t t' s _ _ ⟨.int (g i j),H,I.tok _,⟨_,rfl⟩,q⟩
def Hf {f:JW->JW->Sem JW}{g:Int->Int->Bool}
 (rule:∀ (i j:Int) (t u:Tok) (s:Kb) (Q:JW->Kb->Prop) (E:JW->Kb->Prop),Q (.bool (g i j)) s->Kq (model X.prog X.w) X.A (f (.int i t) (.int j u)) Q E s) :
 OpR X f (rI0 λi j=>.bl (g i j)):=by
 intro Mq s σ H x y v u Q I rx ry h;obtain⟨i,j,rfl,rfl,q⟩:=h;obtain⟨t,rfl⟩:=rx;obtain⟨t',rfl⟩:=ry;exact rule i j t t' s _ _ ⟨.bl (g i j),H,I,rfl,q⟩
def Jf (i j:Int):Prop:=0 <= j/\j <= 1000000/\i.natAbs < 2 ^ 64
def Hh (i j:Int):Prop:=(-(2 ^ 64) < i/\i < 2 ^ 64)\/(-(2 ^ 64) < j/\j < 2 ^ 64)
def Hh.ok {i j:Int}(h:Hh i j):IntMulOk i j:=by
 rcases h with⟨h1,h2⟩|⟨h1,h2⟩
 . exact .of_left (intBits_le_64 h1 h2)
 . exact .of_right (intBits_le_64 h1 h2)
def lS:OpR X (binaryOp .Add) (rI0 λi j=>.int (i+j)):=IV λ_ _ _ _ _ _ _ q=>add_int q
def my:OpR X (binaryOp .Sub) (rI0 λi j=>.int (i - j)):=IV λ_ _ _ _ _ _ _ q=>sub_int q
def ur:OpR X (binaryOp .Mult) (rI Hh λi j=>.int (i * j)):=opI λ_ _ _ _ _ _ _ hc q=>mul_int q hc.ok
def nV:OpR X (binaryOp .Mod) (rI (λ_ j=>0 < j) λi j=>.int (i % j)):=opI λi j _ _ _ _ _ hc q=>by
 have h1:(0:Int) < j:=hc;exact mod_int' (by omega) (by rw[Int.fmod_eq_emod_of_nonneg i (by omega)];exact q)
def zv:OpR X (binaryOp .Pow) (rI Jf λi j=>.int (i ^ j.toNat)):=opI λ_ _ _ _ _ _ _ hc q=>pow_int_small hc.1 hc.2.1 hc.2.2 q
def unI {f:JW->Sem JW}{g:Int->Int}
 (rule:∀ (i:Int) (t:Tok) (s:Kb) (Q:JW->Kb->Prop) (E:JW->Kb->Prop),Q (.int (g i) s.toks) { s with toks:=s.toks+1 }->Kq (model X.prog X.w) X.A (f (.int i t)) Q E s) :
 UnR X f (rU λi=>.int (g i)):=by
 intro Mq s σ H x v Q I rx h;obtain⟨i,rfl,q⟩:=h;obtain⟨t,rfl⟩:=rx;exact rule i t s _ _ ⟨.int (g i),H,I.tok _,⟨_,rfl⟩,q⟩
def CP:UnR X (unaryOp .USub) (rU λi=>.int (-i)):=unI λ_ _ _ _ _ q=>neg_int q
end
def ID:V->V->Bool
|.non,.non=>j'|.non,.int _=>j'|.int _,.non=>j'|.non,.bl _=>j'|.bl _,.non=>j'|.non,.str _=>j'|.str _,.non=>j'
|.int _,.int _=>j'|.bl _,.bl _=>j'|.str _,.str _=>j'|.byt _,.byt _=>j'
|.int _,.str _=>j'|.str _,.int _=>j'|.bl _,.str _=>j'|.str _,.bl _=>j'
|_,_=>f'
def rEq:R2:=λx y H Q=>ID x y=j'/\Q (.bl (decide (x=y))) H
def rNe:R2:=λx y H Q=>ID x y=j'/\Q (.bl (!decide (x=y))) H
def zq {i j:Int}:decide (V.int i=V.int j)=(i == j):=by
 rw[Lz];simp
def D6 {i j:Bool}:decide (V.bl i=V.bl j)=(i == j):=by
 rw[Lz];simp
def Am {i j:Str}:decide (V.str i=V.str j)=(i == j):=by
 rw[Lz];simp
def zx {i j:Array UInt8}:decide (V.byt i=V.byt j)=(i.toList == j.toList):=by
 rw[Lz];cases i;cases j;simp
section
variable {X:Cx}{a b c:Expr}{ta tb tc:TE}{pos:Pos}
def bv {Mq:List (D' × LF)}{σ:St}{H:Hp}{s:Kb}{Q:VK}{k k':Bool}(I:Inv X Mq σ H s) (q:Q (.bl k) H) (e:k=k'):EP X Mq σ Q (.bool k') s:=by
 subst e;exact⟨.bl k,H,I,rfl,q⟩
def bW:OpR X (Lg .Eq) rEq:=by
 intro Mq s σ H x y v u Q I rx ry h;obtain⟨hs,q⟩:=h;cases x with
|non =>
  cases rx;cases y with
 |non=>cases ry;exact PySem.EqNone.eq_none_none (bv I q (by simp))
 |bl j=>cases ry;exact PySem.EqNone.eq_none_bool (bv I q (by simp))
 |int j=>obtain⟨t',rfl⟩:=ry;exact PySem.EqNone.eq_none_int (bv I q (by simp))
 |str j=>obtain⟨t',rfl⟩:=ry;exact PySem.EqNone.eq_none_str (bv I q (by simp))
 |_=>exact absurd (show f'=j' from hs) Kr
|bl i =>
  cases rx;cases y with
 |non=>cases ry;exact PySem.EqNone.eq_bool_none (bv I q (by simp))
 |bl j=>cases ry;exact eq_bool (bv I q D6)
 |str j=>obtain⟨t',rfl⟩:=ry;exact PySem.EqMixed.eq_bool_str (bv I q (by simp))
 |_=>exact absurd (show f'=j' from hs) Kr
|int i =>
  obtain⟨t,rfl⟩:=rx;cases y with
 |non=>cases ry;exact PySem.EqNone.eq_int_none (bv I q (by simp))
 |int j=>obtain⟨t',rfl⟩:=ry;exact eq_int (bv I q zq)
 |str j=>obtain⟨t',rfl⟩:=ry;exact PySem.EqMixed.eq_int_str (bv I q (by simp))
 |_=>exact absurd (show f'=j' from hs) Kr
|str i =>
  obtain⟨t,rfl⟩:=rx;cases y with
 |non=>cases ry;exact PySem.EqNone.eq_str_none (bv I q (by simp))
 |bl j=>cases ry;exact PySem.EqMixed.eq_str_bool (bv I q (by simp))
 |int j=>obtain⟨t',rfl⟩:=ry;exact PySem.EqMixed.eq_str_int (bv I q (by simp))
 |str j=>obtain⟨t',rfl⟩:=ry;exact eq_str (bv I q Am)
 |_=>exact absurd (show f'=j' from hs) Kr
|byt i =>
  obtain⟨t,rfl⟩:=rx;cases y with
 |byt j=>obtain⟨t',rfl⟩:=ry;exact eq_bytes (bv I q zx)
 |_=>exact absurd (show f'=j' from hs) Kr
|_=>cases y<;>exact absurd (show f'=j' from hs) Kr
def sv:OpR X (Lg .NotEq) rNe:=by
 intro Mq s σ H x y v u Q I rx ry h;obtain⟨hs,q⟩:=h;cases x with
|non =>
  cases rx;cases y with
 |non=>cases ry;exact PySem.EqNone.ne_none_none (bv I q (by simp))
 |bl j=>cases ry;exact PySem.EqNone.ne_none_bool (bv I q (by simp))
 |int j=>obtain⟨t',rfl⟩:=ry;exact PySem.EqNone.ne_none_int (bv I q (by simp))
 |str j=>obtain⟨t',rfl⟩:=ry;exact PySem.EqNone.ne_none_str (bv I q (by simp))
 |_=>exact absurd (show f'=j' from hs) Kr
|bl i =>
  cases rx;cases y with
 |non=>cases ry;exact PySem.EqNone.ne_bool_none (bv I q (by simp))
 |bl j=>cases ry;exact ne_bool (bv I q (congrArg not D6))
 |str j=>obtain⟨t',rfl⟩:=ry;exact PySem.EqMixed.ne_bool_str (bv I q (by simp))
 |_=>exact absurd (show f'=j' from hs) Kr
|int i =>
  obtain⟨t,rfl⟩:=rx;cases y with
 |non=>cases ry;exact PySem.EqNone.ne_int_none (bv I q (by simp))
 |int j=>obtain⟨t',rfl⟩:=ry;exact ne_int (bv I q (congrArg not zq))
 |str j=>obtain⟨t',rfl⟩:=ry;exact PySem.EqMixed.ne_int_str (bv I q (by simp))
 |_=>exact absurd (show f'=j' from hs) Kr
|str i =>
  obtain⟨t,rfl⟩:=rx;cases y with
 |non=>cases ry;exact PySem.EqNone.ne_str_none (bv I q (by simp))
 |bl j=>cases ry;exact PySem.EqMixed.ne_str_bool (bv I q (by simp))
 |int j=>obtain⟨t',rfl⟩:=ry;exact PySem.EqMixed.ne_str_int (bv I q (by simp))
 |str j=>obtain⟨t',rfl⟩:=ry;exact ne_str (bv I q (congrArg not Am))
 |_=>exact absurd (show f'=j' from hs) Kr
|byt i =>
  obtain⟨t,rfl⟩:=rx;cases y with
 |byt j=>obtain⟨t',rfl⟩:=ry;exact ne_bytes (bv I q (congrArg not zx))
 |_=>exact absurd (show f'=j' from hs) Kr
|_=>cases y<;>exact absurd (show f'=j' from hs) Kr
def Gk:OpR X (Lg .Lt) (rI0 λi j=>.bl (decide (i < j))):=Hf λ_ _ _ _ _ _ _ q=>lt_int q
def GQ:OpR X (Lg .LtE) (rI0 λi j=>.bl (decide (i <= j))):=Hf λ_ _ _ _ _ _ _ q=>le_int q
def E7:OpR X (Lg .Gt) (rI0 λi j=>.bl (decide (j < i))):=Hf λ_ _ _ _ _ _ _ q=>gt_int q
def HW:OpR X (Lg .GtE) (rI0 λi j=>.bl (decide (j <= i))):=Hf λ_ _ _ _ _ _ _ q=>ge_int q
def CV:OpR X (Lg .Is) (λx y H Q=>y=.non/\Q (.bl (decide (x=.non))) H):=by
 intro Mq s σ H x y v u Q I rx ry h;obtain⟨rfl,q⟩:=h;cases ry;refine is_none_gen (bv I q ?_);cases x<;>first
 |(cases rx;rfl)
 |(obtain⟨t,rfl⟩:=rx;rfl)
def oR:OpR X (Lg .IsNot) (λx y H Q=>y=.non/\Q (.bl (!decide (x=.non))) H):=by
 intro Mq s σ H x y v u Q I rx ry h;obtain⟨rfl,q⟩:=h;cases ry;refine isnot_none_gen (bv I q ?_);cases x<;>first
 |(cases rx;rfl)
 |(obtain⟨t,rfl⟩:=rx;rfl)
def ax (b:Expr) {op:CmpOp}(h:op≠.In:=by decide) (h2:op≠.NotIn:=by decide):behindInMarks op b=f':=by
 have e1:(op == CmpOp.In)=f':=by cases op<;>first|rfl|exact absurd rfl h
 have e2:(op == CmpOp.NotIn)=f':=by cases op<;>first|rfl|exact absurd rfl h2
 cases b<;>simp[behindInMarks,e1,e2]
def dY {op:CmpOp}{r:R2}(ho:OpR X (Lg op) r) (ha:PE X a ta) (hb:PE X b tb) (hm:behindInMarks op b=f'):PE X (.Compare a [op] [b] pos) (tOp r ta tb):=by
 intro Mq s σ H Q I h;exact wpAny_Compare1 (HF ha hb I h λv u s2 x y H2 I2 rx ry q=>ho Mq s2 σ H2 x y v u Q I2 rx ry q) hm
def yA (t:TE):TT:=λσ H Q=>t σ H λx H'=>∃ k,x=.bl k/\Q k H'
def ao {op:CmpOp}{r:R2}(ho:OpR X (Lg op) r) (ha:PE X a ta) (hb:PE X b tb) (hm:behindInMarks op b=f'):PT X (.Compare a [op] [b] pos) (yA (tOp r ta tb)):=by
 intro Mq s σ H Q I h;refine wpAny_isTrue_Compare1 (thn (ha Mq s σ H _ I h) λv s1 ⟨x,H1,I1,r1,q1⟩=>thn (hb Mq s1 σ H1 _ I1 q1) λu s2 ⟨y,H2,I2,r2,q2⟩ =>
  thn (ho Mq s2 σ H2 x y v u _ I2 r1 r2 q2) λc s3 ⟨z,H3,I3,r3,k,e,q3⟩=>?_) hm
 subst e;cases r3;exact Lw ⟨H3,I3,q3⟩
def GI (r r':R2) (ta tb tc:TE):TE:=λσ H Q=>ta σ H λx H1=>tb σ H1 λy H2=>r x y H2 λz H3=>∃ k,z=.bl k /\
 (if k=j' then tc σ H3 λw' H4=>r' y w' H4 Q else Q (.bl f') H3)
def CD {op op':CmpOp}{r r':R2}(ho:OpR X (Lg op) r) (ho':OpR X (Lg op') r') (ha:PE X a ta) (hb:PE X b tb) (hc:PE X c tc)
 (hm:lastMarks [op,op'] [b,c]=f':=by with_unfolding_all rfl):PE X (.Compare a [op,op'] [b,c] pos) (GI r r' ta tb tc):=by
 intro Mq s σ H Q I h;refine Compare_chain (thn (ha Mq s σ H _ I h) λv s1 ⟨x,H1,I1,r1,q1⟩=>chain_link (thn (hb Mq s1 σ H1 _ I1 q1) λu s2 ⟨y,H2,I2,r2,q2⟩ =>
  thn (ho Mq s2 σ H2 x y v u _ I2 r1 r2 q2) λd s3 ⟨z,H3,I3,r3,k,e,q3⟩=>?_)) hm
 subst e;cases r3;refine Lw ?_;cases k with
|false=>exact ite_ff ⟨.bl f',H3,I3,rfl,q3⟩
|true=>exact ite_tt (chain_last (thn (hc Mq s3 σ H3 _ I3 q3) λw' s4 uq4=>by(obtain⟨z',H4,I4,r4,q4⟩:=uq4;exact ho' Mq s4 σ H4 y z' u w' Q I4 r2 r4 q4)))
def IW (K:Kc) (x:V) (H:Hp) (k:Bool):Prop :=
 match x with
|.non=>k=f'
|.bl b=>k=b
|.int i=>k=(i != 0)
|.str y=>y.length <= Ki/\k=((y.length:Int) != 0)
|.byt y=>y.size <= Ki/\k=((y.size:Int) != 0)
|.ref p=>(∃ xs,SqL K H p xs/\k=!xs.isEmpty)\/(∃ xs,SqT K H p xs/\k=!xs.isEmpty)\/∃ kvs,H p=dk (.dK kvs)/\k=!kvs.isEmpty
|_=>False
def yt {κ:Type}{kvs:List (κ × V)}{vs:List (κ × JW)}(r:KV kvs vs):(!vs.isEmpty)=!kvs.isEmpty:=by
 cases r<;>rfl
def r9 {xs:List V}{its:List JW}(r:bZ xs its):(!its.toArray.isEmpty)=!xs.isEmpty:=by
 cases r<;>simp
def ug:(Ki:Nat) < 2 ^ 63:=by rw[sizeLine_eq];decide
def FU:Ju X (λx H Q=>∃ k,IW X.K x H k/\Q k H):=by
 intro Mq s σ H x v Q I rx h;obtain⟨k,e,q⟩:=h;have hl:=ug;have hs:Ki=16777216:=sizeLine_eq;cases x with
|non =>
  cases rx;have e':k=f':=e;subst e';exact truthy_none ⟨H,I,q⟩
|bl b =>
  cases rx;have e':k=b:=e;subst e';exact Lw ⟨H,I,q⟩
|int i =>
  obtain⟨t,rfl⟩:=rx;have e':k=(i != 0):=e;subst e';exact PySem.P.truthy_int ⟨H,I,q⟩
|str y =>
  obtain⟨t,rfl⟩:=rx;obtain⟨hy,e'⟩:y.length <= Ki/\k=((y.length:Int) != 0):=e;subst e';exact PySem.P.truthy_str (by omega) ⟨H,I.tok _,q⟩
|byt y =>
  obtain⟨t,rfl⟩:=rx;obtain⟨hy,e'⟩:y.size <= Ki/\k=((y.size:Int) != 0):=e;subst e';exact truthy_bytes (by omega) ⟨H,I.tok _,q⟩
|ref p =>
  cases rx;have e':(∃ xs,SqL X.K H p xs/\k=!xs.isEmpty)\/(∃ xs,SqT X.K H p xs/\k=!xs.isEmpty)\/∃ kvs,H p=dk (.dK kvs)/\k=!kvs.isEmpty:=e;rcases e' with⟨xs,hx,e'⟩|⟨xs,hx,e'⟩|⟨kvs,hx,e'⟩
  . subst e';obtain⟨its,r,pl,hz⟩:=I.list hx;have hlen:=r.length;exact wpAny_truthy_list pl.isList (by simp only[KD];omega) ⟨H,I.tok _,by rw[r9 r];exact q⟩
  . subst e';obtain⟨its,r,pl,hz⟩:=I.tuple hx;have hlen:=r.length;exact truthy_tuple pl (by simp only[KD];omega) ⟨H,I.tok _,by rw[r9 r];exact q⟩
  . subst e';obtain⟨hz,hS,vs,r,m⟩:kvs.length <= Ki/\(p == Ls)=f'/\∃ vs,KV kvs vs/\s.heap.DictOf (bg X.prog X.w) p vs:=I.hok p _ hx;have hlen:kvs.length=vs.length:=Kx.length r;exact wpAny_truthy_dict hS m (by omega) ⟨H,I.tok _,by rw[yt r];exact q⟩
|_=>exact(show False from e).elim
def mF (ha:PE X a ta) (he:∀ whole,isTrue a X.env whole=(do let v <-whole;standAt a.pos;holding [v] (truthy v))) :
 PT X a (λσ H Q=>ta σ H λx H'=>∃ k,IW X.K x H' k/\Q k H'):=by
 intro Mq s σ H Q I h;exact isTrue_plain (thn (ha Mq s σ H _ I h) λv s1 uq5=>by(obtain⟨x,H1,I1,r1,q1⟩:=uq5;exact FU Mq s1 σ H1 x v Q I1 r1 q1)) (he _)
def ym {x:V}{us:List JW}(r:bZ [x] us):∃ u,us=[u]/\cm x u:=by
 cases r with
|cons r1 r2=>cases r2;exact⟨_,rfl,r1⟩
def GJ {x y:V}{us:List JW}(r:bZ [x,y] us):∃ u w',us=[u,w']/\cm x u/\cm y w':=by
 cases r with
|cons r1 r2 =>
  cases r2 with
 |cons r3 r4=>cases r4;exact⟨_,_,rfl,r1,r3⟩
end
structure ObjM (h:KN) (x dx C:D') (mA:Str->Option JW):Prop where
 obj:h.get? x=dk (instObj C dx)
 ns:h.Ns1 dx mA
 ne:dx≠x
def yN {h:KN}{dx:D'}{mA:Str->Option JW}(n:h.Ns1 dx mA):∃ od,h.get? dx=dk od/\∀ name,lookIn name od=dk (mA name):=by
 obtain⟨o,es,ep,ho,hd,hk,_,hm⟩:=n;refine⟨o,ho,λname=>?_⟩;have e:=hm name;unfold nsFind findBy at e;rw[<-Array.find?_toList]at e;unfold lookIn;rw[hd];dsimp only;split
 . rename_i y q;rw[q]at e;exact congrArg dk e
 . rename_i q;rw[q]at e;have a:es.toList.any (·.refKey)=f':=by
    rw[List.any_eq_false];intro y hy;obtain⟨z,t,hkey⟩:=hk y (Array.mem_toList_iff.mp hy);simp[KQ.refKey,hkey]
   have a':¬ es.toList.any (·.refKey)=j':=by rw[a];exact Kr
   rw[Qr a'];exact congrArg dk e
def ObjM.look {h:KN}{x dx C:D'}{mA:Str->Option JW}(I:ObjM h x dx C mA):∃ od,InstAt h x (instObj C dx) C (dk od)/\∀ name,lookIn name od=dk (mA name) :=
 let ⟨od,ho,hl⟩:=yN I.ns
 ⟨od,⟨I.obj,rfl,rfl,ho⟩,hl⟩
section
variable {prog:Kz}{w:Kk}{A:KY}{E:JW->Kb->Prop}{s:Kb}{K:Kc}{x dx C f:D'}{mA:Str->Option JW}{name:Str}{v:JW}
def Fh {expr:Bool}{Q:JW->Kb->Prop}(X:K.In s.heap) (I:ObjM s.heap x dx C mA) (hg:plainGet K C name=j') (hh:hasDictIn K C=j')
 (ha:findIn K (.ref C) name=dk JZ) (hv:mA name=dk v) (hv':handedIn v=j') (h:Q v { s with toks:=s.toks+1 }) :
 Kq (model prog w) A (getAttr (.ref x) name expr) Q E s:=by
 obtain⟨od,J,hl⟩:=I.look;exact get_value X J (plainGet_of hg).1 (findObj_own hh ha rfl (by rw[hl,hv])) hv' h
def CF {pl:Sem Bool}{Q:JW × List JW->Kb->Prop}(X:K.In s.heap) (I:ObjM s.heap x dx C mA) (hg:plainGet K C name=j')
 (hf:findIn K (.ref C) name=dk (dk (.ref f))) (ht:isFn K (.ref f)=j') (hv:mA name=JZ) (h:Q (.ref f,[.ref x]) s) :
 Kq (model prog w) A (getMethod (.ref x) name pl) Q E s:=by
 obtain⟨od,J,hl⟩:=I.look;exact method_fn X J (plainGet_of hg).1 (plainGet_of hg).2 hf (beq_iff_eq.mp ht) (by show (lookIn name od).map (·.isSome)=dk f';rw[hl,hv];rfl) h
def DT {ns:List Str}{Q:Unit->Kb->Prop}(X:K.In s.heap) (I:ObjM s.heap x dx C mA)
 (hs:findIn K (.ref C) "__setattr__"=dk (dk (.builtin "object.__setattr__"))) (hp:plainOver K C=j') (ht:takerIn K C name=dk JZ) (hh:hasDictIn K C=j')
 (hw:PySem.Within mA ns) (hsz:ns.length <= Ki)
 (h:∀ h',ObjM h' x dx C (λy=>if y=name then dk v else mA y)->LH dx s.heap h'->Q () { s with heap:=h',toks:=s.toks+2 }) :
 Kq (model prog w) A (setAttr (.ref x) name v) Q E s:=by
 obtain⟨od,J,hl⟩:=I.look;refine set_plain X J hs (osa_open (s:={ s with toks:=s.toks+1 }) (r:=JZ) X J hp ht λb=>?_);obtain⟨cd,hc,hd'⟩:=any_some hh;have hx:s.heap.get? x=dk ⟨.ref C,dk dx,.plain,#[]⟩:=I.obj;refine G' (Ke (G' (G' (wpAny_loadPart hx (G' (Looks.here (s:={ s with toks:=s.toks+1 }) (looks_clsIn X hc) ?_))))));rw[hd'];refine Ke (a:=dk dx) (G' (Ke (G' ?_)));refine wpAny_nsSet1 (s:={ s with toks:=s.toks+1 }) I.ns λh' hn2 hs2=>?_
 obtain⟨oD,esD,epD,hoD,hdD,hcD⟩:=hn2.count (PySem.Within.cons name v hw);refine G' (wpAny_lookBehind hoD (by rw[hdD];exact pastItsLine_dict (K6 hcD (by rw[KJ];omega))) ?_);exact Ke (h _ ⟨(hs2.2 _ (Mb I.ne)).trans I.obj,hn2,I.ne⟩ hs2)
def BC {R:Result->Kb->Prop}{vs:List JW}{kw:List (Str × JW)}(X:K.In s.heap) (hm:makesIn K C=j')
 (hi:findIn K (.ref C) "__init__"=dk (dk (.ref f))) (hf:typeIn K (.ref f)=dk (.type "function"))
 (h:codeAny (model prog w) (A.under (.builtin "type.__call__" ⟨.ref C :: vs,kw⟩)) (.call (.ref f) ⟨.ref (s.heap.objs.size+1) :: vs,kw⟩) (InitBack (s.heap.objs.size+1) R)
  { s with heap:=(s.heap.push emptyDict).push (instObj C s.heap.objs.size) }) :
 codeAny (model prog w) A (.call (.ref C) ⟨vs,kw⟩) R s:=by
 obtain⟨hh,g,d,t,os⟩:=s;exact make_core (makes_of X hm) (looks_findIn X hi) (λself=>bind_fn X self hf) (.inl rfl) h
end
def bn (f:Str) (v:V):List (Str × V)->List (Str × V)
|[]=>[(f,v)]
|(g,x) :: r=>if g=f then (g,v) :: r else (g,x) :: bn f v r
theorem a9 (f g:Str) (v:V):∀ fs:List (Str × V),(bn f v fs).lookup g=if g=f then dk v else fs.lookup g
|[]=>by
  show List.lookup g [(f,v)]=_;by_cases h:g=f
  . have hb:(g == f)=j':=beq_iff_eq.mpr h;simp only[List.lookup,hb,Qq h]
  . have hb:(g == f)=f':=beq_eq_false_iff_ne.mpr h;simp only[List.lookup,hb,Qr h]
|(k,x) :: r=>by
  have ih:=a9 f g v r;rw[show bn f v ((k,x) :: r)=(if k=f then (k,v) :: r else (k,x) :: bn f v r) from rfl];by_cases hk:k=f
  . rw[Qq hk];by_cases h:g=k
    . have hb:(g == k)=j':=beq_iff_eq.mpr h;simp only[List.lookup,hb,Qq (h.trans hk)]
    . have hb:(g == k)=f':=beq_eq_false_iff_ne.mpr h;simp only[List.lookup,hb,Qr (λe:g=f=>h (e.trans hk.symm))]
  . rw[Qr hk];by_cases h:g=k
    . have hb:(g == k)=j':=beq_iff_eq.mpr h;simp only[List.lookup,hb,Qr (λe:g=f=>hk (h.symm.trans e))]
    . have hb:(g == k)=f':=beq_eq_false_iff_ne.mpr h;simp only[List.lookup,hb];exact ih
theorem oO (f:Str) (v:V):∀ fs:List (Str × V),f∈(bn f v fs).map (·.1)/\∀ g,g∈fs.map (·.1)->g∈(bn f v fs).map (·.1)
|[]=>⟨by simp[bn],λg h=>by simp at h⟩
|(k,x) :: r=>by
  obtain⟨i1,i2⟩:=oO f v r;rw[show bn f v ((k,x) :: r)=(if k=f then (k,v) :: r else (k,x) :: bn f v r) from rfl];by_cases hk:k=f
  . rw[Qq hk];subst hk;exact⟨by simp,λg h=>by simpa using h⟩
  . rw[Qr hk];refine⟨?_,λg h=>?_⟩
    . rw[K1];exact Kl _ i1
    . rw[K1]at h |-;rcases KA.mp h with e|e
      . exact KA.mpr (.inl e)
      . exact Kl _ (i2 g e)
theorem pO (f:Str) (v:V):∀ fs:List (Str × V),(bn f v fs).length <= fs.length+1
|[]=>by simp[bn]
|(k,x) :: r=>by
  have ih:=pO f v r;rw[show bn f v ((k,x) :: r)=(if k=f then (k,v) :: r else (k,x) :: bn f v r) from rfl];by_cases hk:k=f
  . rw[Qq hk,KJ,KJ];omega
  . rw[Qr hk,KJ,KJ];omega
def tP.some_of {v:V}{o:Option JW}(r:tP (dk v) o):∃ u,o=dk u/\cm v u:=by
 cases o with
|none=>exact(show False from r).elim
|some u=>exact⟨u,rfl,r⟩
def tP.none_of {o:Option JW}(r:tP JZ o):o=JZ:=by
 cases o with
|none=>rfl
|some u=>exact(show False from r).elim
def zp {v:V}{u:JW}(r:cm v u):handedIn u=j':=by
 cases v with
|non=>cases (show u=Lr from r);rfl
|bl b=>cases (show u=JW.bool b from r);rfl
|int i=>obtain⟨t,e⟩:=(show ∃ t,u=JW.int i t from r);cases e;rfl
|str x=>obtain⟨t,e⟩:=(show ∃ t,u=JW.str x t from r);cases e;rfl
|byt b=>obtain⟨t,e⟩:=(show ∃ t,u=JW.bytes b t from r);cases e;rfl
|flt b=>obtain⟨t,e⟩:=(show ∃ t,u=JW.float b t from r);cases e;rfl
|ref a=>cases (show u=KI a from r);rfl
|ty n=>cases (show u=JW.type n from r);rfl
section
variable {P:Kz}{w:Kk}{H H':Hp}{h h':KN}{a C dx:D'}{fs fs':List (Str × V)}
def sN (hok:HOk P w H h) (e:H a=dk (.ins C dx fs)):∃ mA,ObjM h a dx C mA/\(∀ f,tP (fs.lookup f) (mA f))/\PySem.Within mA (fs.map (·.1))/\fs.length <= 1000/\H dx=dk (.own a):=by
 obtain⟨d,z,ne,ob,mA,n,r,q⟩:=(show dJ P w H h a (.ins C dx fs) from hok a _ e)
 exact⟨mA,⟨ob,n,ne⟩,r,q,z,d⟩
end
structure Cls (K:Kc) (C:D'):Prop where
 pg:plainGet K C Str.empty=j'
 hd:hasDictIn K C=j'
 po:plainOver K C=j'
 sa:findIn K (.ref C) "__setattr__"=dk (dk (.builtin "object.__setattr__"))
def Cls.get {K:Kc}{C:D'}(c:Cls K C) (f:Str):plainGet K C f=j':=c.pg
def aX (K:Kc) (C:D') (f:Str):Prop:=findIn K (.ref C) f=dk JZ
def aX.taker {K:Kc}{C:D'}{f:Str}(n:aX K C f):takerIn K C f=dk JZ:=by
 unfold takerIn;rw[show findIn K (.ref C) f=dk JZ from n];rfl
structure Meth (K:Kc) (C:D') (m:Str) (f:D'):Prop where
 at_:findIn K (.ref C) m=dk (dk (.ref f))
 fn:isFn K (.ref f)=j'
 kp:keepIn K (.ref f)=j'
section
variable {X:Cx}{Mq:List (D' × LF)}{σ:St}{H:Hp}{s:Kb}{a C dx:D'}{fs:List (Str × V)}{f:Str}{v:V}{A:KY}{E:JW->Kb->Prop}
def y4 {b:Bool}{Q:JW->Kb->Prop}(I:Inv X Mq σ H s) (e:H a=dk (.ins C dx fs)) (c:Cls X.K C) (n:aX X.K C f) (l:fs.lookup f=dk v)
 (h:∀ u s',Inv X Mq σ H s'->cm v u->Q u s'):Kq (model X.prog X.w) A (getAttr (.ref a) f b) Q E s:=by
 obtain⟨mA,O,r,_,_,_⟩:=sN I.hok e;obtain⟨u,hu,ru⟩:=tP.some_of (v:=v) (o:=mA f) (by rw[<-l];exact r f);exact Fh I.kIn O (c.get f) c.hd n hu (zp ru) (h u _ (I.tok _) ru)
def mL {m:Str}{g:D'}{pl:Sem Bool}{Q:JW × List JW->Kb->Prop}(I:Inv X Mq σ H s) (e:H a=dk (.ins C dx fs)) (c:Cls X.K C) (k:Meth X.K C m g) (l:fs.lookup m=JZ)
 (h:Q (.ref g,[.ref a]) s):Kq (model X.prog X.w) A (getMethod (.ref a) m pl) Q E s:=by
 obtain⟨mA,O,r,_,_,_⟩:=sN I.hok e;have hn:mA m=JZ:=tP.none_of (by rw[<-l];exact r m);exact CF I.kIn O (c.get m) k.at_ k.fn hn h
def xL {y:V}{u:JW}{Q:Unit->Kb->Prop}(I:Inv X Mq σ H s) (e:H a=dk (.ins C dx fs)) (c:Cls X.K C) (n:aX X.K C f) (hl:fs.length < 1000) (ry:cm y u)
 (h:∀ s',Inv X Mq σ (upd H a (.ins C dx (bn f y fs))) s'->Q () s'):Kq (model X.prog X.w) A (setAttr (.ref a) f u) Q E s:=by
 obtain⟨mA,O,r,wi,_,ho⟩:=sN I.hok e;have hz:(fs.map (·.1)).length <= Ki:=by rw[Kv,sizeLine_eq];omega
 refine DT I.kIn O c.sa c.po n.taker c.hd wi hz λh' O' sb=>h _ ?_
 have hd:∃ o,h'.get? dx=dk o:=let ⟨o,_,_,e',_⟩:=O'.ns;⟨o,e'⟩;refine I.write (x:=a) (e:=dx) (by rw[e];exact LI) (.inr ho) (λb q hb z=>(sb.2 b hb).trans z) hd ?_;refine⟨by rw[ac O.ne];exact ho,?_,O.ne,O'.obj,_,O'.ns,λg=>?_,λg hg=>?_⟩
 . have:=pO f y fs;omega
 . show tP ((bn f y fs).lookup g) (if g=f then dk u else mA g);rw[a9];by_cases q:g=f
   . rw[Qq q,Qq q];exact ry
   . rw[Qr q,Qr q];exact r g
 . by_cases q:g=f
   . rw[q];exact(oO f y fs).1
   . refine(oO f y fs).2 g (wi g λz=>hg ?_);show (if g=f then dk u else mA g)=JZ;rw[Qr q];exact z
def Inv.made (I:Inv X Mq σ H s):Inv X Mq σ (upd (upd H s.heap.objs.size (.own (s.heap.objs.size+1))) (s.heap.objs.size+1) (.ins C s.heap.objs.size []))
 { s with heap:=(s.heap.push emptyDict).push (instObj C s.heap.objs.size) }:=by
 have e1:(s.heap.push emptyDict).get? s.heap.objs.size=dk emptyDict:=Ky s.heap rfl;have e2:((s.heap.push emptyDict).push (instObj C s.heap.objs.size)).get? (s.heap.objs.size+1)=dk (instObj C s.heap.objs.size):=by
  have:=Ky (s.heap.push emptyDict) (o:=instObj C s.heap.objs.size) rfl;rwa [KN.size_push]at this
 have e3:(s.heap.push emptyDict).Ns s.heap.objs.size (λ_=>JZ):=⟨emptyDict,#[],_,e1,rfl,(λe he=>absurd he (by simp)),λ_=>rfl⟩
 have I1:=I.laid (a:=s.heap.objs.size) (o:=.own (s.heap.objs.size+1)) (h':=s.heap.push emptyDict) (t':=s.toks) (λb u q=>Kd _ q) (Kf _) ⟨_,e1⟩;refine I1.laid (a:=s.heap.objs.size+1) (o:=.ins C s.heap.objs.size []) (t':=s.toks) (λb u q=>Kd _ q) (Nat.le_of_eq (KN.size_push _ _)) ?_;have ne:s.heap.objs.size≠s.heap.objs.size+1:=Ld (Nat.lt_succ_self _);refine⟨by rw[ac ne,a8],LJ _,ne,e2,λ_=>JZ,(KN.Ns1.of_empty e3).at λo q=>Kd _ q,λ_=>LI,λy hy=>absurd rfl hy⟩
def EZ {prog:Kz}{w:Kk}{env:Env}{e:Expr}{f:Str}{pos:Pos}{s:Kb}{Q:JW->Kb->Prop}(hb:attributeBase e f env (eval e env)=eval e env)
 (h:Kq (model prog w) A (eval e env) (λo s₁=>Kq (model prog w) A (getAttr o f j') Q E s₁) E s):Kq (model prog w) A (eval (.Attribute e f pos) env) Q E s :=
 Attribute_any_ h (by rw[arm_eval_Attribute,hb])
end
def Jz (K:Kc) (ta:TE) (f:Str):TE:=λσ H Q=>ta σ H λx H1=>∃ a C dx fs v,x=.ref a/\H1 a=dk (.ins C dx fs)/\Cls K C/\aX K C f/\fs.lookup f=dk v/\Q v H1
def JS (K:Kc) (ta tv:TE) (f:Str):TS:=λD σ H=>tv σ H λy H1=>ta σ H1 λx H2=>∃ a C dx fs,x=.ref a/\H2 a=dk (.ins C dx fs)/\Cls K C/\aX K C f/\fs.length < 1000 /\
 D.nx σ (upd H2 a (.ins C dx (bn f y fs)))
section
variable {X:Cx}{o e value:Expr}{f:Str}{pos pos' tpos:Pos}{ta tv:TE}
def al (he:PE X e ta) (hb:attributeBase e f X.env (eval e X.env)=eval e X.env):PE X (.Attribute e f pos) (Jz X.K ta f):=by
 intro Mq s σ H Q I h;refine EZ hb (thn (he Mq s σ H _ I h) λu s1 ur25=>?_);obtain⟨x,H1,I1,rx,a,C,dx,fs,v,ex,ea,c,n,l,q⟩:=ur25;subst ex;obtain rfl:u=KI a:=rx;exact y4 I1 ea c n l λu' s2 I2 ru=>⟨v,H1,I2,ru,q⟩
def bw (ha:PE X o ta) (hv:PE X value tv) (hs:swapsWith value (dk (.Attribute o f pos')) pos.line X.env=pure f'):PS X (.Assign [.Attribute o f pos'] value pos) (JS X.K ta tv f):=by
 intro Mq s σ H D I h;refine plainObj_wpAny_Assign_Attribute (thn (hv Mq s σ H _ I h) λu s1 ⟨y,H1,I1,ry,q⟩=>thn (ha Mq s1 σ H1 _ I1 q) λov s2 ur26=>?_) hs;obtain⟨x,H2,I2,rx,a,C,dx,fs,ex,ea,c,n,l,q2⟩:=ur26;subst ex;obtain rfl:ov=KI a:=rx;exact xL I2 ea c n l ry λs3 I3=>⟨σ,_,I3,q2⟩
end
section
variable {X:Cx}{Mq:List (D' × LF)}{σ:St}{H:Hp}{s:Kb}{A:KY}{E:JW->Kb->Prop}{Q:JW->Kb->Prop}{c:JW}{b:Bool}
inductive TyOf (K:Kc) (H:Hp):V->JW->Prop where
|non:TyOf K H .non (.type "NoneType")
|bl (x:Bool):TyOf K H (.bl x) (.type "bool")
|int (i:Int):TyOf K H (.int i) (.type "int")
|str (x:Str):TyOf K H (.str x) (.type "str")
|flt (x:UInt64):TyOf K H (.flt x) (.type "float")
|lst {a:D'} {xs:List V} (e:H a=dk (.lst xs)):TyOf K H (.ref a) (.type "list")
|frz {a:D'} {o:LF} {xs:List V} (e:H a=dk (.frz o (.lst xs))):TyOf K H (.ref a) (.type "list")
|tup {a:D'} {xs:List V} (e:H a=dk (.tup xs)):TyOf K H (.ref a) (.type "tuple")
|dK {a:D'} {kvs:List (Key × V)} (e:H a=dk (.dK kvs)):TyOf K H (.ref a) (.type "dict")
|dT {a:D'} {kvs:List (List Key × V)} (e:H a=dk (.dT kvs)):TyOf K H (.ref a) (.type "dict")
|ins {a C dx:D'} {fs:List (Str × V)} (e:H a=dk (.ins C dx fs)) (cl:Cls K C) (ha:findIn K (.ref C) "__class__"=dk (dk (.builtin "object.__class__")))
  (hn:specialIn K (.builtin "object.__class__") "__get__"=dk (dk (.builtin "getset_descriptor.__get__"))) (htk:takesIn K (.builtin "object.__class__")=dk j')
  (hm:mroIn K C (.type "object")=dk j'):TyOf K H (.ref a) (.ref C)
def Az {x:V}{u t:JW}(I:Inv X Mq σ H s) (rx:cm x u) (ty:TyOf X.K H x t) (e:kitOne X.K t c=dk b) (h:∀ tk,Q (.bool b) { s with toks:=tk }) :
 Kq (model X.prog X.w) A (call (.builtin "isinstance") [u,c]) Q E s:=by
 cases ty with
|non=>cases (show u=Lr from rx);exact kia_one kitx_none I.kIn LI e (λz=>nomatch z) h
|bl y=>cases (show u=JW.bool y from rx);exact kia_one kitx_bool I.kIn LI e (λz=>nomatch z) h
|int i=>obtain⟨t,q⟩:=(show ∃ t,u=JW.int i t from rx);cases q;exact kia_one kitx_int I.kIn LI e (λz=>nomatch z) h
|str y=>obtain⟨t,q⟩:=(show ∃ t,u=JW.str y t from rx);cases q;exact kia_one kitx_str I.kIn LI e (λz=>nomatch z) h
|flt y=>obtain⟨t,q⟩:=(show ∃ t,u=JW.float y t from rx);cases q;exact kia_one kitx_float I.kIn LI e (λz=>nomatch z) h
|@lst a xs ea =>
  cases (show u=KI a from rx);obtain⟨_,_,n,_,h1⟩:=(show dJ X.prog X.w H s.heap a (.lst xs) from I.hok a _ ea)
  exact kia_one kitx_list I.kIn ⟨_,h1,rfl⟩ e (λz=>nomatch z) h
|@frz a ob xs ea =>
  cases (show u=KI a from rx);obtain⟨_,_,_,n,_,h1⟩:=(show dJ X.prog X.w H s.heap a (.frz ob (.lst xs)) from I.hok a _ ea)
  exact kia_one kitx_list I.kIn ⟨_,h1,rfl⟩ e (λz=>nomatch z) h
|@tup a xs ea =>
  cases (show u=KI a from rx);obtain⟨_,_,_,p⟩:=(show dJ X.prog X.w H s.heap a (.tup xs) from I.hok a _ ea)
  obtain⟨o,h1,h2,_⟩:=p;exact kia_one kitx_tuple I.kIn ⟨o,h1,h2⟩ e (λz=>nomatch z) h
|@dK a kvs ea =>
  cases (show u=KI a from rx);obtain⟨_,_,vs,_,p⟩:=(show dJ X.prog X.w H s.heap a (.dK kvs) from I.hok a _ ea)
  obtain⟨o,es,ep,h1,h2,_⟩:=p;exact kia_one kitx_dict I.kIn ⟨o,h1,h2.1⟩ e (λz=>nomatch z) h
|@dT a kvs ea =>
  cases (show u=KI a from rx);obtain⟨_,_,xs,_,o,es,ep,h1,h2,_⟩:=(show dJ X.prog X.w H s.heap a (.dT kvs) from I.hok a _ ea)
  exact kia_one kitx_dict I.kIn ⟨o,h1,h2.1⟩ e (λz=>nomatch z) h
|@ins a C dx fs ea cl ha hn htk hm =>
  cases (show u=KI a from rx);obtain⟨mA,O,_⟩:=sN I.hok ea;obtain⟨od,J,_⟩:=O.look;exact kia_one (kitx_own (cl.get _) cl.hd ha hn htk hm) I.kIn J e (λz=>nomatch z) h
end
structure Room (k:Nat) (A:KY):Prop where
 hd:A.handled=JZ
 dp:A.depth+3 * k+5 < recursionLimit
 un:A.units+16 * k+200 < L8
def Room.mono {j k:Nat}{A:KY}(r:Room k A) (h:j <= k):Room j A:=⟨r.hd,by have:=r.dp;omega,by have:=r.un;omega⟩
theorem Room.deeper {k:Nat}{A:KY}(r:Room (k+1) A) (env:Env):Room k (A.deeper env) :=
 ⟨r.hd,by have:=r.dp;show A.depth+1+3 * k+5 < _;omega,by have:=r.un;show A.units+3+16 * k+200 < _;omega⟩
def xV {A:KY}{C:D'}{us:List JW}{kw:List (Str × JW)}:(A.under (.builtin "type.__call__" ⟨.ref C :: us,kw⟩)).depth=A.depth+1:=by
 first|rfl|simp[KY.under,Code.weight,Code.isCreation,Code.isGuard,Code.isCaller,Code.frames,Code.isFrame,guardIds]
def yp {A:KY}{C:D'}{us:List JW}{kw:List (Str × JW)}:(A.under (.builtin "type.__call__" ⟨.ref C :: us,kw⟩)).units=A.units+1:=by
 first|rfl|simp[KY.under,Code.cUnits,Code.frames,Code.isFrame]
def Room.make {k:Nat}{A:KY}(r:Room (k+1) A) (C:D') (us:List JW) (kw:List (Str × JW)):Room k (A.under (.builtin "type.__call__" ⟨.ref C :: us,kw⟩)) :=
 ⟨r.hd,by have:=r.dp;rw[xV];omega,by have:=r.un;rw[yp];omega⟩
theorem Room.depth {k:Nat}{A:KY}(r:Room k A):A.depth < recursionLimit:=by have:=r.dp;omega
theorem Room.units {k:Nat}{A:KY}(r:Room k A):A.units+64 < L8:=by have:=r.un;omega
def GX:TA:=λ_ H Q=>Q [] H
def zW (ta:TE) (tr:TA):TA:=λσ H Q=>ta σ H λx H1=>tr σ H1 λxs H2=>Q (x :: xs) H2
section
variable {X:Cx}{e:Expr}{es:List Expr}{te:TE}{t:TA}{pos:Pos}
def aa:PA X [] GX:=λ_ _ _ _ H Q I h=>Calls.spliced_nil ⟨[],H,I,.nil,h⟩
def E1 (ha:PE X e te) (hr:PA X es t) (hs:KP (e :: es) X.env=(f',eval e X.env) :: KP es X.env:=by rfl):PA X (e :: es) (zW te t):=by
 intro pos Mq s σ H Q I h;rw[hs];show Kq _ _ (spliced ((f',eval e X.env) :: L7 pos (KP es X.env))) _ _ s;refine LM (thn (ha Mq s σ H _ I h) λu s1 ur27=>?_);obtain⟨x,H1,I1,r1,q1⟩:=ur27;exact thn (hr pos Mq s1 σ H1 _ I1 q1) λus s2 uq6=>by(obtain⟨xs,H2,I2,r2,q2⟩:=uq6;exact ⟨x :: xs,H2,I2,.cons r1 r2,q2⟩)
def IT (t:TA):TE:=λσ H Q=>t σ H λxs H1=>xs.length <= Ki/\∀ p,H1 p=JZ->Q (.ref p) (upd H1 p (.tup xs))
def Jr (t:TA):TE:=λσ H Q=>t σ H λxs H1=>xs.length <= Ki/\∀ p,H1 p=JZ->Q (.ref p) (upd H1 p (.lst xs))
def bj {x1}(h:PA X es t):PE X (.Tuple es x1 pos) (IT t):=by
 intro Mq s σ H Q I hq;refine wpAny_Tuple_spliced (thn (h pos Mq s σ H _ I hq) λus s1 ⟨xs,H1,I1,r,z,q⟩=>⟨by rw[<-r.length];exact z,?_⟩);have hf:H1 s1.heap.objs.size=JZ:=I1.hok.fresh (Kf _);refine⟨.ref s1.heap.objs.size,upd H1 s1.heap.objs.size (.tup xs),I1.laid (t':=s1.toks) (λb u e=>Kd _ e) (Kf _) ?_,rfl,q _ hf⟩;exact⟨z,us,r,⟨_,Ky _ rfl,rfl,_,rfl⟩⟩
def bQ (h:PA X es t):PE X (.List es pos) (Jr t):=by
 intro Mq s σ H Q I hq;refine wpAny_List_spliced (thn (h pos Mq s σ H _ I hq) λus s1 ⟨xs,H1,I1,r,z,q⟩=>⟨by rw[<-r.length];exact z,?_⟩);have hf:H1 s1.heap.objs.size=JZ:=I1.hok.fresh (Kf _);refine⟨.ref s1.heap.objs.size,upd H1 s1.heap.objs.size (.lst xs),I1.laid (t':=s1.toks) (λb u e=>Kd _ e) (Kf _) ?_,rfl,q _ hf⟩;exact⟨z,us,0,r,Ky _ rfl⟩
end
abbrev Sp:=List V->Hp->VK->XK->Prop
abbrev CXT:=List Env->Hp->Kb->XK->JW->Kb->Prop
structure Env0 (P:Kz) (w:Kk) (K:Kc) (mg:Str->Option JW) (base:KN) (A:KY) (outer:List Env) (s:Kb) (H:Hp):Prop where
 frames:A.frames=dk outer
 mod:Mod K mg base
 bs:∀ b o,base.get? b=dk o->s.heap.get? b=dk o/\H b=JZ
 bsz:base.objs.size <= s.heap.objs.size
 funs:s.heap.FunFrames base outer
 frf:∀ b∈frs outer,H b=JZ
 hok:HOk P w H s.heap
 bare:AllBare s.gens
def CE (outer:List Env) (P:Kz) (w:Kk) (H:Hp) (s:Kb) (Q:VK) (u:JW) (s':Kb):Prop :=
 ∃ v H',s'.os=s.os/\AllBare s'.gens/\Un (frs outer) [] H H' s.heap s'.heap/\HOk P w H' s'.heap/\cm v u/\Q v H'
def CR (CX:CXT) (outer:List Env) (P:Kz) (w:Kk) (H:Hp) (s:Kb) (Q:VK) (E:XK) (r:Result) (s':Kb):Prop :=
 match r with
|.ok (.ret u)=>CE outer P w H s Q u s'
|.ok _=>False
|.error e=>CX outer H s E e s'
structure FnOk (P:Kz) (w:Kk) (K:Kc) (mg:Str->Option JW) (base:KN) (CX:CXT) (k:Nat) (f:D') (fd:Kj) (ps:List Str) (sp:Sp):Prop where
 len:∀ vs H Q E,sp vs H Q E->vs.length=ps.length
 run:∀ (A:KY) (outer:List Env) (s:Kb) (H:Hp) (args:Args) (us:List JW) (vs:List V) (Q:VK) (E:XK),Room k A->Env0 P w K mg base A outer s H->BindsTo s fd args (ps.zip us)->bZ vs us->sp vs H Q E ->
  codeAny (model P w) A (.call (.ref f) args) (CR CX outer P w H s Q E) s
def FnOk.imp {P:Kz}{w:Kk}{K:Kc}{mg:Str->Option JW}{base:KN}{CX:CXT}{k:Nat}{f:D'}{fd:Kj}{ps:List Str}{sp sp':Sp}(F:FnOk P w K mg base CX k f fd ps sp)
 (h:∀ vs H Q E,sp' vs H Q E->sp vs H Q E):FnOk P w K mg base CX k f fd ps sp' :=
 ⟨λvs H Q E q=>F.len vs H Q E (h _ _ _ _ q),λA outer s H args us vs Q E hr he hb hv hs=>F.run A outer s H args us vs Q E hr he hb hv (h _ _ _ _ hs)⟩
def Env0.make {P:Kz}{w:Kk}{K:Kc}{mg:Str->Option JW}{base:KN}{A:KY}{outer:List Env}{s:Kb}{H:Hp}(e:Env0 P w K mg base A outer s H) (C:D') (us:List JW) (kw:List (Str × JW)) :
 Env0 P w K mg base (A.under (.builtin "type.__call__" ⟨.ref C :: us,kw⟩)) outer s H:=⟨by first|exact e.frames|(simpa [KY.under,Code.envs,Code.isFrame,pushEnvs] using e.frames),e.mod,e.bs,e.bsz,e.funs,e.frf,e.hok,e.bare⟩
section
variable {X:Cx}{Mq:List (D' × LF)}{σ:St}{H:Hp}{s s':Kb}
def Inv.env0 (I:Inv X Mq σ H s):Env0 X.prog X.w X.K X.mg X.base X.A X.stack s H :=
 ⟨I.ok.frames,I.ok.mod,I.bs,K6 I.ok.bsz I.sz,I.stack,I.stkFree,I.hok,I.bare⟩
def Inv.after {Q:VK}{u:JW}(I:Inv X Mq σ H s) (h:CE X.stack X.prog X.w H s Q u s'):EP X Mq σ Q u s':=by
 obtain⟨v,H',os,bare,un,hok,r,q⟩:=h;obtain⟨hh,g,d,t,os'⟩:=s';obtain rfl:os'=s.os:=os;exact⟨v,H',I.call (h':=hh) (g':=g) (d':=d) (t':=t) (ch:=[]) un hok bare (λb z=>absurd z (by simp)),r,q⟩
end
def G7 (sp:Sp) (dvs:List V) (E:XK) (t:TA):TE:=λσ H Q=>t σ H λvs H1=>sp (vs++dvs) H1 Q E
def FO (C:D') (m:Str) (sp:Sp) (dvs:List V) (E:XK) (ta:TE) (t:TA):TE:=λσ H Q=>ta σ H λx H1=>∃ a dx fs,x=.ref a/\H1 a=dk (.ins C dx fs)/\fs.lookup m=JZ /\
 t σ H1 λvs H2=>sp (x :: (vs++dvs)) H2 Q E
def Fo (C:D') (sp:Sp) (dvs:List V) (E:XK) (t:TA):TE:=λσ H Q=>t σ H λvs H1=>∀ x dx,H1 x=JZ->H1 dx=JZ->dx≠x ->
 sp (.ref x :: (vs++dvs)) (upd (upd H1 dx (.own x)) x (.ins C dx [])) (λv H2=>v=.non/\Q (.ref x) H2) E
def aG (K:Kc) (fd:Kj) (ps:List Str) (ds:List JW):Prop :=
 ∀ (s:Kb) (us:List JW),K.In s.heap->(us++ds).length=ps.length->BindsTo s fd ⟨us,[]⟩ (ps.zip (us++ds))
def aG.all {K:Kc}{fd:Kj}{ps:List Str}(h:∀ us:List JW,us.length=ps.length->bindArgs fd ⟨us,[]⟩=pure (ps.zip us)):aG K fd ps []:=λs us _ hl=>by
 rw[KC]at hl |-;exact .of_eq (h us hl)
def kO (CX:CXT) (X:Cx) (E:XK):Prop:=∀ (Mq:List (D' × LF)) (σ:St) (H:Hp) (s:Kb) (e:JW) (s':Kb),Inv X Mq σ H s->CX X.stack H s E e s'->X.xe e s'
section
variable {X:Cx}{CX:CXT}{k:Nat}{f C:D'}{fd:Kj}{ps:List Str}{sp:Sp}{dvs:List V}{ds:List JW}{E:XK}{x m:Str}{p pos apos:Pos}{e o:Expr}{es:List Expr}{ta:TE}{t:TA}
def AR {Mq:List (D' × LF)}{σ:St}{H:Hp}{s:Kb}{Q:VK}{us:List JW}{vs:List V}(F:FnOk X.prog X.w X.K X.mg X.base CX k f fd ps sp) (hr:Room k X.A) (hb:aG X.K fd ps ds) (hd:bZ dvs ds) (hx:kO CX X E)
 (I:Inv X Mq σ H s) (r:bZ vs us) (h:sp (vs++dvs) H Q E):Kq (model X.prog X.w) X.A (call (.ref f) us) (EP X Mq σ Q) X.xe s:=by
 have r2:bZ (vs++dvs) (us++ds):=r.append hd;have hl:(us++ds).length=ps.length:=by rw[<-r2.length];exact F.len _ _ _ _ h
 refine wpAny_call (codeAny_mono (F.run X.A X.stack s H ⟨us,[]⟩ (us++ds) (vs++dvs) Q E hr I.env0 (hb s us I.kIn hl) r2 h) λr s' hq=>?_);cases r with
|error e=>exact hx Mq σ H s e s' I hq
|ok fl =>
  cases fl with
 |ret u=>exact I.after hq
 |next=>exact Lj hq
 |brk=>exact Lj hq
 |cont=>exact Lj hq
def aJ (F:FnOk X.prog X.w X.K X.mg X.base CX k f fd ps sp) (hr:Room k X.A) (hg:Gl X x) (hm:X.mg x=dk (.ref f)) (hk:keepIn X.K (.ref f)=j') (hb:aG X.K fd ps ds) (hd:bZ dvs ds) (hx:kO CX X E)
 (ha:PA X (e :: es) t) (hdb:(x == ("__debug__":Str))=f':=by decide) (he:KP (e :: es) X.env=(f',eval e X.env) :: KP es X.env:=by rfl) (hpl:(L7 pos (KP es X.env)).any (·.1)=f':=by rfl) :
 PE X (.Call (.Name x p) (e :: es) [] pos) (G7 sp dvs E t):=by
 intro Mq s σ H Q I h;refine L9 (jZ I hg hm ?_ hdb);refine callWith_K (h₀:=X.base) I.ok.mod.kin hk (thn (ha pos Mq s σ H _ I h) λus s1 ⟨vs,H1,I1,r,q⟩=>⟨I1.kIn,?_⟩) he hpl;exact AR F hr hb hd hx I1 r q
def az {pl:Sem Bool}(he:PE X o ta) (c:Cls X.K C) (hm:Meth X.K C m f) (F:FnOk X.prog X.w X.K X.mg X.base CX k f fd ps sp) (hr:Room k X.A) (hb:aG X.K fd ps ds) (hd:bZ dvs ds) (hx:kO CX X E) (ha:PA X (e :: es) t)
 (hst:KP (e :: es) X.env=(f',eval e X.env) :: KP es X.env:=by rfl) (hpl:(L7 pos (KP es X.env)).any (·.1)=f':=by rfl)
 (ht:eval (.Call (.Attribute o m apos) (e :: es) [] pos) X.env=(do
  let ov <-eval o X.env
  standAt apos.atName
  let (f,first) <-holding [ov] (getMethod ov m pl)
  callWith pos f first (L7 pos (KP (e :: es) X.env)) (backToKw pos (keywordEach [] X.env))):=by rfl) :
 PE X (.Call (.Attribute o m apos) (e :: es) [] pos) (FO C m sp dvs E ta t):=by
 intro Mq s σ H Q I h;refine methodCall_KW (pl:=pl) (thn (he Mq s σ H _ I h) λu s1 ur28=>?_) ht;obtain⟨x,H1,I1,rx,a,dx,fs,ex,ea,l,q⟩:=ur28;subst ex;obtain rfl:u=KI a:=rx;refine mL I1 ea c hm l ?_;refine callWith_K (first:=[.ref a]) (h₀:=X.base) I.ok.mod.kin hm.kp (thn (ha pos Mq s1 σ H1 _ I1 q) λus s2 ⟨vs,H2,I2,r,q2⟩=>⟨I2.kIn,?_⟩) hst hpl;exact AR (us:=.ref a :: us) (vs:=.ref a :: vs) F hr hb hd hx I2 (.cons rfl r) q2
def aN {pl:Sem Bool}(he:PE X o ta) (c:Cls X.K C) (hm:Meth X.K C m f) (F:FnOk X.prog X.w X.K X.mg X.base CX k f fd ps sp) (hr:Room k X.A) (hb:aG X.K fd ps ds) (hd:bZ dvs ds) (hx:kO CX X E)
 (ht:eval (.Call (.Attribute o m apos) [] [] pos) X.env=(do
  let ov <-eval o X.env
  standAt apos.atName
  let (f,first) <-holding [ov] (getMethod ov m pl)
  callWith pos f first (L7 pos (KP [] X.env)) (backToKw pos (keywordEach [] X.env))):=by rfl) :
 PE X (.Call (.Attribute o m apos) [] [] pos) (FO C m sp dvs E ta GX):=by
 intro Mq s σ H Q I h;refine methodCall_KW (pl:=pl) (thn (he Mq s σ H _ I h) λu s1 ur29=>?_) ht;obtain⟨x,H1,I1,rx,a,dx,fs,ex,ea,l,q⟩:=ur29;subst ex;obtain rfl:u=KI a:=rx;refine mL I1 ea c hm l ?_;exact callWith_K0 (first:=[.ref a]) I1.kIn hm.kp (AR (us:=[.ref a]) (vs:=[.ref a]) F hr hb hd hx I1 (.cons rfl .nil) q)
structure Mk (K:Kc) (C f:D'):Prop where
 makes:makesIn K C=j'
 init:findIn K (.ref C) "__init__"=dk (dk (.ref f))
 fn:isFn K (.ref f)=j'
 kp:keepIn K (.ref C)=j'
def wx {Mq:List (D' × LF)}{σ:St}{H:Hp}{s:Kb}{Q:VK}{us:List JW}{vs:List V}(M:Mk X.K C f) (F:FnOk X.prog X.w X.K X.mg X.base CX k f fd ps sp) (hr:Room (k+1) X.A) (hb:aG X.K fd ps ds) (hd:bZ dvs ds)
 (hx:kO CX X E) (I:Inv X Mq σ H s) (r:bZ vs us)
 (h:∀ x dx,H x=JZ->H dx=JZ->dx≠x->sp (.ref x :: (vs++dvs)) (upd (upd H dx (.own x)) x (.ins C dx [])) (λv H2=>v=.non/\Q (.ref x) H2) E) :
 Kq (model X.prog X.w) X.A (call (.ref C) us) (EP X Mq σ Q) X.xe s:=by
 have hq:=h (s.heap.objs.size+1) s.heap.objs.size (I.hok.fresh (Nat.le_succ _)) (I.hok.fresh (Kf _)) (Ld (Nat.lt_succ_self _));have I2:=Inv.made (C:=C) I;have r2:bZ (V.ref (s.heap.objs.size+1) :: (vs++dvs)) (KI (s.heap.objs.size+1) :: (us++ds)):=.cons rfl (r.append hd);have hl:(KI (s.heap.objs.size+1) :: us++ds).length=ps.length:=by
  have e:=r2.length;rw[F.len _ _ _ _ hq]at e;exact e.symm
 refine wpAny_call (BC (f:=f) I.kIn M.makes M.init (beq_iff_eq.mp M.fn) (codeAny_mono (F.run _ X.stack _ _ ⟨KI (s.heap.objs.size+1) :: us,[]⟩ (KI (s.heap.objs.size+1) :: (us++ds)) _ _ E (hr.make C us [])
  (I2.env0.make C us []) (hb _ (KI (s.heap.objs.size+1) :: us) I2.kIn hl) r2 hq) λr s' hq'=>?_))
 cases r with
|error e=>exact hx Mq σ _ _ e s' I2 hq'
|ok fl =>
  cases fl with
 |ret u =>
   obtain⟨v,H',I3,rv,ev,q3⟩:=I2.after hq';subst ev;exact⟨rv,⟨V.ref (s.heap.objs.size+1),H',I3,rfl,q3⟩⟩
 |next=>exact Lj hq'
 |brk=>exact Lj hq'
 |cont=>exact Lj hq'
def kY (M:Mk X.K C f) (F:FnOk X.prog X.w X.K X.mg X.base CX k f fd ps sp) (hr:Room (k+1) X.A) (hg:Gl X x) (hm:X.mg x=dk (.ref C)) (hb:aG X.K fd ps ds) (hd:bZ dvs ds) (hx:kO CX X E)
 (ha:PA X (e :: es) t) (hdb:(x == ("__debug__":Str))=f':=by decide) (he:KP (e :: es) X.env=(f',eval e X.env) :: KP es X.env:=by rfl) (hpl:(L7 pos (KP es X.env)).any (·.1)=f':=by rfl) :
 PE X (.Call (.Name x p) (e :: es) [] pos) (Fo C sp dvs E t):=by
 intro Mq s σ H Q I h;refine L9 (jZ I hg hm ?_ hdb);refine callWith_K (h₀:=X.base) I.ok.mod.kin M.kp (thn (ha pos Mq s σ H _ I h) λus s1 ⟨vs,H1,I1,r,q⟩=>⟨I1.kIn,?_⟩) he hpl;exact wx M F hr hb hd hx I1 r q
def wR (M:Mk X.K C f) (F:FnOk X.prog X.w X.K X.mg X.base CX k f fd ps sp) (hr:Room (k+1) X.A) (hg:Gl X x) (hm:X.mg x=dk (.ref C)) (hb:aG X.K fd ps ds) (hd:bZ dvs ds) (hx:kO CX X E)
 (hdb:(x == ("__debug__":Str))=f':=by decide):PE X (.Call (.Name x p) [] [] pos) (Fo C sp dvs E GX):=by
 intro Mq s σ H Q I h;refine L9 (jZ I hg hm ?_ hdb);exact callWith_K0 I.kIn M.kp (wx (us:=[]) M F hr hb hd hx I .nil h)
end
section
variable {X:Cx}{CX:CXT}{k:Nat}{f C:D'}{fd:Kj}{ps ks:List Str}{sp:Sp}{E:XK}{x m:Str}{p pos apos kpos:Pos}{e o:Expr}{es:List Expr}{kws:List Keyword}{te ta:TE}{t tk:TA}{nm:Option Str}
variable {g:List JW->List JW->List JW}{gV:List V->List V->List V}
end
structure FnScope (N P:List Str) (sc:Scope):Prop where
 kind:sc.kind=.function
 co:sc.isCoroutine=f'
 gen:sc.isGenerator=f'
 nd:N.Nodup
 pre:N.take P.length=P
 par:∀ x∈P,sc.names.lookup x=dk .local\/sc.names.lookup x=dk .cell
 nofree:∀ y∈sc.names,y.2≠.free
theorem ub {kindOf:Str->Option NameKind}{x:Str}:∀ {binds:List (Str × JW)}{m:Str->Option JW},(∀ v,(x,v) ∉ binds)->bindL kindOf binds m x=m x
|[],_,_=>rfl
|(n,v) :: r,m,h=>by
  unfold bindL;rw[ub λw hw=>h w (Kl _ hw)];split
  . have:x≠n:=by rintro rfl;exact h v Km
    simp[this]
  . rfl
theorem vf {kindOf:Str->Option NameKind}{x:Str}:∀ {binds:List (Str × JW)}{m:Str->Option JW},(∀ v,(x,v) ∉ binds)->bindC kindOf binds m x=m x
|[],_,_=>rfl
|(n,v) :: r,m,h=>by
  unfold bindC;rw[vf λw hw=>h w (Kl _ hw)];split
  . rfl
  . have:x≠n:=by rintro rfl;exact h v Km
    simp[this]
theorem uz {kindOf:Str->Option NameKind}{x:Str}{v:JW}:∀ {P:List Str}{vs:List JW}{i:Nat}{m:Str->Option JW},P.Nodup->P[i]?=dk x->vs[i]?=dk v->kindOf x=dk .local ->
 bindL kindOf (P.zip vs) m x=dk v
|[],_,_,_,_,h,_,_=>by simp at h
|_ :: _,[],_,_,_,_,h,_=>by simp at h
|p :: P,w :: vs,0,m,nd,h1,h2,hk=>by
  simp at h1 h2;subst h1;subst h2;show bindL kindOf ((p,w) :: P.zip vs) m p=_;unfold bindL;rw[ub λv hv=>(LK.mp nd).1 (of_mem_zip hv).1,Qq hk];simp
|p :: P,w :: vs,i+1,m,nd,h1,h2,hk=>by
  show bindL kindOf ((p,w) :: P.zip vs) m x=_;unfold bindL;exact uz (i:=i) (LK.mp nd).2 (by simpa using h1) (by simpa using h2) hk
theorem uV {kindOf:Str->Option NameKind}{x:Str}{v:JW}:∀ {P:List Str}{vs:List JW}{i:Nat}{m:Str->Option JW},P.Nodup->P[i]?=dk x->vs[i]?=dk v->kindOf x≠dk .local ->
 bindC kindOf (P.zip vs) m x=dk v
|[],_,_,_,_,h,_,_=>by simp at h
|_ :: _,[],_,_,_,_,h,_=>by simp at h
|p :: P,w :: vs,0,m,nd,h1,h2,hk=>by
  simp at h1 h2;subst h1;subst h2;show bindC kindOf ((p,w) :: P.zip vs) m p=_;unfold bindC;rw[vf λv hv=>(LK.mp nd).1 (of_mem_zip hv).1,Qr hk];simp
|p :: P,w :: vs,i+1,m,nd,h1,h2,hk=>by
  show bindC kindOf ((p,w) :: P.zip vs) m x=_;unfold bindC;exact uV (i:=i) (LK.mp nd).2 (by simpa using h1) (by simpa using h2) hk
def sk (N:List Str) (vs:List V):St:=vs.map dk++replicate (N.length - vs.length) JZ
def CZ (CX:CXT) (P:Kz) (w:Kk) (K:Kc) (mg:Str->Option JW) (base:KN) (N:List Str) (qual:Str) (scope:Scope) (f:D') (cd:JW) (A:KY) (outer:List Env) (s:Kb) (H:Hp) (E:XK):Cx where
 prog:=P
 w:=w
 K:=K
 mg:=mg
 base:=base
 A:=A.deeper (envOfC qual scope s.heap.objs.size f cd)
 N:=N
 s₀:=s
 H₀:=H
 env:=envOfC qual scope s.heap.objs.size f cd
 outer:=outer
 stack:=envOfC qual scope s.heap.objs.size f cd :: outer
 ex:=[]
 calm:=j'
 fn:=λ_=>j'
 pn:=[]
 xe:=λe s'=>Kq (model P w) (A.deeper (envOfC qual scope s.heap.objs.size f cd)) (leaving (envOfC qual scope s.heap.objs.size f cd) e) (λ_ s''=>CX outer H s E e s'') (λe' s''=>CX outer H s E e' s'') s'
def xq {sc:Scope}{n:Nat}{x:Str}(h:sc.names.lookup x=dk .cell):∃ c,(cellsFrom n sc.names []).lookup x=dk c:=by
 have q:=cellsFrom_some sc.names n [] (.inl h);exact Option.isSome_iff_exists.mp q
def AY {CX:CXT}{P:Kz}{w:Kk}{K:Kc}{mg:Str->Option JW}{base:KN}{N ps:List Str}{qual:Str}{scope:Scope}{f:D'}{cd:JW}{A:KY}{outer:List Env}{s s1:Kb}{H:Hp}{E:XK}{us:List JW}{vs:List V}
 (S:FnScope N ps scope) (hd:A.handled=JZ) (e0:Env0 P w K mg base A outer s H) (hl:vs.length=ps.length) (r:bZ vs us)
 (x:InCallC s s.heap.objs.size (bindL (envOfC qual scope s.heap.objs.size f cd).kindOf (ps.zip us) λ_=>JZ) (cellsFrom (s.heap.objs.size+1) scope.names []) (bindC (envOfC qual scope s.heap.objs.size f cd).kindOf (ps.zip us) λ_=>JZ) s1) :
 Inv (CZ CX P w K mg base N qual scope f cd A outer s H E) [] (sk N vs) H s1:=by
 have hpl:ps.length <= N.length:=by have:=congrArg LN S.pre;rw[Lu]at this;omega
 obtain⟨h1,tk,rfl,hk⟩:=x.done;have noA:∀ b:D',b ∉ (CZ CX P w K mg base N qual scope f cd A outer s H E).ex:=λb z=>absurd (show b∈([]:List D') from z) (by simp)
 refine⟨⟨e0.mod,S.kind,rfl,rfl,Kf _,λy z c h1 h2=>?_,λy hy=>?_,λy c _ h=>?_,λ_=>hd,KY.frames_deeper e0.frames,.inr ⟨rfl,rfl⟩,λb z=>absurd z (noA b),e0.bs,e0.bsz,λb _ _=>noA b,λb z=>absurd z (noA b),e0.funs,e0.frf⟩,
  rfl,e0.bare,Un.kept hk,⟨_,x.toInCall.ns,λi y v h1 h2 h3=>?_⟩,λy c h=>⟨_,x.cell y c h⟩,e0.hok.fresh (Kf _),λy c h=>?_,λp hp=>absurd (show p∈([]:List (D' × LF)) from hp) (by simp),e0.hok.kept hk,?_⟩
 . exact name_of_addr x.apart (PySem.mem_of_lookup h1) (PySem.mem_of_lookup h2)
 . have hy:scope.names.lookup y=dk .cell\/scope.names.lookup y=dk .free:=hy;rcases hy with hy|hy
   . exact xq hy
   . exact absurd rfl (S.nofree _ (PySem.mem_of_lookup hy))
 . exact Nat.le_of_lt (x.above y c (PySem.mem_of_lookup h))
 . have hi:i < vs.length:=by
    unfold sk at h2;by_cases hi:i < vs.length
    . exact hi
    . rw[List.getElem?_append_right (by simpa using hi)]at h2;rw[List.getElem?_replicate]at h2;split at h2<;>cases h2
   have ha:vs[i]?=dk v:=by
    unfold sk at h2;rw[L3 (by simpa using hi),Lo]at h2;cases e:vs[i]? with
   |none=>rw[e]at h2;cases h2
   |some a=>rw[e]at h2;cases h2;rfl
   obtain⟨u,hu,rv⟩:=r.get ha;have hp:ps[i]?=dk y:=by
    rw[<-S.pre,List.getElem?_take_of_lt (by omega)];exact h1
   have ndP:ps.Nodup:=by rw[<-S.pre];exact S.nd.sublist (List.take_sublist _ _)
   refine⟨u,rv,?_⟩;rcases S.par y (KZ hp) with k|k
   . exact .inl ⟨k,uz ndP hp hu k⟩
   . obtain⟨c,e⟩:=xq (n:=s.heap.objs.size+1) k;refine .inr ⟨.inl k,c,e,?_⟩;have q:=x.cell y c e;rw[uV ndP hp hu (by show scope.names.lookup y≠_;rw[k];decide)]at q;exact q
 . exact e0.hok.fresh (Nat.le_of_lt (x.above y c (PySem.mem_of_lookup h)))
 . unfold sk;show _=N.length;rw[JX,Kv,LS];omega
def G3 {CX:CXT}{P:Kz}{w:Kk}{K:Kc}{mg:Str->Option JW}{base:KN}{k:Nat}{f:D'}{name qual:Str}{params:Arguments}{body:List K0}{scope:Scope}{dV kV doc pm cdv ct oc:JW}{an od:Option D'}
 {osl:Array (Option JW)} {N ps:List Str} {sp:Sp} (lk:K.lookup f=dk ⟨oc,od,.func (fnOf name qual params body scope dV kV doc pm an cdv ct),osl⟩) (hcd:codeIn K cdv qual=j') (S:FnScope N ps scope)
 (len:∀ vs H Q E,sp vs H Q E->vs.length=ps.length)
 (hbody:∀ (A:KY) (outer:List Env) (s:Kb) (H:Hp) (vs:List V) (Q:VK) (E:XK),Room k (A.deeper (envOfC qual scope s.heap.objs.size f cdv))->sp vs H Q E ->
  ∃ t,PSs (CZ CX P w K mg base N qual scope f cdv A outer s H E) body t/\t { nx:=λ_ H'=>Q .non H',rt:=Q } (sk N vs) H) :
 FnOk P w K mg base CX (k+1) f (fnOf name qual params body scope dV kV doc pm an cdv ct) ps sp:=by
 refine⟨len,λA outer s H args us vs Q E hr e0 hb r hsp=>?_⟩;have hl:=len _ _ _ _ hsp;have KX:K.In s.heap:=e0.mod.kin.keeps λb o e=>(e0.bs b o e).1
 have lim:s.heap.NoLimit:=e0.mod.nolimit.keeps λb o e=>(e0.bs b o e).1
 have hkind:∀ y∈ps.zip us,scope.names.lookup y.1=dk .local\/(scope.names.lookup y.1=dk .cell/\((cellsFrom (s.heap.objs.size+1) scope.names []).lookup y.1).isSome=j'):=λ⟨n,v⟩ hy=>by
  rcases S.par n (of_mem_zip hy).1 with q|q
  . exact .inl q
  . exact .inr ⟨q,cellsFrom_some _ _ _ (.inl q)⟩
 refine codeAny_call_function hr.depth (KX _ _ lk) rfl S.co S.gen rfl (codeRec_of KX hcd) (hb _ _ _ _ ?_);refine wpAny_newFunctionEnv_cells S.kind hkind λenv he s1 x=>?_
 subst he;refine⟨lim.keeps x.toInCall.keep,codeAny_func ?_⟩;obtain⟨t,ht,hq⟩:=hbody A outer s H vs Q E (hr.deeper _) hsp;have I:Inv (CZ CX P w K mg base N qual scope f cdv A outer s H E) [] (sk N vs) H s1:=AY S hr.hd e0 hl r x;refine Md (ht [] s1 (sk N vs) H _ I hq) (λfl s' hs=>?_) λe s' hs=>hs
 have fin:∀ {σ':St} {H':Hp} {v:V} {u:JW},Inv (CZ CX P w K mg base N qual scope f cdv A outer s H E) [] σ' H' s'->cm v u->Q v H'->CE outer P w H s Q u s' :=
  λ{σ' H' v u} J rv q=>⟨v,H',J.os,J.bare,J.base,J.hok,rv,q⟩
 cases fl with
|ret u =>
  obtain⟨v,σ',H',J,rv,q⟩:=hs;exact fin J rv q
|next =>
  obtain⟨σ',H',J,q⟩:=hs;exact fin (v:=V.non) (u:=Lr) J rfl q
|brk =>
  obtain⟨_,_,_,q⟩:=hs;exact Lj q
|cont =>
  obtain⟨_,_,_,q⟩:=hs;exact Lj q
section
variable {X:Cx}{x:Str}{p pos:Pos}{e:Expr}{es:List Expr}{t:TA}{id T:String}{r:List V->Hp->VK->Prop}
def tCB (r:List V->Hp->VK->Prop) (t:TA):TE:=λσ H Q=>t σ H λvs H1=>r vs H1 Q
def bA (hc:uP X (.builtin id) r) (hg:Gl X x) (hm:X.mg x=JZ) (hv:K7 x=dk (.builtin id)) (ha:PA X (e :: es) t) (hn:x≠"__name__":=by decide) (hdb:(x == ("__debug__":Str))=f':=by decide)
 (he:KP (e :: es) X.env=(f',eval e X.env) :: KP es X.env:=by rfl) (hpl:(L7 pos (KP es X.env)).any (·.1)=f':=by rfl):PE X (.Call (.Name x p) (e :: es) [] pos) (tCB r t):=by
 intro Mq s σ H Q I h;refine L9 (pc I hg hm hv ?_ hn hdb);exact PyProof.Rows.callWith_builtin1 (thn (ha pos Mq s σ H _ I h) λus s1 uq7=>by(obtain⟨vs,H1,I1,r1,q1⟩:=uq7;exact hc Mq s1 σ H1 vs us Q I1 r1 q1)) he hpl
def pW (hc:uP X (.type T) r) (hg:Gl X x) (hm:X.mg x=JZ) (hv:K7 x=dk (.type T)) (ha:PA X (e :: es) t) (hn:x≠"__name__":=by decide) (hdb:(x == ("__debug__":Str))=f':=by decide)
 (he:KP (e :: es) X.env=(f',eval e X.env) :: KP es X.env:=by rfl) (hpl:(L7 pos (KP es X.env)).any (·.1)=f':=by rfl):PE X (.Call (.Name x p) (e :: es) [] pos) (tCB r t):=by
 intro Mq s σ H Q I h;refine L9 (pc I hg hm hv ?_ hn hdb);exact LD (thn (ha pos Mq s σ H _ I h) λus s1 uq8=>by(obtain⟨vs,H1,I1,r1,q1⟩:=uq8;exact hc Mq s1 σ H1 vs us Q I1 r1 q1)) he hpl
end
end L2
namespace HT
open PySem PyProof.Rows
section
open PySem.SeqAt
open PySem.AutoSeq1 (wpAny_loadPart')
open PySem.MeetsSeq PySem.MeetsSeq2 PySem.MeetsSeq3
end
section
variable {prog:Kz}{w:Kk}{A:KY}{E:JW->Kb->Prop}{s:Kb}
def sIx (n d:Nat):Option Int->Nat
|none=>d
|some v=>if v < 0 then (v+(n:Int)).toNat else min v.toNat n
def sIx_nat (n d k:Nat):sIx n d (dk (k:Int))=min k n:=by
 show (if (k:Int) < 0 then ((k:Int)+(n:Int)).toNat else min (k:Int).toNat n)=min k n;rw[Qr (by omega),Int.toNat_natCast]
def Gn (n d:Nat) (hd:d <= n) (o:Option Int):sIx n d o <= n:=by
 cases o with
|none=>exact hd
|some v =>
  show (if v < 0 then (v+(n:Int)).toNat else min v.toNat n) <= n;by_cases hv:v < 0
  . rw[Qq hv];omega
  . rw[Qr hv];exact Nat.min_le_right _ _
def As (v:Int) (n d:Nat):(if v < 0 then max (v+(n:Int)) 0 else min v (n:Int))=((sIx n d (dk v):Nat):Int):=by
 show (if v < 0 then max (v+(n:Int)) 0 else min v (n:Int))=(((if v < 0 then (v+(n:Int)).toNat else min v.toNat n):Nat):Int)
 by_cases hv:v < 0
 . simp only[Qq hv];omega
 . simp only[Qr hv];omega
def yz (lo hi:Option Int) (n:Nat):Builtin.Slice.sliceAdjust lo hi 1 (n:Int)=(((sIx n 0 lo:Nat):Int),((sIx n n hi:Nat):Int)):=by
 have h1:¬ ((1:Int) < 0):=by omega
 unfold Builtin.Slice.sliceAdjust;simp only[h1,if_false];refine Prod.ext ?_ ?_
 . cases lo with
  |none=>rfl
  |some v=>exact As v n 0
 . cases hi with
  |none=>rfl
  |some v=>exact As v n n
def ya (i j:Nat):Builtin.Slice.slicePlaces (i:Int) (j:Int) 1=j - i:=by
 unfold Builtin.Slice.slicePlaces;have h1:(1:Int) > 0:=by omega
 simp only[h1,if_true,Int.ediv_one];split<;>omega
def rj {v:JW}{o:Option Int}{Q:Option Int->Kb->Prop}(p:IsPart v o) (h:Q o s):Kq (model prog w) A (Builtin.Slice.slicePartIndex v) Q E s:=by
 cases p with
|none=>exact slicePart_none h
|int i t=>exact slicePart_int h
def o6 {sl:D'}{vl vu:JW}{lo hi:Option Int}{n:Nat}{Q:Int × Int × Nat->Kb->Prop}(hs:s.heap.IsSliceOf sl vl vu .none) (pl:IsPart vl lo) (pu:IsPart vu hi)
 (h:Q (((sIx n 0 lo:Nat):Int),1,sIx n n hi - sIx n 0 lo) s):Kq (model prog w) A (Builtin.Slice.sliceApplied (.ref sl) (pure (n:Int))) Q E s:=by
 obtain⟨os,hos,hcs,hds⟩:=id hs;unfold Builtin.Slice.sliceApplied Builtin.Slice.sliceFields;refine G' (G' (Lx hos hds (x:=vl) rfl (G' (Lx hos hds (x:=vu) rfl (G' (Lx hos hds (x:=.none) rfl (Ke ?_)))))));refine G' (slicePart_none ?_);show Kq _ _ (if ((1:Int) == 0)=j' then _ else _) _ _ s;rw[Qr (by decide)];refine G' (rj pl (G' (rj pu (G' (Ke ?_)))));show Kq _ _ (match Builtin.Slice.sliceAdjust lo hi 1 (n:Int) with|(lo,hi)=>pure (lo,(1:Int),Builtin.Slice.slicePlaces lo hi 1)) _ _ s;rw[yz lo hi n];show Kq _ _ (pure (((sIx n 0 lo:Nat):Int),(1:Int),Builtin.Slice.slicePlaces ((sIx n 0 lo:Nat):Int) ((sIx n n hi:Nat):Int) 1)) _ _ s;rw[ya];exact Ke h
def BI (xs:Array JW) (i k:Nat):((Mm k).filterMap λ(m:Nat)=>xs[((i:Int)+(m:Int) * 1).toNat]?).toArray=((xs.toList.drop i).take k).toArray:=by
 have e:(λ(m:Nat)=>xs[((i:Int)+(m:Int) * 1).toNat]?)=λm=>xs[i+m]?:=by
  funext m;have:((i:Int)+(m:Int) * 1).toNat=i+m:=by omega
  rw[this]
 rw[e];have:=pick_run xs i k;rw[List.filterMap_map]at this;have e2:((λx=>xs[x]?) ∘ λx=>i+x)=λm=>xs[i+m]?:=rfl
 rw[e2]at this;rw[this]
def getItem_tuple_cut {t sl:D'}{items:Array JW}{vl vu:JW}{lo hi:Option Int}{Q:JW->Kb->Prop}(ht:IsTup s.heap t items) (hs:s.heap.IsSliceOf sl vl vu .none) (pl:IsPart vl lo) (pu:IsPart vu hi)
 (hw:¬ (sIx items.size 0 lo=0/\sIx items.size items.size hi=items.size))
 (h:Q (.ref s.heap.objs.size) { s with heap:=s.heap.push { cls:=.type "tuple",data:=.seq ((items.toList.drop (sIx items.size 0 lo)).take (sIx items.size items.size hi - sIx items.size 0 lo)).toArray } })
 (hsz:items.size <= Ki):Kq (model prog w) A (getItem (.ref t) (.ref sl)) Q E s:=by
 have htake:sizeOk (.seq ((items.toList.drop (sIx items.size 0 lo)).take (sIx items.size items.size hi - sIx items.size 0 lo)).toArray):=by
  show ((items.toList.drop (sIx items.size 0 lo)).take (sIx items.size items.size hi - sIx items.size 0 lo)).toArray.size <= Ki;rw[KD,Lu,length_drop,Mi];omega
 have hj:sIx items.size items.size hi <= items.size:=Gn _ _ (Kf _) hi;obtain⟨os,hos,hcs,hds⟩:=id hs;have hTs:s.TypeIs (.ref sl) "slice":=⟨os,hos,hcs⟩
 unfold getItem
 try with_reducible refine LG ?_
 first|refine G' (Ke ?_)|skip
 refine G' (wpAny_sequenceKey ht.typeIs (by decide) ?_);refine G' (LC (name:=Ml "__getitem__") ht.typeIs PyProof.Rows.slot_tuple_getitem
  (LB PyProof.Rows.slot_tuple_getitem ht.typeIs entry_tuple_getitem ?_ (args_tuple_getitem _ _)))
 show Kq _ _ (Builtin.Tuple.tupleItemsOf (.ref t) >>= _) _ _ s;refine G' (tupleItemsOf_ ht ?_);refine G' (wpAny_typeOf hTs ?_);rw[Qq (by decide)];refine G' (o6 hs pl pu ?_);have hno:¬ ((((sIx items.size 0 lo:Nat):Int) == 0 && (1:Int) == 1 && (sIx items.size items.size hi - sIx items.size 0 lo) == items.size)=j'):=by
  intro q;rw[Lk,Lk]at q;have q1:((sIx items.size 0 lo:Nat):Int)=0:=eq_of_beq q.1.1;have q2:sIx items.size items.size hi - sIx items.size 0 lo=items.size:=eq_of_beq q.2;exact hw ⟨by omega,by omega⟩
 show Kq _ _ (if (((sIx items.size 0 lo:Nat):Int) == 0 && (1:Int) == 1 && (sIx items.size items.size hi - sIx items.size 0 lo) == items.size)=j' then _ else _) _ _ s;rw[Qr hno,BI]
 first
 |exact G' (m:=Builtin.Tuple.tupleExact _) (LP (Ke ⟨_,rfl,Ke h⟩) htake)
 |exact G' (m:=Builtin.Tuple.tupleExact _) (LP (G' (Ke (Ke ⟨_,rfl,Ke h⟩))) htake)
 |exact G' (G' (m:=Builtin.Tuple.tupleExact _) (LP (Ke (Ke ⟨_,rfl,Ke h⟩)) htake))
 |exact G' (G' (m:=Builtin.Tuple.tupleExact _) (LP (Ke ⟨_,rfl,Ke h⟩) htake))
end
end HT
namespace L2
open PySem PySem.Spec PyProof.Rows
abbrev TO:=St->Hp->(Option Int->Hp->Prop)->Prop
def PO (X:Cx) (e:Option Expr) (t:TO):Prop :=
 ∀ (Mq:List (D' × LF)) (s:Kb) (σ:St) (H:Hp) (Q:Option Int->Hp->Prop),Inv X Mq σ H s->t σ H Q ->
  Kq (model X.prog X.w) X.A (evalPart e X.env) (λu s'=>∃ o H',Inv X Mq σ H' s'/\IsPart u o/\Q o H') X.xe s
def zJ:TO:=λ_ H Q=>Q JZ H
def GR (t:TE):TO:=λσ H Q=>t σ H λx H1=>∃ i,x=.int i/\Q (dk i) H1
section
variable {X:Cx}{e:Expr}{te:TE}{lo hi:Option Expr}{tl th:TO}{pos p2:Pos}
def lw:PO X JZ zJ:=by
 intro Mq s σ H Q I h;rw[evalPart_none];exact Ke ⟨JZ,H,I,.none,h⟩
def iX (h:PE X e te):PO X (dk e) (GR te):=by
 intro Mq s σ H Q I hw;rw[evalPart_some];refine thn (h Mq s σ H _ I hw) λu s1 ur30=>?_
 obtain⟨x,H1,I1,r1,q1⟩:=ur30;obtain⟨i,rfl,q⟩:=q1;obtain⟨t,rfl⟩:=r1;exact⟨dk i,H1,I1,.int i t,q⟩
def SlR (X:Cx) (r:V->Option Int->Option Int->Hp->VK->Prop):Prop :=
 ∀ (Mq:List (D' × LF)) (s:Kb) (σ:St) (H:Hp) (x:V) (v vl vu:JW) (lo hi:Option Int) (sl:D') (Q:VK),Inv X Mq σ H s->cm x v->s.heap.IsSliceOf sl vl vu .none->IsPart vl lo->IsPart vu hi->r x lo hi H Q ->
  ∃ T id,typeLookup (.type T) "__getitem__"=pure (dk (.builtin id))/\s.TypeIs v T/\Kq (model X.prog X.w) X.A (getItem v (.ref sl)) (EP X Mq σ Q) X.xe s
def tSl (r:V->Option Int->Option Int->Hp->VK->Prop) (te:TE) (tl th:TO):TE:=λσ H Q=>te σ H λx H1=>tl σ H1 λl H2=>th σ H2 λu H3=>r x l u H3 Q
def gG {r:V->Option Int->Option Int->Hp->VK->Prop}(hr:SlR X r) (he:PE X e te) (hl:PO X lo tl) (hu:PO X hi th):PE X (.Subscript e (.Slice lo hi JZ p2) pos) (tSl r te tl th):=by
 intro Mq s σ H Q I h;refine Subscript_ (thn (he Mq s σ H _ I h) λv s1 ur31=>?_);obtain⟨x,H1,I1,r1,q1⟩:=ur31;refine wpAny_Slice (thn (hl Mq s1 σ H1 _ I1 q1) λvl s2 ⟨l,H2,I2,pl,q2⟩=>thn (hu Mq s2 σ H2 _ I2 q2) λvu s3 ⟨u,H3,I3,pu,q3⟩=>?_);rw[evalPart_none];refine Ke ?_;have I4:Inv X Mq σ H3 { s3 with heap:=s3.heap.push { cls:=.type "slice",data:=.fields #[vl,vu,.none] } }:=I3.kept (t':=s3.toks) λb ob q=>Kd _ q
 obtain⟨T,id,hT,ht,hg⟩:=hr Mq { s3 with heap:=s3.heap.push { cls:=.type "slice",data:=.fields #[vl,vu,.none] } } σ H3 x v vl vu l u s3.heap.objs.size Q I4 r1 (KN.IsSliceOf.new ..) pl pu q3;show Kq (model X.prog X.w) X.A (subscriptTail e (.Slice lo hi JZ p2) v (.ref s3.heap.objs.size)) (EP X Mq σ Q) X.xe { s3 with heap:=s3.heap.push { cls:=.type "slice",data:=.fields #[vl,vu,.none] } };exact tail_any (ops:=[.ref s3.heap.objs.size,v]) ht hT hg (by with_unfolding_all rfl)
def lP (xs:List V) (lo hi:Option Int):List V:=(xs.drop (HT.sIx xs.length 0 lo)).take (HT.sIx xs.length xs.length hi - HT.sIx xs.length 0 lo)
def pR (xs:List V) (lo hi:Option Int):(lP xs lo hi).length <= xs.length:=by
 unfold lP;rw[Lu,length_drop];omega
def IH (K:Kc):V->Option Int->Option Int->Hp->VK->Prop:=λx lo hi H Q=>∃ a xs,x=.ref a/\SqT K H a xs /\
 ¬ (HT.sIx xs.length 0 lo=0/\HT.sIx xs.length xs.length hi=xs.length)/\∀ p,H p=JZ->Q (.ref p) (upd H p (.tup (lP xs lo hi)))
def Dh:SlR X (IH X.K):=by
 intro Mq s σ H x v vl vu lo hi sl Q I rx hs pl pu h;obtain⟨a,xs,rfl,hx,hw,q⟩:=h;cases rx;obtain⟨its,r,ht,hz⟩:=I.tuple hx;have hlen:its.toArray.size=xs.length:=by rw[KD];exact r.length.symm
 refine⟨"tuple",_,PyProof.Rows.slot_tuple_getitem.lookup,ht.typeIs,?_⟩;refine HT.getItem_tuple_cut ht hs pl pu (by rw[hlen];exact hw) ?_ (by rw[hlen];exact hz);rw[hlen];refine⟨.ref s.heap.objs.size,_,I.laid (t':=s.toks) (o:=.tup (lP xs lo hi)) (λb ob q=>Kd _ q) (Kf _) ?_,rfl,q _ (I.hok.fresh (Kf _))⟩;exact⟨K6 (pR xs lo hi) hz,_,(r.drop (HT.sIx xs.length 0 lo)).take (HT.sIx xs.length xs.length hi - HT.sIx xs.length 0 lo),IsTup.new _ _⟩
end
def ixN (n:Nat) (i:Int):Option Nat:=if 0 <= i then (if i < n then dk i.toNat else JZ) else if -(n:Int) <= i then dk (i+n).toNat else JZ
def atI {α:Type}(xs:List α) (i:Int):Option α:=(ixN xs.length i).bind λj=>xs[j]?
def yR {n:Nat}{i:Int}{j:Nat}(h:ixN n i=dk j):seqIndex? i n=dk j/\j < n/\-(n:Int) <= i/\i < n:=by
 unfold ixN at h;by_cases h0:0 <= i
 . rw[Qq h0]at h;by_cases h1:i < n
   . rw[Qq h1]at h;have e:i.toNat=j:=KH h;exact⟨by rw[seqIndex_of h0 h1,e],by omega,by omega,h1⟩
   . rw[Qr h1]at h;cases h
 . rw[Qr h0]at h;by_cases h1:-(n:Int) <= i
   . rw[Qq h1]at h;have e:(i+n).toNat=j:=KH h;exact⟨by rw[seqIndex_neg (by omega) h1,e],by omega,h1,by omega⟩
   . rw[Qr h1]at h;cases h
def AI {α:Type}{xs:List α}{i:Int}{v:α}(h:atI xs i=dk v):∃ j,seqIndex? i xs.length=dk j/\xs[j]?=dk v/\j < xs.length/\-(xs.length:Int) <= i/\i < xs.length:=by
 unfold atI at h;cases e:ixN xs.length i with
|none=>rw[e]at h;cases h
|some j =>
  rw[e]at h;obtain⟨h1,h2,h3,h4⟩:=yR e;exact⟨j,h1,h,h2,h3,h4⟩
def Ei (b:Expr):Prop:=∀ o i,subscripted b f' o i=operate [o,i] (getItem o i)
def IxR (X:Cx) (r:R2):Prop :=
 ∀ (value slice:Expr) (Mq:List (D' × LF)) (s:Kb) (σ:St) (H:Hp) (x y:V) (v u:JW) (Q:VK),Inv X Mq σ H s->cm x v->cm y u->r x y H Q ->
  subscripted slice f' v u=operate [v,u] (getItem v u)->Kq (model X.prog X.w) X.A (subscriptTail value slice v u) (EP X Mq σ Q) X.xe s
def MtR (X:Cx) (id:String) (r:V->List V->Hp->VK->Prop):Prop :=
 ∀ (Mq:List (D' × LF)) (s:Kb) (σ:St) (H:Hp) (x:V) (xs:List V) (v:JW) (us:List JW) (Q:VK),Inv X Mq σ H s->cm x v->bZ xs us->r x xs H Q ->
  Kq (model X.prog X.w) X.A (call (.builtin id) (v :: us)) (EP X Mq σ Q) X.xe s
section
variable {X:Cx}{a b:Expr}{ta tb:TE}{pos:Pos}
def aI {r:R2}(hr:IxR X r) (ha:PE X a ta) (hb:PE X b tb) (hs:Ei b):PE X (.Subscript a b pos) (tOp r ta tb):=by
 intro Mq s σ H Q I h;exact Subscript_ (HF ha hb I h λv u s2 x y H2 I2 rx ry q=>hr a b Mq s2 σ H2 x y v u Q I2 rx ry q (hs _ _))
def Jy (K:Kc):R2:=λx y H Q=>∃ p xs i v,x=.ref p/\y=.int i/\SqL K H p xs/\atI xs i=dk v/\Q v H
def Dg (K:Kc):R2:=λx y H Q=>∃ p xs i v,x=.ref p/\y=.int i/\SqT K H p xs/\atI xs i=dk v/\Q v H
def ba:IxR X (Jy X.K):=by
 intro value slice Mq s σ H x y v u Q I rx ry h hs;obtain⟨p,xs,i,z,rfl,rfl,hq,he,q⟩:=h;cases rx;obtain⟨t,rfl⟩:=ry;obtain⟨its,r,pl,hz⟩:=I.list hq;obtain⟨j,h1,h2,h3,h4,h5⟩:=AI he;obtain⟨w,ew,rw'⟩:=r.get h2;have hl:=r.length;have hn:=ug;have fin:EP X Mq σ Q w s:=⟨z,H,I,rw',q⟩
 by_cases h0:0 <= i
 . have hj:i.toNat=j:=by
    rw[seqIndex_of h0 h5]at h1;exact KH h1
   exact item_listR pl.isList h0 (by omega) (by rw[hj];simpa using ew) fin hs
 . have hj:(i+(its.toArray.size:Int)).toNat=j:=by
    rw[seqIndex_neg (by omega) h4]at h1;rw[KD,<-hl];exact KH h1
   exact subscriptTail_builtinR (x:=w) pl.isList.typeIs slot_list_getitem.lookup
    (wpAny_getItem_list_neg (Q:=λr s'=>r=w/\EP X Mq σ Q r s') pl.isList (by omega) (by rw[KD]<;>omega) (by omega) (by rw[hj];simpa using ew) ⟨rfl,fin⟩) hs
def aH:IxR X (Dg X.K):=by
 intro value slice Mq s σ H x y v u Q I rx ry h hs;obtain⟨p,xs,i,z,rfl,rfl,hq,he,q⟩:=h;cases rx;obtain⟨t,rfl⟩:=ry;obtain⟨its,r,pl,hz⟩:=I.tuple hq;obtain⟨j,h1,h2,h3,h4,h5⟩:=AI he;obtain⟨w,ew,rw'⟩:=r.get h2;have hl:=r.length;have hn:=ug;have fin:EP X Mq σ Q w s:=⟨z,H,I,rw',q⟩
 exact subscriptTail_builtinR (x:=w) pl.typeIs slot_tuple_getitem.lookup
  (getItem_tuple (j:=j) (Q:=λr s'=>r=w/\EP X Mq σ Q r s') pl (by omega) (by omega) (by rw[KD,<-hl];exact h1) (by simpa using ew) ⟨rfl,fin⟩) hs
def yr (its:List JW) (n j:Nat) (u:JW):Mp (·.setIfInBounds j u) { cls:=.type "list",data:=.seq its.toArray n }={ cls:=.type "list",data:=.seq (its.set j u).toArray n }:=by
 simp[Mp]
theorem Inv.lst {Mq:List (D' × LF)}{σ:St}{H:Hp}{s:Kb}{p:D'}{xs:List V}(I:Inv X Mq σ H s) (h:H p=dk (.lst xs)) :
 ∃ (its:List JW) (n:Nat),bZ xs its/\s.heap.get? p=dk { cls:=.type "list",data:=.seq its.toArray n }/\xs.length <= Ki:=by
 obtain⟨z,its,n,r,e⟩:=I.hok p _ h;exact⟨its,n,r,e,z⟩
def Inv.lstUpd {Mq:List (D' × LF)}{σ:St}{H:Hp}{s:Kb}{p:D'}{xs ys:List V}{its its':List JW}{n n':Nat}{f:LF->LF}(I:Inv X Mq σ H s) (h:H p=dk (.lst xs))
 (ho:s.heap.get? p=dk { cls:=.type "list",data:=.seq its.toArray n }) (hf:f { cls:=.type "list",data:=.seq its.toArray n }={ cls:=.type "list",data:=.seq its'.toArray n' }) (r:bZ ys its') (hz:ys.length <= Ki) (t:Nat) :
 Inv X Mq σ (upd H p (.lst ys)) { s with heap:=s.heap.update p f,toks:=t }:=by
 have e:(s.heap.update p f).get? p=dk { cls:=.type "list",data:=.seq its'.toArray n' }:=by
  rw[Ma f ho (by rw[hf]<;>rfl),hf]
 refine I.write (x:=p) (e:=p) (by rw[h];trivial) (.inl rfl) (λb u hb q=>(KN.get?_update_other _ _ (Mb hb)).trans q) ⟨_,e⟩ ?_;exact⟨hz,its',n',r,e⟩
def Ix:V->V->V->Hp->(Hp->Prop)->Prop:=λo i v H Q=>∃ p xs k j,o=.ref p/\i=.int k/\H p=dk (.lst xs)/\ixN xs.length k=dk j/\Q (upd H p (.lst (xs.set j v)))
def d8:Iz X Ix:=by
 intro Mq s σ H o i v ov iv u Q I ro ri rv h;obtain⟨p,xs,k,j,rfl,rfl,hp,hj,q⟩:=h;cases ro;obtain⟨t,rfl⟩:=ri;obtain⟨its,n,r,ho,hz⟩:=I.lst hp;obtain⟨h1,h2,h3,h4⟩:=yR hj;have hl:=r.length;have hn:=ug;have I':Inv X Mq σ (upd H p (.lst (xs.set j v))) { s with heap:=s.heap.update p (Mp (·.setIfInBounds j u)) } :=
  I.lstUpd hp ho (yr its n j u) (r.set rv j) (by rw[List.length_set];exact hz) s.toks
 by_cases h0:0 <= k
 . have hk:k.toNat=j:=by
    rw[seqIndex_of h0 h4]at h1;exact KH h1
   exact ki_setAt ho h0 (by omega) (by rw[KD,<-hl];exact h4) (by rw[hk];exact⟨_,I',q⟩)
 . have hk:(k+(its.toArray.size:Int)).toNat=j:=by
    rw[seqIndex_neg (by omega) h3]at h1;rw[KD,<-hl];exact KH h1
   exact ki_setBack ho (by omega) (by rw[KD,<-hl];exact h3) (by omega) (by rw[hk];exact⟨_,I',q⟩)
def uU (lo hi:Option Int) (n:Nat):(sliceBounds lo hi JZ n).1=((HT.sIx n 0 lo:Nat):Int)/\(sliceBounds lo hi JZ n).2.1=((HT.sIx n n hi:Nat):Int)/\(sliceBounds lo hi JZ n).2.2=1:=by
 refine⟨?_,?_,rfl⟩
 . cases lo with
  |none=>simp[sliceBounds,HT.sIx]
  |some i =>
    simp only[sliceBounds,HT.sIx,getD_none,show (1:Int) > 0 by decide,if_true];by_cases h:i < 0
    . simp only[h,if_true]<;>omega
    . simp only[h,if_false]<;>omega
 . cases hi with
  |none=>simp[sliceBounds,HT.sIx]
  |some i =>
    simp only[sliceBounds,HT.sIx,getD_none,show (1:Int) > 0 by decide,if_true];by_cases h:i < 0
    . simp only[h,if_true]<;>omega
    . simp only[h,if_false]<;>omega
def rT (its:List JW) (lo hi:Option Int):slicePick its.toArray lo hi JZ=((its.drop (HT.sIx its.length 0 lo)).take (HT.sIx its.length its.length hi - HT.sIx its.length 0 lo)).toArray:=by
 obtain⟨h1,h2,h3⟩:=uU lo hi its.toArray.size;unfold slicePick;rw[h1,h2,h3];simp only[sliceRange_one,pick_run,KD]<;>rfl
def IZ (K:Kc):V->Option Int->Option Int->Hp->VK->Prop:=λx lo hi H Q=>∃ a xs,x=.ref a/\SqL K H a xs/\∀ p,H p=JZ->Q (.ref p) (upd H p (.lst (lP xs lo hi)))
def nE:SlR X (IZ X.K):=by
 intro Mq s σ H x v vl vu lo hi sl Q I rx hs pl pu h;obtain⟨a,xs,rfl,hx,q⟩:=h;cases rx;obtain⟨its,r,ht,hz⟩:=I.list hx;have hlen:=r.length;refine⟨"list",_,slot_list_getitem.lookup,ht.isList.typeIs,?_⟩;refine wpAny_getItem_list_slice ht.isList hs pl pu .none (by simp) ?_ (by rw[KD]<;>omega);rw[rT,<-hlen];refine⟨.ref s.heap.objs.size,_,I.laid (t':=s.toks) (o:=.lst (lP xs lo hi)) (λb ob q=>Kd _ q) (Kf _) ?_,rfl,q _ (I.hok.fresh (Kf _))⟩;exact⟨K6 (pR xs lo hi) hz,_,0,(r.drop (HT.sIx xs.length 0 lo)).take (HT.sIx xs.length xs.length hi - HT.sIx xs.length 0 lo),Ky _ rfl⟩
def sW:V->Bool
|.non=>j'
|.bl _=>j'
|.int _=>j'
|.str _=>j'
|_=>f'
def eqV:V->V->Bool
|.non,.non=>j'
|.bl a,.bl b=>a == b
|.bl a,.int b=>(if a then 1 else 0) == b
|.int a,.bl b=>a == (if b then 1 else 0)
|.int a,.int b=>a == b
|.str a,.str b=>a == b
|_,_=>f'
def GS {A:KY}{s:Kb}{y x:V}{u v:JW}(ry:cm y u) (rx:cm x v) (fy:sW y=j') (fx:sW x=j'):K2 A s u v (eqV y x):=by
 cases y with
|non =>
  cases ry;cases x with
 |non=>cases rx;exact K2.same _
 |bl b=>cases rx;exact K2.none_bool b
 |int b=>obtain⟨t,rfl⟩:=rx;exact K2.none_int b t
 |str b=>obtain⟨t,rfl⟩:=rx;exact K2.none_str b t
 |_=>exact absurd (show f'=j' from fx) Kr
|bl a =>
  cases ry;cases x with
 |non=>cases rx;exact K2.bool_none a
 |bl b=>cases rx;exact K2.bool_bool a b
 |int b=>obtain⟨t,rfl⟩:=rx;exact K2.bool_int a b t
 |str b=>obtain⟨t,rfl⟩:=rx;exact K2.bool_str a b t
 |_=>exact absurd (show f'=j' from fx) Kr
|int a =>
  obtain⟨t',rfl⟩:=ry;cases x with
 |non=>cases rx;exact K2.int_none a t'
 |bl b=>cases rx;exact K2.int_bool a t' b
 |int b=>obtain⟨t,rfl⟩:=rx;exact K2.int_int a t' b t
 |str b=>obtain⟨t,rfl⟩:=rx;exact K2.int_str a t' b t
 |_=>exact absurd (show f'=j' from fx) Kr
|str a =>
  obtain⟨t',rfl⟩:=ry;cases x with
 |non=>cases rx;exact K2.str_none a t'
 |bl b=>cases rx;exact K2.str_bool a t' b
 |int b=>obtain⟨t,rfl⟩:=rx;exact K2.str_int a t' b t
 |str b=>obtain⟨t,rfl⟩:=rx;exact K2.str_str a t' b t
 |_=>exact absurd (show f'=j' from fx) Kr
|_=>exact absurd (show f'=j' from fy) Kr
def eqU (x:V) (u:JW):Bool:=match u with
|.none=>eqV .non x
|.bool b=>eqV (.bl b) x
|.int i _=>eqV (.int i) x
|.str z _=>eqV (.str z) x
|_=>f'
def Dn {x y:V}{u:JW}(r:cm y u) (f:sW y=j'):eqU x u=eqV y x:=by
 cases y with
|non=>cases r;rfl
|bl b=>cases r;rfl
|int i=>obtain⟨t,rfl⟩:=r;rfl
|str z=>obtain⟨t,rfl⟩:=r;rfl
|_=>exact absurd (show f'=j' from f) Kr
theorem pD {x:V}:∀ {xs:List V}{us:List JW},bZ xs us->xs.all sW=j'->us.any (eqU x)=xs.any λy=>eqV y x
|_,_,.nil,_=>rfl
|y :: xs,u :: us,.cons r t,f=>by
  rw[all_cons,Lk]at f;rw[any_cons,any_cons,Dn r f.1,pD t f.2]
theorem lO {A:KY}{s:Kb}{x:V}{v:JW}(rx:cm x v) (fx:sW x=j'):∀ {xs:List V}{us:List JW},bZ xs us->xs.all sW=j'->∀ u∈us,K2 A s u v (eqU x u)
|_,_,.nil,_=>λu hu=>by cases hu
|y :: xs,u :: us,.cons r t,f=>λu' hu=>by
  rw[all_cons,Lk]at f;rcases KA.mp hu with rfl|hu
  . rw[Dn r f.1];exact GS r rx f.1 fx
  . exact lO rx fx t f.2 u' hu
def inV (x:V) (xs:List V):Bool:=xs.any λy=>eqV y x
def rIn (K:Kc) (neg:Bool):R2:=λx y H Q=>∃ p xs,y=.ref p/\(SqL K H p xs\/SqT K H p xs)/\sW x=j'/\xs.all sW=j'/\Q (.bl (if neg then !inV x xs else inV x xs)) H
def jw:OpR X (Lg .In) (rIn X.K f'):=by
 intro Mq s σ H x y v u Q I rx ry h;obtain⟨p,xs,rfl,hq,fx,fs,q⟩:=h;cases ry;rcases hq with hq|hq
 . obtain⟨its,r,pl,hz⟩:=I.list hq;refine SeqAt.in_listAt (eqU x) pl.isList (λw hw=>lO rx fx r fs w (by simpa using hw)) ⟨.bl _,H,I,rfl,?_⟩;rw[show its.toArray.any (eqU x)=its.any (eqU x) by simp,pD r fs];exact q
 . obtain⟨its,r,pl,hz⟩:=I.tuple hq;refine SeqAt.in_tupleAt (eqU x) pl (λw hw=>lO rx fx r fs w (by simpa using hw)) ⟨.bl _,H,I,rfl,?_⟩;rw[show its.toArray.any (eqU x)=its.any (eqU x) by simp,pD r fs];exact q
def jK:OpR X (Lg .NotIn) (rIn X.K j'):=by
 intro Mq s σ H x y v u Q I rx ry h;obtain⟨p,xs,rfl,hq,fx,fs,q⟩:=h;cases ry;rcases hq with hq|hq
 . obtain⟨its,r,pl,hz⟩:=I.list hq;refine SeqAt.notIn_listAt (eqU x) pl.isList (λw hw=>lO rx fx r fs w (by simpa using hw)) ⟨.bl _,H,I,rfl,?_⟩;rw[show its.toArray.any (eqU x)=its.any (eqU x) by simp,pD r fs];exact q
 . obtain⟨its,r,pl,hz⟩:=I.tuple hq;refine SeqAt.notIn_tupleAt (eqU x) pl (λw hw=>lO rx fx r fs w (by simpa using hw)) ⟨.bl _,H,I,rfl,?_⟩;rw[show its.toArray.any (eqU x)=its.any (eqU x) by simp,pD r fs];exact q
def be:uP X (.builtin "len") (λxs H Q=>∃ p ys,xs=[.ref p]/\(SqL X.K H p ys\/SqT X.K H p ys)/\Q (.int ys.length) H):=by
 intro Mq s σ H xs us Q I r h;obtain⟨p,ys,rfl,hq,q⟩:=h;obtain⟨u,rfl,rx⟩:=ym r;cases rx;have hn:=ug;rcases hq with hq|hq
 . obtain⟨its,r',pl,hz⟩:=I.list hq;have hlen:=r'.length;exact Calls.call_len_list pl.isList (by simp only[KD]<;>omega) ⟨.int ys.length,H,I.tok _,⟨s.toks+1,by rw[KD,hlen]⟩,q⟩
 . obtain⟨its,r',pl,hz⟩:=I.tuple hq;have hlen:=r'.length;exact len_tuple pl (by simp only[KD]<;>omega) ⟨.int ys.length,H,I.tok _,⟨s.toks+1,by rw[KD,hlen]⟩,q⟩
def nW:uP X (.type "list") (λxs H Q=>∃ p ys,xs=[.ref p]/\(SqL X.K H p ys\/SqT X.K H p ys)/\∀ l,H l=JZ->Q (.ref l) (upd H l (.lst ys))):=by
 intro Mq s σ H xs us Q I r h;obtain⟨p,ys,rfl,hq,q⟩:=h;obtain⟨u,rfl,rx⟩:=ym r;cases rx;have fin:∀ (its:List JW),bZ ys its->ys.length <= Ki->∀ (h':KN) (c':Nat),(∀ b o',s.heap.get? b=dk o'->h'.get? b=dk o') ->
  h'.get? s.heap.objs.size=dk { cls:=.type "list",dict:=JZ,data:=.seq its.toArray c',slots:=#[] }->EP X Mq σ Q (.ref s.heap.objs.size) { s with heap:=h' }:=λits r' hz h' c' kp e =>
  ⟨.ref s.heap.objs.size,_,I.laid (t':=s.toks) kp (Kf _) (show dJ X.prog X.w _ h' _ (.lst ys) from ⟨hz,its,c',r',e⟩),rfl,q _ (I.hok.fresh (Kf _))⟩
 rcases hq with hq|hq
 . obtain⟨its,r',pl,hz⟩:=I.list hq;have hlen:=r'.length;obtain⟨o,ho,hc,n,hd⟩:=pl.isList;exact call_list_seq p (.inl rfl) ho hc hd (λh' c' kp e=>fin its r' hz h' c' kp e) (by simp only[KD]<;>omega)
 . obtain⟨its,r',pl,hz⟩:=I.tuple hq;have hlen:=r'.length;obtain⟨o,ho,hc,n,hd⟩:=pl;exact call_list_seq p (.inr rfl) ho hc hd (λh' c' kp e=>fin its r' hz h' c' kp e) (by simp only[KD]<;>omega)
def sQ:uP X (.type "tuple") (λxs H Q=>∃ p ys,xs=[.ref p]/\((SqL X.K H p ys/\∀ l,H l=JZ->Q (.ref l) (upd H l (.tup ys)))\/(SqT X.K H p ys/\Q (.ref p) H))):=by
 intro Mq s σ H xs us Q I r h;obtain⟨p,ys,rfl,h⟩:=h;obtain⟨u,rfl,rx⟩:=ym r;cases rx;rcases h with⟨hq,q⟩|⟨hq,q⟩
 . obtain⟨its,r',pl,hz⟩:=I.list hq;have hlen:=r'.length;refine call_tuple_list pl.isList (λh' kp=>?_) (by simp only[KD]<;>omega);have I1:Inv X Mq σ H { s with heap:=h' }:=I.kept (t':=s.toks) kp;have I2:Inv X Mq σ (upd H h'.objs.size (.tup ys)) { s with heap:=h'.push { cls:=.type "tuple",data:=.seq its.toArray } } :=
    I1.laid (t':=s.toks) (λb o e=>Kd _ e) (Kf _) (show dJ X.prog X.w _ _ _ (.tup ys) from ⟨hz,its,r',IsTup.new _ _⟩)
   exact⟨.ref h'.objs.size,_,I2,rfl,q _ (I1.hok.fresh (Kf _))⟩
 . obtain⟨its,r',pl,hz⟩:=I.tuple hq;exact call_tuple_same pl ⟨.ref p,H,I,rfl,q⟩
def tyV (K:Kc) (T:String) (x:V) (H:Hp):Prop:=match x with
|.str _=>T="str"
|.int _=>T="int"
|.ref p=>(T="list"/\∃ xs,SqL K H p xs)\/(T="tuple"/\∃ o,K.lookup p=dk o/\o.cls=.type "tuple"/\o.dict=JZ) \/
  (T="dict"/\((∃ kvs,H p=dk (.dK kvs))\/∃ kvs,H p=dk (.dT kvs)))\/(T="set"/\∃ S n,H p=dk (.set S n))
|_=>False
def GE {Mq:List (D' × LF)}{σ:St}{H:Hp}{s:Kb}{T:String}{x:V}{v:JW}(I:Inv X Mq σ H s) (r:cm x v) (ty:tyV X.K T x H) :
 s.TypeIs v T/\∀ a,v=.ref a->∃ ob,s.heap.get? a=dk ob/\ob.dict=JZ:=by
 cases x with
|str z =>
  obtain⟨t,rfl⟩:=r;cases (show T="str" from ty);exact⟨typeIs_str s z t,λ_ e=>nomatch e⟩
|int i =>
  obtain⟨t,rfl⟩:=r;cases (show T="int" from ty);exact⟨typeIs_int s i t,λ_ e=>nomatch e⟩
|ref p =>
  cases r;rcases ty with⟨rfl,xs,hq⟩|⟨rfl,o,hk,hc,hd⟩|⟨rfl,hk⟩|⟨rfl,S,n,hk⟩
  . obtain⟨its,_,pl,_⟩:=I.list hq;refine⟨pl.isList.typeIs,λa e=>?_⟩;cases e;obtain⟨o,n,e,c,hd,_⟩:=pl;exact⟨o,e,hd⟩
  . refine⟨⟨o,I.kIn p o hk,hc⟩,λa e=>?_⟩;cases e;exact⟨o,I.kIn _ o hk,hd⟩
  . have z:∃ o,s.heap.get? p=dk o/\o.ExactDict:=by
     rcases hk with⟨kvs,hk⟩|⟨kvs,hk⟩
     . obtain⟨_,_,_,_,o,_,_,e,ex,_⟩:=I.hok p _ hk;exact⟨o,e,ex⟩
     . obtain⟨_,_,_,_,o,_,_,e,ex,_⟩:=I.hok p _ hk;exact⟨o,e,ex⟩
    obtain⟨o,e,ex⟩:=z;refine⟨⟨o,e,ex.1⟩,λa e2=>?_⟩;cases e2;exact⟨o,e,ex.2.1⟩
  . obtain⟨o,_,_,_,e,ex,_⟩:=I.hok p _ hk;refine⟨⟨o,e,ex.1⟩,λa e2=>?_⟩;cases e2;exact⟨o,e,ex.2.1⟩
|_=>exact Lj ty
def tBM (K:Kc) (T:String) (r:V->List V->Hp->VK->Prop) (to:TE) (t:TA):TE:=λσ H Q=>to σ H λx H1=>tyV K T x H1/\t σ H1 λxs H2=>r x xs H2 Q
variable {o e:Expr}{es:List Expr}{to:TE}{t:TA}{name:Str}{apos cpos:Pos}{T id:String}{r:V->List V->Hp->VK->Prop}
def lV (pa:PlainAttrs T) (slot:Slot T name id) (hty:typeOf (.builtin id)=pure (.type "method_descriptor")) (hm:MtR X id r) (ho:PE X o to) (ha:PA X (e :: es) t)
 (hbase:attributeBase o name X.env (eval o X.env)=eval o X.env:=by rfl)
 (hfew:((L7 cpos (KP (e :: es) X.env)).all (λx=>!x.1) && (backToKw cpos (keywordEach [] X.env)).all (λx=>x.1.isSome)
  && decide ((e :: es).length+([]:List Keyword).length+(if ([]:List Keyword).isEmpty then 0 else 1) < 30))=j':=by rfl)
 (hline:(apos.endLine == cpos.line)=j':=by rfl) (hs:KP (e :: es) X.env=(f',eval e X.env) :: KP es X.env:=by rfl) (hplain:(L7 cpos (KP es X.env)).any (·.1)=f':=by rfl) :
 PE X (.Call (.Attribute o name apos) (e :: es) [] cpos) (tBM X.K T r to t):=by
 intro Mq s σ H Q I h;refine wpAny_Call_method_late hbase hfew hline rfl (thn (ho Mq s σ H _ I h) λv s1 ur32=>?_);obtain⟨x,H1,I1,r1,ty,q1⟩:=ur32;obtain⟨h1,h2⟩:=GE I1 r1 ty;refine⟨T,id,pa,slot,hty,h1,h2,?_⟩;have hA:=ha cpos Mq s1 σ H1 _ I1 q1;rw[hs]at hA |-;refine LR (by show (f' || (L7 cpos (KP es X.env)).any (·.1))=f';rw[hplain]<;>rfl) (LO ?_);exact thn hA λus s2 uq9=>by(obtain⟨vs,H2,I2,r2,q2⟩:=uq9;exact hm Mq s2 σ H2 x vs v us Q I2 r1 r2 q2)
end
def MtM (X:Cx) (id:String) (r:V->List V->Hp->VK->Prop):Prop :=
 ∀ (Mq:List (D' × LF)) (s:Kb) (σ:St) (H:Hp) (x:V) (xs:List V) (v:JW) (us:List JW) (Q:VK),Inv X Mq σ H s->cm x v->bZ xs us->r x xs H Q ->
  Kq (model X.prog X.w) X.A (call (.builtin id) (v :: us)) (EP X Mq σ Q) X.xe s
def bZ.one:∀ {x:V}{us:List JW},bZ [x] us->∃ u,us=[u]/\cm x u
|_,_,.cons r .nil=>⟨_,rfl,r⟩
def bZ.zero:∀ {us:List JW},bZ [] us->us=[]
|_,.nil=>rfl
theorem bZ.eraseIdx:∀ {xs:List V}{us:List JW}(i:Nat),bZ xs us->bZ (xs.eraseIdx i) (us.eraseIdx i)
|_,_,_,.nil=>.nil
|_,_,0,.cons _ t=>t
|_,_,i+1,.cons r t=>.cons r (bZ.eraseIdx i t)
theorem vm {α:Type}:∀ (l:List α) (i:Nat),(l.eraseIdx i).length <= l.length
|[],_=>Kf _
|_ :: _,0=>Nat.le_succ _
|_ :: r,i+1=>Nat.succ_le_succ (vm r i)
section
variable {X:Cx}{Mq:List (D' × LF)}{σ:St}{H:Hp}{s:Kb}{l b:D'}{xs ys zs:List V}
def Inv.lset {its its':List JW}{n:Nat}{f:Array JW->Array JW}{t':Nat}(I:Inv X Mq σ H s) (hH:H l=dk (.lst xs))
 (e:s.heap.get? l=dk { cls:=.type "list",data:=.seq its.toArray n }) (hf:f its.toArray=its'.toArray) (hv:bZ ys its') (hz:ys.length <= Ki) :
 Inv X Mq σ (upd H l (.lst ys)) { s with heap:=s.heap.update l (Mp f),toks:=t' }:=by
 have q:=PySem.IsL.update e f;rw[hf]at q;refine I.write (x:=l) (e:=l) (by rw[hH];exact trivial) (.inl rfl) (λb' u hb hu=>(KN.get?_update_other s.heap (Mp f) (Mb hb)).trans hu) ⟨_,q⟩ ?_;exact⟨hz,its',_,hv,q⟩
def Inv.lnew {its:List JW}{t':Nat}(I:Inv X Mq σ H s) (hv:bZ ys its) (hz:ys.length <= Ki) :
 Inv X Mq σ (upd H s.heap.objs.size (.lst ys)) { s with heap:=s.heap.push { cls:=.type "list",data:=.seq its.toArray },toks:=t' } :=
 I.laid (λ_ _ q=>Kd _ q) (Kf _) ⟨hz,its,0,hv,Ky _ rfl⟩
def Inv.lstM (I:Inv X Mq σ H s) (hH:H l=dk (.lst xs)):xs.length <= Ki/\∃ (its:List JW) (n:Nat),bZ xs its/\xs.length=its.length/\s.heap.get? l=dk { cls:=.type "list",data:=.seq its.toArray n }:=by
 obtain⟨z,its,n,r,e⟩:=I.hok l _ hH;exact⟨z,its,n,r,r.length,e⟩
def Ct {n:Nat}(h:n <= Ki):Builtin.List.listTooLong n=f':=by
 unfold Builtin.List.listTooLong;exact decide_eq_false (by omega)
end
section
variable {X:Cx}
def DC:V->List V->Hp->VK->Prop:=λx vs H Q=>∃ l xs y,x=.ref l/\vs=[y]/\H l=dk (.lst xs)/\xs.length < Ki/\Q .non (upd H l (.lst (xs++[y])))
def dX:MtM X "list.append" DC:=by
 intro Mq s σ H x vs v us Q I rx rv h;obtain⟨l,xs,y,rfl,rfl,hH,hz,q⟩:=h;cases rx;obtain⟨u,rfl,ru⟩:=rv.one;obtain⟨z,its,n,r,hl,e⟩:=I.lstM hH;refine call_meets F.slot_list_append ⟨_,e,rfl⟩ F.entry_list_append (F.args_list_append_2 _ _) (PySem.list_append l its.toArray n u (by rw[KD];omega)) ⟨e,?_⟩;refine⟨.non,_,I.lset (its':=its++[u]) hH e (by simp) (r.append (.cons ru .nil)) ?_,rfl,q⟩;rw[JX,List.length_singleton];omega
def EO:V->List V->Hp->VK->Prop:=λx vs H Q=>∃ l b xs zs,x=.ref l/\vs=[.ref b]/\H l=dk (.lst xs)/\H b=dk (.lst zs)/\xs.length+zs.length <= Ki/\Q .non (upd H l (.lst (xs++zs)))
def p7:MtM X "list.extend" EO:=by
 intro Mq s σ H x vs v us Q I rx rv h;obtain⟨l,b,xs,zs,rfl,rfl,hH,hB,hz,q⟩:=h;cases rx;obtain⟨u,rfl,ru⟩:=rv.one;cases ru;obtain⟨z,its,n,r,hl,e⟩:=I.lstM hH;obtain⟨z2,its2,n2,r2,hl2,e2⟩:=I.lstM hB;have hsz:its.toArray.size+its2.toArray.size <= Ki:=by rw[KD,KD];omega
 have hlong:¬ (!its.toArray.isEmpty && Builtin.List.listTooLong (its.toArray.size+its2.toArray.size))=j':=by
  rw[Ct hsz,Bool.and_false];exact Kr
 refine call_meets F.slot_list_extend ⟨_,e,rfl⟩ F.entry_list_extend (F.args_list_extend_2 _ _)
  (AutoSeq1.list_extend_list_list_0 l its.toArray n b its2.toArray n2 hlong (by rw[KD];omega) (by omega)) ⟨e,e2,?_⟩
 refine⟨.non,_,I.lset (its':=its++its2) hH e (by simp) (r.append r2) ?_,rfl,q⟩;rw[JX];omega
def GZ:V->List V->Hp->VK->Prop:=λx vs H Q=>∃ l xs i k y,x=.ref l/\vs=[.int i]/\H l=dk (.lst xs)/\-(2 ^ 63) <= i/\i < 2 ^ 63/\seqIndex? i xs.length=dk k/\xs[k]?=dk y/\Q y (upd H l (.lst (xs.eraseIdx k)))
def sg:MtM X "list.pop" GZ:=by
 intro Mq s σ H x vs v us Q I rx rv h;obtain⟨l,xs,i,k,y,rfl,rfl,hH,h1,h2,hk,hy,q⟩:=h;cases rx;obtain⟨u,rfl,ru⟩:=rv.one;obtain⟨t,rfl⟩:=ru;obtain⟨z,its,n,r,hl,e⟩:=I.lstM hH;obtain⟨w,hw,rw'⟩:=r.get hy;refine call_meets F.slot_list_pop ⟨_,e,rfl⟩ F.entry_list_pop (F.args_list_pop_2 _ _)
  (MeetsSeq.list_pop_at l its.toArray n i t k w (fitsIndex_both h1 h2) (by rw[KD,<-hl];exact hk) (by rw[<-LX];exact hw) (by rw[KD];omega)) ⟨e,?_⟩
 refine⟨y,_,I.lset (its':=its.eraseIdx k) hH e ?_ (r.eraseIdx k) ?_,rw',q⟩
 . show its.toArray.eraseIdxIfInBounds k=(its.eraseIdx k).toArray;rw[List.eraseIdxIfInBounds_toArray]
 . have:=vm xs k;omega
end
section
variable {prog:Kz}{w:Kk}{A:KY}{E:JW->Kb->Prop}{s:Kb}
set_option maxRecDepth 100000 in
end
section
variable {X:Cx}
end
section
variable {κ:Type} [DecidableEq κ]
def mw (kvs:List (κ × V)) (k:κ):Option V:=(kvs.find? λkv=>decide (kv.1=k)).map (·.2)
def lB (kvs:List (κ × V)) (k:κ) (v:V):List (κ × V) :=
 if (kvs.any λkv=>decide (kv.1=k))=j' then kvs.map (λkv=>if kv.1=k then (kv.1,v) else kv) else kvs++[(k,v)]
def kA (kvs:List (κ × V)) (k:κ):List (κ × V):=kvs.filter λkv=>decide (kv.1≠k)
def xa {k:κ}:mw ([]:List (κ × V)) k=JZ:=rfl
def gz {p:κ × V}{r:List (κ × V)}{k:κ}(e:p.1=k):mw (p :: r) k=dk p.2:=by simp[mw,LL,e]
def iU {p:κ × V}{r:List (κ × V)}{k:κ}(e:¬ p.1=k):mw (p :: r) k=mw r k:=by simp[mw,LL,e]
theorem kz (k:κ):∀ kvs:List (κ × V),(kvs.any λkv=>decide (kv.1=k))=(mw kvs k).isSome
|[]=>rfl
|p :: r=>by
  rw[any_cons];by_cases e:p.1=k
  . simp only[gz e,Qt e,Bool.true_or,isSome_some]
  . rw[iU e,decide_eq_false e,Bool.false_or];exact kz k r
def kR (kvs:List (κ × V)) (k:κ) (v:V):(lB kvs k v).length <= kvs.length+1:=by
 unfold lB;split
 . rw[Kv];omega
 . rw[JX,KJ,length_nil];omega
def wW {kvs:List (κ × V)}{k:κ}(v:V) (h:mw kvs k=JZ):lB kvs k v=kvs++[(k,v)]:=by
 unfold lB;rw[kz,h];exact Qr (by decide)
def tP.isSome_eq {o:Option V}{u:Option JW}(r:tP o u):o.isSome=u.isSome:=by
 cases o with
|none=>cases u with
 |none=>rfl
 |some _=>exact(show False from r).elim
|some _=>cases u with
 |none=>exact(show False from r).elim
 |some _=>rfl
def KV.val {kvs:List (κ × V)}{vs:List (κ × JW)}(r:KV kvs vs) (k:κ):tP (mw kvs k) (valueAt vs k):=by
 unfold KV at r
 induction r with
|nil=>exact LI
|@cons p q ps qs h t ih =>
  obtain⟨h1,h2⟩:=h;by_cases e:p.1=k
  . have e':q.1=k:=h1.symm.trans e;have b:valueAt (q :: qs) k=dk q.2:=by simp[valueAt,LL,e']
    rw[gz e,b];exact h2
  . have e':¬ q.1=k:=λz=>e (h1.trans z)
    have b:valueAt (q :: qs) k=valueAt qs k:=by simp[valueAt,LL,e']
    rw[iU e,b];exact ih
theorem KV.any {kvs:List (κ × V)}{vs:List (κ × JW)}(r:KV kvs vs) (k:κ):(kvs.any λkv=>decide (kv.1=k))=vs.any λkv=>decide (kv.1=k):=by
 unfold KV at r
 induction r with
|nil=>rfl
|cons h t ih=>rw[any_cons,any_cons,ih,h.1]
def KV.repl {kvs:List (κ × V)}{vs:List (κ × JW)}(r:KV kvs vs) (k:κ) {y:V}{u:JW}(ry:cm y u) :
 KV (kvs.map λkv=>if kv.1=k then (kv.1,y) else kv) (vs.map λkv=>if kv.1=k then (kv.1,u) else kv):=by
 unfold KV at r |-
 induction r with
|nil=>exact .nil
|@cons p q ps qs h t ih =>
  rw[K1,K1];refine .cons ?_ ih;obtain⟨h1,h2⟩:=h;by_cases e:p.1=k
  . rw[Qq e,Qq (h1.symm.trans e)];exact⟨h1,ry⟩
  . rw[Qr e,Qr (λz=>e (h1.trans z))];exact⟨h1,h2⟩
def KV.put {kvs:List (κ × V)}{vs:List (κ × JW)}(r:KV kvs vs) (k:κ) {y:V}{u:JW}(ry:cm y u):KV (lB kvs k y) (stored vs k u):=by
 unfold lB stored;rw[r.any k];by_cases e:(vs.any λkv=>decide (kv.1=k))=j'
 . rw[Qq e,Qq e];exact r.repl k ry
 . rw[Qr e,Qr e];exact Kx.snoc r ⟨rfl,ry⟩
def KV.drop {kvs:List (κ × V)}{vs:List (κ × JW)}(r:KV kvs vs) (k:κ):KV (kA kvs k) (without vs k):=by
 unfold KV at r |-;unfold kA without
 induction r with
|nil=>exact .nil
|@cons p q ps qs h t ih =>
  obtain⟨h1,h2⟩:=h;rw[K4,K4];by_cases e:p.1=k
  . have a:¬ decide (p.1≠k)=j':=by simp[e]
    have b:¬ decide (q.1≠k)=j':=by simp[h1.symm.trans e]
    rw[Qr a,Qr b];exact ih
  . have e':¬ q.1=k:=λz=>e (h1.trans z)
    have a:decide (p.1≠k)=j':=by simp[e]
    have b:decide (q.1≠k)=j':=by simp[e']
    rw[Qq a,Qq b];exact .cons ⟨h1,h2⟩ ih
def KV.keys {kvs:List (κ × V)}{vs:List (κ × JW)}(r:KV kvs vs):kvs.map (·.1)=vs.map (·.1):=by
 unfold KV at r
 induction r with
|nil=>rfl
|cons h t ih=>rw[K1,K1,ih,h.1]
theorem KV.length {kvs:List (κ × V)}{vs:List (κ × JW)}(r:KV kvs vs):kvs.length=vs.length:=Kx.length r
def BG (kvs:List (κ × V)) (k:κ):(kA kvs k).length <= kvs.length:=Mg _ _
end
def tV {P:Kz}{w:Kk}{k:Key}{u:JW}(r:cm (kV k) u):(bg P w).is k u=j':=by
 cases k with
|inl i=>obtain⟨t,e⟩:=(show ∃ t,u=JW.int i t from r);subst e;exact vI P w i t
|inr x=>obtain⟨t,e⟩:=(show ∃ t,u=JW.str x t from r);subst e;exact vF P w x t
theorem uF {P:Kz}{w:Kk}:∀ {ks:List Key}{us:List JW},bZ (ks.map kV) us->ItemsAre (bg P w) ks us
|[],_,r=>by rw[map_nil]at r;cases r;exact .nil
|k :: ks,_,r=>by
  rw[K1]at r;cases r with
 |cons h t=>exact .cons (tV h) (uF t)
abbrev KT (H:Hp):List (List Key × V)->List (List Key × D' × JW)->Prop:=Kx λp q=>p.1=q.1/\H q.2.1=dk (.tup (p.1.map kV))/\cm p.2 q.2.2
def KT.val {H:Hp}{kvs:List (List Key × V)}{xs:List (List Key × D' × JW)}(r:KT H kvs xs) (k:List Key):tP (mw kvs k) ((atKey xs k).map (·.2)):=by
 induction r with
|nil=>exact LI
|@cons p q ps qs h t ih =>
  obtain⟨h1,_,h2⟩:=h;by_cases e:p.1=k
  . have e':q.1=k:=h1.symm.trans e;have b:atKey (q :: qs) k=dk q.2:=by simp[atKey,LL,e']
    rw[gz e,b];exact h2
  . have e':¬ q.1=k:=λz=>e (h1.trans z)
    have b:atKey (q :: qs) k=atKey qs k:=by simp[atKey,LL,e']
    rw[iU e,b];exact ih
def KT.repl {H:Hp}{kvs:List (List Key × V)}{xs:List (List Key × D' × JW)}(r:KT H kvs xs) (k:List Key) {y:V}{u:JW}(ry:cm y u) :
 KT H (kvs.map λkv=>if kv.1=k then (kv.1,y) else kv) (xs.map (putAt k u)):=by
 induction r with
|nil=>exact .nil
|@cons p q ps qs h t ih =>
  rw[K1,K1];refine .cons ?_ ih;obtain⟨h1,h2,h3⟩:=h;unfold putAt;by_cases e:p.1=k
  . rw[Qq e,Qq (h1.symm.trans e)];exact⟨h1,h2,ry⟩
  . rw[Qr e,Qr (λz=>e (h1.trans z))];exact⟨h1,h2,h3⟩
def KT.put {H:Hp}{kvs:List (List Key × V)}{xs:List (List Key × D' × JW)}(r:KT H kvs xs) (k:List Key) {b:D'}{y:V}{u:JW}(hb:H b=dk (.tup (k.map kV))) (ry:cm y u) :
 KT H (lB kvs k y) (storedH xs k b u):=by
 have e:(kvs.any λkv=>decide (kv.1=k))=(atKey xs k).isSome:=by
  rw[kz,(r.val k).isSome_eq,isSome_map]
 unfold lB storedH;rw[e];by_cases q:(atKey xs k).isSome=j'
 . rw[Qq q,Qq q];exact r.repl k ry
 . rw[Qr q,Qr q];exact Kx.snoc r ⟨rfl,hb,ry⟩
def KT.keeps {H H':Hp}{kvs:List (List Key × V)}{xs:List (List Key × D' × JW)}(r:KT H kvs xs) (ht:∀ b ys,H b=dk (.tup ys)->H' b=dk (.tup ys)):KT H' kvs xs :=
 Paired.mapP r λ_ _ z=>⟨z.1,ht _ _ z.2.1,z.2.2⟩
section
variable {P:Kz}{w:Kk}{H:Hp}{h:KN}{a:D'}
def Fx {u:HO}(ok:HOk P w H h) (e:Rd H a u):dJ P w H h a u:=e.ok ok
def xT {kvs:List (Key × V)}(ok:HOk P w H h) (e:Rd H a (.dK kvs)):kvs.length <= Ki/\(a == Ls)=f'/\∃ vs,KV kvs vs/\h.DictOf (bg P w) a vs :=
 show dJ P w H h a (.dK kvs) from Fx ok e
def yd {kvs:List (Key × V)}(ok:HOk P w H h) (e:H a=dk (.dK kvs)):kvs.length <= Ki/\(a == Ls)=f'/\∃ vs,KV kvs vs/\h.DictOf (bg P w) a vs:=xT ok (.inl e)
def kP {ks:List Key}(ok:HOk P w H h) (e:H a=dk (.tup (ks.map kV))):(tupleKind (bg P w)).is h ks a:=by
 obtain⟨_,its,r,o,h1,h2,n,h3⟩:=(show dJ P w H h a (.tup (ks.map kV)) from ok a _ e)
 exact⟨o,its.toArray,n,h1,h2,h3,by simpa using uF r⟩
def y0 {kvs:List (List Key × V)}(ok:HOk P w H h) (e:Rd H a (.dT kvs)):kvs.length <= Ki/\(a == Ls)=f' /\
 ∃ xs,KT H kvs xs/\h.DictOfH (tupleKind (bg P w)) a xs:=by
 obtain⟨z,y,xs,r,o,es,ep,h1,h2,h3,h4,h5⟩:=(show dJ P w H h a (.dT kvs) from Fx ok e)
 refine⟨z,y,xs,r,o,es,ep,h1,h2,h3,h4,λx hx=>?_,h5⟩;have all:∀ {l:List (List Key × V)} {m:List (List Key × D' × JW)},KT H l m->∀ x∈m,(tupleKind (bg P w)).is h x.1 x.2.1:=by
  intro l m q
  induction q with
 |nil=>intro x hx;exact nomatch hx
 |@cons p q ps qs hq t ih =>
   intro x hx;rcases KA.mp hx with e|hx
   . subst e;exact kP ok (by rw[<-hq.1];exact hq.2.1)
   . exact ih x hx
 exact all r x hx
def Ik {kvs:List (List Key × V)}(ok:HOk P w H h) (e:H a=dk (.dT kvs)):kvs.length <= Ki/\(a == Ls)=f' /\
 ∃ xs,KT H kvs xs/\h.DictOfH (tupleKind (bg P w)) a xs:=y0 ok (.inl e)
end
def qb (H:Hp) (a:D') (y:V) (r:Option V):Prop :=
 (∃ kvs k,Rd H a (.dK kvs)/\y=kV k/\r=mw kvs k)\/∃ kvs k b,Rd H a (.dT kvs)/\y=.ref b/\H b=dk (.tup (k.map kV))/\r=mw kvs k
def z0 (H:Hp) (a:D') (y v:V) (H':Hp):Prop :=
 (∃ kvs k,H a=dk (.dK kvs)/\y=kV k/\kvs.length < Ki/\H'=upd H a (.dK (lB kvs k v))) \/
 ∃ kvs k b,H a=dk (.dT kvs)/\y=.ref b/\H b=dk (.tup (k.map kV))/\kvs.length < Ki/\H'=upd H a (.dT (lB kvs k v))
def qb.k {H:Hp}{a:D'}{kvs:List (Key × V)}{k:Key}(e:H a=dk (.dK kvs)):qb H a (kV k) (mw kvs k):=.inl ⟨kvs,k,.inl e,rfl,rfl⟩
def z0.k {H:Hp}{a:D'}{kvs:List (Key × V)}{k:Key}{v:V}(e:H a=dk (.dK kvs)) (hl:kvs.length < Ki):z0 H a (kV k) v (upd H a (.dK (lB kvs k v))):=.inl ⟨kvs,k,e,rfl,hl,rfl⟩
section
variable {X:Cx}{Mq:List (D' × LF)}{σ:St}{H:Hp}{s:Kb}{a:D'}{y v:V}{u r:JW}{o:Option V}{A:KY}{E:JW->Kb->Prop}
def Inv.big (I:Inv X Mq σ H s):Ls < s.heap.objs.size:=by
 have h:KR < s.heap.objs.size:=(I.mod.glob.keeps I.bk).lt;exact Nat.lt_trans (by decide) h
def A4 {Q:JW->Kb->Prop}(hu:A.units+1 < L8) (I:Inv X Mq σ H s) (g:qb H a y (dk v)) (ry:cm y u) (h:∀ w' s',Inv X Mq σ H s'->cm v w'->Q w' s') :
 Kq (model X.prog X.w) A (getItem (.ref a) u) Q E s:=by
 rcases g with⟨kvs,k,e,ey,l⟩|⟨kvs,k,b,e,ey,eb,l⟩
 . subst ey;obtain⟨z,hd,vs,rel,dd⟩:=xT I.hok e;obtain⟨w',hw,rw'⟩:=tP.some_of (v:=v) (o:=valueAt vs k) (by rw[l];exact rel.val k);exact wpAny_getItem_of (tV ry) dd.mapOf hw (h w' _ (I.tok _) rw')
 . subst ey;cases (show u=KI b from ry);obtain⟨z,hd,xs,rel,dd⟩:=y0 I.hok e;obtain⟨w',hw,rw'⟩:=tP.some_of (v:=v) (o:=(atKey xs k).map (·.2)) (by rw[l];exact rel.val k);obtain⟨p,hp,hp2⟩:=map_eq_some_iff.mp hw;refine wpAny_getItem_heap (tupleKind_room_in1 hu) (kP I.hok eb) dd hp ?_;rw[hp2];exact h w' _ (I.tok _) rw'
def JO {Q:JW->Kb->Prop}(hu:A.units+1 < L8) (I:Inv X Mq σ H s) (g:qb H a y o) (ry:cm y u) (h:∀ s',Inv X Mq σ H s'->Q (.bool o.isSome) s') :
 Kq (model X.prog X.w) A (Lg .In u (.ref a)) Q E s:=by
 rcases g with⟨kvs,k,e,ey,l⟩|⟨kvs,k,b,e,ey,eb,l⟩
 . subst ey;obtain⟨z,hd,vs,rel,dd⟩:=xT I.hok e;refine wpAny_in_of (tV ry) hd dd.mapOf ?_;rw[<-(rel.val k).isSome_eq,<-l];exact h _ (I.tok _)
 . subst ey;cases (show u=KI b from ry);obtain⟨z,hd,xs,rel,dd⟩:=y0 I.hok e;refine wpAny_in_heap (tupleKind_room_in1 hu) (kP I.hok eb) hd dd ?_;have q:=(rel.val k).isSome_eq;rw[isSome_map]at q;rw[<-q,<-l];exact h _ (I.tok _)
def DS {Q:JW->Kb->Prop}(hu:A.units+1 < L8) (I:Inv X Mq σ H s) (g:qb H a y o) (ry:cm y u) (h:∀ s',Inv X Mq σ H s'->Q (.bool (!o.isSome)) s') :
 Kq (model X.prog X.w) A (Lg .NotIn u (.ref a)) Q E s:=by
 rcases g with⟨kvs,k,e,ey,l⟩|⟨kvs,k,b,e,ey,eb,l⟩
 . subst ey;obtain⟨z,hd,vs,rel,dd⟩:=xT I.hok e;refine wpAny_notIn_of (tV ry) hd dd.mapOf ?_;rw[<-(rel.val k).isSome_eq,<-l];exact h _ (I.tok _)
 . subst ey;cases (show u=KI b from ry);obtain⟨z,hd,xs,rel,dd⟩:=y0 I.hok e;refine wpAny_notIn_heap (tupleKind_room_in1 hu) (kP I.hok eb) hd dd ?_;have q:=(rel.val k).isSome_eq;rw[isSome_map]at q;rw[<-q,<-l];exact h _ (I.tok _)
def pB {h':KN}{t':Nat}{ob:HO}(I:Inv X Mq σ H s) (mu:Mut (H a)) (hs:LH a s.heap h') (he:∃ q,h'.get? a=dk q) (new:dJ X.prog X.w (upd H a ob) h' a ob) :
 Inv X Mq σ (upd H a ob) { s with heap:=h',toks:=t' } :=
 I.write (x:=a) (e:=a) mu (.inl rfl) (λb q hb z=>(hs.2 b hb).trans z) he new
def zR {P:Kz}{w:Kk}{H':Hp}{h':KN}{kvs:List (Key × V)}{vs:List (Key × JW)}(z:kvs.length <= Ki) (hd:(a == Ls)=f') (rel:KV kvs vs) (dd:h'.DictOf (bg P w) a vs) :
 dJ P w H' h' a (.dK kvs):=⟨z,hd,vs,rel,dd⟩
def AE {H':Hp}{Q:Unit->Kb->Prop}(hu:A.units+1 < L8) (I:Inv X Mq σ H s) (g:z0 H a y v H') (ry:cm y u) (rv:cm v r) (h:∀ s',Inv X Mq σ H' s'->Q () s') :
 Kq (model X.prog X.w) A (setItem (.ref a) u r) Q E s:=by
 rcases g with⟨kvs,k,e,ey,l,eH⟩|⟨kvs,k,b,e,ey,eb,l,eH⟩
 . subst ey eH;obtain⟨z,hd,vs,rel,dd⟩:=yd I.hok e;have hz:vs.length <= Ki:=by rw[<-rel.length];exact z
   have hl:(lB kvs k v).length <= Ki:=by have:=kR kvs k v;omega
   refine wpAny_setItem_pairs (hsz:=hz) (tV ry) dd λh' dd' hs=>h _ ?_
   have he:∃ q,h'.get? a=dk q:=let ⟨q,_,_,hq,_⟩:=dd';⟨q,hq⟩;exact pB I (by rw[e];exact LI) hs he (zR hl hd (rel.put k rv) dd')
 . subst ey eH;cases (show u=KI b from ry);obtain⟨z,hd,xs,rel,dd⟩:=Ik I.hok e;have hz:xs.length <= Ki:=by rw[<-Kx.length rel];exact z
   have hl:(lB kvs k v).length <= Ki:=by have:=kR kvs k v;omega
   refine wpAny_setItem_heap (hsz:=hz) (tupleKind_room_in1 hu) (kP I.hok eb) dd λh' dd' hs=>h _ ?_
   obtain⟨q,es,ep,hq,h2,h3,h4,_,h5⟩:=dd';refine pB I (by rw[e];exact LI) hs ⟨q,hq⟩ ⟨hl,hd,_,(rel.put k eb rv).keeps λc ys ec=>?_,q,es,ep,hq,h2,h3,h4,h5⟩;rw[ac (iK ec e (λz=>nomatch z))];exact ec
end
section
variable {X:Cx}{Mq:List (D' × LF)}{σ:St}{H:Hp}{s:Kb}{a:D'}{kvs:List (Key × V)}{k:Key}{u:JW}{A:KY}{E:JW->Kb->Prop}
def FW {v:V}{more:List JW}{Q:JW->Kb->Prop}(I:Inv X Mq σ H s) (e:H a=dk (.dK kvs)) (ry:cm (kV k) u) (l:mw kvs k=dk v) (hm:more=[]\/∃ x,more=[x])
 (h:∀ w' s',Inv X Mq σ (upd H a (.dK (kA kvs k))) s'->cm v w'->Q w' s'):Kq (model X.prog X.w) A (call (.builtin "dict.pop") (.ref a :: u :: more)) Q E s:=by
 obtain⟨z,hd,vs,rel,dd⟩:=yd I.hok e;obtain⟨w',hw,rw'⟩:=tP.some_of (v:=v) (o:=valueAt vs k) (by rw[<-l];exact rel.val k);have hp:(keyPart u).isSome=j':=by
  cases k with
 |inl i=>obtain⟨t,q⟩:=(show ∃ t,u=JW.int i t from ry);subst q;rfl
 |inr x=>obtain⟨t,q⟩:=(show ∃ t,u=JW.str x t from ry);subst q;rfl
 have ha:argsOk "dict.pop" ⟨.ref a :: u :: more,[]⟩:=by
  rcases hm with q|⟨x,q⟩
  . subst q;exact PySem.F.args_dict_pop_2 _ _
  . subst q;exact PySem.F.args_dict_pop_3 _ _ _
 refine call_meetsIn LZ dd.typeIs PySem.F.entry_dict_pop ha (meets_dict_pop_there (bg X.prog X.w) a (tV ry) more hm hp)
  ⟨vs,w',dd,by rw[<-rel.length];exact z,hw,λh' dd' hs=>h w' _ ?_ rw'⟩
 have he:∃ q,h'.get? a=dk q:=let ⟨q,_,_,hq,_⟩:=dd';⟨q,hq⟩;exact pB I (by rw[e];exact LI) hs he (zR (K6 (BG kvs k) z) hd (rel.drop k) dd')
def Fv {r:JW}{Q:JW->Kb->Prop}(I:Inv X Mq σ H s) (e:H a=dk (.dK kvs)) (ry:cm (kV k) u) (l:mw kvs k=JZ) (h:∀ s',Inv X Mq σ H s'->Q r s') :
 Kq (model X.prog X.w) A (call (.builtin "dict.pop") [.ref a,u,r]) Q E s:=by
 obtain⟨z,hd,vs,rel,dd⟩:=yd I.hok e;have hn:valueAt vs k=JZ:=tP.none_of (by rw[<-l];exact rel.val k);have hp:(keyPart u).isSome=j':=by
  cases k with
 |inl i=>obtain⟨t,q⟩:=(show ∃ t,u=JW.int i t from ry);subst q;rfl
 |inr x=>obtain⟨t,q⟩:=(show ∃ t,u=JW.str x t from ry);subst q;rfl
 exact call_meetsIn LZ dd.typeIs PySem.F.entry_dict_pop (PySem.F.args_dict_pop_3 _ _ _) (meets_dict_pop_default (bg X.prog X.w) a (tV ry) hd hp r) ⟨vs,dd,hn,h _ (I.tok _)⟩
end
def IU (i:Expr):Prop:=∀ ov iv,subscripted i f' ov iv=operate [ov,iv] (getItem ov iv)
def Eg {prog:Kz}{w:Kk}{A:KY}{E:JW->Kb->Prop}{s:Kb}{env:Env}{value slice:Expr}{pos:Pos}{T id:String}{Q:JW->Kb->Prop}
 (hl:typeLookup (.type T) "__getitem__"=pure (dk (.builtin id))) (hs:IU slice)
 (h:Kq (model prog w) A (eval value env) (λo s₁=>Kq (model prog w) A (eval slice env) (λi s₂=>s₂.TypeIs o T/\Kq (model prog w) A (getItem o i) Q E s₂) E s₁) E s) :
 Kq (model prog w) A (eval (.Subscript value slice pos) env) Q E s:=by
 refine Subscript_ (Md h (λo s₁ h₁=>Md h₁ (λi s₂ h₂=>?_) λ_ _ x=>x) λ_ _ x=>x);obtain⟨hT,h₂⟩:=h₂;unfold subscriptTail;refine G' ?_;rw[getitemInPython_of_ne hT.not_modules];refine G' (wpAny_specialOf hT hl ?_);have fin:Kq (model prog w) A (subscripted slice f' o i) (λr s₃=>Kq (model prog w) A (letTemporaryGo value o r >>= λ_=>pure r) Q E s₃) E s₂:=by
  rw[hs o i];exact wpAny_operating (Md h₂ (λr s₃ h₃=>G' (wpAny_letTemporaryGo (Ke h₃))) λ_ _ x=>x)
 first
 |exact Ke (G' fin)
 |exact G' (Ke (G' fin))
 |exact G' fin
def wm {X:Cx}{Mq:List (D' × LF)}{σ:St}{H:Hp}{s:Kb}{a:D'}{y:V}{o:Option V}(I:Inv X Mq σ H s) (g:qb H a y o):s.TypeIs (.ref a) "dict":=by
 rcases g with⟨kvs,k,e,_,_⟩|⟨kvs,k,b,e,_,_,_⟩
 . obtain⟨_,_,vs,_,dd⟩:=xT I.hok e;exact dd.typeIs
 . obtain⟨_,_,xs,_,dd⟩:=y0 I.hok e;exact dd.typeIs
def Hr (td ty:TE):TE:=λσ H Q=>td σ H λx H1=>ty σ H1 λy H2=>∃ a v,x=.ref a/\qb H2 a y (dk v)/\Q v H2
def Jc (ty td:TE):TE:=λσ H Q=>ty σ H λy H1=>td σ H1 λx H2=>∃ a o,x=.ref a/\qb H2 a y o/\Q (.bl o.isSome) H2
def DM (ty td:TE):TE:=λσ H Q=>ty σ H λy H1=>td σ H1 λx H2=>∃ a o,x=.ref a/\qb H2 a y o/\Q (.bl (!o.isSome)) H2
def Il (td ty tv:TE):TS:=λD σ H=>tv σ H λv H1=>td σ H1 λx H2=>ty σ H2 λy H3=>∃ a H4,x=.ref a/\z0 H3 a y v H4/\D.nx σ H4
section
variable {X:Cx}{o i e value:Expr}{pos pos' tpos:Pos}{td ty tv:TE}
def kW (hu:X.A.units+1 < L8) (ho:PE X o td) (hi:PE X i ty) (hs:IU i):PE X (.Subscript o i pos) (Hr td ty):=by
 intro Mq s σ H Q I h;refine Eg PySem.F.slot_dict_getitem.lookup hs (thn (ho Mq s σ H _ I h) λu s1 ⟨x,H1,I1,rx,q1⟩=>thn (hi Mq s1 σ H1 _ I1 q1) λiv s2 ur33=>?_);obtain⟨y,H2,I2,ry,a,v,ex,g,q2⟩:=ur33;subst ex;obtain rfl:u=KI a:=rx;exact⟨wm I2 g,A4 hu I2 g ry λw' s3 I3 rw'=>⟨v,H2,I3,rw',q2⟩⟩
def zM (hu:X.A.units+1 < L8) (hi:PE X i ty) (ho:PE X o td):PC X .In i o (Jc ty td):=by
 intro Mq s σ H Q I h;refine thn (hi Mq s σ H _ I h) λiv s1 ⟨y,H1,I1,ry,q1⟩=>thn (ho Mq s1 σ H1 _ I1 q1) λu s2 ur34=>?_
 obtain⟨x,H2,I2,rx,a,ov,ex,g,q2⟩:=ur34;subst ex;obtain rfl:u=KI a:=rx;exact JO hu I2 g ry λs3 I3=>⟨.bl ov.isSome,H2,I3,rfl,q2⟩
def jT (hu:X.A.units+1 < L8) (hi:PE X i ty) (ho:PE X o td):PC X .NotIn i o (DM ty td):=by
 intro Mq s σ H Q I h;refine thn (hi Mq s σ H _ I h) λiv s1 ⟨y,H1,I1,ry,q1⟩=>thn (ho Mq s1 σ H1 _ I1 q1) λu s2 ur35=>?_
 obtain⟨x,H2,I2,rx,a,ov,ex,g,q2⟩:=ur35;subst ex;obtain rfl:u=KI a:=rx;exact DS hu I2 g ry λs3 I3=>⟨.bl (!ov.isSome),H2,I3,rfl,q2⟩
def l5 (hu:X.A.units+1 < L8) (ho:PE X o td) (hi:PE X i ty) (hv:PE X value tv) (hs:swapsWith value (dk (.Subscript o i pos')) pos.line X.env=pure f') :
 PS X (.Assign [.Subscript o i pos'] value pos) (Il td ty tv):=by
 intro Mq s σ H D I h;refine wpAny_Assign_Subscript (thn (hv Mq s σ H _ I h) λr s1 ⟨v,H1,I1,rv,q1⟩=>thn (ho Mq s1 σ H1 _ I1 q1) λu s2 ⟨x,H2,I2,rx,q2⟩=>thn (hi Mq s2 σ H2 _ I2 q2) λiv s3 ur36=>?_) hs;obtain⟨y,H3,I3,ry,a,H4,ex,g,q3⟩:=ur36;subst ex;obtain rfl:u=KI a:=rx;exact AE hu I3 g ry rv λs4 I4=>⟨σ,H4,I4,q3⟩
end
def wP {P:Kz}{w:Kk}{H:Hp}(h:KN) (hb:Ls < h.objs.size):dJ P w H (h.push { cls:=.type "dict",data:=.dict #[] }) h.objs.size (.dK []) :=
 ⟨LJ _,beq_eq_false_iff_ne.mpr (Mb (Ld hb)),[],.nil,KN.DictOf.new h⟩
def GC:TE:=λ_ H Q=>∀ p,H p=JZ->Q (.ref p) (upd H p (.dK []))
section
variable {X:Cx}{pos:Pos}
def km:PE X (.Dict [] [] pos) GC:=λMq s σ H Q I h =>
 wpAny_Dict_empty ⟨.ref s.heap.objs.size,_,I.laid (a:=s.heap.objs.size) (o:=.dK []) (t':=s.toks) (λ_ _ q=>Kd _ q) (Kf _) (wP s.heap I.big),rfl,h _ (I.hok.fresh (Kf _))⟩
end
def B3:List (TE × TE)->St->Hp->(List (V × V)->Hp->Prop)->Prop
|[],_,H,Q=>Q [] H
|(tk,tv) :: r,σ,H,Q=>tk σ H λx H1=>tv σ H1 λy H2=>B3 r σ H2 λps H3=>Q ((x,y) :: ps) H3
abbrev VV:List (V × V)->List (JW × JW)->Prop:=Kx λp q=>cm p.1 q.1/\cm p.2 q.2
def PPs (X:Cx) (pos:Pos) (keys:List (Option Expr)) (values:List Expr) (trs:List (TE × TE)):Prop :=
 ∀ (Mq:List (D' × LF)) (s:Kb) (σ:St) (H:Hp) (Q:List (V × V)->Hp->Prop),Inv X Mq σ H s->B3 trs σ H Q ->
  Kq (model X.prog X.w) X.A (evalPairs (pairTrees keys values X.env pos)) (λvs s'=>∃ ps H',Inv X Mq σ H' s'/\VV ps vs/\Q ps H') X.xe s
def zN {X:Cx}{pos:Pos}:PPs X pos [] [] []:=λMq s σ H Q I h=>pairTrees_nil_walk ⟨[],H,I,.nil,h⟩
def oC {X:Cx}{pos:Pos}{k v:Expr}{ks:List (Option Expr)}{vs:List Expr}{tk tv:TE}{trs:List (TE × TE)}(hk:PE X k tk) (hv:PE X v tv) (hr:PPs X pos ks vs trs) :
 PPs X pos (dk k :: ks) (v :: vs) ((tk,tv) :: trs):=λMq s σ H Q I h =>
 pairTrees_cons_walk (thn (hk Mq s σ H _ I h) λu s1 ⟨x,H1,I1,rx,q1⟩=>thn (hv Mq s1 σ H1 _ I1 q1) λw2 s2 ⟨y,H2,I2,ry,q2⟩ =>
  thn (hr Mq s2 σ H2 _ I2 q2) λws s3 uq10=>by(obtain⟨ps,H3,I3,rel,q3⟩:=uq10;exact ⟨(x,y) :: ps,H3,I3,.cons ⟨rx,ry⟩ rel,q3⟩))
def rn (kvs more:List (Key × V)):List (Key × V):=more.foldl (λacc kv=>lB acc kv.1 kv.2) kvs
def KV.merge:∀ {more:List (Key × V)}{rs:List (Key × JW)}{kvs:List (Key × V)}{vs:List (Key × JW)},KV more rs->KV kvs vs->KV (rn kvs more) (merged vs rs):=by
 intro more rs kvs vs r;unfold KV at r
 induction r generalizing kvs vs with
|nil=>intro q;exact q
|@cons p q ps qs h t ih =>
  intro r0;have e:KV (lB kvs p.1 p.2) (stored vs q.1 q.2):=by
   have:=r0.put p.1 h.2;rw[<-h.1];exact this
  exact ih e
theorem mG:∀ (more kvs:List (Key × V)),(rn kvs more).length <= kvs.length+more.length
|[],kvs=>by show kvs.length <= kvs.length+0;omega
|p :: r,kvs=>by
  have h1:=mG r (lB kvs p.1 p.2);have h2:=kR kvs p.1 p.2;show (rn (lB kvs p.1 p.2) r).length <= _;rw[KJ];omega
theorem rD {P:Kz}{w:Kk}:∀ {kvs:List (Key × V)}{ws:List (JW × JW)},VV (kvs.map λkv=>(kV kv.1,kv.2)) ws->∃ rs,Carries (bg P w) ws rs/\KV kvs rs
|[],_,r=>by rw[map_nil]at r;cases r;exact⟨[],LI,.nil⟩
|p :: kvs,_,r=>by
  rw[K1]at r;cases r with
 |@cons a b as bs h t =>
   obtain⟨rs,c,q⟩:=rD (P:=P) (w:=w) t;obtain⟨b1,b2⟩:=b;exact⟨(p.1,b2) :: rs,⟨tV h.1,rfl,c⟩,.cons ⟨rfl,h.2⟩ q⟩
def I0 (trs:List (TE × TE)):TE:=λσ H Q=>∀ p,H p=JZ->B3 trs σ (upd H p (.dK [])) λps H2=>H2 p=dk (.dK [])/\∃ kvs:List (Key × V),ps=kvs.map (λkv=>(kV kv.1,kv.2))/\kvs.length <= 15/\Q (.ref p) (upd H2 p (.dK (rn [] kvs)))
def zb {X:Cx}{pos:Pos}{keys:List (Option Expr)}{values:List Expr}{trs:List (TE × TE)}(h:PPs X pos keys values trs) (hall:keys.all (·.isSome)=j') (hl:keys.length=values.length) (h0:keys≠[])
 (h15:keys.length <= 15):PE X (.Dict keys values pos) (I0 trs):=by
 intro Mq s σ H Q I q;have hn:=I.hok.fresh (Kf s.heap.objs.size);have I1:=I.laid (a:=s.heap.objs.size) (o:=.dK []) (h':=s.heap.push { cls:=.type "dict",data:=.dict #[] }) (t':=s.toks) (λ_ _ q=>Kd _ q) (Kf _) (wP s.heap I.big);refine wpAny_Dict_walk (knd:=bg X.prog X.w) hall hl h0 h15 (thn (h Mq _ σ _ _ I1 (q _ hn)) λws s2 ur37=>?_);obtain⟨ps,H2,I2,rel,e,kvs,ep,lk,q2⟩:=ur37;subst ep;obtain⟨rs,c,rk⟩:=rD (P:=X.prog) (w:=X.w) rel;obtain⟨z,hd,vs0,r0,dd⟩:=yd I2.hok e;cases r0;refine⟨rs,c,dd,λh' dd' hs=>⟨.ref s.heap.objs.size,_,?_,rfl,q2⟩⟩;have hz:(rn [] kvs).length <= Ki:=by
  have h1:=mG kvs [];rw[length_nil]at h1;rw[sizeLine_eq];omega
 have he:∃ q,h'.get? s.heap.objs.size=dk q:=let ⟨q,_,_,hq,_⟩:=dd';⟨q,hq⟩;exact pB I2 (by rw[e];exact LI) hs he (zR hz hd (rk.merge .nil) dd')
structure M1 (X:Cx) (o:Expr) (m:Str) (apos:Pos) (e:Expr) (cpos:Pos):Prop where
 base:attributeBase o m X.env (eval o X.env)=eval o X.env
 few:((L7 cpos (KP [e] X.env)).all (λx=>!x.1) && (backToKw cpos (keywordEach [] X.env)).all (λx=>x.1.isSome)
  && decide (([e]:List Expr).length+([]:List Keyword).length+(if ([]:List Keyword).isEmpty then 0 else 1) < 30))=j'
 line:(apos.endLine == cpos.line)=j'
 trees:L7 cpos (KP [e] X.env)=[(f',eval e X.env)]
structure M2 (X:Cx) (o:Expr) (m:Str) (apos:Pos) (e f:Expr) (cpos:Pos):Prop where
 base:attributeBase o m X.env (eval o X.env)=eval o X.env
 few:((L7 cpos (KP [e,f] X.env)).all (λx=>!x.1) && (backToKw cpos (keywordEach [] X.env)).all (λx=>x.1.isSome)
  && decide (([e,f]:List Expr).length+([]:List Keyword).length+(if ([]:List Keyword).isEmpty then 0 else 1) < 30))=j'
 line:(apos.endLine == cpos.line)=j'
 trees:L7 cpos (KP [e,f] X.env)=[(f',eval e X.env),(f',eval f X.env)]
def IsD (H:Hp) (a:D'):Prop:=(∃ kvs,Rd H a (.dK kvs))\/∃ kvs,Rd H a (.dT kvs)
def Dr {X:Cx}{Mq:List (D' × LF)}{σ:St}{H:Hp}{s:Kb}{a:D'}(I:Inv X Mq σ H s) (d:IsD H a) :
 s.TypeIs (.ref a) "dict"/\(∀ b,KI a=.ref b->∃ ob,s.heap.get? b=dk ob/\ob.dict=JZ)/\(a == Ls)=f':=by
 rcases d with⟨kvs,e⟩|⟨kvs,e⟩
 . obtain⟨_,hd,vs,_,dd⟩:=xT I.hok e;refine⟨dd.typeIs,λb q=>?_,hd⟩;cases q;obtain⟨ob,_,_,h1,h2,_⟩:=dd;exact⟨ob,h1,h2.2.1⟩
 . obtain⟨_,hd,xs,_,dd⟩:=y0 I.hok e;refine⟨dd.typeIs,λb q=>?_,hd⟩;cases q;obtain⟨ob,_,_,h1,h2,_⟩:=dd;exact⟨ob,h1,h2.2.1⟩
section
variable {X:Cx}{Mq:List (D' × LF)}{σ:St}{H:Hp}{s:Kb}{a:D'}{y d:V}{u r:JW}{o:Option V}{A:KY}{E:JW->Kb->Prop}
end
def Gp (td ty:TE):TE:=λσ H Q=>td σ H λx H1=>∃ a,x=.ref a/\IsD H1 a/\ty σ H1 λy H2=>∃ kvs k v,H2 a=dk (.dK kvs)/\y=kV k/\mw kvs k=dk v/\Q v (upd H2 a (.dK (kA kvs k)))
section
variable {X:Cx}{o e f:Expr}{apos cpos:Pos}{td ty tx:TE}
def mi (ho:PE X o td) (he:PE X e ty) (m:M1 X o "pop" apos e cpos):PE X (.Call (.Attribute o "pop" apos) [e] [] cpos) (Gp td ty):=by
 intro Mq s σ H Q I h;refine wpAny_Call_method m.base m.few m.line PySem.F.plainAttrs_dict LZ PySem.F.type_dict_pop (thn (ho Mq s σ H _ I h) λu s1 ur38=>?_);obtain⟨x,H1,I1,rx,a,ex,d,q1⟩:=ur38;subst ex;obtain rfl:u=KI a:=rx;obtain⟨t1,t2,_⟩:=Dr I1 d;refine⟨t1,t2,?_⟩;rw[m.trees];refine LR rfl (LO (LM (thn (he Mq s1 σ H1 _ I1 q1) λiv s2 ⟨y,H2,I2,ry,kvs,k,v,ea,ey,l,q2⟩=>Calls.spliced_nil ?_)));subst ey;exact FW I2 ea ry l (.inl rfl) λw' s3 I3 rw'=>⟨v,_,I3,rw',q2⟩
end
section
variable {X:Cx}{Mq:List (D' × LF)}{σ:St}{H:Hp}{s:Kb}{a:D'}{kvs:List (Key × V)}{A:KY}{E:JW->Kb->Prop}
end
section
variable {X:Cx}{Mq:List (D' × LF)}{σ:St}{H:Hp}{s:Kb}{a:D'}{y:V}{u:JW}{A:KY}{E:JW->Kb->Prop}
end
end L2
namespace Att
open PySem PySem.W PySem.Calls PyProof.Rows
def oY {P:Params}{h:KN}:∀ (ns:List Int) (vs:List JW),WellAll P h vs (ns.map WData.int)->IntsAre vs ns:=by
 intro ns
 induction ns with
|nil =>
  intro vs w;rw[map_nil]at w;cases w;exact .nil
|cons n ns ih =>
  intro vs w;rw[K1]at w;cases w with
 |cons a b =>
   cases a;exact .cons _ _ (ih _ b)
def B0 {l:OpenLaw}{n:Nat}(hn:l.most=dk n) {P:Params}{h:KN}{args:List WData}{vals:List JW}
 (hpre:l.row.toRowW.claim.pre args=j') (hwl:WellAll P h vals args) :
 ∃ a vs ns,vals=[KI a]/\args=[WData.list (ns.map WData.int)]/\h.get? a=dk { cls:=.type "list",data:=.seq vs.toArray }/\IntsAre vs ns/\ns.length <= n:=by
 have hsh:WShape.hasAll [] args [.list .int]=j':=(pre_splitW hpre).1;have hc:l.pre.holds [] { args:=args }=j':=(pre_splitW hpre).2;obtain⟨d,r,rfl,h1,h2⟩:=hasAllW_cons hsh;obtain rfl:=hasAllW_nil h2;obtain⟨xs,rfl,h3⟩:=hasW_list h1;obtain⟨ns,rfl⟩:=items_int h3;have hlen:ns.length <= n:=by
  unfold OpenLaw.pre at hc;have h4:(WTm.not (.lt (.lit (.int (n:Int))) (.len (.arg 0)))).holds [] { args:=[.list (ns.map .int)] }=j':=by
   have h4:=(holds_andW hc).1;rw[hn]at h4;exact h4
  have h5:=condW_of h4 (w_not (w_lt w_lit (w_len_list (w_arg rfl))));rw[Kv]at h5;refine Nat.le_of_not_lt λq=>?_
  have q':(n:Int) < ((ns.length:Nat):Int):=by omega
  first
  |(rw[Qt q']at h5;exact absurd h5 (by decide))
  |(simp at h5;omega)
 cases hwl with
|cons w1 w2 =>
  cases w2;cases w1 with
 |list ho hall=>exact⟨_,_,ns,rfl,rfl,ho,oY ns _ hall,hlen⟩
def yY (l:OpenLaw) (args:List WData):l.row.toRowW.claim.post args (.bool j') args=j' :=
 postW_of (r:=l.row.toRowW) (X:=(j' == j'))
  (show WShape.has [] (.bool j') .bool=j' by first|rfl|decide|simp[WShape.has,WShape.arms,WShape.armsAll])
  (show (WTm.eq .res (.lit (.bool j'))).value [] { args:=args,res:=dk (.bool j'),after:=args }=dk (.bool (j' == j')) from w_eq_bool (w_res rfl) w_lit) rfl
def attach_call {l:OpenLaw}{n:Nat}{q:Kz}{loose:List Str}{XP:(Str->Option JW)->KN->Prop}{YP:Kk->KN->Prop}{d:DefRec}
 (hn:l.most=dk n) (hdf:d.params.defaults=[])
 (call:∀ (w:Kk) (s₀ s₁:Kb) (mg mb:Str->Option JW) (fa:D') (o:LF) (pm cd doc:JW) (a:D') (vs:List JW) (ns:List Int),
  Ground q loose [] XP w s₀ mg mb s₁.heap->YP w s₁.heap ->
  s₁.heap.get? fa=dk o->o.data=.func (docDef d.name d.params d.body d.scope pm cd doc)->s₁.heap.CodeRec cd d.name->mg d.name=dk (.ref fa) ->
  s₁.heap.get? a=dk { cls:=.type "list",data:=.seq vs.toArray }->IntsAre vs ns->ns.length <= n->s₁.gens=#[] ->
  codeAny (model l.prog w) callerA (.call (.ref fa) ⟨[.ref a],[]⟩) (λr s'=>r=.ok (.ret (.bool j'))/\OldK s₁.heap s'.heap/\s'.os=s₁.os/\AllBare s'.gens) s₁) :
 WalkO q loose XP YP l.row.toRowW d [] (λf vs=>PySem.call f vs):=by
 intro w s₀ s₁ mg mb G Y fa o pm cd doc dV kV ho hd hcd hD hmg hg args vals as hpre hlay hrd hwl hlo;obtain rfl:dV=.none:=Dflts.none hD hdf;obtain rfl:kV=.none:=Dflts.noKw hD;obtain⟨a,vs,ns,rfl,rfl,hobj,hints,hlen⟩:=B0 hn hpre hwl;refine enter_call (codeAny_mono (call w s₀ s₁ mg mb fa o pm cd doc a vs ns G Y ho (fd_plain hd) hcd hmg hobj hints hlen hg) λr s' hq=>?_);obtain⟨rfl,h2,h3,h4⟩:=hq;exact⟨.inl ⟨.bool j',.bool j',[],rfl,λ_=>rfl,.bool j',yY l _,λ_=>⟨Pairwise.nil,λ_ hm=>(nomatch hm)⟩⟩,h2,h3,h4⟩
section
variable {prog:Kz}{w:Kk}{A:KY}{E:JW->Kb->Prop}{s:Kb}{K:Frag}
def IL (h:KN) (L d:D'):List (D' × LF):=(Mm h.objs.size).filterMap λa=>if a=L\/a=d then JZ else (h.get? a).map λo=>(a,o)
end
end Att
namespace L2
open PySem PySem.Spec PyProof.Rows
theorem ua:∀ {vs:List JW}{ns:List Int},IntsAre vs ns->bZ (ns.map V.int) vs
|_,_,.nil=>.nil
|_,_,.cons n t h=>.cons ⟨t,rfl⟩ (ua h)
def HX (H:Hp):Prop:=∀ b,H b=JZ\/∃ o xs,H b=dk (.frz o (.lst xs))
def BS {P:Kz}{w:Kk}{K:Kc}{mg mb:Str->Option JW}{CX:CXT}{k:Nat}{fa a:D'}{fd:Kj}{x:Str}{sp:Sp}{s₁:Kb}{vs:List JW}{ns:List Int}
 (KX:K.In s₁.heap) (hns:s₁.heap.Ns KR mg) (hb:s₁.heap.Ns builtinsNs mb) (hbb:∀ x:Str,x≠"__name__"->mb x=K7 x) (hlim:s₁.heap.NoLimit) (hg:s₁.gens=#[])
 (ha:s₁.heap.get? a=dk { cls:=.type "list",data:=.seq vs.toArray }) (hi:IntsAre vs ns) (hl:ns.length <= Ki) (hr:Room k callerA)
 (F:∀ base:KN,K.In base->base.Ns KR mg->FnOk P w K mg base CX k fa fd [x] sp) (hbind:∀ (s:Kb) (u:JW),BindsTo s fd ⟨[u],[]⟩ [(x,u)])
 (hsp:∀ H:Hp,HX H->SqL K H a (ns.map V.int)->sp [.ref a] H (λv _=>v=.bl j') λ_ _ _=>False)
 (hCX:∀ H e s',CX [] H s₁ (λ_ _ _=>False) e s'->False) :
 codeAny (model P w) callerA (.call (.ref fa) ⟨[.ref a],[]⟩) (λr s'=>r=.ok (.ret (.bool j'))/\OldK s₁.heap s'.heap/\s'.os=s₁.os/\AllBare s'.gens) s₁:=by
 have rv:=ua hi;have lenV:=hi.length;have core:∀ H:Hp,HX H->SqL K H a (ns.map V.int)->HOk P w H s₁.heap->(∀ b,H b≠JZ->b=a)->(H a≠JZ->K.lookup a=JZ) ->
  codeAny (model P w) callerA (.call (.ref fa) ⟨[.ref a],[]⟩) (λr s'=>r=.ok (.ret (.bool j'))/\OldK s₁.heap s'.heap/\s'.os=s₁.os/\AllBare s'.gens) s₁:=by
  intro H hO hS hok hA hK;have base_of:∀ {b:D'} {o:LF},s₁.heap.get? b=dk o->H b=JZ->(BQ s₁.heap H).get? b=dk o:=λe n=>BN e n
  have noA:∀ {b:D'} {o:LF} {es:Array KQ} {ep:Nat},s₁.heap.get? b=dk o->o.data=.dict es ep->H b=JZ:=λ{b o es ep} e d=>by
   cases q:H b with
  |none=>rfl
  |some u =>
    have e':b=a:=hA b (by rw[q];simp);subst e';rw[ha]at e;cases e;have d':Data.seq vs.toArray _=Data.dict es ep:=d;cases d'
  have nsK:∀ {b:D'} {m:Str->Option JW},s₁.heap.Ns b m->(BQ s₁.heap H).Ns b m:=λ{b m} ⟨o,es,ep,e,d,r⟩=>⟨o,es,ep,base_of e (noA e d),d,r⟩
  have hKb:K.In (BQ s₁.heap H):=λb o e=>base_of (KX b o e) (by
   cases q:H b with
  |none=>rfl
  |some u =>
    have e':b=a:=hA b (by rw[q];simp);subst e';rw[hK (by rw[q];simp)]at e;cases e)
  have hM:Mod K mg (BQ s₁.heap H):=⟨hKb,nsK hns,⟨mb,nsK hb,hbb⟩,let ⟨mc,h1,h2⟩:=hlim;⟨mc,nsK h1,h2⟩⟩
  have e0:Env0 P w K mg (BQ s₁.heap H) callerA [] s₁ H:=⟨rfl,hM,λb o e=>F8 e,Nat.le_of_eq (yO _ _),trivial,λb hb=>absurd (show b∈([]:List D') from hb) (by simp),hok,.of_eq hg⟩
  refine codeAny_mono ((F _ hKb (nsK hns)).run callerA [] s₁ H ⟨[.ref a],[]⟩ [.ref a] [.ref a] _ _ hr e0 (hbind s₁ (.ref a)) (.cons rfl .nil) (hsp H hO hS)) λr s' h=>?_
  cases r with
 |error e=>exact(hCX H e s' h).elim
 |ok fl =>
   cases fl with
  |next=>exact Lj h
  |brk=>exact Lj h
  |cont=>exact Lj h
  |ret u =>
    obtain⟨v,H',os,bare,un,hok',r',q⟩:=h;have q':v=.bl j':=q;subst q';obtain rfl:u=JW.bool j':=r';refine⟨rfl,OldK.of_keep λb o e=>?_,os,bare⟩;cases q:H b with
   |none=>exact un.keep b o e q (by intro z;exact absurd (show b∈([]:List D') from z) (by simp)) (by simp)
   |some u =>
     rcases hO b with z|⟨ob,xs,z⟩
     . rw[q]at z;cases z
     . have z2:=un.frzs b ob _ z;obtain⟨e1,_⟩:=hok b _ z;obtain⟨e2,_⟩:=hok' b _ z2;rw[e]at e1;cases e1;exact e2
 cases hk:K.lookup a with
|some o =>
  have e:=KX a o hk;rw[ha]at e;cases e;refine core (λ_=>JZ) (λ_=>.inl rfl) (.inr ⟨_,vs.toArray,_,hk,rfl,rfl,rfl,by rw[KD,lenV];exact hl,by simpa using rv⟩) (λb u z=>by have z':(JZ:Option HO)=dk u:=z;cases z') (λb z=>absurd rfl z) λz=>absurd rfl z
|none =>
  refine core (λb=>if b=a then dk (.frz { cls:=.type "list",data:=.seq vs.toArray } (.lst (ns.map V.int))) else JZ) (λb=>?_) (.inl (.inr ⟨{ cls:=.type "list",data:=.seq vs.toArray },Qq rfl⟩)) (λb u z=>?_) (λb z=>?_) λ_=>hk
  . by_cases hb:b=a
    . exact .inr ⟨_,_,Qq hb⟩
    . exact .inl (Qr hb)
  . by_cases hb:b=a
    . have z':=(Qq hb).symm.trans z;cases z';subst hb;exact⟨ha,by rw[Kv];exact hl,vs,_,rv,ha⟩
    . have z':=(Qr hb).symm.trans z;cases z'
  . by_cases hb:b=a
    . exact hb
    . exact absurd (Qr hb) z
def walk_of {l:PySem.W.OpenLaw}{n k:Nat}{q:Kz}{loose:List Str}{XP:(Str->Option JW)->KN->Prop}{YP:Kk->KN->Prop}{d:DefRec}{K:Params->Kc}{CX:Kk->CXT}{sp:Kk->Sp}{x:Str}
 (hn:l.most=dk n) (hn2:n <= Ki) (hdf:d.params.defaults=[]) (hr:Room k callerA)
 (hY:∀ (w:Kk) (h:KN),YP w h->(K w.params).In h)
 (F:∀ (w:Kk) (mg:Str->Option JW) (fa:D') (h:KN),(K w.params).In h->h.Ns KR mg->mg d.name=dk (.ref fa) ->
  ∃ fd:Kj,(∀ (s:Kb) (u:JW),BindsTo s fd ⟨[u],[]⟩ [(x,u)]) /\
   ∀ base:KN,(K w.params).In base->base.Ns KR mg->FnOk l.prog w (K w.params) mg base (CX w) k fa fd [x] (sp w))
 (hsp:∀ (w:Kk) (H:Hp) (a:D') (ns:List Int),ns.length <= n->HX H->SqL (K w.params) H a (ns.map V.int)->sp w [.ref a] H (λv _=>v=.bl j') λ_ _ _=>False)
 (hCX:∀ (w:Kk) (H:Hp) (s:Kb) (e:JW) (s':Kb),CX w [] H s (λ_ _ _=>False) e s'->False) :
 PySem.W.WalkO q loose XP YP l.row.toRowW d [] (λf vs=>PySem.call f vs):=by
 refine Att.attach_call hn hdf λw s₀ s₁ mg mb fa o pm cd doc a vs ns G Y ho hd hcd hmg hobj hints hlen hg=>?_
 have KX:=hY w _ Y;obtain⟨fd,hb,hF⟩:=F w mg fa _ KX G.T.g hmg;exact BS KX G.T.g G.T.b G.T.builtins G.T.nolimit hg hobj hints (K6 hlen hn2) hr hF hb (λH hO hS=>hsp w H a ns hlen hO hS) λH e s'=>hCX w H s₁ e s'
def aD (s:K0) (j:Nat):K0:=match s with
|.ClassDef _ _ _ body _ _ _ _ _ _ _=>body.getD j (.Pass ⟨0,0,0,0⟩)
|_=>.Pass ⟨0,0,0,0⟩
def gf (s:K0):Arguments:=match s with
|.FunctionDef _ a _ _ _ _ _ _ _ _=>a
|_=>{ posonlyargs:=[],args:=[],vararg:=JZ,kwonlyargs:=[],kw_defaults:=[],kwarg:=JZ,defaults:=[] }
def eG (s:K0):List K0:=match s with
|.FunctionDef _ _ b _ _ _ _ _ _ _=>b
|_=>[]
def aj (s:K0):Scope:=match s with
|.FunctionDef _ _ _ _ _ _ sc _ _ _=>sc
|_=>{ kind:=.function,names:=[],isGenerator:=f',isCoroutine:=f' }
abbrev CX0:CXT:=λ_ _ _ _ _ _=>False
abbrev E0:XK:=λ_ _ _=>False
def av {X:Cx}:kO CX0 X E0:=λ_ _ _ _ _ _ _ h=>h.elim
structure Fun (K:Kc) (x qual:Str) (st:K0) (f:D') (fd:Kj):Prop where
 ex:∃ (oc:JW) (od:Option D') (kV doc pm:JW) (an:Option D') (cdv ct:JW) (osl:Array (Option JW)),
  fd=fnOf x qual (gf st) (eG st) (aj st) .none kV doc pm an cdv ct/\K.lookup f=dk ⟨oc,od,.func fd,osl⟩/\codeIn K cdv qual=j'
 kp:keepIn K (.ref f)=j'
section
variable {P:Kz}{w:Kk}{K:Kc}{mg:Str->Option JW}{base:KN}
def Fun.ok {x qual:Str}{st:K0}{f:D'}{fd:Kj}{N ps:List Str}{k:Nat}{sp:Sp}(F:Fun K x qual st f fd) (S:FnScope N ps (aj st)) (len:∀ vs H Q E,sp vs H Q E->vs.length=ps.length)
 (hbody:∀ (cdv:JW) (A:KY) (outer:List Env) (s:Kb) (H:Hp) (vs:List V) (Q:VK) (E:XK),Room k (A.deeper (envOfC qual (aj st) s.heap.objs.size f cdv))->sp vs H Q E ->
  ∃ t,PSs (CZ CX0 P w K mg base N qual (aj st) f cdv A outer s H E).nox (eG st) t/\t { nx:=λ_ H'=>Q .non H',rt:=Q } (sk N vs) H):FnOk P w K mg base CX0 (k+1) f fd ps sp:=by
 obtain⟨oc,od,kV,doc,pm,an,cdv,ct,osl,rfl,lk,hcd⟩:=F.ex;refine G3 lk hcd S len λA outer s H vs Q E hr hsp=>?_
 obtain⟨t,h,q⟩:=hbody cdv A outer s H vs Q E hr hsp;exact⟨t,h.nox,q⟩
def Fun.binds {x qual:Str}{st:K0}{f:D'}{fd:Kj}{ps:List Str}(F:Fun K x qual st f fd)
 (h:∀ (kV doc pm:JW) (an:Option D') (cdv ct:JW) (us:List JW),us.length=ps.length->bindArgs (fnOf x qual (gf st) (eG st) (aj st) .none kV doc pm an cdv ct) ⟨us,[]⟩=pure (ps.zip us)):aG K fd ps []:=by
 obtain⟨oc,od,kV,doc,pm,an,cdv,ct,osl,rfl,lk,hcd⟩:=F.ex;exact .all (h kV doc pm an cdv ct)
def fun_mk {x qual:Str}{st:K0}{f:D'}{oc:JW}{od an:Option D'}{osl:Array (Option JW)}{kV doc pm cdv ct:JW}(l:K.lookup f=dk ⟨oc,od,.func (fnOf x qual (gf st) (eG st) (aj st) .none kV doc pm an cdv ct),osl⟩)
 (c:codeIn K cdv qual=j') (k:keepIn K (.ref f)=j'):Fun K x qual st f (fnOf x qual (gf st) (eG st) (aj st) .none kV doc pm an cdv ct):=⟨⟨oc,od,kV,doc,pm,an,cdv,ct,osl,rfl,l,c⟩,k⟩
end
def dR {A:KY}{k:Nat}(hr:Room k A):A.units+1 < L8:=Nat.lt_of_le_of_lt (Nat.add_le_add_left (by decide:1 <= 64) _) hr.units
section
variable {X:Cx}
def pv (i:Nat) {x:Str}{pos:Pos}(hN:X.N[i]?=dk x:=by rfl) (hv:Vis X.env.scope x:=by first|exact KU rfl|exact Or.inr (KU rfl)|exact Or.inr (Or.inr rfl)) (hd:(x == ("__debug__":Str))=f':=by decide)
 (hcd:(x == ("__classdict__":Str))=f':=by decide):PE X (.Name x pos) (tO i):=GY hN hv hd hcd
end
def iE {A B:Prop}(h:B):if f'=j' then A else B:=by
 rw[Qr Kr];exact h
def jt {A B:Prop}(h:A):if j'=j' then A else B:=by
 rw[Qq rfl];exact h
def Bi {c A B:Prop} [Decidable c] (h1:c->A) (h2:¬ c->B):if c then A else B:=by
 by_cases h:c
 . rw[Qq h];exact h1 h
 . rw[Qr h];exact h2 h
def bL (H H':Hp):Prop:=∀ b o,H b=dk o->H' b=dk o
def bL.refl (H:Hp):bL H H:=λ_ _ h=>h
def bL.trans {H H1 H2:Hp}(a:bL H H1) (b:bL H1 H2):bL H H2:=λc o h=>b c o (a c o h)
def bL.seq {K:Kc}{H H':Hp}{a:D'}{xs:List V}(e:bL H H') (h:SqL K H a xs):SqL K H' a xs:=by
 rcases h with (h|⟨o,h⟩)|h
 . exact .inl (.inl (e _ _ h))
 . exact .inl (.inr ⟨o,e _ _ h⟩)
 . exact .inr h
section
variable {X:Cx}
end
section
variable {κ:Type} [DecidableEq κ]
end
def Gh:K7 "int"=dk (.type "int"):=by decide +kernel
def F6:K7 "bool"=dk (.type "bool"):=by decide +kernel
def yV:K7 "list"=dk (.type "list"):=by decide +kernel
def rY:K7 "tuple"=dk (.type "tuple"):=by decide +kernel
def Gy:K7 "str"=dk (.type "str"):=by decide +kernel
def vZ:K7 "reversed"=dk (.type "reversed"):=by decide +kernel
def ez:K7 "isinstance"=dk (.builtin "isinstance"):=by decide +kernel
def je:K7 "len"=dk (.builtin "len"):=by decide +kernel
section
variable {X:Cx}
def fI:uP X (.builtin "isinstance") (λxs H Q=>∃ x c t b,xs=[x,V.ty c]/\TyOf X.K H x t/\kitOne X.K t (.type c)=dk b/\Q (.bl b) H):=by
 intro Mq s σ H xs us Q I r h;obtain⟨x,c,t,b,rfl,ty,e,q⟩:=h;obtain⟨u,w',rfl,ru,rw⟩:=GJ r;cases rw;exact Az I ru ty e λtk=>⟨.bl b,H,I.tok _,rfl,q⟩
def Ia (_i j:Int):Prop:=0 < j/\j < 2 ^ 40
def wJ:OpR X (binaryOp .FloorDiv) (rI Ia λi j=>.int (i / j)):=opI λi j _ _ _ _ _ hc q=>by
 have h1:(0:Int) < j:=hc.1;have h2:j < 2 ^ 40:=hc.2;refine floordiv_int (by omega) (by rw[Int.fdiv_eq_ediv_of_nonneg i (by omega)];exact q) (.inl (PyProof.noPylong_of_log2 ?_));have h3:j.natAbs≠0:=by omega
 have h4:j.natAbs.log2 < 40:=(Nat.log2_lt h3).mpr (by omega);omega
end
def jj {c A B:Prop} [Decidable c] (hc:c) (h:A):if c then A else B:=by
 rw[Qq hc];exact h
def d0 {c A B:Prop} [Decidable c] (hc:¬ c) (h:B):if c then A else B:=by
 rw[Qr hc];exact h
def pV {i j:Int}(h0:0 <= i) (h1:i < 4294967296):Hh i j:=.inl ⟨Int.lt_of_lt_of_le (by decide) h0,Int.lt_trans h1 (by decide)⟩
def JT {x y z:V}:[x,y,z].length <= Ki:=by show 3 <= Ki;decide
def at3 {x y z:V}{i:Int}(h0:0 <= i) (h1:i < 3):∃ v,atI [x,y,z] i=dk v/\(v=x\/v=y\/v=z):=by
 have h:i=0\/i=1\/i=2:=by omega
 rcases h with rfl|rfl|rfl
 . exact⟨x,rfl,.inl rfl⟩
 . exact⟨y,rfl,.inr (.inl rfl)⟩
 . exact⟨z,rfl,.inr (.inr rfl)⟩
def ag {H:Hp}{p:D'}{o:HO}(h:H p=JZ):bL H (upd H p o):=λb u e=>by
 rw[ac (ae e h)];exact e
section
variable {X:Cx}
end
end L2
set_option Elab.async false
set_option maxRecDepth 100000
set_option maxHeartbeats 4000000
namespace MX
open PySem PySem.W
mutual
def kd:Ka->Bool
|.int _=>j'
|.str x=>Lf x
|.tuple xs=>kds xs
|.none=>f'
|.bool _=>f'
|.list _=>f'
|.dict _=>f'
def kds:List Ka->Bool
|[]=>j'
|x :: xs=>kd x && kds xs
end
mutual
def hashD (w:Kk):Ka->Int
|.int i=>hashInt i
|.str x=>hashStr w x
|.tuple xs=>reduceHash (Builtin.Tuple.tupleHashOf (tT w xs))
|.none=>0
|.bool _=>0
|.list _=>0
|.dict _=>0
def tT (w:Kk):List Ka->List Int
|[]=>[]
|x :: xs=>hashD w x :: tT w xs
end
mutual
theorem kd_lay:∀ d:Ka,kd d=j'->d.canLay0=j'
|.int _,_=>rfl
|.str _,h=>h
|.tuple xs,h=>Ax xs h
|.none,h=>by cases h
|.bool _,h=>by cases h
|.list _,h=>by cases h
|.dict _,h=>by cases h
theorem Ax:∀ xs:List Ka,kds xs=j'->Lv xs=j'
|[],_=>rfl
|x :: xs,h=>by
  have h':(kd x && kds xs)=j':=h;rw[Lk]at h';show (x.canLay0 && Lv xs)=j';rw[kd_lay x h'.1,Ax xs h'.2];rfl
end
def D7 {p q:Prop}(h1:¬ p) (h2:¬ q):p ↔ q:=⟨λz=>(h1 z).elim,λz=>(h2 z).elim⟩
mutual
theorem eqv_iff:∀ d e:Ka,kd d=j'->kd e=j'->(Kn d e=j' ↔ d=e)
|.int a,.int b,_,_=>by
  show (a == b)=j' ↔ _;rw[beq_iff_eq];exact⟨λz=>by rw[z],λz=>by injection z⟩
|.str a,.str b,_,_=>by
  show (a == b)=j' ↔ _;rw[beq_iff_eq];exact⟨λz=>by rw[z],λz=>by injection z⟩
|.tuple xs,.tuple ys,h1,h2=>by
  have q:=eqvs_iff xs ys h1 h2;show Ka.eqvAll xs ys=j' ↔ _;rw[q];exact⟨λz=>by rw[z],λz=>by injection z⟩
|.int _,.str _,_,_=>D7 (λz=>by cases z) (λz=>by cases z)
|.int _,.tuple _,_,_=>D7 (λz=>by cases z) (λz=>by cases z)
|.str _,.int _,_,_=>D7 (λz=>by cases z) (λz=>by cases z)
|.str _,.tuple _,_,_=>D7 (λz=>by cases z) (λz=>by cases z)
|.tuple _,.int _,_,_=>D7 (λz=>by cases z) (λz=>by cases z)
|.tuple _,.str _,_,_=>D7 (λz=>by cases z) (λz=>by cases z)
theorem eqvs_iff:∀ xs ys:List Ka,kds xs=j'->kds ys=j'->(Ka.eqvAll xs ys=j' ↔ xs=ys)
|[],[],_,_=>⟨λ_=>rfl,λ_=>rfl⟩
|[],_ :: _,_,_=>D7 (λz=>by cases z) (λz=>by cases z)
|_ :: _,[],_,_=>D7 (λz=>by cases z) (λz=>by cases z)
|x :: xs,y :: ys,h1,h2=>by
  have h1':(kd x && kds xs)=j':=h1;have h2':(kd y && kds ys)=j':=h2;rw[Lk]at h1' h2';show (Kn x y && Ka.eqvAll xs ys)=j' ↔ _;rw[Lk,eqv_iff x y h1'.1 h2'.1,eqvs_iff xs ys h1'.2 h2'.2];exact⟨λz=>by rw[z.1,z.2],λz=>by injection z with a b;exact⟨a,b⟩⟩
end
section
variable {prog:Kz}{w:Kk}{E:JW->Kb->Prop}
mutual
theorem wg:∀ (k:Ka) (v:JW) (as:List D') (A:KY) (s:Kb) (Q:Int->Kb->Prop),kd k=j'->Reads s.heap v k as->A.units+k.depth < L8 ->
 (∀ tk,Q (hashD w k) { s with toks:=tk })->Kq (model prog w) A (pyHash v) Q E s
|.int i,_,_,A,s,Q,_,x,_,h=>by cases x;exact wpAny_pyHash_int (h _)
|.str y,_,_,A,s,Q,_,x,_,h=>by cases x;exact wpAny_pyHash_str (h _)
|.tuple xs,_,_,A,s,Q,hk,x,hu,h=>by
  cases x with
 |@tuple a o vs n _ _ hg hc hdt hw =>
   refine pyHash_slot (T:="tuple") ⟨_,hg,hc⟩ F.slot_tuple_hash F.entry_tuple_hash (F.args_tuple_hash_1 _) (beq_builtin_none _) (.inr (Nat.lt_of_le_of_lt (Nat.le_add_right _ _) hu)) ?_;show Kq _ _ (Builtin.Tuple.tupleItemsOf (.ref a) >>= _) _ _ s;refine G' (wpAny_tupleItemsOf hg hdt (G' ?_));rw[<-Array.forIn_toList];refine wE xs _ _ A.in1 s #[] _ hk hw (by simp only[Ka.depth,KY.in1_units]at hu |-;omega) λtk b hb=>?_
   show Kq _ _ (retInt (Builtin.Tuple.tupleHashOf b.toList)) _ _ _;rw[hb];exact G' (wpAny_mkInt (Ke ⟨_,_,rfl,h _⟩))
|.none,_,_,_,_,_,h,_,_,_=>by cases h
|.bool _,_,_,_,_,_,h,_,_,_=>by cases h
|.list _,_,_,_,_,_,h,_,_,_=>by cases h
|.dict _,_,_,_,_,_,h,_,_,_=>by cases h
theorem wE:∀ (xs:List Ka) (vs:List JW) (as:List D') (A:KY) (s:Kb) (b:Array Int) (Q:Array Int->Kb->Prop),kds xs=j'->ReadsAll s.heap vs xs as->A.units+L0 xs < L8 ->
 (∀ tk b',b'.toList=b.toList++tT w xs->Q b' { s with toks:=tk }) ->
 Kq (model prog w) A (forIn vs b λx r=>do let h <-pyHash x;pure PUnit.unit;pure (ForInStep.yield (r.push h))) Q E s
|[],_,_,A,s,b,Q,_,x,_,h=>by cases x;exact Ke (h s.toks b (by simp[tT]))
|k :: xs,_,_,A,s,b,Q,hk,x,hu,h=>by
  cases x with
 |cons x1 x2 =>
   have hk':(kd k && kds xs)=j':=hk;rw[Lk]at hk';simp only[L0]at hu;rw[forIn_cons];refine G' (G' (wg k _ _ A s _ hk'.1 x1 (by omega) λtk=>G' (Ke (Ke ?_))));exact wE xs _ _ A _ _ Q hk'.2 x2 (by omega) λtk' b' hb=>h tk' b' (by simp[hb,tT])
end
def x8:∀ (n:Nat) (k:Ka) (v:JW) (as:List D') (A:KY) (s:Kb) (Q:Bool->Kb->Prop),kd k=j'->Reads s.heap v k as->k.depth <= n ->
 Q j' s->Kq (model prog w) A (eqIsQuiet n v) Q E s:=by
 intro n
 induction n with
|zero =>
  intro k v as A s Q hk x hu h;cases x with
 |int i t=>rw[eqIsQuiet_byValue 0 rfl];exact Ke h
 |str i t=>rw[eqIsQuiet_byValue 0 rfl];exact Ke h
 |tuple=>simp only[Ka.depth]at hu;omega
 |none=>cases hk
 |bool=>cases hk
 |list=>cases hk
 |dict=>cases hk
|succ n ih =>
  intro k v as A s Q hk x hu h;cases x with
 |int i t=>rw[eqIsQuiet_byValue _ rfl];exact Ke h
 |str i t=>rw[eqIsQuiet_byValue _ rfl];exact Ke h
 |none=>cases hk
 |bool=>cases hk
 |list=>cases hk
 |dict=>cases hk
 |@tuple a o vs m xs _ hg hc hdt hw =>
   have hT:s.TypeIs (.ref a) "tuple":=⟨_,hg,hc⟩
   unfold eqIsQuiet;refine G' (wpAny_specialOf hT F.slot_tuple_eq.lookup ?_);show Kq _ _ (isInstance (.ref a) (.type "tuple") >>= _) _ _ s;refine G' (wpAny_isInstance hT isSubtype_tuple_tuple ?_);simp only[Bool.not_true,Ll,if_false];refine G' (LV hg hdt (G' ?_));show Kq _ _ (forIn vs _ _) _ _ s;rw[<-Array.forIn_toList];refine wpAny_forIn_list _ (λrest r s'=>r.1=JZ/\s'=s/\∃ ys bs,ReadsAll s.heap rest ys bs/\kds ys=j'/\L0 ys <= n) _ ?_ ?_ _ _
    ⟨rfl,rfl,xs,_,hw,hk,by simp only[Ka.depth]at hu;omega⟩
   . rintro y rest r s' ⟨hr,rfl,ys,bs,rd,hks,hdp⟩;cases rd with
    |@cons _ _ d ds _ _ r1 r2 =>
      have hks':(kd d && kds ds)=j':=hks;rw[Lk]at hks';simp only[L0]at hdp;refine G' (ih d _ _ A _ _ hks'.1 r1 (by omega) ?_);simp only[Bool.not_true,Ll,if_false];exact Ke ⟨rfl,rfl,ds,_,r2,hks'.2,by omega⟩
   . rintro⟨r1,r2⟩ s' ⟨hr,rfl,_⟩;simp only at hr;subst hr;exact Ke h
def Ent (w:Kk) (h:KN) (k:Ka) (e:KQ):Prop:=kd k=j'/\k.depth <= 8/\(∃ as,Reads h e.key k as)/\e.hash=hashD w k
def Ask (h:KN) (k:Ka) (v:JW):Prop:=kd k=j'/\k.depth <= 8/\(∃ as,Reads h v k as)/\((∃ x t,v=.str x t)\/∃ a,v=.ref a)
abbrev Ents (w:Kk) (h:KN) (ks:List Ka) (es:List KQ):Prop:=Kx (Ent w h) ks es
theorem f2_get {α β:Type}{R:α->β->Prop}:∀ {xs:List α}{ys:List β},Kx R xs ys->∀ (j:Nat) (y:β),ys[j]?=dk y->∃ x,xs[j]?=dk x/\R x y
|_,_,.nil,j,y,h=>by simp at h
|_,_,.cons r t,0,y,h=>by simp at h;subst h;exact⟨_,rfl,r⟩
|_,_,.cons r t,j+1,y,h=>by
  obtain⟨x,e,q⟩:=f2_get t j y (by simpa using h);exact⟨x,by simpa using e,q⟩
theorem vY {α β:Type}{R:α->β->Prop}:∀ {xs:List α}{ys:List β},Kx R xs ys->∀ (j:Nat) (x:α),xs[j]?=dk x->∃ y,ys[j]?=dk y/\R x y
|_,_,.nil,j,y,h=>by simp at h
|_,_,.cons r t,0,y,h=>by simp at h;subst h;exact⟨_,rfl,r⟩
|_,_,.cons r t,j+1,y,h=>by
  obtain⟨x,e,q⟩:=vY t j y (by simpa using h);exact⟨x,by simpa using e,q⟩
def xI {n:Nat}{f:Nat->Option Int}{h:Int}{j:Nat}(hj:j < n) (e:f j=dk h):j∈La n f h:=by
 unfold La;exact Mn.mpr ⟨mem_range.mpr hj,by rw[e];simp⟩
def oI {n:Nat}{f:Nat->Option Int}{h:Int}{j:Nat}(hj:j∈La n f h):j < n:=by
 unfold La at hj;exact mem_range.mp (Mn.mp hj).1
def uc {n:Nat}{f:Nat->Option Int}{h:Int}:(La n f h).Nodup:=by
 unfold La;exact Nodup.sublist List.filter_sublist List.nodup_range
def GL {α:Type}{xs:List α}(hn:xs.Nodup) {i j:Nat}{k:α}(hi:xs[i]?=dk k) (hj:xs[j]?=dk k):i=j :=
 (List.getElem?_inj (Kw.mp hi).1 hn).mp (hi.trans hj.symm)
variable {A:KY}{s:Kb}
def Dl {d:D'}{o:LF}{es:Array KQ}{ep:Nat}{ks:List Ka}{k:Ka}{key:JW}{Q:Option Nat->Kb->Prop}(hu:A.units+8 < L8) (hk:Ask s.heap k key)
 (ho:s.heap.get? d=dk o) (hd:o.data=.dict es ep) (hes:Ents w s.heap ks es.toList) (hn:ks.Nodup) (hnone:k ∉ ks->Q JZ s) (hsome:∀ j:Nat,ks[j]?=dk k->Q (dk j) s) :
 Kq (model prog w) A (dictFind d key (hashD w k)) Q E s:=by
 obtain⟨kk,kdp,⟨as,kr⟩,ksh⟩:=hk;have hget:∀ (j:Nat) (e:KQ),es[j]?=dk e->∃ k',ks[j]?=dk k'/\Ent w s.heap k' e:=λj e h=>f2_get hes j e (by rw[LX];exact h)
 have hget':∀ (j:Nat) (k':Ka),ks[j]?=dk k'->∃ e,es[j]?=dk e/\Ent w s.heap k' e:=λj k' h=>by
  obtain⟨e,h1,h2⟩:=vY hes j k' h;exact⟨e,by rw[<-LX];exact h1,h2⟩
 have hplace:∀ j:Nat,ks[j]?=dk k->j∈La es.size (λi=>es[i]?.map (·.hash)) (hashD w k):=λj h=>by
  obtain⟨e,h1,_,_,_,h2⟩:=hget' j k h;exact xI (Array.getElem?_eq_some_iff.mp h1).1 (by rw[h1,<-h2];rfl)
 have heq:∀ (k':Ka) (e:KQ) (R:Bool->Kb->Prop),Ent w s.heap k' e->(k'=k->R j' s)->(k'≠k->R f' s)->Kq (model prog w) A (eqBool e.key key) R E s:=λk' e R h h1 h2=>by
  obtain⟨ek,ed,⟨bs,er⟩,_⟩:=h;refine SeqAt.eqAt_reads k' k A s _ _ _ _ er kr (kd_lay _ ek) (kd_lay _ kk) (by omega) prog w E R ?_;by_cases z:k'=k
  . rw[(eqv_iff k' k ek kk).mpr z];exact h1 z
  . have:Kn k' k=f':=by
     cases q:Kn k' k with
    |false=>rfl
    |true=>exact absurd ((eqv_iff k' k ek kk).mp q) z
    rw[this];exact h2 z
 have none_of:(∀ j:Nat,ks[j]?=dk k->j∈([]:List Nat))->Q JZ s:=λh=>hnone λm=>by
  obtain⟨j,hj⟩:=List.mem_iff_getElem?.mp m;exact absurd (h j hj) (by simp)
 have plain:Kq (model prog w) A (dictWalkPlain d key (hashD w k) es (La es.size (λi=>es[i]?.map (·.hash)) (hashD w k))) Q E s:=by
  refine G' ?_;refine wpAny_forIn_list _ (λrest b s'=>s'=s/\b=(JZ,())/\(∀ j:Nat,ks[j]?=dk k->j∈rest)/\∀ j∈rest,j < es.size) _ ?_ ?_ _ _ ⟨rfl,rfl,hplace,λj=>oI⟩
  . rintro x rest b s' ⟨rfl,rfl,hin,hlt⟩;have hx:=hlt x Km;have hlt':∀ j∈rest,j < es.size:=λj hj=>hlt j (Kl _ hj)
    obtain⟨k',hk',he⟩:=hget x es[x] (KW hx);have next:k'≠k->∀ j:Nat,ks[j]?=dk k->j∈rest:=λz j hj=>by
     rcases KA.mp (hin j hj) with q|q
     . subst q;rw[hk']at hj;exact absurd (KH hj) z
     . exact q
    simp only[KW hx];by_cases hh:(es[x].hash == hashD w k)=j'
    . rw[Qq hh];refine G' (Ln ho hd (G' (heq k' es[x] _ he (λz=>G' (Ln ho hd ?_)) (λz=>G' (Ln ho hd ?_)))))
      . show Kq _ _ (if (ep != ep)=j' then _ else _) _ E _;rw[Qr (by simp)];exact G' (LU (Ke (Ke (hsome x (z ▸ hk')))))
      . show Kq _ _ (if (ep != ep)=j' then _ else _) _ E _;rw[Qr (by simp)];exact G' (LU (Ke ⟨rfl,rfl,next z,hlt'⟩))
    . rw[Qr hh];refine Ke ⟨rfl,rfl,next λz=>hh ?_,hlt'⟩;rw[he.2.2.2,z];simp
  . rintro b s' ⟨rfl,rfl,hin,_⟩;exact Ke (none_of hin)
 have hstored:∀ v∈(La es.size (λi=>es[i]?.map (·.hash)) (hashD w k)).filterMap (λi=>es[i]?.map (·.key)),∃ k' bs,kd k'=j'/\k'.depth <= 8/\Reads s.heap v k' bs:=λv hv=>by
  obtain⟨i,_,hi⟩:=mem_filterMap.mp hv;cases q:es[i]? with
 |none=>rw[q]at hi;cases hi
 |some e =>
   rw[q]at hi;have z:e.key=v:=by simpa using hi
   obtain⟨k',_,h1,h2,⟨bs,h3⟩,_⟩:=hget i e q;exact⟨k',bs,h1,h2,z ▸ h3⟩
 have htell:∀ (R:Bool->Kb->Prop),R f' s->Kq (model prog w) A (tableMayTell key ((La es.size (λi=>es[i]?.map (·.hash)) (hashD w k)).filterMap (λi=>es[i]?.map (·.key)))) R E s:=λR h=>by
  unfold tableMayTell;split
  . exact Ke h
  . refine G' (x8 8 k key _ A s _ kk kr kdp ?_);simp only[Bool.not_true,Ll,if_false];refine G' ?_;refine wpAny_forIn_list _ (λrest r s'=>s'=s/\r=(JZ,())/\∀ v∈rest,∃ k' bs,kd k'=j'/\k'.depth <= 8/\Reads s.heap v k' bs) _ ?_ ?_ _ _ ⟨rfl,rfl,hstored⟩
    . rintro x rest r s' ⟨rfl,rfl,hr⟩;obtain⟨k',bs,h1,h2,h3⟩:=hr x Km;refine G' (x8 8 k' x _ A _ _ h1 h3 h2 ?_);simp only[Bool.not_true,Ll,if_false];exact Ke ⟨rfl,rfl,λv hv=>hr v (Kl _ hv)⟩
    . rintro r s' ⟨rfl,rfl,_⟩;exact Ke h
 have hany:∀ a:D',key=.ref a->¬ (es.any λe=>e.key == KI a && e.hash != hashD w k)=j':=by
  rintro a rfl h;rw[<-Array.any_toList,any_eq_true]at h;obtain⟨e,hin,hc⟩:=h;obtain⟨j,hj⟩:=List.mem_iff_getElem?.mp hin;obtain⟨k',hk',h1,h2,⟨bs,h3⟩,h4⟩:=hget j e (by rw[<-LX];exact hj);rw[Lk]at hc;have z1:e.key=.ref a:=beq_iff_eq.mp hc.1;rw[z1]at h3;have z2:=SeqAt.Reads.unique k' k _ _ _ (kd_lay _ h1) h3 kr;rw[h4,z2]at hc;simp at hc
 unfold dictFind;refine LG ?_;refine G' (wpAny_dictEntries ho hd ?_);dsimp only;rcases ksh with⟨x,t,rfl⟩|⟨a,rfl⟩
 . dsimp only;by_cases hstr:(es.all λe=>isExactStrKey e.key)=j'
   . rw[Qq hstr];unfold foundByValue;have kx:k=.str x:=by cases kr;rfl
     have hkey:∀ (j:Nat) (e:KQ),es[j]?=dk e->∃ k',ks[j]?=dk k'/\Ent w s.heap k' e/\(e.key.isStr x=j' ↔ k'=k):=λj e h=>by
      obtain⟨k',h1,h2⟩:=hget j e h;refine⟨k',h1,h2,?_⟩;have hs:isExactStrKey e.key=j':=by
       have q:=Array.all_eq_true.mp hstr;obtain⟨hl,he⟩:=Array.getElem?_eq_some_iff.mp h;have:=q j hl;rw[he]at this;exact this
      obtain⟨_,_,⟨bs,h3⟩,_⟩:=h2;cases hv:e.key with
     |str y u =>
       rw[hv]at h3;cases h3;show (y == x)=j' ↔ _;rw[kx,beq_iff_eq];exact⟨λz=>by rw[z],λz=>by injection z⟩
     |_=>rw[hv]at hs;cases hs
     cases hf:es.findIdx? (λe=>e.key.isStr x) with
    |none =>
      refine Ke (hnone λm=>?_);obtain⟨j,hj⟩:=List.mem_iff_getElem?.mp m;obtain⟨e,he,_⟩:=hget' j k hj;obtain⟨k',h1,_,h2⟩:=hkey j e he;rw[hj]at h1;have h3:=Array.findIdx?_eq_none_iff.mp hf e (Array.mem_of_getElem? he);rw[h2.mpr (KH h1).symm]at h3;cases h3
    |some i =>
      obtain⟨hlt,hi,_⟩:=Array.findIdx?_eq_some_iff_getElem.mp hf;obtain⟨k',h1,h2,h3⟩:=hkey i es[i] (KW hlt);have z:k'=k:=h3.mp hi;simp only[KW hlt];refine G' (Ln ho hd (G' (heq k' es[i] _ h2 (λ_=>G' (Ln ho hd ?_)) (λq=>absurd z q))));rw[Qr (by simp)];simp only[if_true];exact G' (LU (Ke (hsome i (z ▸ h1))))
   . rw[Qr hstr];by_cases hall:((JW.str x t :: (La es.size (λi=>es[i]?.map (·.hash)) (hashD w k)).filterMap (λi=>es[i]?.map (·.key))).all carriedByValue)=j'
     . rw[Qq hall];exact plain
     . rw[Qr hall];by_cases hone:(((La es.size (λi=>es[i]?.map (·.hash)) (hashD w k)).filterMap (λi=>es[i]?.map (·.key))) == [JW.str x t])=j'
       all_goals
        first
        |(rw[Qq hone];refine G' (Ke ?_))
        |(rw[Qr hone];refine G' (htell _ ?_))
        rw[Qr (by simp)];refine G' (wpAny_forIn_list _ (λrest b s'=>s'=s/\∃ hit,b=(JZ,hit)/\((hit=JZ/\∀ j:Nat,ks[j]?=dk k->j∈rest)\/∃ j,hit=dk j/\ks[j]?=dk k/\j ∉ rest)/\(∀ j∈rest,j < es.size)/\rest.Nodup) _ ?_ ?_ _ _
         ⟨rfl,JZ,rfl,.inl ⟨rfl,hplace⟩,λj=>oI,uc⟩)
        . rintro x rest b s' ⟨rfl,hit,rfl,hin,hlt,hnd⟩;have hx:=hlt x Km;have hlt':∀ j∈rest,j < es.size:=λj hj=>hlt j (Kl _ hj)
          obtain⟨hxr,hnd'⟩:=LK.mp hnd;obtain⟨k',hk',he⟩:=hget x es[x] (KW hx);have next:k'≠k->((hit=JZ/\∀ j:Nat,ks[j]?=dk k->j∈rest)\/∃ j,hit=dk j/\ks[j]?=dk k/\j ∉ rest):=λz=>by
           rcases hin with⟨h0,hin⟩|⟨j,h0,hj,hjr⟩
           . refine .inl ⟨h0,λj hj=>?_⟩;rcases KA.mp (hin j hj) with q|q
             . subst q;rw[hk']at hj;exact absurd (KH hj) z
             . exact q
           . exact .inr ⟨j,h0,hj,λq=>hjr (Kl _ q)⟩
          simp only[KW hx];by_cases hh:(es[x].hash == hashD w k)=j'
          . rw[Qq hh];refine G' (Ln ho hd (G' (heq k' es[x] _ he (λz=>G' (Ln ho hd ?_)) (λz=>G' (Ln ho hd ?_)))))
            . rw[Qr (by simp)];have hkx:ks[x]?=dk k:=z ▸ hk';rcases hin with⟨rfl,hin⟩|⟨j,_,hj,hjr⟩
              . simp only[isSome_none,Ll,if_false,if_true];refine G' (LU ?_);split
                . exact Ke (Ke (hsome x hkx))
                . exact Ke ⟨rfl,dk x,rfl,.inr ⟨x,rfl,hkx,hxr⟩,hlt',hnd'⟩
              . exact absurd (GL hn hj hkx ▸ Km) hjr
            . rw[Qr (by simp)];simp only[Ll,if_false];refine G' (LU ?_)
              try rw[Qr (by simp)]
              exact Ke ⟨rfl,hit,rfl,next z,hlt',hnd'⟩
          . rw[Qr hh];refine Ke ⟨rfl,hit,rfl,next λz=>hh ?_,hlt',hnd'⟩;rw[he.2.2.2,z];simp
        . rintro b s' ⟨rfl,hit,rfl,hin,_⟩;rcases hin with⟨rfl,hin⟩|⟨j,rfl,hj,_⟩
          . exact Ke (none_of hin)
          . exact Ke (hsome j hj)
 . dsimp only;rw[Qr (show ¬ ((KI a :: (La es.size (λi=>es[i]?.map (·.hash)) (hashD w k)).filterMap (λi=>es[i]?.map (·.key))).all carriedByValue)=j' from by simp[carriedByValue]),Qr (hany a rfl)];by_cases hone:(((La es.size (λi=>es[i]?.map (·.hash)) (hashD w k)).filterMap (λi=>es[i]?.map (·.key))) == [KI a])=j'
   all_goals
    first
    |(rw[Qq hone];refine G' (Ke ?_))
    |(rw[Qr hone];refine G' (htell _ ?_))
    rw[Qr (by simp)];refine G' (wpAny_forIn_list _ (λrest b s'=>s'=s/\∃ hit,b=(JZ,hit)/\((hit=JZ/\∀ j:Nat,ks[j]?=dk k->j∈rest)\/∃ j,hit=dk j/\ks[j]?=dk k/\j ∉ rest)/\(∀ j∈rest,j < es.size)/\rest.Nodup) _ ?_ ?_ _ _
     ⟨rfl,JZ,rfl,.inl ⟨rfl,hplace⟩,λj=>oI,uc⟩)
    . rintro x rest b s' ⟨rfl,hit,rfl,hin,hlt,hnd⟩;have hx:=hlt x Km;have hlt':∀ j∈rest,j < es.size:=λj hj=>hlt j (Kl _ hj)
      obtain⟨hxr,hnd'⟩:=LK.mp hnd;obtain⟨k',hk',he⟩:=hget x es[x] (KW hx);have next:k'≠k->((hit=JZ/\∀ j:Nat,ks[j]?=dk k->j∈rest)\/∃ j,hit=dk j/\ks[j]?=dk k/\j ∉ rest):=λz=>by
       rcases hin with⟨h0,hin⟩|⟨j,h0,hj,hjr⟩
       . refine .inl ⟨h0,λj hj=>?_⟩;rcases KA.mp (hin j hj) with q|q
         . subst q;rw[hk']at hj;exact absurd (KH hj) z
         . exact q
       . exact .inr ⟨j,h0,hj,λq=>hjr (Kl _ q)⟩
      simp only[KW hx];by_cases hh:(es[x].hash == hashD w k)=j'
      . rw[Qq hh];refine G' (Ln ho hd (G' (heq k' es[x] _ he (λz=>G' (Ln ho hd ?_)) (λz=>G' (Ln ho hd ?_)))))
        . rw[Qr (by simp)];have hkx:ks[x]?=dk k:=z ▸ hk';rcases hin with⟨rfl,hin⟩|⟨j,_,hj,hjr⟩
          . simp only[isSome_none,Ll,if_false,if_true];refine G' (LU ?_);split
            . exact Ke (Ke (hsome x hkx))
            . exact Ke ⟨rfl,dk x,rfl,.inr ⟨x,rfl,hkx,hxr⟩,hlt',hnd'⟩
          . exact absurd (GL hn hj hkx ▸ Km) hjr
        . rw[Qr (by simp)];simp only[Ll,if_false];refine G' (LU ?_)
          try rw[Qr (by simp)]
          exact Ke ⟨rfl,hit,rfl,next z,hlt',hnd'⟩
      . rw[Qr hh];refine Ke ⟨rfl,hit,rfl,next λz=>hh ?_,hlt',hnd'⟩;rw[he.2.2.2,z];simp
    . rintro b s' ⟨rfl,hit,rfl,hin,_⟩;rcases hin with⟨rfl,hin⟩|⟨j,rfl,hj,_⟩
      . exact Ke (none_of hin)
      . exact Ke (hsome j hj)
def DictE (h:KN) (d:D') (es:List KQ) (ep:Nat):Prop:=∃ o,h.get? d=dk o/\o.ExactDict/\o.data=.dict es.toArray ep
def jG (h:KN) (d:D') (es:List KQ):Prop:=∃ o ep,h.get? d=dk o/\o.ExactDict/\o.data=.dict es.toArray ep
def jG.ep {h:KN}{d:D'}{es:List KQ}(x:jG h d es):∃ ep,DictE h d es ep:=let ⟨o,ep,e⟩:=x;⟨ep,o,e⟩
def DictE.es {h:KN}{d:D'}{es:List KQ}{ep:Nat}(x:DictE h d es ep):jG h d es:=let ⟨o,e⟩:=x;⟨o,ep,e⟩
def jG.typeIs {s:Kb}{d:D'}{es:List KQ}(x:jG s.heap d es):s.TypeIs (.ref d) "dict":=let ⟨o,_,ho,hc,_⟩:=x;⟨o,ho,hc.1⟩
def Hs {d:D'}{es:List KQ}{ks:List Ka}{k:Ka}{key:JW}{Q:Option JW->Kb->Prop}(hu:A.units+8 < L8) (hk:Ask s.heap k key)
 (hm:jG s.heap d es) (hes:Ents w s.heap ks es) (hn:ks.Nodup) (hnone:k ∉ ks->∀ tk,Q JZ { s with toks:=tk })
 (hsome:∀ (j:Nat) (e:KQ),ks[j]?=dk k->es[j]?=dk e->∀ tk,Q (dk e.val) { s with toks:=tk }):Kq (model prog w) A (dictGet d key) Q E s:=by
 obtain⟨o,ep,ho,hc,hd⟩:=hm;obtain⟨kk,kdp,⟨as,kr⟩,ksh⟩:=id hk;unfold dictGet;refine LG (G' (wg k key as A s _ kk kr (by omega) λtk=>G' (Dl (s:={ s with toks:=tk }) hu hk ho hd hes hn ?_ ?_)))
 . exact λh=>Ke (hnone h tk)
 . intro j hj;refine G' (wpAny_dictEntries (s:={ s with toks:=tk }) ho hd ?_);obtain⟨e,he,_⟩:=vY hes j k hj;have q:es.toArray[j]?=dk e:=by rw[List.getElem?_toArray];exact he
   rw[q];exact Ke (hsome j e hj he tk)
def HJ {d:D'}{es:List KQ}{ks:List Ka}{k:Ka}{key v:JW}{Q:Unit->Kb->Prop}(hu:A.units+8 < L8) (hk:Ask s.heap k key)
 (hm:jG s.heap d es) (hes:Ents w s.heap ks es) (hn:ks.Nodup) (hsz:es.length <= Ki)
 (hQ:∀ (h':KN) (tk:Nat) (es':List KQ),jG h' d es'->LH d s.heap h'->((k ∉ ks/\es'=es++[⟨hashD w k,key,v⟩])\/∃ j:Nat,ks[j]?=dk k/\es'=es.modify j λe=>{ e with val:=v }) ->
  Q () { s with heap:=h',toks:=tk }):Kq (model prog w) A (dictSet d key v) Q E s:=by
 obtain⟨o,ep,ho,hc,hd⟩:=hm;obtain⟨kk,kdp,⟨as,kr⟩,ksh⟩:=id hk;unfold dictSet;refine LG (G' (wg k key as A s _ kk kr (by omega) λtk=>?_));unfold dictSetHashed;refine LG (G' (Dl (s:={ s with toks:=tk }) hu hk ho hd hes hn ?_ ?_))
 . intro h;refine G' (LU (wpAny_updateDictKeys (hz:=by simpa using hsz) (s:={ s with toks:=tk }) ho hd (hQ _ tk (es++[⟨hashD w k,key,v⟩]) ⟨_,ep+1,Ma _ ho (LF.isFreed_of_dict (LF.data_mapDictKeys hd _)),hc.mapDictKeys _,?_⟩ (Mh ..) (.inl ⟨h,rfl⟩))));rw[LF.data_mapDictKeys hd _];simp
 . intro j hj;refine G' (LU (G' (wpAny_updateDict (s:={ s with toks:=tk }) ho hd (wpAny_point (hQ _ tk (es.modify j λe=>{ e with val:=v }) ⟨_,ep,Ma _ ho (LF.isFreed_of_dict (LF.data_mapDict hd _)),hc.mapDict _,?_⟩ (Mh ..) (.inr ⟨j,hj,rfl⟩))))));rw[LF.data_mapDict hd _];simp
def meets_D (d:D') (key dflt:JW) (hd:(d == Ls)=f') :
 MeetsIn prog w (Builtin.«dict.get» ⟨[.ref d,key,dflt],[]⟩) (λA R s=>A.in1.units+8 < L8/\∃ k ks es,Ask s.heap k key/\jG s.heap d es/\Ents w s.heap ks es/\ks.Nodup /\
  (k ∉ ks->∀ tk,R (.ok (.ret dflt)) { s with toks:=tk })/\∀ (j:Nat) (e:KQ),ks[j]?=dk k->es[j]?=dk e->∀ tk,R (.ok (.ret e.val)) { s with toks:=tk }) :=
 .of_wp λA R s ⟨hu,k,ks,es,hk,hm,hes,hn,h1,h2⟩=>by
  show Kq _ _ (dictGet d key >>= _) _ _ s;refine G' (Hs hu hk hm hes hn (λh tk=>?_) λj e hj he tk=>Ke ⟨_,rfl,h2 j e hj he tk⟩);show Kq _ _ (Builtin.Dict.missed d key >>= _) _ _ _;exact G' (wpAny_missed_other hd (Ke ⟨dflt,rfl,h1 h tk⟩))
def put_D {d:D'}{es:List KQ}{ks:List Ka}{k:Ka}{key v:JW}{Q:Unit->Kb->Prop}(hu:A.in1.units+8 < L8) (hk:Ask s.heap k key)
 (hm:jG s.heap d es) (hes:Ents w s.heap ks es) (hn:ks.Nodup) (hsz:es.length <= Ki)
 (hQ:∀ (h':KN) (tk:Nat) (es':List KQ),jG h' d es'->LH d s.heap h'->((k ∉ ks/\es'=es++[⟨hashD w k,key,v⟩])\/∃ j:Nat,ks[j]?=dk k/\es'=es.modify j λe=>{ e with val:=v }) ->
  Q () { s with heap:=h',toks:=tk }):Kq (model prog w) A (setItem (.ref d) key v) Q E s:=by
 unfold setItem;refine LG (G' (wpAny_sequenceKey hm.typeIs (by decide) (G' (LC (name:=Ml "__setitem__") hm.typeIs slot_dict_setitem
  (LB slot_dict_setitem hm.typeIs entry_dict_setitem ?_ (args_dict_setitem _ _ _))))))
 show Kq _ _ (Builtin.Dict.notOrdered "__setitem__" ⟨[.ref d,key,v],[]⟩ >>= _) _ _ s;refine G' (wpAny_notOrdered_dict hm.typeIs ?_);show Kq _ _ (dictSet d key v >>= _) _ _ s;exact G' (HJ hu hk hm hes hn hsz λh' tk es' a b c=>Ke ⟨.none,rfl,Ke (hQ h' tk es' a b c)⟩)
end
end MX
namespace L2
open PySem PySem.Spec PyProof.Rows
mutual
def DV (H:Hp):Ka->V->Prop
|.none,x=>x=.non
|.bool b,x=>x=.bl b
|.int i,x=>x=.int i
|.str t,x=>x=.str t
|.list ds,x=>∃ (a:D') (vs:List V),x=.ref a/\H a=dk (.lst vs)/\DVs H ds vs
|.tuple ds,x=>∃ (a:D') (vs:List V),x=.ref a/\H a=dk (.tup vs)/\DVs H ds vs
|.dict _,_=>False
def DVs (H:Hp):List Ka->List V->Prop
|[],vs=>vs=[]
|d :: ds,vs=>∃ (v:V) (r:List V),vs=v :: r/\DV H d v/\DVs H ds r
end
section
variable {P:Kz}{w:Kk}{H H':Hp}{h:KN}
mutual
theorem DV.reads (ok:HOk P w H h):∀ (d:Ka) (x:V) (u:JW),DV H d x->cm x u->∃ as,Reads h u d as
|.none,_,_,e,r=>by cases e;cases r;exact⟨_,.none⟩
|.bool b,_,_,e,r=>by cases e;cases r;exact⟨_,.bool b⟩
|.int i,_,_,e,r=>by cases e;obtain⟨t,rfl⟩:=r;exact⟨_,.int i t⟩
|.str y,_,_,e,r=>by cases e;obtain⟨t,rfl⟩:=r;exact⟨_,.str y t⟩
|.list ds,_,_,e,r=>by
  obtain⟨a,vs,rfl,ha,hv⟩:=e;cases r;obtain⟨_,its,n,rv,hg⟩:=ok a _ ha;obtain⟨as,q⟩:=DVs.reads ok ds vs its hv rv;exact⟨_,.list hg rfl rfl (by simpa using q)⟩
|.tuple ds,_,_,e,r=>by
  obtain⟨a,vs,rfl,ha,hv⟩:=e;cases r;obtain⟨_,its,rv,o,hg,hc,n,hd⟩:=ok a _ ha;obtain⟨as,q⟩:=DVs.reads ok ds vs its hv rv;exact⟨_,.tuple hg hc hd (by simpa using q)⟩
|.dict _,_,_,e,_=>Lj e
theorem DVs.reads (ok:HOk P w H h):∀ (ds:List Ka) (vs:List V) (us:List JW),DVs H ds vs->bZ vs us->∃ as,ReadsAll h us ds as
|[],_,_,e,r=>by cases e;cases r;exact⟨_,.nil⟩
|d :: ds,_,_,e,r=>by
  obtain⟨v,vs,rfl,h1,h2⟩:=e;cases r with
 |cons r1 r2 =>
   obtain⟨as,q1⟩:=DV.reads ok d _ _ h1 r1;obtain⟨bs,q2⟩:=DVs.reads ok ds _ _ h2 r2;exact⟨_,.cons q1 q2⟩
end
mutual
theorem DV.mono (hs:∀ b vs,H b=dk (.lst vs)->H' b=dk (.lst vs)) (ht:∀ b vs,H b=dk (.tup vs)->H' b=dk (.tup vs)):∀ (d:Ka) (x:V),DV H d x->DV H' d x
|.none,_,e=>e
|.bool _,_,e=>e
|.int _,_,e=>e
|.str _,_,e=>e
|.list ds,_,⟨a,vs,e,ha,hv⟩=>⟨a,vs,e,hs _ _ ha,DVs.mono hs ht ds vs hv⟩
|.tuple ds,_,⟨a,vs,e,ha,hv⟩=>⟨a,vs,e,ht _ _ ha,DVs.mono hs ht ds vs hv⟩
|.dict _,_,e=>e
theorem DVs.mono (hs:∀ b vs,H b=dk (.lst vs)->H' b=dk (.lst vs)) (ht:∀ b vs,H b=dk (.tup vs)->H' b=dk (.tup vs)):∀ (ds:List Ka) (vs:List V),DVs H ds vs->DVs H' ds vs
|[],_,e=>e
|d :: ds,_,⟨v,r,e,h1,h2⟩=>⟨v,r,e,DV.mono hs ht d v h1,DVs.mono hs ht ds r h2⟩
end
mutual
theorem DV.keep (ht:∀ b vs,H b=dk (.tup vs)->H' b=dk (.tup vs)):∀ (d:Ka) (x:V),MX.kd d=j'->DV H d x->DV H' d x
|.int _,_,_,e=>e
|.str _,_,_,e=>e
|.tuple ds,_,k,⟨a,vs,e,ha,hv⟩=>⟨a,vs,e,ht _ _ ha,DVs.keep ht ds vs k hv⟩
|.none,_,k,_=>by cases k
|.bool _,_,k,_=>by cases k
|.list _,_,k,_=>by cases k
|.dict _,_,k,_=>by cases k
theorem DVs.keep (ht:∀ b vs,H b=dk (.tup vs)->H' b=dk (.tup vs)):∀ (ds:List Ka) (vs:List V),MX.kds ds=j'->DVs H ds vs->DVs H' ds vs
|[],_,_,e=>e
|d :: ds,_,k,⟨v,r,e,h1,h2⟩=>by
  have k':(MX.kd d && MX.kds ds)=j':=k;rw[Lk]at k';exact⟨v,r,e,DV.keep ht d v k'.1 h1,DVs.keep ht ds r k'.2 h2⟩
end
theorem DVs.snoc:∀ {ds:List Ka}{vs:List V}{d:Ka}{v:V},DVs H ds vs->DV H d v->DVs H (ds++[d]) (vs++[v])
|[],_,d,v,e,h=>by cases e;exact⟨v,[],rfl,h,rfl⟩
|c :: ds,_,d,v,⟨v',r,e,h1,h2⟩,h=>by subst e;exact⟨v',r++[v],rfl,h1,DVs.snoc h2 h⟩
end
def sF (d:Ka):Prop:=d.canLay0=j'/\d.depth <= 16
def sF.key {d:Ka}(h:MX.kd d=j') (h2:d.depth <= 8):sF d:=⟨MX.kd_lay d h,by omega⟩
theorem sF.int (i:Int):sF (.int i):=⟨rfl,by show 0 <= 16;decide⟩
def IC (neg:Bool):R2:=λx y H Q=>∃ d e,DV H d x/\DV H e y/\sF d/\sF e/\Q (.bl (if neg then !PyData.eqv d e else Kn d e)) H
section
variable {X:Cx}
def qX (hu:X.A.units+64 < L8):OpR X (Lg .Eq) (IC f'):=by
 intro Mq s σ H x y v u Q I rx ry h;obtain⟨d,e,h1,h2,l1,l2,q⟩:=h;obtain⟨as,r1⟩:=DV.reads I.hok d x v h1 rx;obtain⟨bs,r2⟩:=DV.reads I.hok e y u h2 ry;exact SeqAt.compareEq_reads r1 r2 l1.1 l2.1 (by have:=l1.2;omega) ⟨.bl _,H,I,rfl,q⟩
def AH (hu:X.A.units+64 < L8):OpR X (Lg .NotEq) (IC j'):=by
 intro Mq s σ H x y v u Q I rx ry h;obtain⟨d,e,h1,h2,l1,l2,q⟩:=h;obtain⟨as,r1⟩:=DV.reads I.hok d x v h1 rx;obtain⟨bs,r2⟩:=DV.reads I.hok e y u h2 ry;exact SeqAt.neOverData X.prog X.w X.A X.xe s v u d e as bs _ r1 r2 l1.1 l2.1 (by have:=l1.2;omega) ⟨.bl _,H,I,rfl,q⟩
end
def pY (a:D') (es:List KQ) (ep:Nat):HO:=.ext λh=>(a == Ls)=f'/\MX.DictE h a es ep
def Bc (w:Kk) (H:Hp) (p:Ka × V) (e:KQ):Prop:=MX.kd p.1=j'/\p.1.depth <= 8/\e.hash=MX.hashD w p.1/\(∃ x,cm x e.key/\DV H p.1 x)/\cm p.2 e.val
def MD (w:Kk) (H:Hp) (a:D') (kvs:List (Ka × V)):Prop:=∃ es ep,H a=dk (pY a es ep)/\Kx (Bc w H) kvs es/\(kvs.map (·.1)).Nodup/\kvs.length <= Ki
def vo (H:Hp) (k:Ka) (y:V):Prop:=MX.kd k=j'/\k.depth <= 8/\DV H k y/\((∃ t,y=.str t)\/∃ b,y=.ref b)
def fi (kvs:List (Ka × V)) (k:Ka):Option V:=(kvs.find? λp=>Kn p.1 k).map (·.2)
def vp (kvs:List (Ka × V)) (k:Ka) (v:V):List (Ka × V) :=
 if (kvs.any λp=>Kn p.1 k)=j' then kvs.map (λp=>if Kn p.1 k=j' then (p.1,v) else p) else kvs++[(k,v)]
def pY.ok {P:Kz}{w:Kk}{H:Hp}{h:KN}{a:D'}{es:List KQ}{ep:Nat}(hs:(a == Ls)=f') (hm:MX.DictE h a es ep):dJ P w H h a (pY a es ep):=by
 refine⟨⟨hs,hm⟩,?_,λh1 h2 uq11 k=>by(obtain⟨z,o,e,r⟩:=uq11;exact ⟨z,o,k o e,r⟩)⟩;obtain⟨o,e,_⟩:=hm;exact⟨o,e⟩
def pY.of {P:Kz}{w:Kk}{H:Hp}{h:KN}{a:D'}{es:List KQ}{ep:Nat}(ok:HOk P w H h) (e:H a=dk (pY a es ep)):(a == Ls)=f'/\MX.DictE h a es ep:=by
 obtain⟨q,_⟩:=ok a _ e;exact q
theorem Paired.keys {w:Kk}{H:Hp}:∀ {kvs:List (Ka × V)}{es:List KQ},Kx (Bc w H) kvs es->kvs.length=es.length
|_,_,.nil=>rfl
|_,_,.cons _ t=>by rw[KJ,KJ,Paired.keys t]
theorem vx {P:Kz}{w:Kk}{H:Hp}{h:KN}(ok:HOk P w H h):∀ {kvs:List (Ka × V)}{es:List KQ},Kx (Bc w H) kvs es->MX.Ents w h (kvs.map (·.1)) es
|_,_,.nil=>.nil
|_,_,.cons ⟨k1,k2,k3,⟨x,rx,dx⟩,_⟩ t=>.cons ⟨k1,k2,DV.reads ok _ _ _ dx rx,k3⟩ (vx ok t)
def Ds {P:Kz}{w:Kk}{H:Hp}{h:KN}{k:Ka}{y:V}{u:JW}(ok:HOk P w H h) (hk:vo H k y) (r:cm y u):MX.Ask h k u:=by
 obtain⟨k1,k2,k3,k4⟩:=hk;refine⟨k1,k2,DV.reads ok _ _ _ k3 r,?_⟩;rcases k4 with⟨t,rfl⟩|⟨b,rfl⟩
 . obtain⟨tk,rfl⟩:=r;exact .inl ⟨_,_,rfl⟩
 . cases r;exact .inr ⟨_,rfl⟩
section
variable {w:Kk}{H:Hp}
def ff {d e:Ka}(h1:MX.kd d=j') (h2:MX.kd e=j') (n:d≠e):Kn d e=f':=by
 cases q:Kn d e with
|false=>rfl
|true=>exact absurd ((MX.eqv_iff d e h1 h2).mp q) n
def cT {d:Ka}(h1:MX.kd d=j'):Kn d d=j':=(MX.eqv_iff d d h1 h1).mpr rfl
def KK (kvs:List (Ka × V)):Prop:=∀ p∈kvs,MX.kd p.1=j'
def KK.of {kvs:List (Ka × V)}{es:List KQ}:Kx (Bc w H) kvs es->KK kvs:=by
 intro r
 induction r with
|nil=>intro p h;cases h
|cons a _ ih =>
  intro p h;rcases KA.mp h with rfl|h
  . exact a.1
  . exact ih p h
theorem wM {k:Ka}(hk:MX.kd k=j'):∀ {kvs:List (Ka × V)}{j:Nat},KK kvs->(kvs.map (·.1)).Nodup->(kvs.map (·.1))[j]?=dk k->∃ v,kvs[j]?=dk (k,v)/\fi kvs k=dk v
|[],j,_,_,e=>by simp at e
|(a,v) :: r,0,kk,_,e=>by
  simp at e;subst e;refine⟨v,rfl,?_⟩;unfold fi;rw[LL,cT hk];rfl
|(a,v) :: r,j+1,kk,nd,e=>by
  have nd':(a :: r.map (·.1)).Nodup:=nd;obtain⟨n1,n2⟩:=LK.mp nd';have e':(r.map (·.1))[j]?=dk k:=by simpa using e
  obtain⟨v',h1,h2⟩:=wM hk (λp h=>kk p (Kl _ h)) n2 e';refine⟨v',by simpa using h1,?_⟩;have ne:a≠k:=λz=>n1 (by rw[z];exact KZ e')
  unfold fi at h2 |-;rw[LL,ff (kk _ Km) hk ne];exact h2
def xC {k:Ka}(hk:MX.kd k=j') {kvs:List (Ka × V)}(kk:KK kvs) (n:k ∉ kvs.map (·.1)):fi kvs k=JZ:=by
 unfold fi;rw[find?_eq_none.mpr λp hp=>?_]
 . rfl
 . rw[ff (kk p hp) hk λz=>n (Me.mpr ⟨p,hp,z⟩)];decide
def ze {k:Ka}(hk:MX.kd k=j') {kvs:List (Ka × V)}(kk:KK kvs) (n:k ∉ kvs.map (·.1)) (v:V):vp kvs k v=kvs++[(k,v)]:=by
 unfold vp;rw[Qr];intro h;obtain⟨p,hp,e⟩:=any_eq_true.mp h;exact n (Me.mpr ⟨p,hp,(MX.eqv_iff _ _ (kk p hp) hk).mp e⟩)
def xZ {k:Ka}(hk:MX.kd k=j') {kvs:List (Ka × V)}(kk:KK kvs) (n:k ∉ kvs.map (·.1)) (v:V):kvs.map (λp=>if Kn p.1 k=j' then (p.1,v) else p)=kvs:=by
 induction kvs with
|nil=>rfl
|cons p r ih =>
  have hp:p.1≠k:=λz=>n (Me.mpr ⟨p,Km,z⟩)
  rw[K1,ff (kk p Km) hk hp,ih (λq h=>kk q (Kl _ h)) λh=>n (by rw[K1];exact Kl _ h)];simp
theorem Dk {k:Ka}(hk:MX.kd k=j') {v:V}{u:JW}(rv:cm v u):∀ {kvs:List (Ka × V)}{es:List KQ}{j:Nat},Kx (Bc w H) kvs es->(kvs.map (·.1)).Nodup->(kvs.map (·.1))[j]?=dk k ->
 Kx (Bc w H) (kvs.map (λp=>if Kn p.1 k=j' then (p.1,v) else p)) (es.modify j λe=>{ e with val:=u })
|_,_,j,.nil,_,e=>by simp at e
|(a,v') :: r,e0 :: es,0,.cons q t,nd,e=>by
  simp at e;subst e;have nd':(a :: r.map (·.1)).Nodup:=nd;rw[K1,cT hk,xZ hk (KK.of t) (LK.mp nd').1];exact .cons ⟨q.1,q.2.1,q.2.2.1,q.2.2.2.1,rv⟩ t
|(a,v') :: r,e0 :: es,j+1,.cons q t,nd,e=>by
  have nd':(a :: r.map (·.1)).Nodup:=nd;obtain⟨n1,n2⟩:=LK.mp nd';have e':(r.map (·.1))[j]?=dk k:=by simpa using e
  have ne:a≠k:=λz=>n1 (by rw[z];exact KZ e')
  rw[K1,ff q.1 hk ne];exact .cons q (Dk hk rv t n2 e')
def Gc {k:Ka}(hk:MX.kd k=j') {kvs:List (Ka × V)}{j:Nat}(e:(kvs.map (·.1))[j]?=dk k):(kvs.any λp=>Kn p.1 k)=j':=by
 obtain⟨p,hp,z⟩:=Me.mp (KZ e);exact any_eq_true.mpr ⟨p,hp,by rw[z];exact cT hk⟩
def An {k:Ka}{v:V}{kvs:List (Ka × V)}:(kvs.map (λp=>if Kn p.1 k=j' then (p.1,v) else p)).map (·.1)=kvs.map (·.1):=by
 rw[map_map];congr 1;funext p;show (if Kn p.1 k=j' then (p.1,v) else p).1=p.1;split<;>rfl
def Cc (kvs:List (Ka × V)) (k:Ka) (v:V):(vp kvs k v).length <= kvs.length+1:=by
 unfold vp;split
 . rw[Kv];omega
 . rw[JX];exact Kf _
end
section
variable {w:Kk}{H H':Hp}{a:D'}{kvs:List (Ka × V)}
theorem Bc.keep (ht:∀ b vs,H b=dk (.tup vs)->H' b=dk (.tup vs)) {p:Ka × V}{e:KQ}(q:Bc w H p e):Bc w H' p e:=by
 obtain⟨k1,k2,k3,⟨x,rx,dx⟩,k5⟩:=q;exact⟨k1,k2,k3,⟨x,rx,DV.keep ht _ _ k1 dx⟩,k5⟩
theorem MD.keep (m:MD w H a kvs) (ha:H' a=H a) (ht:∀ b vs,H b=dk (.tup vs)->H' b=dk (.tup vs)):MD w H' a kvs:=by
 obtain⟨es,ep,h1,h2,h3⟩:=m;exact⟨es,ep,by rw[ha];exact h1,Paired.mapP h2 λ_ _ q=>q.keep ht,h3⟩
end
section
variable {X:Cx}{Mq:List (D' × LF)}{σ:St}{H:Hp}{s:Kb}{a:D'}{kvs:List (Ka × V)}{k:Ka}{y v d:V}{u r:JW}{A:KY}{E:JW->Kb->Prop}
def IN {A:KY}(hu:A.units+64 < L8):A.in1.units+8 < L8:=by
 rw[KY.in1_units];omega
def Dt {Q:JW->Kb->Prop}(hu:A.units+64 < L8) (I:Inv X Mq σ H s) (m:MD X.w H a kvs) (hk:vo H k y) (ry:cm y u) (rd:cm d r) (h:∀ w' s',Inv X Mq σ H s'->cm ((fi kvs k).getD d) w'->Q w' s') :
 Kq (model X.prog X.w) A (call (.builtin "dict.get") [.ref a,u,r]) Q E s:=by
 obtain⟨es,ep,h1,h2,h3,h4⟩:=m;obtain⟨hs,hme⟩:=pY.of I.hok h1;have hm:=hme.es;refine call_meetsIn PySem.F.slot_dict_get hm.typeIs PySem.F.entry_dict_get (PySem.F.args_dict_get_3 _ _ _) (MX.meets_D a u r hs) ⟨IN hu,k,_,es,Ds I.hok hk ry,hm,vx I.hok h2,h3,λn tk=>h _ _ (I.tok _) ?_,λj e hj he tk=>h _ _ (I.tok _) ?_⟩
 . rw[xC hk.1 (KK.of h2) n];exact rd
 . obtain⟨v',g1,g2⟩:=wM hk.1 (KK.of h2) h3 hj;rw[g2];obtain⟨p,e1,e2⟩:=MX.f2_get h2 j e he;rw[g1]at e1;cases e1;exact e2.2.2.2.2
def G1 {Q:Unit->Kb->Prop}(hu:A.units+64 < L8) (I:Inv X Mq σ H s) (m:MD X.w H a kvs) (hl:kvs.length < Ki) (hk:vo H k y) (ry:cm y u) (rv:cm v r)
 (h:∀ H' s',Inv X Mq σ H' s'->(∀ b,b≠a->H' b=H b)->MD X.w H' a (vp kvs k v)->Q () s'):Kq (model X.prog X.w) A (setItem (.ref a) u r) Q E s:=by
 obtain⟨es,ep,h1,h2,h3,h4⟩:=m;obtain⟨hs,hme⟩:=pY.of I.hok h1;have hm:=hme.es;have kk:=KK.of h2;have hz:es.length <= Ki:=by rw[<-Paired.keys h2];omega
 refine MX.put_D (IN hu) (Ds I.hok hk ry) hm (vx I.hok h2) h3 hz λh' tk es' hm' hsb hor=>?_
 obtain⟨ep',hm2⟩:=hm'.ep;have I':Inv X Mq σ (upd H a (pY a es' ep')) { s with heap:=h',toks:=tk }:=pB I (by rw[h1];exact LI) hsb (let ⟨o,e,_⟩:=hm2;⟨o,e⟩) (pY.ok hs hm2);refine h _ _ I' (λb hb=>ac hb) ⟨es',ep',a8,?_⟩;have ht:∀ b vs,H b=dk (.tup vs)->upd H a (pY a es' ep') b=dk (.tup vs):=λb vs e=>by
  rw[ac (iK e h1 (by intro z;cases z))];exact e
 rcases hor with⟨n,rfl⟩|⟨j,hj,rfl⟩
 . rw[ze hk.1 kk n];refine⟨?_,?_,by rw[JX];show kvs.length+1 <= Ki;omega⟩
   . refine Kx.snoc (Paired.mapP h2 λ_ _ q=>q.keep ht) ⟨hk.1,hk.2.1,rfl,⟨y,ry,DV.keep ht _ _ hk.1 hk.2.2.1⟩,rv⟩
   . rw[K8];exact nd_snocP h3 n
 . have e:vp kvs k v=kvs.map (λp=>if Kn p.1 k=j' then (p.1,v) else p):=by
    unfold vp;rw[Qq (Gc hk.1 hj)]
   rw[e];exact⟨Paired.mapP (Dk hk.1 rv h2 h3 hj) λ_ _ q=>q.keep ht,by rw[An];exact h3,by rw[Kv];exact h4⟩
where
 nd_snocP {l:List Ka} {k:Ka} (hn:l.Nodup) (hk:k ∉ l):(l++[k]).Nodup:=by
  rw[nodup_append];exact⟨hn,by simp,λx hx y hy=>by
   rw[JY.mp hy];exact λz=>hk (z ▸ hx)⟩
end
def HE:TE:=λ_ H Q=>∀ p,H p=JZ->Q (.ref p) (upd H p (pY p [] 0))
def I9 (w:Kk) (td ty tv:TE):TS:=λD σ H=>tv σ H λv H1=>td σ H1 λx H2=>ty σ H2 λy H3=>∃ a kvs k,x=.ref a/\MD w H3 a kvs/\kvs.length < Ki/\vo H3 k y /\
 ∀ H4,(∀ b,b≠a->H4 b=H3 b)->MD w H4 a (vp kvs k v)->D.nx σ H4
def Ha (w:Kk) (td ty tx:TE):TE:=λσ H Q=>td σ H λx H1=>∃ a,x=.ref a/\(∃ kvs,MD w H1 a kvs)/\ty σ H1 λy H2=>tx σ H2 λz H3=>∃ kvs k,MD w H3 a kvs/\vo H3 k y/\Q ((fi kvs k).getD z) H3
section
variable {X:Cx}{o i e f value:Expr}{pos pos' apos cpos:Pos}{td ty tv tx:TE}
def DH:PE X (.Dict [] [] pos) HE:=λMq s σ H Q I h =>
 wpAny_Dict_empty ⟨.ref s.heap.objs.size,_,I.laid (a:=s.heap.objs.size) (o:=pY s.heap.objs.size [] 0) (t':=s.toks) (λ_ _ q=>Kd _ q) (Kf _)
  (pY.ok (beq_eq_false_iff_ne.mpr (Mb (Ld I.big))) ⟨_,Ky _ rfl,⟨rfl,rfl,rfl⟩,rfl⟩),rfl,h _ (I.hok.fresh (Kf _))⟩
def Ef (hu:X.A.units+64 < L8) (ho:PE X o td) (hi:PE X i ty) (hv:PE X value tv) (hs:swapsWith value (dk (.Subscript o i pos')) pos.line X.env=pure f') :
 PS X (.Assign [.Subscript o i pos'] value pos) (I9 X.w td ty tv):=by
 intro Mq s σ H D I h;refine wpAny_Assign_Subscript (thn (hv Mq s σ H _ I h) λr s1 ⟨v,H1,I1,rv,q1⟩=>thn (ho Mq s1 σ H1 _ I1 q1) λu s2 ⟨x,H2,I2,rx,q2⟩=>thn (hi Mq s2 σ H2 _ I2 q2) λiv s3 ur39=>?_) hs;obtain⟨y,H3,I3,ry,a,kvs,k,ex,m,hl,hk,q3⟩:=ur39;subst ex;obtain rfl:u=KI a:=rx;exact G1 hu I3 m hl hk ry rv λH4 s4 I4 g1 g2=>⟨σ,H4,I4,q3 H4 g1 g2⟩
def C1 (hu:X.A.units+64 < L8) (ho:PE X o td) (he:PE X e ty) (hf:PE X f tx) (m:M2 X o "get" apos e f cpos):PE X (.Call (.Attribute o "get" apos) [e,f] [] cpos) (Ha X.w td ty tx):=by
 intro Mq s σ H Q I h;refine wpAny_Call_method m.base m.few m.line PySem.F.plainAttrs_dict PySem.F.slot_dict_get PySem.F.type_dict_get (thn (ho Mq s σ H _ I h) λu s1 ur40=>?_);obtain⟨x,H1,I1,rx,a,ex,⟨kv0,es,ep,e1,_⟩,q1⟩:=ur40;subst ex;obtain rfl:u=KI a:=rx;obtain⟨_,ob,g1,g2,g3⟩:=pY.of I1.hok e1;refine⟨⟨ob,g1,g2.1⟩,λb eb=>by injection eb with eb;subst eb;exact⟨ob,g1,g2.2.1⟩,?_⟩;rw[m.trees];refine LR rfl (LO (LM (thn (he Mq s1 σ H1 _ I1 q1) λiv s2 ⟨y,H2,I2,ry,q2⟩ =>
  LM (thn (hf Mq s2 σ H2 _ I2 q2) λfv s3 ⟨z,H3,I3,rz,kvs,k,md,hk,q3⟩=>Calls.spliced_nil ?_))))
 exact Dt hu I3 md hk ry rz λw' s4 I4 rw'=>⟨_,H3,I4,rw',q3⟩
end
def Itv (K:Kc) (a:D') (n:Nat):It :=
 ⟨λi H=>i < n/\∃ xs,SqL K H a xs/\xs.length=n,λi H x H'=>H'=H/\∀ xs,SqL K H a xs->xs[n - 1 - i]?=dk x,λi _=>i=n⟩
def By {P:Kz}{w:Kk}{K:Kc}{tg:Expr}(a it:D') (n:Nat):Turn P w K tg (Itv K a n) [it] it (λi h=>h.IsRevIter it a ((n:Int) - 1 - i)) where
 mem:=JY.mpr rfl
 obj:=λi h st b hb=>by
  obtain rfl:b=it:=JY.mp hb;obtain⟨o,e,c,d⟩:=st;exact⟨o,e,λv z=>by rw[d]at z;cases z⟩
 keep:=λi h h' st k=>st.at λo e=>k it (JY.mpr rfl) o e
 item:=by
  intro X hP hw hK hc i Mq s σ H E I hf st hg;subst hP hw hK;obtain⟨hi,xs,hq,hn⟩:=hg;obtain⟨its,rv,p,hz⟩:=I.list hq;have hlt:n - 1 - i < xs.length:=by omega
  obtain⟨u,hu,ru⟩:=rv.get (Kh hlt);obtain⟨f0,f1,f2,f3,f4,f5⟩:=hf it (JY.mpr rfl);have ei:(n:Int) - 1 - i=((n - 1 - i:Nat):Int):=by omega
  rw[ei]at st;refine wpAny_pyNext_rev_item st p.isList (x:=u) (by simpa using hu) λh' st' sb=>?_
  have I1:Inv X Mq σ H { s with heap:=h' }:=I.turned (t':=s.toks) (λb o hb e=>(sb.2 b hb).trans e) f0 f1 f3 f4 f5;have ej:((n - 1 - i:Nat):Int) - 1=(n:Int) - 1 - ((i+1:Nat):Int):=by omega
  rw[ej]at st';obtain⟨o,e,c,d⟩:=id st';exact⟨u,rfl,Ce (s:={ s with heap:=h' }) e c d (by decide) ⟨_,H,I1,ru,⟨rfl,λys hy=>by rw[I.list_inj hy hq];exact Kh hlt⟩,st',λb hb=>(hf b hb).1⟩⟩
 done:=by
  intro X hP hw hK hc i Mq s σ H E I hf st hg;subst hP hw hK;obtain⟨f0,f1,f2,f3,f4,f5⟩:=hf it (JY.mpr rfl);have hg':i=n:=hg;have ei:(n:Int) - 1 - i=-1:=by omega
  rw[ei]at st;exact wpAny_pyNext_rev_end (I.ok.hd hc) st λh' eb=>⟨rfl,I.turned (t':=s.toks) (λb o hb e=>eb b o hb e) f0 f1 f3 f4 f5⟩
 self:=λ_ _ _ _ _ st h=>wpAny_pyIter_revIter st h
def JC (K:Kc) (ta:TA):TI:=λσ H R=>ta σ H λvs H1=>∃ a xs,vs=[.ref a]/\SqL K H1 a xs/\R (Itv K a xs.length) H1
section
variable {X:Cx}{tg:Expr}
def G9 {l:Expr}{ta:TA}{p pos:Pos}(hg:Gl X "reversed") (hm:X.mg "reversed"=JZ) (ha:PA X [l] ta) (hs:KP [l] X.env=[(f',eval l X.env)]:=by rfl):PI X tg (.Call (.Name "reversed" p) [l] [] pos) (JC X.K ta):=by
 intro Mq s σ H R I h;refine Call_ (pc I hg hm vZ (LD (thn (ha pos Mq s σ H _ I h) λus s1 ur41=>?_) hs rfl));obtain⟨vs,H1,I1,r1,a,xs,ev,hq,q⟩:=ur41;subst ev;obtain⟨u,rfl,ru⟩:=ym r1;cases ru;obtain⟨its,rv,pl,hz⟩:=I1.list hq;have hlen:=rv.length;refine call_reversed_list pl.isList ?_;have sz:((its.toArray.size:Nat):Int) - 1=(xs.length:Int) - 1 - ((0:Nat):Int):=by simp;omega
 rw[sz];have st0:(s1.heap.push (revObj a ((xs.length:Int) - 1 - ((0:Nat):Int)))).IsRevIter s1.heap.objs.size a ((xs.length:Int) - 1 - ((0:Nat):Int)):=⟨_,Ky _ rfl,rfl,rfl⟩
 refine wpAny_pyIter_revIter (s:={ s1 with heap:=s1.heap.push (revObj a ((xs.length:Int) - 1 - ((0:Nat):Int))) }) st0 ?_;refine⟨s1.heap.objs.size,[s1.heap.objs.size],_,_,H1,rfl,I1.kept (t':=s1.toks) λb o e=>Kd _ e,By a _ xs.length,st0,λb hb=>?_,q⟩;obtain rfl:b=s1.heap.objs.size:=JY.mp hb;exact I1.fpOk (Kf _) (I1.hok.fresh (Kf _))
def Ew {K:Kc}{a:D'}{xs:List V}{g:TG}{tb:TS}{D:Ends}{σ:St}{H:Hp}(Pv:Nat->St->Hp->Prop) (h0:Pv 0 σ H) (hl:∀ i σ H,i <= xs.length->Pv i σ H->SqL K H a xs)
 (hs:∀ i x σ H,i < xs.length->xs[xs.length - 1 - i]?=dk x->Pv i σ H->g x σ H λσ2 H2=>tb { D with nx:=Pv (i+1),ct:=Pv (i+1),bk:=D.nx } σ2 H2) (hd:∀ σ H,Pv xs.length σ H->D.nx σ H) :
 ∃ W:Nat->Nat->St->Hp->Prop,(∃ m,W 0 m σ H)/\∀ i m σ H,W i m σ H->((Itv K a xs.length).stop i H/\D.nx σ H)\/((Itv K a xs.length).go i H/\∃ N:St->Hp->Prop,(∀ σ' H',N σ' H'->∃ m',m' < m/\W (i+1) m' σ' H') /\
  ∀ x H',(Itv K a xs.length).yld i H x H'->g x σ H' λσ2 H2=>tb { D with nx:=N,ct:=N,bk:=D.nx } σ2 H2):=by
 refine⟨λi m σ H=>Pv i σ H/\i <= xs.length/\m=xs.length - i,⟨_,h0,LJ _,rfl⟩,?_⟩;rintro i m σ H ⟨hp,hi,rfl⟩;by_cases z:i=xs.length
 . subst z;exact .inl ⟨rfl,hd σ H hp⟩
 . have hlt:i < xs.length:=by omega
   refine .inr ⟨⟨hlt,xs,hl i σ H hi hp,rfl⟩,Pv (i+1),λσ' H' q=>⟨xs.length - (i+1),by omega,q,hlt,rfl⟩,?_⟩;rintro x H' ⟨rfl,hx⟩;exact hs i x σ H' hlt (hx xs (hl i σ H' hi hp)) hp
end
def IA (K:Kc) (neg:Bool):R2:=λx y H Q=>∃ a b xs,x=.ref a/\y=.ref b/\SqL K H a xs/\SqL K H b []/\Q (.bl (if neg then !xs.isEmpty else xs.isEmpty)) H
section
variable {X:Cx}
def Bt (hu:X.A.units+64 < L8):OpR X (Lg .Eq) (IA X.K f'):=by
 intro Mq s σ H x y v u Q I rx ry h;obtain⟨a,b,xs,rfl,rfl,h1,h2,q⟩:=h;cases rx;cases ry;obtain⟨its,r1,p1,_⟩:=I.list h1;obtain⟨it2,r2,p2,_⟩:=I.list h2;have e2:it2=[]:=bZ.zero r2;subst e2;have hl:=r1.length;cases xs with
|nil =>
  have e1:its=[]:=bZ.zero r1;subst e1;exact SeqAt.RcAt.lists (e:=λ_=>j') p1.isList p2.isList rfl (by omega) (λj h1 _=>absurd h1 (Nat.not_lt_zero _)) X.prog X.w X.xe _ ⟨.bl j',H,I,rfl,q⟩
|cons z zs =>
  have hne:(its.toArray.size != ([]:List JW).toArray.size)=j':=by
   rw[KJ]at hl;rw[bne_iff_ne,KD,KD,length_nil];omega
  exact SeqAt.RcAt.lists_lengths p1.isList p2.isList hne (by omega) X.prog X.w X.xe _ ⟨.bl f',H,I,rfl,q⟩
def ot (hu:X.A.units+64 < L8):OpR X (Lg .NotEq) (IA X.K j'):=by
 intro Mq s σ H x y v u Q I rx ry h;obtain⟨a,b,xs,rfl,rfl,h1,h2,q⟩:=h;cases rx;cases ry;obtain⟨its,r1,p1,_⟩:=I.list h1;obtain⟨it2,r2,p2,_⟩:=I.list h2;have e2:it2=[]:=bZ.zero r2;subst e2;have hl:=r1.length;cases xs with
|nil =>
  have e1:its=[]:=bZ.zero r1;subst e1;exact SeqAt.RcNeAt.lists (e:=λ_=>j') p1.isList p2.isList rfl (by omega) (λj h1 _=>absurd h1 (Nat.not_lt_zero _)) X.prog X.w X.xe _ ⟨.bl f',H,I,rfl,q⟩
|cons z zs =>
  have hne:(its.toArray.size != ([]:List JW).toArray.size)=j':=by
   rw[KJ]at hl;rw[bne_iff_ne,KD,KD,length_nil];omega
  exact SeqAt.RcNeAt.lists_lengths p1.isList p2.isList hne (by omega) X.prog X.w X.xe _ ⟨.bl j',H,I,rfl,q⟩
end
def nhr:¬ (("held":Str)="rows"):=by decide +kernel
def stF (hd rl:D'):List (Str × V):=bn "rows" (.ref rl) (bn "held" (.ref hd) [])
def xb {hd rl:D'}:(stF hd rl).lookup ("held":Str)=dk (.ref hd):=by
 unfold stF;rw[a9,Qr nhr,a9,Qq rfl]
def kf {hd rl:D'}:(stF hd rl).lookup ("rows":Str)=dk (.ref rl):=by
 unfold stF;rw[a9,Qq rfl]
def bU {hd rl:D'}{m:Str}(h1:¬ m="rows") (h2:¬ m="held"):(stF hd rl).lookup m=JZ:=by
 unfold stF;rw[a9,Qr h1,a9,Qr h2]
 all_goals rfl
def sdI:Bool->Int
|false=>0
|true=>1
def re {l:Bool->D'}(b:Bool):atI [V.ref (l f'),V.ref (l j')] (sdI b)=dk (.ref (l b)):=by
 cases b<;>rfl
theorem vo.keep {H H':Hp}{k:Ka}{y:V}(h:vo H k y) (ht:∀ b vs,H b=dk (.tup vs)->H' b=dk (.tup vs)):vo H' k y :=
 ⟨h.1,h.2.1,DV.keep ht _ _ h.1 h.2.2.1,h.2.2.2⟩
def Wt (H:Hp) (p:Ka × V) (tv:V):Prop:=∃ t cv,tv=.ref t/\H t=dk (.tup [cv,p.2])/\vo H p.1 cv
theorem Wt.keep {H H':Hp}{p:Ka × V}{tv:V}(h:Wt H p tv) (ht:∀ b vs,H b=dk (.tup vs)->H' b=dk (.tup vs)):Wt H' p tv:=by
 obtain⟨t,cv,e,h1,h2⟩:=h;exact⟨t,cv,e,ht _ _ h1,h2.keep ht⟩
def Ah (H:Hp) (l:D') (es:List (Ka × V)):Prop:=∃ ts:List V,H l=dk (.lst ts)/\Kx (Wt H) es ts
theorem Ah.keep {H H':Hp}{l:D'}{es:List (Ka × V)}(h:Ah H l es) (hl:∀ o,H l=dk o->H' l=dk o) (ht:∀ b vs,H b=dk (.tup vs)->H' b=dk (.tup vs)):Ah H' l es:=by
 obtain⟨ts,h1,h2⟩:=h;exact⟨ts,hl _ h1,Paired.mapP h2 λ_ _ q=>q.keep ht⟩
theorem aL {α β:Type}{F:α->β->Prop}:∀ {xs:List α}{ys:List β},Kx F xs ys->xs.length=ys.length
|_,_,.nil=>rfl
|_,_,.cons _ t=>by rw[KJ,KJ,aL t]
def aC {α:Type}(r:Bool->α) (b:Bool) (v:α):Bool->α:=λc=>if c=b then v else r c
def am {α:Type}{r:Bool->α}{b:Bool}{v:α}:aC r b v b=v:=Qq rfl
def aA {α:Type}{r:Bool->α}{b c:Bool}{v:α}(h:c≠b):aC r b v c=r c:=Qr h
structure Sto (w:Kk) (C:D') (H:Hp) (x hd rl:D') (l:Bool->D') (M:List (Ka × V)) (r:Bool->List (Ka × V)):Prop where
 ob:∃ dx,H x=dk (.ins C dx (stF hd rl))
 me:MD w H hd M
 ro:H rl=dk (.lst [.ref (l f'),.ref (l j')])
 rw:∀ b,Ah H (l b) (r b)
 nl:l f'≠l j'
 nr:∀ b,l b≠rl
def Kp (xs:List D') (H H':Hp):Prop:=∀ c o,c ∉ xs->H c=dk o->H' c=dk o
def Kp.refl (xs:List D') (H:Hp):Kp xs H H:=λ_ _ _ e=>e
def Kp.trans {xs:List D'}{H H1 H2:Hp}(a:Kp xs H H1) (b:Kp xs H1 H2):Kp xs H H2:=λc o n e=>b c o n (a c o n e)
def Kp.mono {xs ys:List D'}{H H':Hp}(a:Kp xs H H') (h:∀ c,c∈xs->c∈ys):Kp ys H H':=λc o n e=>a c o (λz=>n (h c z)) e
section
variable {w:Kk}{C:D'}{H H':Hp}{x hd rl:D'}{l:Bool->D'}{M:List (Ka × V)}{r:Bool->List (Ka × V)}
def MD.there (m:MD w H hd M):∃ ee:List KQ × Nat,H hd=dk (pY hd ee.1 ee.2):=let ⟨es,ep,h,_⟩:=m;⟨(es,ep),h⟩
def MD.keepS (m:MD w H hd M) (ha:∀ o,H hd=dk o->H' hd=dk o) (ht:∀ b vs,H b=dk (.tup vs)->H' b=dk (.tup vs)):MD w H' hd M:=by
 obtain⟨es,ep,h1,h2⟩:=id m;exact m.keep ((ha _ h1).trans h1.symm) ht
theorem Sto.keep (S:Sto w C H x hd rl l M r) (h:∀ c o,(c=x\/c=hd\/c=rl\/∃ b,c=l b)->H c=dk o->H' c=dk o) (ht:∀ b vs,H b=dk (.tup vs)->H' b=dk (.tup vs)):Sto w C H' x hd rl l M r:=by
 obtain⟨dx,e⟩:=S.ob;exact⟨⟨dx,h _ _ (.inl rfl) e⟩,S.me.keepS (λo=>h _ o (.inr (.inl rfl))) ht,h _ _ (.inr (.inr (.inl rfl))) S.ro,λb=>(S.rw b).keep (λo=>h _ o (.inr (.inr (.inr ⟨b,rfl⟩)))) ht,S.nl,S.nr⟩
def Sto.same (S:Sto w C H x hd rl l M r) (h:bL H H'):Sto w C H' x hd rl l M r:=S.keep (λc o _ e=>h c o e) λb vs e=>h b _ e
def Sto.own (x hd rl:D') (l:Bool->D') (c:D'):Prop:=c=x\/c=hd\/c=rl\/c=l f'\/c=l j'
theorem Sto.there (S:Sto w C H x hd rl l M r) {c:D'}(h:Sto.own x hd rl l c):∃ o,H c=dk o/\(∀ xs,o≠.tup xs):=by
 rcases h with rfl|rfl|rfl|rfl|rfl
 . obtain⟨dx,e⟩:=S.ob;exact⟨_,e,λ_ z=>by cases z⟩
 . obtain⟨es,e⟩:=S.me.there;exact⟨_,e,λ_ z=>by cases z⟩
 . exact⟨_,S.ro,λ_ z=>by cases z⟩
 . obtain⟨ts,e,_⟩:=S.rw f';exact⟨_,e,λ_ z=>by cases z⟩
 . obtain⟨ts,e,_⟩:=S.rw j';exact⟨_,e,λ_ z=>by cases z⟩
end
def mH (M:List (Ka × V)) (es:List (Ka × V)):List (Ka × V):=es.foldl (λM p=>vp M p.1 p.2) M
def cH (M es:List (Ka × V)) (k:Ka):V:=match es.reverse.find? (λp=>Kn p.1 k) with
|some p=>p.2
|none=>(fi M k).getD (.int 0)
def Bn (es:List (Ka × V)) (k:Ka):Option V:=(es.reverse.find? λp=>Kn p.1 k).map (·.2)
def xx (M es:List (Ka × V)) (k:Ka):cH M es k=((Bn es k).or (fi M k)).getD (.int 0):=by
 unfold cH Bn;cases es.reverse.find? (λp=>Kn p.1 k)<;>rfl
theorem xw {k k':Ka}(h:MX.kd k=j') (h':MX.kd k'=j') (v:V):∀ {M:List (Ka × V)},KK M->fi (M.map λp=>if Kn p.1 k'=j' then (p.1,v) else p) k=(fi M k).map λx=>if Kn k' k=j' then v else x
|[],_=>rfl
|p :: r,kk=>by
  have ih:=xw h h' v (M:=r) λq hq=>kk q (Kl _ hq)
  have kp:=kk p Km;unfold fi at ih |-;rw[K1,LL,LL];have e1:(if Kn p.1 k'=j' then (p.1,v) else p).1=p.1:=by split<;>rfl
  rw[e1];cases z:Kn p.1 k with
 |false=>exact ih
 |true =>
   have pk:=(MX.eqv_iff _ _ kp h).mp z;show dk (if Kn p.1 k'=j' then (p.1,v) else p).2=dk (if Kn k' k=j' then v else p.2);by_cases y:k'=k
   . subst y;rw[cT h',z];rfl
   . rw[ff h' h y,pk,ff h h' λq=>y q.symm];rfl
def xn {M:List (Ka × V)}{k k':Ka}(kk:KK M) (h':MX.kd k'=j') (h:MX.kd k=j') (v:V):fi (vp M k' v) k=if Kn k' k=j' then dk v else fi M k:=by
 by_cases n:k'∈M.map (·.1)
 . obtain⟨p,hp,e⟩:=Me.mp n;have ha:(M.any λp=>Kn p.1 k')=j':=any_eq_true.mpr ⟨p,hp,by rw[e];exact cT h'⟩;unfold vp;rw[Qq ha,xw h h' v kk];by_cases y:k'=k
   . subst y;rw[cT h'];have:(fi M k').isSome=j':=by
      unfold fi;rw[isSome_map,List.find?_isSome];exact⟨p,hp,by rw[e];exact cT h'⟩
     cases z:fi M k' with
    |none=>rw[z]at this;cases this
    |some x=>rfl
   . rw[ff h' h y];cases fi M k<;>rfl
 . rw[ze h' kk n];unfold fi;rw[List.find?_append,LL];by_cases y:k'=k
   . subst y;have z:=xC h' kk n;unfold fi at z;rw[Option.map_eq_none_iff]at z;rw[z,cT h'];rfl
   . rw[ff h' h y];cases M.find? (λp=>Kn p.1 k)<;>rfl
mutual
theorem DP {H:Hp}{D:D'}{o:HO}(hD:H D=JZ) (ho:∀ xs,o≠.tup xs):∀ {k:Ka}{y:V},MX.kd k=j'->DV (upd H D o) k y->DV H k y
|.int _,_,_,e=>e
|.str _,_,_,e=>e
|.tuple ds,_,h,⟨a,vs,e,ha,hv⟩=>by
  have ne:a≠D:=λz=>by
   rw[z,a8]at ha;exact ho vs (KH ha)
  exact⟨a,vs,e,by rw[ac ne]at ha;exact ha,wX hD ho h hv⟩
|.none,_,h,_=>by cases h
|.bool _,_,h,_=>by cases h
|.list _,_,h,_=>by cases h
|.dict _,_,h,_=>by cases h
theorem wX {H:Hp}{D:D'}{o:HO}(hD:H D=JZ) (ho:∀ xs,o≠.tup xs):∀ {ds:List Ka}{vs:List V},MX.kds ds=j'->DVs (upd H D o) ds vs->DVs H ds vs
|[],_,_,e=>e
|d :: ds,_,h,⟨v,r,e,h1,h2⟩=>by
  have h':(MX.kd d && MX.kds ds)=j':=h;rw[Lk]at h';exact⟨v,r,e,DP hD ho h'.1 h1,wX hD ho h'.2 h2⟩
end
theorem mem_of_lookup {β:Type}{y:Str}{c:β}:∀ {l:List (Str × β)},l.lookup y=dk c->(y,c)∈l
|[],h=>by cases h
|(k,v) :: r,h=>by
  rw[List.lookup_cons]at h;cases e:y == k with
 |true =>
   rw[e]at h;cases h;rw[beq_iff_eq.mp e];exact Km
 |false =>
   rw[e]at h;exact Kl _ (mem_of_lookup h)
def cz (X:Cx) (scope:Scope) (cl:List (Str × D')) (C:D') (xs N':List Str) (s₃:Kb) (H₃:Hp) (Mq:List (D' × LF)) (ex:List D') (E':JW->Kb->Prop):Cx :=
 { X with N:=N',s₀:=s₃,H₀:=H₃,env:=compEnvC scope cl C X.env,outer:=X.stack,stack:=X.stack,ex:=ex,fn:=λy=>xs.contains y,pn:=X.pn++Mq,xe:=E' }
abbrev cxR (X:Cx) (scope:Scope) (cl:List (Str × D')) (xs caps:List Str) (s₃:Kb) (H₃:Hp) (Mq:List (D' × LF)) (fp:List D') (R:Result->Kb->Prop):Cx:=cz X scope cl s₃.heap.objs.size xs (xs++caps) s₃ H₃ Mq fp (notedBy (model X.prog X.w) X.A (compEnvC scope cl s₃.heap.objs.size X.env) λe s'=>R (.error e) s')
structure CompOk (X:Cx) (scope:Scope) (cl:List (Str × D')) (xs:List Str):Prop where
 kind:scope.kind=.function
 clos:closureFor scope X.env=pure cl
 nocell:∀ y∈scope.names,y.2≠.cell
 names:∀ y∈scope.names,y.2=.local->scope.names.lookup y.1=dk .local
 xloc:∀ x∈xs,scope.names.lookup x=dk .local
 sub:∀ p∈cl,X.env.cells.lookup p.1=dk p.2
 has:∀ p∈scope.names,p.2=.free->∃ c,cl.lookup p.1=dk c
 nox:∀ x∈xs,cl.lookup x=JZ
def B8 (X:Cx) (scope:Scope) (cl:List (Str × D')):List Str->List Nat->Prop
|[],[]=>True
|y :: ys,j :: js=>((∃ c,cl.lookup y=dk c)/\X.N[j]?=dk y/\(X.env.scope.names.lookup y=dk .cell\/X.env.scope.names.lookup y=dk .free)/\((relabel scope X.env).names.lookup y=dk .cell\/(relabel scope X.env).names.lookup y=dk .free))/\B8 X scope cl ys js
|_,_=>False
theorem B8.len {X:Cx}{scope:Scope}{cl:List (Str × D')}:∀ {caps:List Str}{js:List Nat},B8 X scope cl caps js->caps.length=js.length
|[],[],_=>rfl
|_ :: _,_ :: _,⟨_,h⟩=>by rw[KJ,KJ,h.len]
theorem B8.at' {X:Cx}{scope:Scope}{cl:List (Str × D')}{y:Str}:∀ {caps:List Str}{js:List Nat}{i:Nat},B8 X scope cl caps js->caps[i]?=dk y->∃ j,js[i]?=dk j/\(∃ c,cl.lookup y=dk c)/\X.N[j]?=dk y/\(X.env.scope.names.lookup y=dk .cell\/X.env.scope.names.lookup y=dk .free)/\((relabel scope X.env).names.lookup y=dk .cell\/(relabel scope X.env).names.lookup y=dk .free)
|[],[],_,_,e=>by simp at e
|_ :: _,j :: _,0,⟨h,_⟩,e=>by cases e;exact⟨j,rfl,h⟩
|_ :: _,_ :: _,i+1,⟨_,h⟩,e=>h.at' (i:=i) e
def PTs (X:Cx) (ifs:List Expr) (t:TT):Prop :=
 ∀ (Mq:List (D' × LF)) (s:Kb) (σ:St) (H:Hp) (Q:Bool->Hp->Prop),Inv X Mq σ H s->t σ H Q ->
  Kq (model X.prog X.w) X.A (forIn ifs j' λc r=>if r=j' then do let ok <-isTrue c X.env (eval c X.env);pure (ForInStep.yield ok) else pure (ForInStep.yield r)) (TP X Mq σ Q) X.xe s
def sL {X:Cx}:PTs X [] (λ_ H Q=>Q j' H):=λMq s σ H Q I h=>by
 rw[forIn_nil];exact Ke ⟨H,I,h⟩
def nL {X:Cx}{c:Expr}{t:TT}(h:PT X c t):PTs X [c] t:=λMq s σ H Q I q=>wpAny_tests_one (h Mq s σ H Q I q)
def uw (σ:St) (js:List Nat):St:=js.map λj=>(σ[j]?).getD JZ
def FJ (wi:TI) (js:List Nat) (tc:TT) (te:TE):TE:=λσ H Q=>wi σ H λJ H1=>∀ D,H1 D=JZ->∃ W:Nat->Nat->List V->Hp->Prop,(∃ m,W 0 m [] (upd H1 D (.lst []))) /\
 ∀ i m ys H2,W i m ys H2->H2 D=dk (.lst ys)/\ys.length < Ki/\((J.stop i H2/\Q (.ref D) H2)\/(J.go i H2/\∀ x H3,J.yld i H2 x H3 ->
  tc (dk x :: uw σ js) H3 λb H4=>if b=j' then te (dk x :: uw σ js) H4 λy H5=>H5 D=dk (.lst ys)/\∃ m',m' < m/\W (i+1) m' (ys++[y]) (upd H5 D (.lst (ys++[y])))
   else ∃ m',m' < m/\W (i+1) m' ys H4))
def FE (wi:TI) (g:TG) (js:List Nat) (tc:TT) (te:TE):TE:=λσ H Q=>wi σ H λJ H1=>∀ D,H1 D=JZ->∃ W:Nat->Nat->List V->Hp->Prop,(∃ m,W 0 m [] (upd H1 D (.lst []))) /\
 ∀ i m ys H2,W i m ys H2->H2 D=dk (.lst ys)/\ys.length < Ki/\((J.stop i H2/\Q (.ref D) H2)\/(J.go i H2/\∀ x H3,J.yld i H2 x H3->∀ v0 v1:Option V,
  g x (v0 :: v1 :: uw σ js) H3 λσ' H'=>∃ v0' v1',σ'=v0' :: v1' :: uw σ js/\tc σ' H' λb H4=>if b=j' then te σ' H4 λy H5=>H5 D=dk (.lst ys)/\∃ m',m' < m/\W (i+1) m' (ys++[y]) (upd H5 D (.lst (ys++[y])))
   else ∃ m',m' < m/\W (i+1) m' ys H4))
def RN (n:Nat) (g:TG) (js:List Nat) (tc:TT) (te:TE) (σ:St) (Q:VK) (J:It) (H1:Hp):Prop:=∀ D,H1 D=JZ->∃ W:Nat->Nat->List V->Hp->Prop,(∃ m,W 0 m [] (upd H1 D (.lst []))) /\
 ∀ i m ys H2,W i m ys H2->H2 D=dk (.lst ys)/\ys.length < Ki/\((J.stop i H2/\Q (.ref D) H2)\/(J.go i H2/\∀ x H3,J.yld i H2 x H3->∀ vs:St,vs.length=n->∃ Pk:St->Hp->Prop,g x (vs++uw σ js) H3 Pk/\∀ σ' H',Pk σ' H'->∃ vs':St,vs'.length=n/\σ'=vs'++uw σ js /\
  tc σ' H' λb H4=>if b=j' then te σ' H4 λy H5=>H5 D=dk (.lst ys)/\∃ m',m' < m/\W (i+1) m' (ys++[y]) (upd H5 D (.lst (ys++[y])))
   else ∃ m',m' < m/\W (i+1) m' ys H4))
def Gv {X:Cx}{x1 x2:Str}{p1 p2 pos:Pos}{k:Nat}(hc:X.calm=j') (hN:X.N.Nodup) (h0:X.N[0]?=dk x1) (h1:X.N[1]?=dk x2) (l1:Loc X.env.scope x1) (l2:Loc X.env.scope x2) (f1:X.fn x1=j') (f2:X.fn x2=j') :
 PG X (.Tuple [.Name x1 p1,.Name x2 p2] k pos) (HP X.K 2 (zh (o9 0) (zh (o9 1) Ie))) :=
 uk hc (eg (bV hN h0 l1 (.inl f1)) (eg (bV hN h1 l2 (.inl f2)) pL))
abbrev EE (ifs:List Expr) (env:Env):Sem Bool:=forIn ifs j' λc r=>if r=j' then do
 let ok <-isTrue c env (eval c env)
 pure (ForInStep.yield ok) else pure (ForInStep.yield r)
def BD {P:Kz}{w:Kk}{A:KY}{R:Result->Kb->Prop}{s:Kb}{elt tg iter:Expr}{ifs:List Expr}{sc:Scope}{ps:Pos}{it acc:JW}{env:Env}(J:Nat->Kb->Prop)
 (turn:∀ k t,J k t->Kq (model P w) A (pyNext it) (λo t1=>match o with
 |none=>R (.ok .next) t1
 |some y=>Kq (model P w) A (letOwnedTupleGo tg it y) (λ_ t2=>Kq (model P w) A (assign tg env y) (λ_ t3=>Kq (model P w) A (EE ifs env) (λok t4 =>
   if ok=j' then Kq (model P w) A (eval elt env) (λx t5=>Kq (model P w) A (call (.builtin "list.append") [acc,x]) (λ_ t6=>∃ j,j < k/\J j t6) (notedBy (model P w) A env λe t'=>R (.error e) t') t5) (notedBy (model P w) A env λe t'=>R (.error e) t') t4
   else ∃ j,j < k/\J j t4) (notedBy (model P w) A env λe t'=>R (.error e) t') t3) (notedBy (model P w) A env λe t'=>R (.error e) t') t2) (notedBy (model P w) A env λe t'=>R (.error e) t') t1) (notedBy (model P w) A env λe t'=>R (.error e) t') t)
 (k:Nat) (h:J k s):codeAny (model P w) A (.compLoop (.ListComp elt [⟨tg,iter,ifs,0⟩] sc ps) 0 it acc env) R s:=by
 refine codeAny_loop rfl J (λk t hJ=>?_) k h;show Kq _ A (Sem.onRaise (compTurn (.ListComp elt [⟨tg,iter,ifs,0⟩] sc ps) 0 it acc env) (λy=>do noteFrame y env;theTreesLotGoes y)) _ _ t;refine wpAny_noted ?_;rw[compTurn_list];refine G' (wpAny_standAt (G' (thn (turn k t hJ) λo t1 h1=>?_)));cases o with
|none=>exact Ke h1
|some y =>
  refine G' (thn h1 λ_ t2 h2=>G' (thn h2 λ_ t3 h3=>G' (thn h3 λok t4 h4=>?_)));cases ok with
 |false=>exact Ke ⟨rfl,h4⟩
 |true =>
   rw[Qq rfl]at h4;refine G' (G' (thn h4 λx t5 h5=>G' (thn h5 λ_ t6 h6=>?_)));exact Ke (Ke ⟨rfl,h6⟩)
section
variable {X:Cx}{scope:Scope}{cl:List (Str × D')}{xs N':List Str}
def vV {names:List (Str × NameKind)}{env:Env}{y:Str}{k:NameKind}(h:(names.map λ(n,k)=>if (k == NameKind.free && env.scope.kind == .function && env.kindOf n == dk .cell) then (n,NameKind.cell) else (n,k)).lookup y=dk k) (hk:k=.cell\/k=.free) (hn:∀ p∈names,p.2≠.cell):∃ p∈names,p.1=y/\p.2=.free:=by
 obtain⟨⟨n,k0⟩,hp,e⟩:=Me.mp (mem_of_lookup h);dsimp only at e;split at e
 . rename_i hc;injection e with e1 e2
   refine⟨_,hp,e1,?_⟩;rw[Lk,Lk]at hc;exact beq_iff_eq.mp hc.1.1
 . injection e with e1 e2
   refine⟨_,hp,e1,?_⟩;rcases hk with rfl|rfl
   . exact absurd e2 (hn _ hp)
   . exact e2
def xQ {Mq:List (D' × LF)}{σ:St}{H₃:Hp}{s₃:Kb}{ex:List D'}{E':JW->Kb->Prop}(O:CompOk X scope cl xs) (I:Inv X Mq σ H₃ s₃) (hf:∀ b∈ex,wD X Mq H₃ b/\b < s₃.heap.objs.size) :
 (cz X scope cl s₃.heap.objs.size xs N' s₃ H₃ Mq ex E').Ok where
 mod:=I.ok.mod
 kind:=O.kind
 glob:=I.ok.glob
 blt:=I.ok.blt
 above:=Kf _
 inj:=λy z c h1 h2=>I.ok.inj y z c (O.sub _ (mem_of_lookup h1)) (O.sub _ (mem_of_lookup h2))
 has:=λy h=>by
  have h':∃ k,(relabel scope X.env).names.lookup y=dk k/\(k=.cell\/k=.free):=by
   rcases h with h|h
   . exact⟨_,h,.inl rfl⟩
   . exact⟨_,h,.inr rfl⟩
  obtain⟨k,e,hk⟩:=h';obtain⟨p,hp,rfl,e2⟩:=vV e hk O.nocell;exact O.has p hp e2
 cab:=λy c h1 h2=>by
  have h2':cl.lookup y=dk c:=h2;rw[O.nox y (contains_iff_mem.mp h1)]at h2';cases h2'
 hd:=I.ok.hd
 frames:=I.ok.frames
 stk:=.inl rfl
 exf:=λb hb=>⟨Ld (hf b hb).2,λy c e=>(hf b hb).1.2.2.2.2.1 y c (O.sub _ (mem_of_lookup e))⟩
 bs:=I.bs
 bsz:=K6 I.ok.bsz I.sz
 noex:=λb o e hb=>by
  obtain⟨_,_,_,h4,_⟩:=(hf b hb).1;rcases h4 with z|z
  . exact I.ok.noex b o e z
  . have g1:b < X.base.objs.size:=Ks e;exact absurd (Kg g1 (K6 I.ok.bsz z)) (L6 _)
 exfs:=λb hb z=>by
  obtain⟨_,h2,h3,_⟩:=(hf b hb).1;rcases KA.mp (I.stkSub b z) with q|q
  . exact h2 q
  . exact h3 q
 funs:=I.stack
 frf:=I.stkFree
def Inv.block {Mq:List (D' × LF)}{σ σ':St}{H₃ H':Hp}{s₃ s':Kb}{ex:List D'}{E':JW->Kb->Prop}{h':KN}(I:Inv X Mq σ H₃ s₃) (hf:∀ b∈ex,wD X Mq H₃ b)
 (I':Inv (cz X scope cl s₃.heap.objs.size xs N' s₃ H₃ Mq ex E') [] σ' H' s') (hs:LH s₃.heap.objs.size s'.heap h'):Inv X Mq σ H' { s' with heap:=h' }:=by
 have ne:∀ b o,s₃.heap.get? b=dk o->b≠s₃.heap.objs.size:=λb o e=>Ld (Ks e)
 have fr:H' s₃.heap.objs.size=JZ:=I'.free;have hok:HOk X.prog X.w H' h':=λa o e=>by
  refine(I'.hok a o e).stay (λb u hb q=>(hs.2 b ?_).trans q) (λ_ q=>q) λ_ _ q=>q
  rintro rfl;rcases hb with z|z
  . rw[<-z,fr]at e;cases e
  . rw[fr]at z;cases z
 have u:Un (frs X.stack) ex H₃ H' s₃.heap h':=by
  obtain⟨k1,k2,k3,k4,k5,k6,k7⟩:=I'.base;refine⟨λb o q n hb hx=>(hs.2 b (ne b o q)).trans (k1 b o q n hb hx),λb o q n hb hx=>?_,k3,λb o q hx=>?_,k5,k6,k7⟩
  . obtain⟨sl,e⟩:=k2 b o q n hb hx;exact⟨sl,(hs.2 b (ne b o q)).trans e⟩
  . obtain⟨o',e⟩:=k4 b o q hx;exact⟨o',(hs.2 b (ne b o q)).trans e⟩
 exact I.call' (s':={ s' with heap:=h' }) I'.os u hok I'.bare λb hb=>⟨(hf b hb).2.2.2.1,(hf b hb).2.1,(hf b hb).2.2.2.2.1,(hf b hb).2.2.2.2.2⟩
def Inv.enter {Mq:List (D' × LF)}{σ:St}{H₃:Hp}{s₃:Kb}{ex:List D'}{E':JW->Kb->Prop}{caps:List Str}{js:List Nat}{h₁:KN}{tk:Nat}(O:CompOk X scope cl xs) (I:Inv X Mq σ H₃ s₃)
 (hf:∀ b∈ex,wD X Mq H₃ b/\b < s₃.heap.objs.size) (hcp:B8 X scope cl caps js)
 (hn:h₁.Ns s₃.heap.objs.size λ_=>JZ) (hk:∀ b o,s₃.heap.get? b=dk o->h₁.get? b=dk o) :
 Inv (cz X scope cl s₃.heap.objs.size xs (xs++caps) s₃ H₃ Mq ex E') [] (replicate xs.length JZ++uw σ js) H₃ { s₃ with heap:=h₁,toks:=tk }:=by
 have hlen:=hcp.len;obtain⟨m0,hm0,hl0⟩:=I.loc;refine⟨xQ O I hf,rfl,I.bare,Un.kept hk,⟨_,hn,λi y v e1 e2 e3=>?_⟩,λy c e=>?_,I.hok.fresh (Kf _),λy c e=>I.freeC y c (O.sub _ (mem_of_lookup e)),λp hp=>?_,I.hok.kept hk,?_⟩
 . have e1':(xs++caps)[i]?=dk y:=e1;have e2':(replicate xs.length (JZ:Option V)++uw σ js)[i]?=dk (dk v):=e2;by_cases hi:i < xs.length
   . rw[L3 (by rw[LS];exact hi),List.getElem?_replicate,Qq hi]at e2';cases e2'
   . rw[List.getElem?_append_right (by omega)]at e1';rw[List.getElem?_append_right (by rw[LS];omega),LS]at e2';obtain⟨j,ej,⟨c,hc⟩,hN,hk1,hk2⟩:=hcp.at' e1';unfold uw at e2';rw[Lo,ej]at e2';have e3':(σ[j]?).getD JZ=dk v:=by simpa using e2'
     have e4:σ[j]?=dk (dk v):=by
      cases q:σ[j]? with
     |none=>rw[q]at e3';cases e3'
     |some z=>rw[q]at e3';rw[show z=dk v from e3']
     obtain⟨u,r,l⟩:=hl0 j y v hN e4 (by rcases hk1 with z|z;exact .inr (.inl z);exact .inr (.inr z));refine⟨u,r,.inr ⟨hk2,c,hc,?_⟩⟩;rcases l with⟨z,_⟩|⟨_,c',z1,o,z2,z3⟩
     . have z':X.env.scope.names.lookup y=dk .local:=z;rcases hk1 with q|q<;>(rw[q]at z';cases z')
     . rw[O.sub _ (mem_of_lookup hc)]at z1;cases z1;exact⟨o,hk _ _ z2,z3⟩
 . obtain⟨v,o,z2,z3⟩:=I.cell y c (O.sub _ (mem_of_lookup e));exact⟨v,o,hk _ _ z2,z3⟩
 . have hp':p∈X.pn++Mq:=by simpa [cz] using hp
   obtain⟨g1,g2,g3,g4,g5⟩:=I.pin p hp';refine⟨hk _ _ g1,g2,Ld (Ks g1),λz=>?_,g5⟩;rcases KA.mp (I.stkSub p.1 z) with q|q
   . exact g3 q
   . exact g4 q
 . show (replicate xs.length JZ++uw σ js).length=(xs++caps).length;unfold uw;rw[JX,JX,LS,Kv,hlen]
def pd {tg:Expr}{g:TG}{pos np:Pos}{iter elt:Expr}{ifs:List Expr}{caps:List Str}{js:List Nat}{wi:TI}{tc:TT}{te:TE}{use:Option (JW->Sem Unit)}{QQ:JW->Kb->Prop}{Q:VK}{Rd:It->Hp->Prop}{Mq:List (D' × LF)}{s:Kb}{σ:St}{H:Hp}
 (hc:X.calm=j') (O:CompOk X scope cl xs) (hg:∀ C s₃ H₃ Mq ex E',PG (cz X scope cl C xs (xs++caps) s₃ H₃ Mq ex E') tg g)
 (hcp:B8 X scope cl caps js)
 (hi:PI X tg iter wi) (ht:∀ C s₃ H₃ Mq ex E',PTs (cz X scope cl C xs (xs++caps) s₃ H₃ Mq ex E') ifs tc) (he:∀ C s₃ H₃ Mq ex E',PE (cz X scope cl C xs (xs++caps) s₃ H₃ Mq ex E') elt te)
 (hs:∀ x,foldedSetIterable iter X.env x=pure x) (I:Inv X Mq σ H s) (h:wi σ H Rd) (hR:∀ J H1,Rd J H1->RN xs.length g js tc te σ Q J H1)
 (fl:∀ (s₃:Kb) (H₃ H':Hp) (s':Kb) (D:D') (f:Flow) (mm:Str->Option JW),Inv X Mq σ H₃ s₃->s'.heap.Ns s₃.heap.objs.size mm->H' s₃.heap.objs.size=JZ->(∀ h',LH s₃.heap.objs.size s'.heap h'->Inv X Mq σ H' { s' with heap:=h' })->Q (.ref D) H'->compPost (model X.prog X.w) X.A X.xe use QQ (.ref D) s₃.heap.objs.size (.ok f) s') :
 Kq (model X.prog X.w) X.A (comprehension (.ListComp elt [⟨tg,iter,ifs,0⟩] scope pos) scope X.env np (newList []) f' (eval iter X.env) use) QQ X.xe s:=by
 refine wpAny_comprehension_free rfl hs O.clos O.kind O.names (thn (hi Mq s σ H _ I h) λv s1 h1=>thn h1 λitv s2 ur42=>?_);obtain⟨it,fp,tn,J,H1,e,I2,T,t0,hf,q0⟩:=ur42;subst e;have q:=hR _ _ q0;refine LP (wpAny_newFunctionEnv O.nocell (by intro y hy;cases hy) (λh₁ hns₁ hsb₁=>?_) O.kind);obtain⟨W,⟨m0,w0⟩,step⟩:=q s2.heap.objs.size (I2.hok.fresh (Kf _));have I3:Inv X Mq σ (upd H1 s2.heap.objs.size (.lst [])) { s2 with heap:=s2.heap.push { cls:=.type "list",data:=.seq ([]:List JW).toArray } }:=I2.lnew (t':=s2.toks) (its:=[]) .nil (LJ _);have fpl:∀ b∈fp,b < s2.heap.objs.size:=λb hb=>by
  obtain⟨o,e,_⟩:=T.obj _ _ t0 b hb;exact Ks e
 have hf3:∀ b∈fp,wD X Mq (upd H1 s2.heap.objs.size (.lst [])) b:=λb hb=>by
  obtain⟨f0,f⟩:=hf b hb;exact⟨by rw[ac (Ld (fpl b hb))];exact f0,f⟩
 generalize hs3:({ s2 with heap:=s2.heap.push { cls:=.type "list",data:=.seq ([]:List JW).toArray } }:Kb)=s₃ at *;generalize hH3:upd H1 s2.heap.objs.size (.lst [])=H₃ at *;have hsz:s2.heap.objs.size < s₃.heap.objs.size:=by rw[<-hs3];show _ < (s2.heap.push _).objs.size;rw[KN.size_push];exact Nat.lt_succ_self _
 have hk2:∀ b o,s2.heap.get? b=dk o->s₃.heap.get? b=dk o:=λb o e=>by rw[<-hs3];exact Kd _ e
 have hk3:∀ b o,s₃.heap.get? b=dk o->h₁.get? b=dk o:=λb o e=>hsb₁.extBut b o (Ld (Ks e)) (Kd _ e)
 have t3:tn 0 h₁:=T.keep _ _ _ t0 λb _ o e=>hk3 b o (hk2 b o e)
 have loop:∀ (R:Result->Kb->Prop),(∀ f s',(∃ σ' H',Inv (cxR X scope cl xs caps s₃ H₃ Mq fp R) [] σ' H' s'/\Q (.ref s2.heap.objs.size) H')->R (.ok f) s') ->
  ∀ tk,codeAny (model X.prog X.w) X.A (.compLoop (.ListComp elt [⟨tg,iter,ifs,0⟩] scope pos) 0 (.ref it) (.ref s2.heap.objs.size) (compEnvC scope cl s₃.heap.objs.size X.env)) R { s₃ with heap:=h₁,toks:=tk }:=by
  intro R hR tk;have I4:=Inv.enter (E':=notedBy (model X.prog X.w) X.A (compEnvC scope cl s₃.heap.objs.size X.env) λe s'=>R (.error e) s') (tk:=tk) O I3 (λb hb=>⟨hf3 b hb,Nat.lt_trans (fpl b hb) hsz⟩) hcp (by simpa using hns₁) hk3;have stat:∀ {H':Hp},(∀ b∈fp,H' b=JZ)->∀ b∈fp,wD (cxR X scope cl xs caps s₃ H₃ Mq fp R) [] H' b:=λhn b hb=>by
   obtain⟨f0,f1,f2,f3,f4,f5⟩:=hf3 b hb;refine⟨hn b hb,Ld (Nat.lt_trans (fpl b hb) hsz),λz=>?_,.inl hb,λy c e=>f4 y c (O.sub _ (mem_of_lookup e)),λp hp=>f5 p (by simpa [cxR,cz] using hp)⟩;rcases KA.mp (I3.stkSub b z) with q|q
   . exact f1 q
   . exact f2 q
  refine BD (λn s'=>∃ (i:Nat) (vs:St) (ys:List V) (H':Hp),vs.length=xs.length/\Inv (cxR X scope cl xs caps s₃ H₃ Mq fp R) [] (vs++uw σ js) H' s'/\tn i s'.heap/\(∀ b∈fp,H' b=JZ)/\W i n ys H') ?_ m0
   ⟨0,_,[],H₃,LS,I4,t3,λb hb=>(hf3 b hb).1,w0⟩
  rintro n s4 ⟨i,vs,ys,H4,vl,J4,t4,fr4,w4⟩;obtain⟨hD,hlen,hor⟩:=step i n ys H4 w4;rcases hor with⟨stop,qn⟩|⟨go,hy⟩
  . refine thn (T.done (cxR X scope cl xs caps s₃ H₃ Mq fp R) rfl rfl rfl hc i [] s4 _ H4 _ J4 (stat fr4) t4 stop) λr s5 ur43=>?_
    obtain⟨hr,J5⟩:=ur43;subst hr;exact hR _ _ ⟨_,H4,J5,qn⟩
  . refine thn (T.item (cxR X scope cl xs caps s₃ H₃ Mq fp R) rfl rfl rfl hc i [] s4 _ H4 _ J4 (stat fr4) t4 go) λr s5 ur44=>?_
    obtain⟨u,hr,h5⟩:=ur44;subst hr;refine thn h5 λ_ s6 ur45=>?_
    obtain⟨y,H6,J6,ry,yl,t6,fr6⟩:=ur45;have J6':=J6.pinned (stat fr6) (T.obj _ _ t6);obtain⟨Pk,hy6,hPk⟩:=hy y H6 yl vs vl;refine thn (hg _ _ _ _ _ _ _ s6 _ H6 y u _ J6' ry hy6) λ_ s7 ur46=>?_
    obtain⟨σ7,H7,J7,q7⟩:=ur46;obtain⟨vs',vl',e7,hy7⟩:=hPk _ _ q7;subst e7;refine thn (ht _ _ _ _ _ _ _ s7 _ H7 _ J7 hy7) λok s8 ur47=>?_
    obtain⟨H8,J8,q8⟩:=ur47;have back:∀ {σ9:St} {H9:Hp} {s9:Kb},Inv (cxR X scope cl xs caps s₃ H₃ Mq fp R) ([]++uR fp s6.heap) σ9 H9 s9->tn (i+1) s9.heap/\∀ b∈fp,H9 b=JZ:=λJ9=>by
     refine⟨T.keep _ _ _ t6 λb hb o e=>(J9.pin (b,o) (Lp _ (Lp _ (kj hb e)))).1,λb hb=>?_⟩;obtain⟨o,e,d⟩:=T.obj _ _ t6 b hb;exact(J9.pin (b,o) (Lp _ (Lp _ (kj hb e)))).2.1
    cases ok with
   |false =>
     rw[Qr (by decide)];rw[Qr (by decide)]at q8;obtain⟨m',hm,w8⟩:=q8;obtain⟨b1,b2⟩:=back J8;exact⟨m',hm,i+1,vs',ys,H8,vl',J8.unpinned,b1,b2,w8⟩
   |true =>
     rw[Qq rfl];rw[Qq rfl]at q8;refine thn (he _ _ _ _ _ _ _ s8 _ H8 _ J8 q8) λz s9 ur48=>?_
     obtain⟨vz,H9,J9,rz,hD9,m',hm,w9⟩:=ur48;refine thn (dX (X:=(cxR X scope cl xs caps s₃ H₃ Mq fp R)) _ s9 _ H9 (.ref s2.heap.objs.size) [vz] (.ref s2.heap.objs.size) [z] (λ_ H10=>H10=upd H9 s2.heap.objs.size (.lst (ys++[vz]))) J9 rfl (.cons rz .nil) ⟨_,ys,vz,rfl,rfl,hD9,hlen,rfl⟩) λ_ s10 ur49=>?_
     obtain⟨v10,H10,J10,r10,e10⟩:=ur49;subst e10;obtain⟨b1,b2⟩:=back J10;exact⟨m',hm,i+1,vs',ys++[vz],_,vl',J10.unpinned,b1,b2,w9⟩
 have fin:∀ tk,codeAny (model X.prog X.w) X.A (.compLoop (.ListComp elt [⟨tg,iter,ifs,0⟩] scope pos) 0 (.ref it) (.ref s2.heap.objs.size) (compEnvC scope cl s₃.heap.objs.size X.env)) (compPost (model X.prog X.w) X.A X.xe use QQ (.ref s2.heap.objs.size) s₃.heap.objs.size) { s₃ with heap:=h₁,toks:=tk }:=λtk=>by
  refine loop _ (λf s' ur50=>?_) tk;obtain⟨σ',H',J',qn⟩:=ur50;obtain⟨mm,hmm,_⟩:=J'.loc;exact fl s₃ H₃ H' s' _ f mm I3 hmm J'.free (λh' hs'=>Inv.block I3 hf3 J' hs') qn
 exact codeAny_compStart_list (fin _) (T.self _ _ _ _ _ t3 (fin _))
end
section
variable {X:Cx}{scope:Scope}{cl:List (Str × D')}{x x2 x3:Str}{js:List Nat}{tc:TT}{te:TE}{σ:St}{Q:VK}{J:It}{H1:Hp}{g:TG}{caps:List Str}{pos:Pos}{tg iter elt:Expr}{ifs:List Expr}{wi:TI}
def IQ (h:∀ D,H1 D=JZ->∃ W:Nat->Nat->List V->Hp->Prop,(∃ m,W 0 m [] (upd H1 D (.lst []))) /\
 ∀ i m ys H2,W i m ys H2->H2 D=dk (.lst ys)/\ys.length < Ki/\((J.stop i H2/\Q (.ref D) H2)\/(J.go i H2/\∀ x H3,J.yld i H2 x H3 ->
  tc (dk x :: uw σ js) H3 λb H4=>if b=j' then te (dk x :: uw σ js) H4 λy H5=>H5 D=dk (.lst ys)/\∃ m',m' < m/\W (i+1) m' (ys++[y]) (upd H5 D (.lst (ys++[y])))
   else ∃ m',m' < m/\W (i+1) m' ys H4))):RN 1 (o9 0) js tc te σ Q J H1:=λD hD=>by
 obtain⟨W,w0,step⟩:=h D hD;refine⟨W,w0,λi m ys H2 hw=>?_⟩;obtain⟨a,b,c⟩:=step i m ys H2 hw;refine⟨a,b,c.imp_right λ⟨g1,g2⟩=>⟨g1,λx H3 yl vs hl=>?_⟩⟩
 match vs,hl with
|[v0],_=>exact⟨λσ' H'=>σ'=dk x :: uw σ js/\H'=H3,⟨rfl,rfl⟩,λσ' H' uq12=>by(obtain⟨e1,e2⟩:=uq12;exact ⟨[dk x],rfl,e1,by rw[e1,e2];exact g2 x H3 yl⟩)⟩
def Js (h:∀ D,H1 D=JZ->∃ W:Nat->Nat->List V->Hp->Prop,(∃ m,W 0 m [] (upd H1 D (.lst []))) /\
 ∀ i m ys H2,W i m ys H2->H2 D=dk (.lst ys)/\ys.length < Ki/\((J.stop i H2/\Q (.ref D) H2)\/(J.go i H2/\∀ x H3,J.yld i H2 x H3->∀ v0 v1:Option V,
  g x (v0 :: v1 :: uw σ js) H3 λσ' H'=>∃ v0' v1',σ'=v0' :: v1' :: uw σ js/\tc σ' H' λb H4=>if b=j' then te σ' H4 λy H5=>H5 D=dk (.lst ys)/\∃ m',m' < m/\W (i+1) m' (ys++[y]) (upd H5 D (.lst (ys++[y])))
   else ∃ m',m' < m/\W (i+1) m' ys H4))):RN 2 g js tc te σ Q J H1:=λD hD=>by
 obtain⟨W,w0,step⟩:=h D hD;refine⟨W,w0,λi m ys H2 hw=>?_⟩;obtain⟨a,b,c⟩:=step i m ys H2 hw;refine⟨a,b,c.imp_right λ⟨g1,g2⟩=>⟨g1,λx H3 yl vs hl=>?_⟩⟩
 match vs,hl with
|[v0,v1],_=>exact⟨_,g2 x H3 yl v0 v1,λσ' H' uq13=>by(obtain⟨a1,a2,e1,e2⟩:=uq13;exact ⟨[a1,a2],rfl,e1,e2⟩)⟩
def II {px:Pos}{C:D'}{s₃:Kb}{H₃:Hp}{Mq:List (D' × LF)}{ex:List D'}{E':JW->Kb->Prop}(O:CompOk X scope cl [x]) (hnd:(x :: caps).Nodup):PG (cz X scope cl C [x] ([x]++caps) s₃ H₃ Mq ex E') (.Name x px) (o9 0) :=
 bV (i:=0) hnd rfl (.inl (lookup_relabel_local (O.xloc x Km))) (.inl (show [x].contains x=j' from contains_iff_mem.mpr Km))
def Ak {Mq:List (D' × LF)}(s₃:Kb) (H₃ H':Hp) (s':Kb) (D:D') (f:Flow) (mm:Str->Option JW) (_:Inv X Mq σ H₃ s₃) (hm:s'.heap.Ns s₃.heap.objs.size mm) (_:H' s₃.heap.objs.size=JZ) (hb:∀ h',LH s₃.heap.objs.size s'.heap h'->Inv X Mq σ H' { s' with heap:=h' }) (qn:Q (.ref D) H'):compPost (model X.prog X.w) X.A X.xe JZ (EP X Mq σ Q) (.ref D) s₃.heap.objs.size (.ok f) s' :=
 ⟨mm,hm,λh' hs'=>⟨.ref D,H',hb h' hs',rfl,qn⟩⟩
def rR {px:Pos}(hc:X.calm=j') (O:CompOk X scope cl [x]) (hnd:(x :: caps).Nodup)
 (hcp:B8 X scope cl caps js)
 (hi:PI X (.Name x px) iter wi) (ht:∀ C s₃ H₃ Mq ex E',PTs (cz X scope cl C [x] (x :: caps) s₃ H₃ Mq ex E') ifs tc) (he:∀ C s₃ H₃ Mq ex E',PE (cz X scope cl C [x] (x :: caps) s₃ H₃ Mq ex E') elt te)
 (hs:∀ x,foldedSetIterable iter X.env x=pure x:=by intro _;rfl):PE X (.ListComp elt [⟨.Name x px,iter,ifs,0⟩] scope pos) (FJ wi js tc te):=by
 intro Mq s σ H Q I h;rw[eval_ListComp];exact pd hc O (λ_ _ _ _ _ _=>II O hnd) hcp hi ht he hs I h (λ_ _=>IQ) Ak
def C7 (hc:X.calm=j') (O:CompOk X scope cl [x,x2]) (hg:∀ C s₃ H₃ Mq ex E',PG (cz X scope cl C [x,x2] (x :: x2 :: caps) s₃ H₃ Mq ex E') tg g)
 (hcp:B8 X scope cl caps js)
 (hi:PI X tg iter wi) (ht:∀ C s₃ H₃ Mq ex E',PTs (cz X scope cl C [x,x2] (x :: x2 :: caps) s₃ H₃ Mq ex E') ifs tc) (he:∀ C s₃ H₃ Mq ex E',PE (cz X scope cl C [x,x2] (x :: x2 :: caps) s₃ H₃ Mq ex E') elt te)
 (hs:∀ x,foldedSetIterable iter X.env x=pure x:=by intro _;rfl):PE X (.ListComp elt [⟨tg,iter,ifs,0⟩] scope pos) (FE wi g js tc te):=by
 intro Mq s σ H Q I h;rw[eval_ListComp];exact pd hc O hg hcp hi ht he hs I h (λ_ _=>Js) Ak
def Gf {Mq:List (D' × LF)}{D:Ends}{yT:Str}{iN:Nat}{py:Pos}(hN:X.N.Nodup) (hiN:X.N[iN]?=dk yT) (hyL:Loc X.env.scope yT) (hfN:X.fn yT=j'\/X.env.scope.names.lookup yT=dk .local) (s₃:Kb) (H₃ H':Hp) (s':Kb) (Da:D') (f:Flow) (mm:Str->Option JW) (I3:Inv X Mq σ H₃ s₃) (hmm:s'.heap.Ns s₃.heap.objs.size mm) (fr:H' s₃.heap.objs.size=JZ) (hb:∀ h',LH s₃.heap.objs.size s'.heap h'->Inv X Mq σ H' { s' with heap:=h' }) (qn:o9 iN (.ref Da) σ H' D.nx) :
 compPost (model X.prog X.w) X.A X.xe (dk (assign (.Name yT py) X.env)) (λ_ s'=>SP X Mq D .next s') (.ref Da) s₃.heap.objs.size (.ok f) s':=by
 have I5:Inv X Mq σ H' s':=hb _ (LH.refl _ _);show Kq _ _ (assign (.Name yT py) X.env _) _ _ _;refine wpAny_assign_Name (uX I5 hN hiN hyL (v:=.ref Da) rfl (λs6 I6 ur51=>?_) hfN);obtain⟨a6,hs6,ha6⟩:=ur51;have neL:s₃.heap.objs.size≠X.env.locals:=(Ld I3.lt).symm;have neCl:∀ y c,X.env.cells.lookup y=dk c->c≠s₃.heap.objs.size:=λy c z=>by
  obtain⟨v,q⟩:=I3.cell _ _ z;exact Ld q.lt
 have neC:s₃.heap.objs.size≠a6:=by
  rcases ha6 with z|z
  . rw[z];exact neL
  . exact(neCl _ _ z).symm
 refine⟨mm,KN.Ns.sameBut hmm hs6 neC,λh' hs'=>⟨_,H',I6.turned (t':=s6.toks) (it:=s₃.heap.objs.size) (λb o hb e=>(hs'.2 b hb).trans e) fr neL (.inr I3.sz) neCl (λp hp=>Ld (Ks (I3.pin p hp).1)),qn⟩⟩
def Bv {Mq:List (D' × LF)}{s:Kb}{H:Hp}{D:Ends}{yT:Str}{py spos:Pos}(hsw:swapsWith (.ListComp elt [⟨tg,iter,ifs,0⟩] scope pos) (dk (.Name yT py)) spos.line X.env=pure j')
 (h:∀ (np:Pos) (s:Kb),Inv X Mq σ H s->Kq (model X.prog X.w) X.A (comprehension (.ListComp elt [⟨tg,iter,ifs,0⟩] scope pos) scope X.env np (newList []) f' (eval iter X.env) (dk (assign (.Name yT py) X.env))) (λ_ s'=>SP X Mq D .next s') X.xe s) (I:Inv X Mq σ H s) :
 Kq (model X.prog X.w) X.A (exec (.Assign [.Name yT py] (.ListComp elt [⟨tg,iter,ifs,0⟩] scope pos) spos) X.env) (SP X Mq D) X.xe s:=by
 rw[exec_Assign_Name_used _ _ _ _ hsw];refine G' (wpAny_standAt (G' ?_));exact G' (Md (h _ _ (by first|exact I|exact I.stood _)) (λ_ s' hq=>Ke (Ke hq)) λ_ _ e=>e)
def kn {px py spos:Pos}{yT:Str}{iN:Nat}(hN:X.N.Nodup) (hiN:X.N[iN]?=dk yT) (hyL:Loc X.env.scope yT) (hsw:swapsWith (.ListComp elt [⟨.Name x px,iter,ifs,0⟩] scope pos) (dk (.Name yT py)) spos.line X.env=pure j') (hc:X.calm=j') (O:CompOk X scope cl [x]) (hnd:(x :: caps).Nodup)
 (hcp:B8 X scope cl caps js)
 (hi:PI X (.Name x px) iter wi) (ht:∀ C s₃ H₃ Mq ex E',PTs (cz X scope cl C [x] (x :: caps) s₃ H₃ Mq ex E') ifs tc) (he:∀ C s₃ H₃ Mq ex E',PE (cz X scope cl C [x] (x :: caps) s₃ H₃ Mq ex E') elt te)
 (hs:∀ x,foldedSetIterable iter X.env x=pure x:=by intro _;rfl) (hfN:X.fn yT=j'\/X.env.scope.names.lookup yT=dk .local:=by first|exact .inl rfl|exact .inr rfl|assumption) :
 PS X (.Assign [.Name yT py] (.ListComp elt [⟨.Name x px,iter,ifs,0⟩] scope pos) spos) (HS (FJ wi js tc te) (o9 iN)):=λ_ _ σ _ D I h =>
 Bv hsw (λ_ _ I=>pd (Q:=λv H1=>o9 iN v σ H1 D.nx) hc O (λ_ _ _ _ _ _=>II O hnd) hcp hi ht he hs I h (λ_ _=>IQ (Q:=λv H1=>o9 iN v σ H1 D.nx)) (Gf hN hiN hyL hfN)) I
end
def AX (env:Env):List (Str × D')->Prop
|[]=>True
|p :: r=>env.cells.lookup p.1=dk p.2/\AX env r
theorem AX.all {env:Env}:∀ {cl:List (Str × D')},AX env cl->∀ p∈cl,env.cells.lookup p.1=dk p.2
|[],_,p,h=>by cases h
|q :: r,⟨a,b⟩,p,h=>by
  rcases KA.mp h with rfl|h
  . exact a
  . exact AX.all b p h
theorem vU {α β:Type}{f:α->β}{b:β}:∀ {xs:List α},xs.map f=xs.map (λ_=>b)->∀ x∈xs,f x=b
|[],_,_,h=>by cases h
|y :: ys,e,x,h=>by
  rw[K1,K1]at e;injection e with e1 e2
  rcases KA.mp h with z|z
  . rw[z];exact e1
  . exact vU e2 x z
def mz {X:Cx}{scope:Scope}{cl:List (Str × D')}{xs:List Str}(kind:scope.kind=.function) (clos:closureFor scope X.env=pure cl) (nocell:∀ y∈scope.names,y.2≠.cell) (names:∀ y∈scope.names,y.2=.local->scope.names.lookup y.1=dk .local)
 (xloc:xs.map (λx=>scope.names.lookup x)=xs.map λ_=>dk .local) (sub:AX X.env cl) (has:(scope.names.all λp=>p.2 != .free || (cl.lookup p.1).isSome)=j') (nox:xs.map (λx=>cl.lookup x)=xs.map λ_=>JZ):CompOk X scope cl xs :=
 ⟨kind,clos,nocell,names,vU xloc,sub.all,λp hp hf=>by
  have h:=all_eq_true.mp has p hp;rw[hf]at h;have h':(cl.lookup p.1).isSome=j':=by simpa using h
  exact Option.isSome_iff_exists.mp h',vU nox⟩
section
variable {X:Cx}
end
def Jv (t u:TS):TS:=λD σ H=>∃ B:St->Hp->Prop,t { D with nx:=B } σ H/\∀ σ' H',B σ' H'->u D σ' H'
def nB {X:Cx}{st:K0}{rest:List K0}{t u:TS}(h1:PS X st t) (h2:PSs X rest u):PSs X (st :: rest) (Jv t u):=by
 intro Mq s σ H D I h;obtain⟨B,h,k⟩:=h;refine wpAny_execs_cons (thn (h1 Mq s σ H { D with nx:=B } I h) λf s1 q=>?_);cases f with
|next =>
  obtain⟨σ',H',I',q⟩:=q;exact h2 Mq s1 σ' H' D I' (k σ' H' q)
|ret v=>exact q
|brk=>exact q
|cont=>exact q
def HR (t:TT):TT:=λσ H Q=>∃ B:Bool->Hp->Prop,t σ H B/\∀ b H',B b H'->Q b H'
def kI {X:Cx}{e:Expr}{t:TT}(h:PT X e t):PT X e (HR t):=by
 intro Mq s σ H Q I q;obtain⟨B,q,k⟩:=q;exact thn (h Mq s σ H B I q) λb s1 uq14=>by(obtain⟨H1,I1,z⟩:=uq14;exact ⟨H1,I1,k b H1 z⟩)
mutual
theorem BY:∀ d:Ka,d.canLay0=j'->Kn d d=j'
|.none,_=>rfl
|.bool b,_=>by simp[Kn]
|.int i,_=>by simp[Kn]
|.str t,_=>by simp[Kn]
|.list xs,h=>by
  have h':Lv xs=j':=by simpa [Ka.canLay0] using h
  simpa [Kn] using li xs h'
|.tuple xs,h=>by
  have h':Lv xs=j':=by simpa [Ka.canLay0] using h
  simpa [Kn] using li xs h'
|.dict _,h=>by simp[Ka.canLay0]at h
theorem li:∀ xs:List Ka,Lv xs=j'->Ka.eqvAll xs xs=j'
|[],_=>rfl
|x :: xs,h=>by
  have h':x.canLay0=j'/\Lv xs=j':=by simpa [Lv] using h
  simp[Ka.eqvAll,BY x h'.1,li xs h'.2]
end
section
variable {X:Cx}{pos:Pos}
end
def dJ.here {P:Kz}{w:Kk}{H:Hp}{h:KN}{a:D'}{o:HO}(x:dJ P w H h a o):∃ ob,h.get? a=dk ob:=by
 cases o with
|lst xs=>obtain⟨_,_,_,_,e⟩:=x;exact⟨_,e⟩
|tup xs=>obtain⟨_,_,_,_,e,_⟩:=x;exact⟨_,e⟩
|dK kvs=>obtain⟨_,_,_,_,o,_,_,e,_⟩:=x;exact⟨_,e⟩
|dT kvs=>obtain⟨_,_,_,_,o,_,_,e,_⟩:=x;exact⟨_,e⟩
|set S n=>obtain⟨o,_,_,_,e,_⟩:=x;exact⟨_,e⟩
|ins C dx fs=>obtain⟨_,_,_,e,_⟩:=x;exact⟨_,e⟩
|own y=>exact x
|xd fs=>obtain⟨_,⟨_,_,_,e,_⟩,_⟩:=x;exact⟨_,e⟩
|rng lo hi=>obtain⟨_,_,_,e⟩:=x;exact⟨_,e⟩
|frz ob u=>exact⟨_,x.1⟩
|tbl ps=>exact⟨_,show h.get? a=dk _ from x⟩
|met f y=>exact⟨_,show h.get? a=dk _ from x⟩
|ext φ=>exact x.2.1
def HOk.nothing {P:Kz}{w:Kk}{H:Hp}{h:KN}{a:D'}(ok:HOk P w H h) (e:h.get? a=JZ):H a=JZ:=by
 cases q:H a with
|none=>rfl
|some o =>
  obtain⟨ob,e'⟩:=(ok a o q).here;rw[e']at e;cases e
def Trc (h:KN) (e T:D') (cls fl:JW):Prop :=
 ∃ oe vs oT ts a0,h.get? e=dk oe/\(oe.cls=cls/\vs[0]?=dk a0)/\oe.data=.fields vs/\vs[1]?=dk (.ref T)/\T≠e/\h.get? T=dk oT/\oT.data=.fields ts/\ts[3]?=dk fl
def Trc.on {h B:KN}{e T:D'}{cls fl:JW}(x:Trc h e T cls fl) (hB:B.get? T=JZ):∃ a0,h.TracedAtW B e cls a0 fl:=by
 obtain⟨oe,vs,oT,ts,a0,h1,h2,h3,h4,h5,h6,h7,h8⟩:=x;exact⟨a0,oe,vs,T,oT,ts,h1,h2,h3,h4,hB,h5,h6,h7,h8⟩
def Apt (X:Cx) (Mq:List (D' × LF)) (H:Hp) (b:D'):Prop :=
 X.s₀.heap.get? b=JZ/\H b=JZ/\b≠X.env.locals/\(∀ x c,X.env.cells.lookup x=dk c->c≠b)/\∀ p∈X.pn++Mq,p.1≠b
section
variable {X:Cx}{Mq:List (D' × LF)}{σ:St}{H H':Hp}{s:Kb}{h':KN}
def Inv.apt (I:Inv X Mq σ H s) (hx:X.ex=[]) {b:D'}(e:s.heap.get? b=JZ) (n:H' b=JZ):Apt X Mq H' b:=by
 refine⟨?_,n,?_,λx c hc z=>?_,λp hp z=>?_⟩
 . cases q:X.s₀.heap.get? b with
  |none=>rfl
  |some o =>
    obtain⟨o',e'⟩:=I.base.there b o q (by rw[hx];simp);rw[e]at e';cases e'
 . rintro rfl;obtain⟨m,⟨o,_,_,ho,_⟩,_⟩:=I.loc;rw[e]at ho;cases ho
 . obtain⟨v,o,ho,_⟩:=I.cell x c hc;rw[z,e]at ho;cases ho
 . have ho:=(I.pin p hp).1;rw[z,e]at ho;cases ho
def Inv.fsIn (I:Inv X Mq σ H s):∀ b∈X.fs,b∈frs X.stack:=λb hb=>by
 rcases I.ok.stk with e|⟨e,f⟩
 . rw[e];exact hb
 . rw[e];show b∈List.filterMap (·.frame) (X.env :: X.outer);rw[filterMap_cons,f];exact Kl _ hb
def Inv.moved (I:Inv X Mq σ H s) (ch:List D') (hch:∀ b∈ch,Apt X Mq H b) (keep:∀ b o,b ∉ ch->b ∉ frs X.stack->s.heap.get? b=dk o->h'.get? b=dk o)
 (slot:∀ b o,b∈frs X.stack->s.heap.get? b=dk o->∃ sl,h'.get? b=dk { o with slots:=sl }):Inv X Mq σ H { s with heap:=h' }:=by
 have up:∀ b o,b ∉ ch->s.heap.get? b=dk o->∃ sl,h'.get? b=dk { o with slots:=sl }:=λb o n e=>by
  by_cases z:b∈frs X.stack
  . exact slot b o z e
  . exact⟨o.slots,keep b o n z e⟩
 have neL:∀ b o,X.s₀.heap.get? b=dk o->b≠X.env.locals:=λb o e=>Ld (Kg (Ks e) I.ok.above)
 have neC:∀ b o,X.s₀.heap.get? b=dk o->b ∉ ch:=λb o e z=>by
  rw[(hch b z).1]at e;cases e
 have nst:∀ b,b≠X.env.locals->b ∉ X.fs->b ∉ frs X.stack:=λb n1 n2 z=>(KA.mp (I.stkSub b z)).elim n1 n2
 have cellU:∀ x c,X.env.cells.lookup x=dk c->∀ v,s.heap.IsCell c v->h'.IsCell c v:=λx c hc v ⟨o,ho,hd⟩=>by
  obtain⟨sl,q⟩:=up c o (λz=>(hch c z).2.2.2.1 x c hc rfl) ho;exact⟨_,q,hd⟩
 refine⟨I.ok,I.os,I.bare,⟨λb o e n hb hx=>?_,λb o e n hb hx=>?_,I.base.free,λb o e hx=>?_,I.base.tups,I.base.frzs,I.base.tbls⟩,?_,λx c e=>?_,I.free,I.freeC,λp hp=>?_,λa o e=>?_,I.len⟩
 . exact keep b o (neC b o e) (nst b (neL b o e) hb) (I.base.keep b o e n hb hx)
 . obtain⟨sl,e1⟩:=I.base.slot b o e n hb hx;obtain⟨sl',e2⟩:=slot b _ (I.fsIn b hb) e1;exact⟨sl',e2⟩
 . obtain⟨o',e1⟩:=I.base.there b o e hx;obtain⟨sl,e2⟩:=up b o' (neC b o e) e1;exact⟨_,e2⟩
 . obtain⟨m,⟨o,es,ep,ho,r⟩,hl⟩:=I.loc;obtain⟨sl,q⟩:=up _ o (λz=>(hch _ z).2.2.1 rfl) ho;refine⟨m,⟨_,es,ep,q,r⟩,λi x v e1 e2 e3=>?_⟩;obtain⟨u,r',l⟩:=hl i x v e1 e2 e3;refine⟨u,r',?_⟩;rcases l with l|⟨k,c,e,z⟩
   . exact .inl l
   . exact .inr ⟨k,c,e,cellU x c e _ z⟩
 . obtain⟨v,z⟩:=I.cell x c e;exact⟨v,cellU x c e v z⟩
 . obtain⟨e,n,ne,nf,d⟩:=I.pin p hp;exact⟨keep p.1 p.2 (λz=>(hch p.1 z).2.2.2.2 p hp rfl) (nst p.1 ne nf) e,n,ne,nf,d⟩
 . refine(I.hok a o e).stay (λb u hb q=>keep b u (λz=>?_) (λz=>?_) q) (λ_ q=>q) λ_ _ q=>q
   . have n:=(hch b z).2.1;rcases hb with rfl|hb
     . rw[n]at e;cases e
     . rw[n]at hb;cases hb
   . have n:=I.stkFree b z;rcases hb with rfl|hb
     . rw[n]at e;cases e
     . rw[n]at hb;cases hb
abbrev hid (X:Cx) (h:KN) (e T:D'):KN:=hideAll h (e :: T :: frs X.stack)
def lN {h:KN}{e T:D'}:(hid X h e T).StaysIn h:=λ_ _ q=>of_hideAll _ q
def ku {h:KN}{e T:D'}(F:h.FunFrames X.base X.stack):h.FunFrames (hid X h e T) X.stack :=
 funFrames_hide F λenv he a ha=>Kl _ (Kl _ (mem_filterMap.mpr ⟨env,he,ha⟩))
def EF {h:KN}{e T:D'}:(hid X h e T).get? e=JZ:=hideAll_none _ Km
def DR {h:KN}{e T:D'}:(hid X h e T).get? T=JZ:=hideAll_none _ (Kl _ Km)
def Inv.flown (hx:X.ex=[]) (I:Inv X Mq σ H s) {e T:D'}{cls a0 fl:JW}(aE:Apt X Mq H e) (aT:Apt X Mq H T) (k1:(hid X s.heap e T).StaysIn h') (k2:h'.FunFrames (hid X s.heap e T) X.stack)
 (k3:h'.TracedAtW (hid X s.heap e T) e cls a0 fl) (k4:s.heap.UpToSlots h'):Inv X Mq σ H { s with heap:=h' }/\∃ T',Trc h' e T' cls fl/\Apt X Mq H T':=by
 refine⟨I.moved [e,T] (λb hb=>?_) (λb o n1 n2 q=>?_) (λb o hb q=>?_),?_⟩
 . rcases KA.mp hb with rfl|hb
   . exact aE
   . rw[JY.mp hb];exact aT
 . refine k1 b o (hideAll_get _ q λz=>?_);rcases KA.mp z with z|z
   . exact n1 (by rw[z];exact Km)
   . rcases KA.mp z with z|z
     . exact n1 (by rw[z];simp)
     . exact n2 z
 . obtain⟨_,o',e',hd⟩:=I.stack.mem hb;rw[q]at e';cases e';exact k4 b o q hd
 . obtain⟨oe,vs,T',oT,ts,h1,h2,h3,h4,h5,h6,h7,h8,h9⟩:=k3;refine⟨T',⟨oe,vs,oT,ts,a0,h1,h2,h3,h4,h6,h7,h8,h9⟩,?_⟩;by_cases z:T'=T
   . rw[z];exact aT
   . have nf:T' ∉ frs X.stack:=λy=>by
      obtain⟨_,o',e',hd⟩:=k2.mem y;rw[h7]at e';cases e';exact hd _ h8
     have hn:s.heap.get? T'=JZ:=by
      cases q:s.heap.get? T' with
     |none=>rfl
     |some o =>
       have:=hideAll_get (e :: T :: frs X.stack) q λy=>by
        rcases KA.mp y with y|y
        . exact h6 y
        . rcases KA.mp y with y|y
          . exact z y
          . exact nf y
       rw[h5]at this;cases this
     exact I.apt hx hn (I.hok.nothing hn)
end
def CXv (P:Kz) (w:Kk):CXT:=λouter H s E e s'=>∃ (ex T:D') (cls:JW) (H':Hp),e=.ref ex/\s'.os=s.os/\AllBare s'.gens/\Un (frs outer) [] H H' s.heap s'.heap/\HOk P w H' s'.heap/\Trc s'.heap ex T cls .none /\
 s.heap.get? ex=JZ/\s.heap.get? T=JZ/\H' ex=JZ/\H' T=JZ/\E cls JZ H'
structure Raisy (X:Cx) (E:XK):Prop where
 ex:X.ex=[]
 stk:X.stack=X.env :: X.outer
 frm:X.env.frame=dk X.env.locals
 xe:X.xe=λe s'=>Kq (model X.prog X.w) X.A («leaving» X.env e) (λ_ s''=>CXv X.prog X.w X.outer X.H₀ X.s₀ E e s'') (λe' s''=>CXv X.prog X.w X.outer X.H₀ X.s₀ E e' s'') s'
section
variable {X:Cx}{Mq:List (D' × LF)}{σ:St}{H H':Hp}{s:Kb}{E:XK}
def Inv.out (hx:X.ex=[]) (I:Inv X Mq σ H s) {e T:D'}{cls:JW}(t:Trc s.heap e T cls .none) (aE:Apt X Mq H e) (aT:Apt X Mq H T) (q:E cls JZ H):CXv X.prog X.w X.outer X.H₀ X.s₀ E (.ref e) s:=by
 refine⟨e,T,cls,H,rfl,I.os,I.bare,?_,I.hok,t,aE.1,aT.1,aE.2.1,aT.2.1,q⟩;have u:=I.base;rw[hx]at u;exact u
def yC (R:Raisy X E) (I:Inv X Mq σ H s) {e:D'}{cls:JW}{args:List JW}{h2:KN}(M:KN.MadeExcOf s.heap h2 e cls args) (q:E cls JZ H):X.xe (.ref e) { s with heap:=h2 }:=by
 rw[R.xe];have aE:Apt X Mq H e:=I.apt R.ex M.new (I.hok.nothing M.new);have I2:Inv X Mq σ H { s with heap:=h2 }:=I.kept (t':=s.toks) M.keeps;obtain⟨t,he,_,_⟩:=M.there;have hA:X.A.frames=dk (X.env :: X.outer):=by rw[<-R.stk];exact I.ok.frames
 have FF:=ku (e:=e) (T:=e) I2.stack;rw[R.stk]at FF;refine wpAny_leaving_firstW (base:=hid X h2 e e) (a0:=.ref t) hA FF R.frm he lN EF rfl rfl rfl λh' hL=>?_
 obtain⟨k1,k2,k3,k4⟩:=hL;rw[<-R.stk]at k2;obtain⟨I3,T',t3,aT⟩:=I2.flown R.ex aE aE k1 k2 k3 k4;exact I3.out R.ex t3 aE aT q
def Raisy.passes (R:Raisy X E):kO (CXv X.prog X.w) X E:=by
 intro Mq σ H s e s' I h;obtain⟨ex,T,cls,H',rfl,os,bare,un,hok,t,n1,n2,n3,n4,q⟩:=h;have I2:Inv X Mq σ H' s':=I.call' (ch:=[]) os un hok bare (λb z=>absurd z (by simp));have aE:Apt X Mq H' ex:=I.apt R.ex n1 n3;have aT:Apt X Mq H' T:=I.apt R.ex n2 n4;rw[R.xe];have hA:X.A.frames=dk (X.env :: X.outer):=by rw[<-R.stk];exact I.ok.frames
 have FF:=ku (e:=ex) (T:=T) I2.stack;rw[R.stk]at FF;obtain⟨a0,tw⟩:=t.on (DR (X:=X) (h:=s'.heap) (e:=ex) (T:=T));refine wpAny_leaving_nextW (base:=hid X s'.heap ex T) (a0:=a0) hA FF R.frm tw lN EF λh' hL=>?_
 obtain⟨k1,k2,k3,k4⟩:=hL;rw[<-R.stk]at k2;obtain⟨I3,T',t3,aT'⟩:=I2.flown R.ex aE aT k1 k2 k3 k4;exact I3.out R.ex t3 aE aT' q
end
def veB:List JW:=[.type "ValueError",.type "Exception",.type "BaseException",.type "object"]
def Dv {K:Kc}{h:KN}{C:D'}(X:K.In h) (q:excIn K C veB "ValueError.__new__"=j') :
 ∃ bm N nm qn bs hd sn sub ab col dd k0 k1 k2 k3 k5 mN,h.get? C=dk (excClassObj nm qn C N bs bm hd sn sub ab col dd k0 k1 k2 k3 k5 "ValueError.__new__")/\h.Ns N mN/\mN "__init__"=JZ/\OwnTail h veB bm:=by
 unfold excIn at q;split at q
 . rename_i dd cd sl ho;split at q
   . rename_i C' bm k0 k1 k2 k3 n k5 hm hs;obtain⟨nm,bs,mro,ns,qn,hd,sn,sub,ab,col,del⟩:=cd;simp only[Lk,beq_iff_eq,Mf]at q hm;have q1:=q.1.1.1.1.1;have q2:=q.1.1.1.1.2;have q3:=q.1.1.1.2;have es:sl=#[k0,k1,k2,k3,dk (.builtin n),k5]:=Array.ext' hs;rw[hm,q3,es,q1,q2]at ho;have hok:=q.1.2;refine⟨bm,ns,nm,qn,bs,hd,sn,sub,ab,col,dd,k0,k1,k2,k3,k5,h.nsMap ns,X _ _ ho,?_,nsMap_none_of_in X hok q.2,tail_of_in X q.1.1.2⟩;exact KN.Ns.of_isNs (isNs_of_in X hok)
   . cases q
 . cases q
def FH (E:XK) (C:D') (t:TA):TS:=λ_ σ H=>t σ H λvs H1=>vs.length <= Ki/\E (.ref C) JZ H1
def ii {X:Cx}{E:XK}{x:Str}{C:D'}{e:Expr}{es:List Expr}{t:TA}{np cpos pos:Pos}(R:Raisy X E) (hh:X.A.handled=JZ) (hg:Gl X x) (hm:X.mg x=dk (.ref C)) (hc:excIn X.K C veB "ValueError.__new__"=j')
 (ha:PA X (e :: es) t) (hdb:(x == ("__debug__":Str))=f':=by decide) (he:KP (e :: es) X.env=(f',eval e X.env) :: KP es X.env:=by rfl) (hpl:(L7 cpos (KP (e :: es) X.env)).any (·.1)=f':=by rfl) :
 PS X (.Raise (dk (.Call (.Name x np) (e :: es) [] cpos)) JZ pos) (FH E C t):=by
 intro Mq s σ H D I h;obtain⟨bm,N,nm,qn,bs,hd,sn,sub,ab,col,dd,k0,k1,k2,k3,k5,mN,hC,hN,hni,TL⟩:=Dv I.ok.mod.kin hc;refine wpAny_Raise_call_subT (C:=C) (nm:=nm) (q:=qn) (N:=N) (bs:=bs) (bm:=bm) (hdct:=hd) (sn:=sn) (sub:=sub) (ab:=ab) (col:=col) (dd:=dd) (k0:=k0) (k1:=k1) (k2:=k2) (k3:=k3) (k5:=k5) PySem.F.excBase_ValueError (mN:=mN)
  (TL.hasType PySem.F.excBase_ValueError.hasBase) hh hpl hni (jZ I hg hm ⟨rfl,?_⟩ hdb)
 have hq:=ha cpos Mq s σ H _ I h;have e2:L7 cpos (KP (e :: es) X.env)=L7 cpos ((f',eval e X.env) :: KP es X.env):=by rw[he]
 rw[e2]at hq |-;refine LO (thn hq λus s2 ur52=>?_);obtain⟨vs,H2,I2,r,z,q⟩:=ur52;exact⟨rfl,by rw[<-r.length];exact z,I2.bk _ _ hC,hN.keeps I2.bk,TL.keeps I2.bk,λh' ex M=>yC R I2 M q⟩
def Fun.okX {P:Kz}{w:Kk}{K:Kc}{mg:Str->Option JW}{base:KN}{x qual:Str}{st:K0}{f:D'}{fd:Kj}{N ps:List Str}{k:Nat}{sp:Sp}(F:Fun K x qual st f fd) (S:FnScope N ps (aj st)) (len:∀ vs H Q E,sp vs H Q E->vs.length=ps.length)
 (hbody:∀ (cdv:JW) (A:KY) (outer:List Env) (s:Kb) (H:Hp) (vs:List V) (Q:VK) (E:XK),Room k (A.deeper (envOfC qual (aj st) s.heap.objs.size f cdv))->Raisy (CZ (CXv P w) P w K mg base N qual (aj st) f cdv A outer s H E) E->sp vs H Q E ->
  ∃ t,PSs (CZ (CXv P w) P w K mg base N qual (aj st) f cdv A outer s H E) (eG st) t/\t { nx:=λ_ H'=>Q .non H',rt:=Q } (sk N vs) H):FnOk P w K mg base (CXv P w) (k+1) f fd ps sp:=by
 obtain⟨oc,od,kV,doc,pm,an,cdv,ct,osl,rfl,lk,hcd⟩:=F.ex;exact G3 lk hcd S len λA outer s H vs Q E hr hsp=>hbody cdv A outer s H vs Q E hr ⟨rfl,rfl,rfl,rfl⟩ hsp
abbrev Cx.tryX (X:Cx) (Mq:List (D' × LF)) (R:St->JW->Hp->Prop):Cx :=
 { X with pn:=X.pn++Mq,xe:=λe s'=>∃ (ex T:D') (cls:JW) (σ':St) (H':Hp),e=.ref ex/\Inv X Mq σ' H' s'/\Trc s'.heap ex T cls .none/\Apt X Mq H' ex/\Apt X Mq H' T/\R σ' cls H' }
abbrev Cx.inH (X:Cx) (e:JW):Cx:={ X with A:=X.A.mark (dk e),calm:=f',xe:=λ_ _=>False }
section
variable {X:Cx}{Mq pins':List (D' × LF)}{σ:St}{H H':Hp}{s:Kb}{R:St->JW->Hp->Prop}{e:JW}
def Cx.Ok.try_ (ok:X.Ok):(X.tryX Mq R).Ok:=⟨ok.mod,ok.kind,ok.glob,ok.blt,ok.above,ok.inj,ok.has,ok.cab,ok.hd,ok.frames,ok.stk,ok.exf,ok.bs,ok.bsz,ok.noex,ok.exfs,ok.funs,ok.frf⟩
def Cx.Ok.untry (ok:(X.tryX Mq R).Ok):X.Ok:=⟨ok.mod,ok.kind,ok.glob,ok.blt,ok.above,ok.inj,ok.has,ok.cab,ok.hd,ok.frames,ok.stk,ok.exf,ok.bs,ok.bsz,ok.noex,ok.exfs,ok.funs,ok.frf⟩
theorem Inv.try_ (I:Inv X Mq σ H s):Inv (X.tryX Mq R) [] σ H s:=⟨I.ok.try_,I.os,I.bare,I.base,I.loc,I.cell,I.free,I.freeC,λp hp=>I.pin p (by simpa [Cx.tryX] using hp),I.hok,I.len⟩
theorem Inv.untry (I:Inv (X.tryX Mq R) pins' σ H s):Inv X Mq σ H s:=⟨I.ok.untry,I.os,I.bare,I.base,I.loc,I.cell,I.free,I.freeC,λp hp=>I.pin p (List.mem_append_left _ hp),I.hok,I.len⟩
theorem Cx.Ok.inH (ok:X.Ok):(X.inH e).Ok:=⟨ok.mod,ok.kind,ok.glob,ok.blt,ok.above,ok.inj,ok.has,ok.cab,λz=>(by cases z),ok.frames,ok.stk,ok.exf,ok.bs,ok.bsz,ok.noex,ok.exfs,ok.funs,ok.frf⟩
theorem Inv.inH (I:Inv X Mq σ H s):Inv (X.inH e) Mq σ H s:=⟨I.ok.inH,I.os,I.bare,I.base,I.loc,I.cell,I.free,I.freeC,I.pin,I.hok,I.len⟩
def Inv.outH (ok:X.Ok) (I:Inv (X.inH e) Mq σ H s):Inv X Mq σ H s:=⟨ok,I.os,I.bare,I.base,I.loc,I.cell,I.free,I.freeC,I.pin,I.hok,I.len⟩
theorem SP.outH {D:Ends}{f:Flow}{s':Kb}(ok:X.Ok) (h:SP (X.inH e) Mq D f s'):SP X Mq D f s':=by
 cases f with
|next=>obtain⟨σ',H',I,q⟩:=h;exact⟨σ',H',I.outH ok,q⟩
|brk=>obtain⟨σ',H',I,q⟩:=h;exact⟨σ',H',I.outH ok,q⟩
|cont=>obtain⟨σ',H',I,q⟩:=h;exact⟨σ',H',I.outH ok,q⟩
|ret u=>obtain⟨v,σ',H',I,r,q⟩:=h;exact⟨v,σ',H',I.outH ok,r,q⟩
theorem SP.untry {D:Ends}{f:Flow}{s':Kb}(h:SP (X.tryX Mq R) pins' D f s'):SP X Mq D f s':=by
 cases f with
|next=>obtain⟨σ',H',I,q⟩:=h;exact⟨σ',H',I.untry,q⟩
|brk=>obtain⟨σ',H',I,q⟩:=h;exact⟨σ',H',I.untry,q⟩
|cont=>obtain⟨σ',H',I,q⟩:=h;exact⟨σ',H',I.untry,q⟩
|ret u=>obtain⟨v,σ',H',I,r,q⟩:=h;exact⟨v,σ',H',I.untry,r,q⟩
end
structure Framed (X:Cx):Prop where
 ex:X.ex=[]
 stk:X.stack=X.env :: X.outer
 frm:X.env.frame=dk X.env.locals
abbrev TH:=Ends->St->JW->Hp->Prop
def PH (X:Cx) (hs:List ExceptHandler) (t:TH):Prop :=
 ∀ (Mq:List (D' × LF)) (s:Kb) (σ:St) (H:Hp) (D:Ends) (ex T:D') (cls:JW),Inv X Mq σ H s->Trc s.heap ex T cls .none->Apt X Mq H ex->Apt X Mq H T->t D σ cls H ->
  Kq (model X.prog X.w) X.A (handleBy (.ref ex) X.env hs) (SP X Mq D) X.xe s
def Ih:TH:=λ_ _ _ _=>False
def Fm {X:Cx}:PH X [] Ih:=λ_ _ _ _ _ _ _ _ _ _ _ _ h=>h.elim
def GF (K:Kc) (C:JW) (tb:TS) (tr:TH):TH:=λD σ cls H=>∃ b,K' K cls C=dk b/\if b=j' then tb D σ H else tr D σ cls H
section
variable {X:Cx}
def Trc.ty {M:Model}{h:KN}{e T:D'}{cls fl:JW}(t:Trc h e T cls fl):Looks M h (typeOf (.ref e)) cls:=by
 obtain⟨oe,vs,oT,ts,a0,h1,⟨rfl,_⟩,_⟩:=t;exact(Looks.ld h1).andThen .now
def IR {Mq:List (D' × LF)}{σ:St}{H:Hp}{s:Kb}{ex T:D'}{cls fl:JW}{A:KY}{Q:Unit->Kb->Prop}{E:JW->Kb->Prop}(hx:X.ex=[]) (I:Inv X Mq σ H s) (t:Trc s.heap ex T cls fl) (aE:Apt X Mq H ex) (aT:Apt X Mq H T)
 (h:∀ s' T',Inv X Mq σ H s'->Trc s'.heap ex T' cls .none->Apt X Mq H T'->Q () s'):Kq (model X.prog X.w) A (setFlight (.ref ex) JZ) Q E s:=by
 obtain⟨a0,tw⟩:=t.on (DR (X:=X) (h:=s.heap) (e:=ex) (T:=T));refine wpAny_setFlight_noneW (base:=hid X s.heap ex T) (l:=X.stack) lN (ku I.stack) tw λh' k1 k2 k3 k4=>?_
 obtain⟨I3,T',t3,aT'⟩:=I.flown hx aE aT k1 k2 k3.at λb o q n=>⟨o.slots,k4 b o q n⟩
 exact h _ T' I3 t3 aT'
def EY {x:Str}{C:D'}{b₀:K0}{suite:List K0}{np pos:Pos}{rest:List ExceptHandler}{tb:TS}{tr:TH}(F:Framed X) (hg:Gl X x) (hm:X.mg x=dk (.ref C)) (hb:∀ e,PSs (X.inH e) (b₀ :: suite) tb) (hr:PH X rest tr)
 (hdb:(x == ("__debug__":Str))=f':=by decide):PH X (.ExceptHandler (dk (.Name x np)) JZ (b₀ :: suite) pos :: rest) (GF X.K (.ref C) tb tr):=by
 intro Mq s σ H D ex T cls I t aE aT h;obtain⟨b,hx,h⟩:=h;refine wpAny_handleBy_cons (codeAny_handlers_test (jZ (X:=X.inH (.ref ex)) I.inH hg hm ?_ hdb)) (by intro q;cases q);refine(exm_one (M:=model X.prog X.w) I.kIn t.ty hx).at ?_;cases b with
|false=>exact hr Mq s σ H D ex T cls I t aE aT h
|true =>
  refine codeAny_handlers_suite (IR F.ex I t aE aT λs' T' I' t' aT'=>?_);exact Md (hb (.ref ex) Mq s' σ H D I'.inH h) (λf s2 q=>q.outH I.ok) λ_ _ z=>Lj z
def JH (tb:(St->JW->Hp->Prop)->TS) (th:TH):TS:=λD σ H=>∃ R:St->JW->Hp->Prop,tb R D σ H/\∀ σ' cls H',R σ' cls H'->th D σ' cls H'
def Gm {body:List K0}{h₀:ExceptHandler}{hs:List ExceptHandler}{pos:Pos}{tb:(St->JW->Hp->Prop)->TS}{th:TH}(F:Framed X) (hb:∀ Mq R,PSs (X.tryX Mq R) body (tb R)) (hh:PH X (h₀ :: hs) th):PS X (.Try body (h₀ :: hs) [] [] pos) (JH tb th):=by
 intro Mq s σ H D I h;obtain⟨R,h,k⟩:=h;refine wpAny_Try_except (Md (hb Mq R [] s σ H D I.try_ h) (λf s1 q=>?_) λe s1 q=>?_)
 . have q':=q.untry;cases f with
  |next=>exact wpAny_execs_nil q'
  |brk=>exact q'
  |cont=>exact q'
  |ret u=>exact q'
 . obtain⟨ex,T,cls,σ',H',rfl,I1,t,aE,aT,r⟩:=q;have hA:X.A.frames=dk (X.env :: X.outer):=by rw[<-F.stk];exact I.ok.frames
   have FF:=ku (e:=ex) (T:=T) I1.stack;rw[F.stk]at FF;obtain⟨a0,tw⟩:=t.on (DR (X:=X) (h:=s1.heap) (e:=ex) (T:=T));refine wpAny_noteFrame_onW (base:=hid X s1.heap ex T) (a0:=a0) hA FF F.frm tw lN EF λh' hL=>?_
   obtain⟨k1,k2,k3,k4⟩:=hL;rw[<-F.stk]at k2;obtain⟨I2,T2,t2,aT2⟩:=I1.flown F.ex aE aT k1 k2 k3 k4;exact IR F.ex I2 t2 aE aT2 λs3 T3 I3 t3 aT3=>hh Mq s3 σ' H' D ex T3 cls I3 t3 aE aT3 (k σ' cls H' r)
end
def Gq (C:D') (m:Str) (sp:Sp) (dvs:List V) (R:St->JW->Hp->Prop) (ta:TE) (t:TA):TE:=λσ H Q=>ta σ H λx H1=>∃ a dx fs,x=.ref a/\H1 a=dk (.ins C dx fs)/\fs.lookup m=JZ /\
 t σ H1 λvs H2=>sp (x :: (vs++dvs)) H2 Q λcls _ H'=>R σ cls H'
section
variable {X:Cx}{k:Nat}{f C:D'}{fd:Kj}{ps:List Str}{sp:Sp}{dvs:List V}{ds:List JW}{x m:Str}{p pos apos:Pos}{e o:Expr}{es:List Expr}{ta:TE}{t:TA}{Mq:List (D' × LF)}{R:St->JW->Hp->Prop}
def EH {pins':List (D' × LF)}{σ:St}{H:Hp}{s:Kb}{Q:VK}{us:List JW}{vs:List V}(hx:X.ex=[]) (F:FnOk X.prog X.w X.K X.mg X.base (CXv X.prog X.w) k f fd ps sp) (hr:Room k X.A) (hb:aG X.K fd ps ds) (hd:bZ dvs ds)
 (I:Inv (X.tryX Mq R) pins' σ H s) (r:bZ vs us) (h:sp (vs++dvs) H Q λcls _ H'=>R σ cls H'):Kq (model X.prog X.w) X.A (call (.ref f) us) (EP (X.tryX Mq R) pins' σ Q) (X.tryX Mq R).xe s:=by
 have r2:bZ (vs++dvs) (us++ds):=r.append hd;have hl:(us++ds).length=ps.length:=r2.length.symm.trans (F.len _ _ _ _ h);refine wpAny_call (codeAny_mono (F.run X.A X.stack s H ⟨us,[]⟩ _ _ Q _ hr I.env0 (hb s us I.kIn hl) r2 h) λr s' hq=>?_);cases r with
|error e =>
  obtain⟨ex,T,cls,H',rfl,os,bare,un,hok,t,n1,n2,n3,n4,q⟩:=hq;exact⟨ex,T,cls,σ,H',rfl,(I.call' (ch:=[]) os un hok bare (λb z=>absurd z (by simp))).untry,t,I.untry.apt hx n1 n3,I.untry.apt hx n2 n4,q⟩
|ok fl =>
  cases fl with
 |ret u=>exact I.after hq
 |next=>exact Lj hq
 |brk=>exact Lj hq
 |cont=>exact Lj hq
def CM {pl:Sem Bool}(hx:X.ex=[]) (he:PE (X.tryX Mq R) o ta) (c:Cls X.K C) (hm:Meth X.K C m f) (F:FnOk X.prog X.w X.K X.mg X.base (CXv X.prog X.w) k f fd ps sp) (hr:Room k X.A) (hb:aG X.K fd ps ds) (hd:bZ dvs ds) (ha:PA (X.tryX Mq R) (e :: es) t)
 (hst:KP (e :: es) X.env=(f',eval e X.env) :: KP es X.env:=by rfl) (hpl:(L7 pos (KP es X.env)).any (·.1)=f':=by rfl)
 (ht:eval (.Call (.Attribute o m apos) (e :: es) [] pos) X.env=(do
  let ov <-eval o X.env
  standAt apos.atName
  let (f,first) <-holding [ov] (getMethod ov m pl)
  callWith pos f first (L7 pos (KP (e :: es) X.env)) (backToKw pos (keywordEach [] X.env))):=by rfl) :
 PE (X.tryX Mq R) (.Call (.Attribute o m apos) (e :: es) [] pos) (Gq C m sp dvs R ta t):=by
 intro pins' s σ H Q I h;refine methodCall_KW (pl:=pl) (thn (he pins' s σ H _ I h) λu s1 z=>?_) ht;obtain⟨x,H1,I1,rx,a,dx,fs,ex,ea,l,q⟩:=z;subst ex;cases (show u=KI a from rx);refine mL I1 ea c hm l (callWith_K (first:=[.ref a]) (h₀:=X.base) I.ok.mod.kin hm.kp (thn (ha pos pins' s1 σ H1 _ I1 q) λus s2 z=>?_) hst hpl);obtain⟨vs,H2,I2,r,q2⟩:=z;exact⟨I2.kIn,EH (us:=.ref a :: us) (vs:=.ref a :: vs) hx F hr hb hd I2 (.cons rfl r) q2⟩
end
end L2
namespace PySem.W
open PySem PySem.Calls PyProof.Rows Builtin Builtin.ObjectAttr Builtin.Getset_descriptor
section
variable {prog:Kz}{w:Kk}{A:KY}{E:JW->Kb->Prop}{h:KN}{g:Array GenState}{d:Drawn}{t:Nat}{os:OsState}{K:Frag}{x C:D'}{ox:LF}
end
end PySem.W
namespace L2
open PySem PySem.Spec PyProof.Rows
section
variable {X:Cx}{Mq:List (D' × LF)}{σ:St}{H:Hp}{s:Kb}
def Inv.seen {x:D'}{o:HO}(I:Inv X Mq σ H s) (a:Apt X Mq H x) (new:dJ X.prog X.w (upd H x o) s.heap x o):Inv X Mq σ (upd H x o) s:=by
 obtain⟨a1,a2,a3,a4,a5⟩:=a;have ne:∀ b u,H b=dk u->b≠x:=λb u e z=>by rw[z,a2]at e;cases e
 refine⟨I.ok,I.os,I.bare,⟨I.base.keep,I.base.slot,λb u e n hx=>?_,I.base.there,λb xs e=>?_,λb u v e=>?_,λb ps e=>?_⟩,I.loc,I.cell,?_,λy c e=>?_,λp hp=>?_,λb u e=>?_,I.len⟩
 . rw[ac (λz=>by rw[z,a1]at e;cases e)];exact I.base.free b u e n hx
 . have q:=I.base.tups b xs e;rw[ac (ne _ _ q)];exact q
 . have q:=I.base.frzs b u v e;rw[ac (ne _ _ q)];exact q
 . obtain⟨more,q⟩:=I.base.tbls b ps e;exact⟨more,by rw[ac (ne _ _ q)];exact q⟩
 . rw[ac (Mb a3)];exact I.free
 . rw[ac (a4 y c e)];exact I.freeC y c e
 . obtain⟨e,n,r⟩:=I.pin p hp;exact⟨e,by rw[ac (a5 p hp)];exact n,r⟩
 . by_cases hb:b=x
   . subst hb;rw[a8]at e;cases e;exact new
   . rw[ac hb]at e;refine(I.hok b u e).stay (λ_ _ _ q=>q) (λc q=>?_) λc xs q=>?_
     . rw[ac (ne _ _ q)];exact q
     . rw[ac (ne _ _ q)];exact q
end
end L2
namespace PySem
open Sem (wp)
def SqI (b:Bool) (h:KN) (i l:D') (k:Nat):Prop:=match b with
|false=>h.IsListIter i l k
|true=>h.IsTupleIter i l k
def SqA (b:Bool) (h:KN) (l:D') (xs:Array JW):Prop:=match b with
|false=>h.IsList l xs
|true=>h.IsTuple l xs
def SqI.at {b:Bool}{h h':KN}{i l:D'}{k:Nat}(x:SqI b h i l k) (e:∀ o,h.get? i=dk o->h'.get? i=dk o):SqI b h' i l k:=by
 cases b<;>(obtain⟨o,h1,r⟩:=x;exact⟨o,e o h1,r⟩)
def SqA.at {b:Bool}{h h':KN}{l:D'}{xs:Array JW}(x:SqA b h l xs) (e:∀ o,h.get? l=dk o->h'.get? l=dk o):SqA b h' l xs:=by
 cases b<;>(obtain⟨o,h1,r⟩:=x;exact⟨o,e o h1,r⟩)
def SqI.obj {b:Bool}{h:KN}{i l:D'}{k:Nat}(x:SqI b h i l k):∃ o,h.get? i=dk o/\∀ v,o.data≠.cell v:=by
 cases b<;>(obtain⟨o,h1,_,h3⟩:=x;exact⟨o,h1,λv z=>by rw[h3]at z;cases z⟩)
def SqA.lt {b:Bool}{h:KN}{l:D'}{xs:Array JW}(x:SqA b h l xs):l < h.objs.size:=by
 cases b<;>(obtain⟨o,h1,_⟩:=x;exact Ks h1)
section
variable {prog:Kz}{w:Kk}{A:KY}{E:JW->Kb->Prop}{s:Kb}
def A1 {b:Bool}{it l:D'}{i:Nat}{items:Array JW}{x:JW}{Q:JW->Kb->Prop}(hit:SqI b s.heap it l i) (hl:SqA b s.heap l items) (hx:items[i]?=dk x)
 (hQ:∀ h',SqI b h' it l (i+1)->LH it s.heap h'->Q x { s with heap:=h' }):Kq (model prog w) A (Le (.ref it)) Q E s:=by
 cases b with
|false=>exact wpAny_nextOf_list_item hit hl hx hQ
|true =>
  have hty:s.TypeIs (.ref it) "tuple_iterator":=KN.IsTupleIter.typeIs hit;obtain⟨o,ho,hc,hd⟩:=id hit;obtain⟨ol,hol,_,nl,hdl⟩:=hl;unfold Le;refine G' (LC (name:=Ml "__next__") hty F.slot_tuple_iterator_next (LB F.slot_tuple_iterator_next hty F.entry_tuple_iterator_next ?_ (F.args_tuple_iterator_next_1 _)));show Kq _ _ (field (.ref it) 0 >>= _) _ _ s;refine G' (Lx ho hd (x:=.ref l) rfl ?_);show Kq _ _ (if (KI l == Lr)=j' then _ else _) _ _ s;rw[Qr (show ¬ ((KI l == Lr)=j') from Kr)];show Kq _ _ (field (.ref it) 1 >>= _) _ _ s;refine G' (Lx ho hd (x:=.int i 0) rfl ?_);show Kq _ _ (seqItems? (.ref l) >>= _) _ _ s;refine G' (LV hol hdl ?_);simp only[Int.toNat_natCast,hx];refine G' (wpAny_setField ho hd (by simp) (Ke ⟨x,rfl,Ke (hQ _ ?_ (Mh ..))⟩));exact⟨_,Ma _ ho (LF.isFreed_of_fields (LF.data_mapFields hd _)),(LF.cls_mapFields ..).trans hc,by rw[LF.data_mapFields hd];simp[rawInt]⟩
def wq {b:Bool}{it l:D'}{i:Nat}{items:Array JW}{Q:JW->Kb->Prop}(hh:A.handled=JZ) (hit:SqI b s.heap it l i) (hl:SqA b s.heap l items) (hx:items[i]?=JZ)
 (hE:∀ h' e,KN.ExtBut it s.heap h'->(∃ o,h'.get? e=dk o/\o.cls=.type "StopIteration")->E (.ref e) { s with heap:=h' }):Kq (model prog w) A (Le (.ref it)) Q E s:=by
 cases b with
|false=>exact wpAny_nextOf_list_end hh hit hl hx hE
|true =>
  have hty:s.TypeIs (.ref it) "tuple_iterator":=KN.IsTupleIter.typeIs hit;obtain⟨o,ho,hc,hd⟩:=id hit;obtain⟨ol,hol,_,nl,hdl⟩:=hl;unfold Le;refine G' (LC (name:=Ml "__next__") hty F.slot_tuple_iterator_next (LB F.slot_tuple_iterator_next hty F.entry_tuple_iterator_next ?_ (F.args_tuple_iterator_next_1 _)));show Kq _ _ (field (.ref it) 0 >>= _) _ _ s;refine G' (Lx ho hd (x:=.ref l) rfl ?_);show Kq _ _ (if (KI l == Lr)=j' then _ else _) _ _ s;rw[Qr (show ¬ ((KI l == Lr)=j') from Kr)];show Kq _ _ (field (.ref it) 1 >>= _) _ _ s;refine G' (Lx ho hd (x:=.int i 0) rfl ?_);show Kq _ _ (seqItems? (.ref l) >>= _) _ _ s;refine G' (LV hol hdl ?_);simp only[Int.toNat_natCast,hx];refine G' (LU (G' (wpAny_setField ho hd (by simp) ?_)));show Kq _ _ (newExc (.type "StopIteration") [] >>= _) _ _ _;refine G' ?_;simp only[newExc,newTuple];refine G' (LP ?_ (by size_fits));refine G' (m:=firstArgMember _ _) (wpAny_of_eq (a:=Lr) (by first|rfl|(simp only[firstArgMember];rfl)) ?_);refine LP ?_ (by size_fits);simp only[raiseNew];refine G' (wpAny_handled ?_)
  first|rw[show A.in1.handled=JZ from hh]|rw[hh]
  refine G' (Ke (wpAny_throw ?_));exact hE _ _ (((Mh ..).extBut.push _).push _) ⟨_,Ky _ rfl,rfl⟩
def ww {b:Bool}{z TI TO i1 i2 l1 l2:D'}{k1 k2:Nat}{xs ys:Array JW}{x y a c:JW}{Q:Option JW->Kb->Prop}(D:ZipApart z TI TO i1 i2 l1 l2)
 (hz:IsZip s.heap z TI TO .none) (hTI:IsPair s.heap TI (.ref i1) (.ref i2)) (hTO:IsPair s.heap TO a c)
 (h1:SqI b s.heap i1 l1 k1) (h2:SqI b s.heap i2 l2 k2) (hl1:SqA b s.heap l1 xs) (hl2:SqA b s.heap l2 ys) (hx:xs[k1]?=dk x) (hy:ys[k2]?=dk y)
 (hQ:∀ h',IsZip h' z TI TO (rawInt s.heap.objs.size)->IsPair h' TO x y->SqI b h' i1 l1 (k1+1)->SqI b h' i2 l2 (k2+1)->IsPair h' s.heap.objs.size x y ->
  (∀ c o,c≠z->c≠TO->c≠i1->c≠i2->s.heap.get? c=dk o->h'.get? c=dk o)->Q (dk (.ref s.heap.objs.size)) { s with heap:=h' }):Kq (model prog w) A (pyNext (.ref z)) Q E s:=by
 have hT:s.TypeIs (.ref z) "zip":=⟨_,hz,rfl⟩
 unfold pyNext;refine G' (wpAny_attempt (LC (name:=Ml "__next__") hT F.slot_zip_next (LB F.slot_zip_next hT F.entry_zip_next ?_ (F.args_zip_next_1 _))));show Kq _ _ (field (.ref z) 2 >>= _) _ _ _;refine G' (Lx hz rfl (x:=.bool f') rfl ?_);show Kq _ _ (field (.ref z) 3 >>= _) _ _ _;refine G' (Lx hz rfl (x:=.ref TI) rfl (G' (LV hTI rfl ?_)));show Kq _ _ (Ly (.ref z) >>= _) _ _ _;refine G' ?_;unfold Ly;refine G' (Lx hz rfl (x:=.none) rfl (Ke ?_));simp only[if_true];refine G' (LU (G' (Lx hz rfl (x:=.ref TO) rfl (G' (wpAny_setField_rec hz (by simp) λg1 z1 e1=>?_)))))
 replace z1:IsZip g1 z TI TO .ellipsis:=z1
 refine G' ?_;simp only[List.zipIdx_cons,List.zipIdx_nil,forIn_cons,forIn_nil];refine G' (G' (wpAny_onRaise ?_));show Kq _ _ (Le (.ref i1) >>= _) _ _ _;refine G' (A1 (h1.at λo e=>e1.extBut _ _ D.i1z e) (hl1.at λo e=>e1.extBut _ _ D.l1z e) hx λg2 h1' e2=>Ke ?_);have t2:IsPair g2 TO a c:=e2.extBut _ _ D.TOi1 (e1.extBut _ _ D.TOz hTO);refine G' (LV t2 rfl (G' (wpAny_updateSeq_pair t2 λg3 t3 e3=>?_)))
 replace t3:IsPair g3 TO x c:=t3
 refine G' (wpAny_letGo (Ke ?_));refine G' (G' (wpAny_onRaise ?_));show Kq _ _ (Le (.ref i2) >>= _) _ _ _;refine G' (A1 (h2.at λo e=>e3.extBut _ _ D.TOi2.symm (e2.extBut _ _ D.i12.symm (e1.extBut _ _ D.i2z e))) (hl2.at λo e=>e3.extBut _ _ D.l2TO (e2.extBut _ _ D.l2i1 (e1.extBut _ _ D.l2z e))) hy λg4 h2' e4=>Ke ?_);have t4:IsPair g4 TO x c:=e4.extBut _ _ D.TOi2 t3;refine G' (LV t4 rfl (G' (wpAny_updateSeq_pair t4 λg5 t5 e5=>?_)))
 replace t5:IsPair g5 TO x y:=t5
 refine G' (wpAny_letGo (Ke (Ke ?_)));refine G' (LV t5 rfl (G' (wpAny_newTuple ?_)));have hsz:g5.objs.size=s.heap.objs.size:=by rw[e5.1,e4.1,e3.1,e2.1,e1.1]
 have z5:IsZip g5 z TI TO .ellipsis:=e5.extBut _ _ D.TOz.symm (e4.extBut _ _ D.i2z.symm (e3.extBut _ _ D.TOz.symm (e2.extBut _ _ D.i1z.symm z1)));have k5:∀ c o,c≠z->c≠TO->c≠i1->c≠i2->s.heap.get? c=dk o->g5.get? c=dk o:=λc o c1 c2 c3 c4 e =>
  e5.extBut _ _ c2 (e4.extBut _ _ c4 (e3.extBut _ _ c2 (e2.extBut _ _ c3 (e1.extBut _ _ c1 e))))
 have w1:SqI b g5 i1 l1 (k1+1):=h1'.at λo e=>e5.extBut _ _ D.TOi1.symm (e4.extBut _ _ D.i12 (e3.extBut _ _ D.TOi1.symm e))
 have w2:SqI b g5 i2 l2 (k2+1):=h2'.at λo e=>e5.extBut _ _ D.TOi2.symm e
 have zlt:z < g5.objs.size:=Ks z5;show Kq _ _ (Builtin.SmallTypes.ownedTupleHandOut (.ref z) (.ref g5.objs.size) >>= _) _ _ _;refine G' ?_;unfold Builtin.SmallTypes.ownedTupleHandOut;have z6:IsZip (g5.push { cls:=.type "tuple",data:=.seq #[x,y] }) z TI TO .ellipsis:=Kd _ z5;refine G' (wpAny_setField_rec z6 (by simp) λg7 z7 e7=>?_)
 replace z7:IsZip g7 z TI TO (rawInt g5.objs.size):=z7
 refine wpAny_setField_rec z7 (by simp) λg8 z8 e8=>?_
 replace z8:IsZip g8 z TI TO (rawInt g5.objs.size):=z8
 have up:∀ c o,c≠z->g5.get? c=dk o->g8.get? c=dk o:=λc o c1 e=>e8.extBut _ _ c1 (e7.extBut _ _ c1 (Kd _ e))
 have t8:IsPair g8 g5.objs.size x y:=e8.extBut _ _ (ne_of_gt zlt) (e7.extBut _ _ (ne_of_gt zlt) (Ky _ rfl));rw[hsz]at z8 t8;refine Ke ⟨_,rfl,Ke ?_⟩;show Q (dk (.ref g5.objs.size)) _;rw[hsz];exact hQ g8 z8 (up _ _ D.TOz t5) (w1.at λo e=>up _ o D.i1z e) (w2.at λo e=>up _ o D.i2z e) t8 λc o c1 c2 c3 c4 e=>up c o c1 (k5 c o c1 c2 c3 c4 e)
def yx {b:Bool}{z TI TO i1 i2 l1 l2:D'}{k1:Nat}{xs:Array JW}{Q:Option JW->Kb->Prop}(hh:A.handled=JZ) (D:ZipApart z TI TO i1 i2 l1 l2)
 (hz:IsZip s.heap z TI TO .none) (hTI:IsPair s.heap TI (.ref i1) (.ref i2)) (h1:SqI b s.heap i1 l1 k1) (hl1:SqA b s.heap l1 xs) (hx:xs[k1]?=JZ)
 (hQ:∀ h',(∀ c o,c≠z->c≠i1->s.heap.get? c=dk o->h'.get? c=dk o)->Q JZ { s with heap:=h' }):Kq (model prog w) A (pyNext (.ref z)) Q E s:=by
 have hT:s.TypeIs (.ref z) "zip":=⟨_,hz,rfl⟩
 unfold pyNext;refine G' (wpAny_attempt (LC (name:=Ml "__next__") hT F.slot_zip_next (LB F.slot_zip_next hT F.entry_zip_next ?_ (F.args_zip_next_1 _))));show Kq _ _ (field (.ref z) 2 >>= _) _ _ _;refine G' (Lx hz rfl (x:=.bool f') rfl ?_);show Kq _ _ (field (.ref z) 3 >>= _) _ _ _;refine G' (Lx hz rfl (x:=.ref TI) rfl (G' (LV hTI rfl ?_)));show Kq _ _ (Ly (.ref z) >>= _) _ _ _;refine G' ?_;unfold Ly;refine G' (Lx hz rfl (x:=.none) rfl (Ke ?_));simp only[if_true];refine G' (LU (G' (Lx hz rfl (x:=.ref TO) rfl (G' (wpAny_setField_rec hz (by simp) λg1 z1 e1=>?_)))))
 replace z1:IsZip g1 z TI TO .ellipsis:=z1
 refine G' ?_;simp only[List.zipIdx_cons,List.zipIdx_nil,forIn_cons,forIn_nil];refine G' (G' (wpAny_onRaise ?_));show Kq _ _ (Le (.ref i1) >>= _) _ _ _;refine G' (wq hh (h1.at λo e=>e1.extBut _ _ D.i1z e) (hl1.at λo e=>e1.extBut _ _ D.l1z e) hx λg2 e e2 he=>?_);obtain⟨oe,hoe,hce⟩:=he;have z2:IsZip g2 z TI TO .ellipsis:=e2 _ _ D.i1z.symm z1;have hez:e≠z:=λq=>by subst q;rw[z2]at hoe;cases hoe;simp at hce
 refine wpAny_setField_rec z2 (by simp) λg3 _ e3=>?_
 refine G' (wpAny_isInstance (T:="StopIteration") (b:=j') ⟨oe,e3.extBut _ _ hez hoe,hce⟩ isSubtype_stop ?_);exact Ke (hQ g3 λc o c1 c2 q=>e3.extBut _ _ c1 (e2 _ _ c2 (e1.extBut _ _ c1 q)))
abbrev Cp (h:KN) (l1:D'):KN:=h.push { cls:=.type "tuple_iterator",data:=.fields #[.ref l1,.int 0 0] }
abbrev BM (h:KN) (l1 l2:D'):KN:=(Cp h l1).push { cls:=.type "tuple_iterator",data:=.fields #[.ref l2,.int 0 0] }
abbrev Co (h:KN) (l1 l2:D'):KN:=(BM h l1 l2).push { cls:=.type "tuple",data:=.seq #[.ref h.objs.size,.ref (Cp h l1).objs.size] }
abbrev BU (h:KN) (l1 l2:D'):KN:=(Co h l1 l2).push { cls:=.type "tuple",data:=.seq #[.none,.none] }
abbrev yc (h:KN) (l1 l2:D'):KN:=(BU h l1 l2).push { cls:=.type "zip",data:=.fields #[.none,.bool f',.bool f',.ref (BM h l1 l2).objs.size,.ref (Co h l1 l2).objs.size] }
def yf (l1 l2:D') (xs ys:Array JW) :
 Meets (Builtin.«zip.__new__» ⟨[.type "zip",.ref l1,.ref l2],[]⟩) (λ_ R s=>s.heap.IsTuple l1 xs/\s.heap.IsTuple l2 ys/\R (.ok (.ret (.ref (BU s.heap l1 l2).objs.size))) { s with heap:=yc s.heap l1 l2 }) :=
 .of_wp λprog w A R s h=>by
  obtain⟨hp,g,d,tk,os⟩:=s;obtain⟨hl1,hl2,h⟩:=h;have hsub:=sub_zip;have hL1:KN.IsTuple (Kb.heap ⟨hp,g,d,tk,os⟩) l1 xs:=hl1;have hL2:KN.IsTuple (Kb.heap ⟨hp.push { cls:=.type "tuple_iterator",data:=.fields #[.ref l1,.int 0 0] },g,d,tk,os⟩) l2 ys:=KN.IsTuple.push hl2 _
  wp_walk using wpAny_pyIter_tuple hL1,wpAny_pyIter_tuple hL2
  exact⟨_,rfl,h⟩
def vH {b:Bool}{l1 l2:D'}{xs ys:Array JW}{Q:JW->Kb->Prop}(hl1:SqA b s.heap l1 xs) (hl2:SqA b s.heap l2 ys)
 (h:∀ h',IsZip h' (s.heap.objs.size+4) (s.heap.objs.size+2) (s.heap.objs.size+3) .none->IsPair h' (s.heap.objs.size+2) (.ref s.heap.objs.size) (.ref (s.heap.objs.size+1)) ->
  IsPair h' (s.heap.objs.size+3) .none .none->SqI b h' s.heap.objs.size l1 0->SqI b h' (s.heap.objs.size+1) l2 0->(∀ c o,s.heap.get? c=dk o->h'.get? c=dk o)->Q (.ref (s.heap.objs.size+4)) { s with heap:=h' }) :
 Kq (model prog w) A (call (.type "zip") [.ref l1,.ref l2]) Q E s:=by
 cases b with
|false=>exact call_zip_2 hl1 hl2 λh' a1 a2 a3 a4 a5 _ a7=>h h' a1 a2 a3 a4 a5 a7
|true =>
  refine callType_new F.called_zip (by decide) (F.typeCall_zip_2 _ _) (F.newCall_zip_2 _ _) (λobj=>F.args_object_init_3 obj _ _) F.entry_zip_new (yf l1 l2 xs ys) ⟨hl1,hl2,?_⟩;have z1:(Cp s.heap l1).objs.size=s.heap.objs.size+1:=KN.size_push ..;have z2:(BM s.heap l1 l2).objs.size=s.heap.objs.size+2:=by rw[KN.size_push,z1]
  have z3:(Co s.heap l1 l2).objs.size=s.heap.objs.size+3:=by rw[KN.size_push,z2]
  have z4:(BU s.heap l1 l2).objs.size=s.heap.objs.size+4:=by rw[KN.size_push,z3]
  have g5:(yc s.heap l1 l2).get? (BU s.heap l1 l2).objs.size=dk _:=Ky _ rfl;have g4:(yc s.heap l1 l2).get? (Co s.heap l1 l2).objs.size=dk _:=Kd _ (Ky _ rfl);have g3:(yc s.heap l1 l2).get? (BM s.heap l1 l2).objs.size=dk _:=Kd _ (Kd _ (Ky _ rfl));have g2:(yc s.heap l1 l2).get? (Cp s.heap l1).objs.size=dk _:=Kd _ (Kd _ (Kd _ (Ky _ rfl)));have g1:(yc s.heap l1 l2).get? s.heap.objs.size=dk _:=Kd _ (Kd _ (Kd _ (Kd _ (Ky _ rfl))));show _/\_;rw[z2,z3,z4]at g5;rw[z1,z2]at g3;rw[z3]at g4;rw[z1]at g2;rw[z4];exact⟨⟨_,g5,rfl⟩,h _ g5 g3 g4 ⟨_,g1,rfl,rfl⟩ ⟨_,g2,rfl,rfl⟩ λc o x=>Kd _ (Kd _ (Kd _ (Kd _ (Kd _ x))))⟩
end
end PySem
namespace L2
open PySem PySem.Spec PyProof.Rows
def Sq (b:Bool) (K:Kc) (H:Hp) (a:D') (xs:List V):Prop:=match b with
|false=>SqL K H a xs
|true=>SqT K H a xs
section
variable {X:Cx}
def Inv.sq {Mq:List (D' × LF)}{σ:St}{H:Hp}{s:Kb}{b:Bool}{a:D'}{xs:List V}(I:Inv X Mq σ H s) (h:Sq b X.K H a xs):∃ its:List JW,bZ xs its/\SqA b s.heap a its.toArray:=by
 cases b with
|false=>obtain⟨its,r,p,_⟩:=I.list h;exact⟨its,r,p.isList⟩
|true=>obtain⟨its,r,p,_⟩:=I.tuple h;exact⟨its,r,p⟩
def Inv.sq_inj {Mq:List (D' × LF)}{σ:St}{H:Hp}{s:Kb}{b:Bool}{a:D'}{xs ys:List V}(I:Inv X Mq σ H s) (h:Sq b X.K H a xs) (h':Sq b X.K H a ys):xs=ys:=by
 cases b
 . exact I.list_inj h h'
 . exact I.tuple_inj h h'
def Inv.turnedL {Mq:List (D' × LF)}{σ:St}{H:Hp}{s:Kb}{h':KN}{t':Nat}{ch:List D'}(I:Inv X Mq σ H s) (hf:∀ b∈ch,wD X Mq H b) (k:∀ b o,b ∉ ch->s.heap.get? b=dk o->h'.get? b=dk o):Inv X Mq σ H { s with heap:=h',toks:=t' }:=by
 refine I.step (g':=s.gens) (d':=s.drawn) (ch:=ch) (λb hb=>?_) (λb o _ _ n e _=>k b o n e) (λb o _ _ n e _=>⟨o.slots,k b o n e⟩) (λ_ _ _ _ n=>n) (λb o n e=>⟨o,k b o n e⟩) (λ_ _ q=>q) (λ_ _ _ q=>q) (λ_ ps q=>⟨#[],by rw[Array.append_empty];exact q⟩) (λm hm=>?_) (λa o e=>?_) I.bare
 . obtain⟨_,f1,_,f3,f4,f5⟩:=hf b hb;exact⟨f3,f1,f4,f5⟩
 . obtain⟨o,es,ep,ho,r⟩:=hm;exact⟨o,es,ep,k _ o (λz=>(hf _ z).2.1 rfl) ho,r⟩
 . refine(I.hok a o e).stay (λb u hb q=>k b u (λz=>?_) q) (λ_ q=>q) λ_ _ q=>q
   have n:=(hf b z).1;rcases hb with rfl|hb
   . rw[n]at e;cases e
   . rw[n]at hb;cases hb
def Inv.aptSz {Mq:List (D' × LF)}{σ:St}{H:Hp}{s:Kb}{b:D'}(I:Inv X Mq σ H s) (hb:s.heap.objs.size <= b) (hn:H b=JZ):Apt X Mq H b:=by
 obtain⟨_,f1,_,_,f4,f5⟩:=I.fpOk hb hn;refine⟨?_,hn,f1,f4,f5⟩;cases q:X.s₀.heap.get? b with
|none=>rfl
|some o=>exact absurd (Kg (Ks q) (K6 I.sz hb)) (L6 _)
def Itz (b:Bool) (K:Kc) (a1 a2:D'):It :=
 ⟨λi H=>∃ xs ys x y,Sq b K H a1 xs/\Sq b K H a2 ys/\xs[i]?=dk x/\ys[i]?=dk y,
  λi H v H'=>∃ T x y,H T=JZ/\v=.ref T/\H'=upd H T (.tup [x,y])/\(∀ xs,Sq b K H a1 xs->xs[i]?=dk x)/\∀ ys,Sq b K H a2 ys->ys[i]?=dk y,
  λi H=>∃ xs,Sq b K H a1 xs/\xs.length <= i⟩
def Cd {P:Kz}{w:Kk}{K:Kc}{elts:List Expr}{kt:Nat}{pt:Pos}{b:Bool}{z TI TO i1 i2 a1 a2:D'}(D:ZipApart z TI TO i1 i2 a1 a2) :
 Turn P w K (.Tuple elts kt pt) (Itz b K a1 a2) [z,TI,TO,i1,i2] z (λi h=>IsZip h z TI TO .none/\IsPair h TI (.ref i1) (.ref i2)/\(∃ a c,IsPair h TO a c)/\SqI b h i1 a1 i/\SqI b h i2 a2 i) where
 mem:=Km
 obj:=λi h st c hc=>by
  obtain⟨s1,s2,⟨_,_,s3⟩,s4,s5⟩:=st;simp only[KA,KL,or_false]at hc;rcases hc with rfl|rfl|rfl|rfl|rfl
  . exact⟨_,s1,λv q=>by cases q⟩
  . exact⟨_,s2,λv q=>by cases q⟩
  . exact⟨_,s3,λv q=>by cases q⟩
  . exact s4.obj
  . exact s5.obj
 keep:=λi h h' st k=>by
  obtain⟨s1,s2,⟨u,v,s3⟩,s4,s5⟩:=st;exact⟨k z (by simp) _ s1,k TI (by simp) _ s2,⟨u,v,k TO (by simp) _ s3⟩,s4.at λo e=>k i1 (by simp) o e,s5.at λo e=>k i2 (by simp) o e⟩
 item:=by
  intro X hP hw hK hc i Mq s σ H E I hf st hg;subst hP hw hK;obtain⟨s1,s2,⟨u,v,s3⟩,s4,s5⟩:=st;obtain⟨xs,ys,x,y,q1,q2,hx,hy⟩:=hg;obtain⟨us,r1,p1⟩:=I.sq q1;obtain⟨ws,r2,p2⟩:=I.sq q2;obtain⟨ux,hux,rx⟩:=r1.get hx;obtain⟨uy,huy,ry⟩:=r2.get hy;refine ww D s1 s2 s3 s4 s5 p1 p2 (x:=ux) (y:=uy) (by simpa using hux) (by simpa using huy) λh' t1 t2 t3 t4 t5 kk=>?_
  have hfresh:H s.heap.objs.size=JZ:=I.hok.fresh (Kf _);have lt:∀ {c o},s.heap.get? c=dk o->c≠s.heap.objs.size:=λe=>Ld (Ks e)
  refine⟨_,rfl,wpAny_letOwnedTupleGo_zip t1 λh'' u1 e2=>?_⟩;have ch:∀ c o,c ∉ [z,TO,i1,i2]->s.heap.get? c=dk o->h''.get? c=dk o:=λc o n e=>by
   have n1:c≠z:=λq=>n (by simp[q])
   exact e2.extBut _ _ n1 (kk c o n1 (λq=>n (by simp[q])) (λq=>n (by simp[q])) (λq=>n (by simp[q])) e)
  have sub:∀ c∈[z,TO,i1,i2],c∈[z,TI,TO,i1,i2]:=λc hc=>by
   simp only[KA,KL,or_false]at hc |-;rcases hc with h|h|h|h<;>simp[h]
  have I1:Inv X Mq σ H { s with heap:=h'' }:=I.turnedL (t':=s.toks) (λb hb=>hf b (sub b hb)) ch;have T5:IsPair h'' s.heap.objs.size ux uy:=e2.extBut _ _ (lt s1).symm t5;have apt:=I.aptSz (Kf s.heap.objs.size) hfresh;have I2:=I1.seen (o:=.tup [x,y]) apt ⟨by show 2 <= Ki;decide,[ux,uy],.cons rx (.cons ry .nil),⟨_,T5,rfl,_,rfl⟩⟩;refine⟨.ref s.heap.objs.size,_,I2,rfl,⟨_,x,y,hfresh,rfl,rfl,λzs hz=>by rw[I.sq_inj hz q1];exact hx,λzs hz=>by rw[I.sq_inj hz q2];exact hy⟩,⟨u1,e2.extBut _ _ D.TIz (kk _ _ D.TIz D.TITO D.TIi1 D.TIi2 s2),⟨_,_,e2.extBut _ _ D.TOz t2⟩,t3.at λo e=>e2.extBut _ _ D.i1z e,t4.at λo e=>e2.extBut _ _ D.i2z e⟩,λb hb=>?_⟩;obtain⟨o,ho,_⟩:∃ o,s.heap.get? b=dk o/\True:=by
   simp only[KA,KL,or_false]at hb;rcases hb with rfl|rfl|rfl|rfl|rfl
   . exact⟨_,s1,trivial⟩
   . exact⟨_,s2,trivial⟩
   . exact⟨_,s3,trivial⟩
   . obtain⟨o,e,_⟩:=s4.obj;exact⟨o,e,trivial⟩
   . obtain⟨o,e,_⟩:=s5.obj;exact⟨o,e,trivial⟩
  rw[ac (lt ho)];exact(hf b hb).1
 done:=by
  intro X hP hw hK hc i Mq s σ H E I hf st hg;subst hP hw hK;obtain⟨s1,s2,_,s4,s5⟩:=st;obtain⟨xs,q1,hx⟩:=hg;obtain⟨us,r1,p1⟩:=I.sq q1;have hl:=r1.length;exact yx (I.ok.hd hc) D s1 s2 s4 p1 (by simp;omega) λh' kk=>⟨rfl,I.turnedL (t':=s.toks) (ch:=[z,i1]) (λb hb=>hf b (by
   simp only[KA,KL,or_false]at hb |-;rcases hb with q|q<;>simp[q])) λb o n e=>kk b o (λq=>n (by simp[q])) (λq=>n (by simp[q])) e⟩
 self:=λA i s Q E st hQ=>wpAny_pyIter_zip st.1 hQ
def Ip (K:Kc) (ta:TA):TI:=λσ H R=>ta σ H λvs H1=>∃ b a1 a2 xs ys,vs=[.ref a1,.ref a2]/\Sq b K H1 a1 xs/\Sq b K H1 a2 ys/\R (Itz b K a1 a2) H1
def Bk:K7 "zip"=dk (.type "zip"):=by decide +kernel
def zC {n l1 l2:Nat}(h1:l1 < n) (h2:l2 < n):ZipApart (n+4) (n+2) (n+3) n (n+1) l1 l2:=by
 constructor<;>(show (_:Nat)≠_;omega)
def Fw {a c:Expr}{ta:TA}{p pos pt:Pos}{elts:List Expr}{kt:Nat}(hg:Gl X "zip") (hm:X.mg "zip"=JZ) (ha:PA X [a,c] ta) (hs:KP [a,c] X.env=[(f',eval a X.env),(f',eval c X.env)]:=by rfl) (hs2:KP [c] X.env=[(f',eval c X.env)]:=by rfl) :
 PI X (.Tuple elts kt pt) (.Call (.Name "zip" p) [a,c] [] pos) (Ip X.K ta):=by
 intro Mq s σ H R I h;refine Call_ (pc I hg hm Bk (LD (thn (ha pos Mq s σ H _ I h) λus s1 ur53=>?_) (by rw[hs,hs2]) (by rw[hs2];rfl)));obtain⟨vs,H1,I1,r1,q1⟩:=ur53;obtain⟨b,a1,a2,xs,ys,e,h1,h2,q⟩:=q1;subst e;obtain⟨u,w',rfl,ru,rw⟩:=GJ r1;cases ru;cases rw;obtain⟨us,_,p1⟩:=I1.sq h1;obtain⟨ws,_,p2⟩:=I1.sq h2;refine vH p1 p2 λh' z1 z2 z3 z4 z5 kk=>wpAny_pyIter_zip z1 ?_
 have fr:∀ b,s1.heap.objs.size <= b->wD X Mq H1 b:=λb hb=>I1.fpOk hb (I1.hok.fresh hb)
 refine⟨_,[s1.heap.objs.size+4,s1.heap.objs.size+2,s1.heap.objs.size+3,s1.heap.objs.size,s1.heap.objs.size+1],_,_,H1,rfl,I1.kept (t':=s1.toks) kk,Cd (zC p1.lt p2.lt),⟨z1,z2,⟨_,_,z3⟩,z4,z5⟩,λb hb=>fr b ?_,q⟩;simp only[KA,KL,or_false]at hb;rcases hb with rfl|rfl|rfl|rfl|rfl<;>omega
end
section
variable {X:Cx}
theorem zP:∀ {us:List JW}{ns:List Int},IntsAre us ns->bZ (ns.map V.int) us
|_,_,.nil=>.nil
|_,_,.cons n t r=>.cons ⟨t,rfl⟩ (zP r)
def zg:K7 "sorted"=dk (.builtin "sorted"):=by decide +kernel
end
section
variable {X:Cx}
theorem rc {P:Kz}{w:Kk}:∀ {vs:List (Key × JW)}{ns:List Int}{us:List JW},vs.map (·.1)=ns.map Lc->us.length=vs.length ->
 (∀ (j:Nat) (u:JW),us[j]?=dk u->∃ k x,vs[j]?=dk (k,x)/\(bg P w).is k u=j')->IntsAre us ns
|[],[],[],_,_,_=>.nil
|[],[],_ :: _,_,h,_=>by cases h
|[],_ :: _,_,h,_,_=>by cases h
|_ :: _,[],_,h,_,_=>by cases h
|_ :: _,_ :: _,[],_,h,_=>by cases h
|(k,x) :: vs,n :: ns,u :: us,e,h,g=>by
  have e1:k=Lc n:=by simpa using (List.cons.inj e).1
  subst e1;have r:=rc (P:=P) (w:=w) (us:=us) (List.cons.inj e).2 (by simpa using h) λj u' hu=>by
   obtain⟨k',x',q,q2⟩:=g (j+1) u' (by simpa using hu);exact⟨k',x',by simpa using q,q2⟩
  obtain⟨k',x',q,q2⟩:=g 0 u rfl;cases q;rcases bc (show o5 (Lc n) u=j' from q2) with⟨i,t,e1,e2⟩|⟨y,t,e1,e2⟩
  . cases e1;subst e2;exact .cons _ t r
  . cases e1
def vi (hc:X.calm=j'):uP X (.builtin "sorted") (λxs H Q=>∃ (p:D') (kvs:List (Key × V)) (ns:List Int),xs=[.ref p]/\H p=dk (.dK kvs)/\kvs.map (·.1)=ns.map Lc/\ns.length < 64 /\
 ∀ (l:D') (ns':List Int),H l=JZ->ns'.Perm ns->ns'.Pairwise (· <= ·)->Q (.ref l) (upd H l (.lst (ns'.map V.int)))):=by
 intro Mq s σ H xs us Q I r h;obtain⟨p,kvs,ns,rfl,hH,hk,h64,q⟩:=h;obtain⟨u,rfl,rx⟩:=ym r;cases rx;obtain⟨z,hd,vs,rel,dd⟩:=yd I.hok hH;have hl:=rel.length;have hkv:vs.map (·.1)=ns.map Lc:=by rw[<-hk];exact rel.keys.symm
 have hln:ns.length=vs.length:=by
  have:=congrArg LN hkv;simpa using this.symm
 obtain⟨ep,hat⟩:=dd.dictAt;refine Calls.call_function_entry kind_sorted plain_sorted entry_sorted (args_sorted1 _) ?_;unfold Builtin.«sorted»;refine G' (m:=checkCount "sorted" 1 1 _) (Ke ?_);refine G' (kdu_collect (A:=X.A.in1) (kdl_dict (knd:=bg X.prog X.w) (kvs:=vs) (ep:=ep) hd) (I.ok.hd hc) hat (by omega) λh' tk acc hkp hacc=>?_);have I1:Inv X Mq σ H { s with heap:=h',toks:=tk }:=I.kept (t':=tk) hkp;have hal:acc.toList.length=vs.length:=by rw[Mi];exact hacc.1
 have hI:IntsAre acc.toList ns:=rc (P:=X.prog) (w:=X.w) hkv hal λj u hu=>by
  obtain⟨k,x,e,g⟩:=hacc.2 j u (by rw[<-LX];exact hu);exact⟨k,x,e,g⟩
 refine G' (wpAny_newList ?_ (by rw[hal];omega));have hoL:(h'.push (seqObj "list" acc.toList.toArray 0)).get? h'.objs.size=dk (seqObj "list" acc.toList.toArray 0):=Ky _ rfl;show Kq _ _ _ _ _ { s with heap:=h'.push (seqObj "list" acc.toList.toArray 0),toks:=tk };refine G' (LG (LB slot_list_sort ⟨_,hoL,rfl⟩ entry_list_sort (list_sort_tree hoL hI (by omega) λout ns' a1 a2 a3=>⟨_,rfl,?_⟩) (args_list_sort _)));obtain⟨e,he⟩:=sortedHeap_at (out:=out) hoL;refine Ke ⟨_,rfl,.ref h'.objs.size,_,I1.laid (t':=tk) (o:=.lst (ns'.map V.int)) (λb o' q=>?_) (Kf _) ?_,rfl,q _ _ (I1.hok.fresh (Kf _)) a2 a3⟩
 . rw[sortedHeap_old (Ld (Ks q)) (by rw[size_push'];exact Nat.lt_succ_of_lt (Ks q))];exact Kd _ q
 . exact⟨by rw[Kv,a2.length_eq];omega,out.toList,e,zP a1,he⟩
end
def vL {prog:Kz}{w:Kk}{A:KY}{E:JW->Kb->Prop}{s:Kb}{Q:Int->Kb->Prop}(h:Q 4238894112 { s with toks:=s.toks+1 }):Kq (model prog w) A (pyHash .none) Q E s:=by
 have hT:s.TypeIs Lr "NoneType":=rfl;unfold pyHash;have hv:[Lr].any JW.onHeap=f':=rfl;refine G' ?_;rw[cRoomFor,Qr (by rw[hv];exact Kr)];refine Ke ?_;refine G' (wpAny_specialOf hT PySem.F.slot_NoneType_hash.lookup ?_);show Kq _ _ (if (dk (JW.builtin "NoneType.__hash__") == dk Lr)=j' then _ else _) Q E s;rw[Qr (by rw[beq_builtin_none];exact Kr)];refine G' (wpAny_specialOf hT PySem.F.slot_NoneType_hash.lookup ?_);show Kq _ _ (callSpecialIfBoundUnlessNone? Lr "__hash__" _ >>= _) Q E s;refine G' (wpAny_callSpecialIfBoundUnlessNone?_slot hT PySem.F.slot_NoneType_hash
  (LB PySem.F.slot_NoneType_hash hT PySem.F.entry_NoneType_hash
   (show Kq _ _ (do ret (<-mkInt 4238894112)) _ _ s from wpAny_ret_mkInt ?_) (PySem.F.args_NoneType_hash_1 _)))
 show Kq _ _ (if (decide (-(2:Int) ^ 63 <= 4238894112) && decide ((4238894112:Int) < 2 ^ 63))=j' then _ else _) Q E _;rw[Qq (by decide)];exact Ke h
def FQ:Option Key->JW->Bool
|none,.none=>j'
|none,_=>f'
|some k,v=>o5 k v
def eI {v:JW}(h:FQ JZ v=j'):v=.none:=by
 cases v<;>first|rfl|cases h
def vE (prog:Kz) (w:Kk):PySem.KeyKind prog w (Option Key) where
 is:=FQ
 hash:=λk=>match k with
 |none=>4238894112
 |some k=>IE w k
 inj:=λv a b ha hb=>by
  cases a with
 |none =>
   cases eI ha;cases b with
  |none=>rfl
  |some k=>rcases bc (show o5 k Lr=j' from hb) with⟨i,t,_,e⟩|⟨x,t,_,e⟩<;>cases e
 |some k =>
   cases b with
  |none =>
    cases eI hb;rcases bc (show o5 k Lr=j' from ha) with⟨i,t,_,e⟩|⟨x,t,_,e⟩<;>cases e
  |some k'=>rw[(bg prog w).inj v k k' ha hb]
 byValue:=λk v h=>by
  cases k with
 |none=>cases eI h;rfl
 |some k=>exact(bg prog w).byValue k v h
 pyHash:=λ{A E s k v Q} hv h=>by
  cases k with
 |none=>cases eI hv;exact vL h
 |some k=>exact(bg prog w).pyHash (k:=k) hv h
 eqBool:=λ{A E s a b u v Q} hu hv h=>by
  cases a with
 |none =>
   cases eI hu;cases b with
  |none=>cases eI hv;exact K2.same Lr _ _ _ _ h
  |some k =>
    rcases bc (show o5 k v=j' from hv) with⟨i,t,rfl,rfl⟩|⟨x,t,rfl,rfl⟩
    . exact K2.none_int i t _ _ _ _ h
    . exact K2.none_str x t _ _ _ _ h
 |some k =>
   cases b with
  |none =>
    cases eI hv;rcases bc (show o5 k u=j' from hu) with⟨i,t,rfl,rfl⟩|⟨x,t,rfl,rfl⟩
    . exact K2.int_none i t _ _ _ _ h
    . exact K2.str_none x t _ _ _ _ h
  |some k' =>
    refine(bg prog w).eqBool (a:=k) (b:=k') hu hv ?_;have e:decide (dk k=dk k')=decide (k=k'):=by
     rw[decide_eq_decide];exact⟨λz=>KH z,λz=>by rw[z]⟩
    rw[<-e];exact h
 «strs»:=λk x t v h=>by
  cases k with
 |none=>cases h
 |some k=>exact(bg prog w).strs k x t v h
theorem ve {P:Kz}{w:Kk}:∀ {es:List KQ}{vs:List (Key × JW)},Pairs (bg P w) es vs->Pairs (vE P w) es (vs.map λq=>(dk q.1,q.2))
|_,_,.nil=>.nil
|_,_,.cons a b t=>.cons a b (ve t)
def BO {P:Kz}{w:Kk}{h:KN}{a:D'}{vs:List (Key × JW)}(d:h.DictOf (bg P w) a vs):h.DictOf (vE P w) a (vs.map λq=>(dk q.1,q.2)):=by
 obtain⟨o,es,ep,h1,h2,h3,h4,h5,h6⟩:=d;refine⟨o,es,ep,h1,h2,h3,λe he=>?_,ve h5,?_⟩
 . obtain⟨k,a,b⟩:=h4 e he;exact⟨dk k,a,b⟩
 . rw[map_map];have:((λq:Option Key × JW=>q.1) ∘ λq:Key × JW=>(dk q.1,q.2))=dk ∘ (λq:Key × JW=>q.1):=rfl;rw[this,<-map_map];exact Pairwise.map _ (λa b n z=>n (KH z)) h6
theorem D1:∀ (vs:List (Key × JW)),valueAt (vs.map λq=>(dk q.1,q.2)) (JZ:Option Key)=JZ
|[]=>rfl
|q :: vs=>by
  have:=D1 vs;unfold valueAt at this |-;rw[K1,LL];have e:decide (((dk q.1,q.2):Option Key × JW).1=JZ)=f':=rfl;rw[e];exact this
def F0 (td ty tx:TE):TE:=λσ H Q=>td σ H λx H1=>∃ a,x=.ref a/\IsD H1 a/\ty σ H1 λy H2=>tx σ H2 λz H3=>∃ kvs,H3 a=dk (.dK kvs) /\
 ((∃ k,y=kV k/\(∀ v,mw kvs k=dk v->Q v (upd H3 a (.dK (kA kvs k))))/\(mw kvs k=JZ->Q z H3))\/(y=.non/\Q z H3))
def AJ {X:Cx}{o e f:Expr}{apos cpos:Pos}{td ty tx:TE}(ho:PE X o td) (he:PE X e ty) (hf:PE X f tx) (m:M2 X o "pop" apos e f cpos):PE X (.Call (.Attribute o "pop" apos) [e,f] [] cpos) (F0 td ty tx):=by
 intro Mq s σ H Q I h;refine wpAny_Call_method m.base m.few m.line PySem.F.plainAttrs_dict LZ PySem.F.type_dict_pop (thn (ho Mq s σ H _ I h) λu s1 ur54=>?_);obtain⟨x,H1,I1,rx,a,ex,d,q1⟩:=ur54;subst ex;obtain rfl:u=KI a:=rx;obtain⟨t1,t2,_⟩:=Dr I1 d;refine⟨t1,t2,?_⟩;rw[m.trees];refine LR rfl (LO (LM (thn (he Mq s1 σ H1 _ I1 q1) λiv s2 ⟨y,H2,I2,ry,q2⟩ =>
  LM (thn (hf Mq s2 σ H2 _ I2 q2) λfv s3 ⟨z,H3,I3,rz,kvs,ea,q3⟩=>Calls.spliced_nil ?_))))
 rcases q3 with⟨k,ey,q3,q4⟩|⟨ey,q4⟩
 . subst ey;cases l:mw kvs k with
  |some v=>exact FW I3 ea ry l (.inr ⟨fv,rfl⟩) λw' s4 I4 rw'=>⟨v,_,I4,rw',q3 v l⟩
  |none=>exact Fv I3 ea ry l λs4 I4=>⟨z,H3,I4,rz,q4 l⟩
 . subst ey;cases ry;obtain⟨zz,hd,vs,rel,dd⟩:=yd I3.hok ea;exact call_meetsIn LZ dd.typeIs PySem.F.entry_dict_pop (PySem.F.args_dict_pop_3 _ _ _) (meets_dict_pop_default (vE X.prog X.w) a (k:=JZ) (key:=Lr) rfl hd rfl fv) ⟨_,BO dd,D1 vs,⟨z,H3,I3.tok _,rz,q4⟩⟩
def zr {x hd rl:D'}{l:Bool->D'}{c:D'}(hc:c=x\/c=hd\/c=rl\/∃ b,c=l b):Sto.own x hd rl l c:=by
 rcases hc with h|h|h|⟨b',h⟩
 . exact .inl h
 . exact .inr (.inl h)
 . exact .inr (.inr (.inl h))
 . cases b'
   . exact .inr (.inr (.inr (.inl h)))
   . exact .inr (.inr (.inr (.inr h)))
def Fk {x hd rl:D'}{l:Bool->D'}(b:Bool):Sto.own x hd rl l (l b):=zr (.inr (.inr (.inr ⟨b,rfl⟩)))
def Fy {x hd rl:D'}{l:Bool->D'}:Sto.own x hd rl l hd:=.inr (.inl rfl)
def Sto.kp {w:Kk}{C:D'}{H H':Hp}{x hd rl:D'}{l:Bool->D'}{M:List (Ka × V)}{r:Bool->List (Ka × V)}{xs:List D'}(S:Sto w C H x hd rl l M r) (k:Kp xs H H') (h:∀ c∈xs,¬ Sto.own x hd rl l c) (ht:∀ c∈xs,∀ vs,H c≠dk (.tup vs)):Sto w C H' x hd rl l M r :=
 S.keep (λc o hc e=>k c o (λz=>h c z (zr hc)) e) λc vs e=>k c _ (λz=>ht c z vs e) e
def Kp.one {H:Hp}{c:D'}{o:HO}:Kp [c] H (upd H c o):=λb u n e=>by rw[ac λz=>n (JY.mpr z)];exact e
def fld {K:Kc}{H:Hp}{a C dx:D'}{fs:List (Str × V)}{v:V}{f:Str}{Q:V->Prop}(hx:H a=dk (.ins C dx fs)) (c:Cls K C) (na:aX K C f) (l:fs.lookup f=dk v) (q:Q v) :
 ∃ a' C' dx' fs' v',V.ref a=.ref a'/\H a'=dk (.ins C' dx' fs')/\Cls K C'/\aX K C' f/\fs'.lookup f=dk v'/\Q v':=⟨a,C,dx,fs,v,rfl,hx,c,na,l,q⟩
structure RP where
 s:Int
 R:Int
 e:Bool
structure RP.Ok (p:RP):Prop where
 s0:0 < p.s
 s8:p.s <= 8
 sR:0 < p.s * p.R
structure SA where
 x:D'
 hd:D'
 rl:D'
 l:Bool->D'
abbrev SA.At (w:Kk) (C:D') (H:Hp) (z:SA) (M:List (Ka × V)) (r:Bool->List (Ka × V)):Prop:=Sto w C H z.x z.hd z.rl z.l M r
def SA.own (z:SA) (c:D'):Prop:=Sto.own z.x z.hd z.rl z.l c
def rF (st:D') (b:Bool) (w0 w1 w2:Str) (p:RP):List (Str × V) :=
 bn "counter_first" (.bl p.e) (bn "rounds" (.int p.R) (bn "size" (.int p.s) (bn "fetched" (.str w2) (bn "laid" (.str w1) (bn "word" (.str w0) (bn "side" (.int (sdI b)) (bn "shelf" (.ref st) [])))))))
section
variable {st:D'}{b:Bool}{w0 w1 w2:Str}{p:RP}
def gr:(rF st b w0 w1 w2 p).lookup ("shelf":Str)=dk (.ref st):=by unfold rF;repeat (first|rw[a9,Qq rfl]|rw[a9,Qr (by decide +kernel)]);try rfl
def k9:(rF st b w0 w1 w2 p).lookup ("side":Str)=dk (.int (sdI b)):=by unfold rF;repeat (first|rw[a9,Qq rfl]|rw[a9,Qr (by decide +kernel)]);try rfl
def Ec:(rF st b w0 w1 w2 p).lookup ("word":Str)=dk (.str w0):=by unfold rF;repeat (first|rw[a9,Qq rfl]|rw[a9,Qr (by decide +kernel)]);try rfl
def tL:(rF st b w0 w1 w2 p).lookup ("laid":Str)=dk (.str w1):=by unfold rF;repeat (first|rw[a9,Qq rfl]|rw[a9,Qr (by decide +kernel)]);try rfl
def nK:(rF st b w0 w1 w2 p).lookup ("fetched":Str)=dk (.str w2):=by unfold rF;repeat (first|rw[a9,Qq rfl]|rw[a9,Qr (by decide +kernel)]);try rfl
def rQ:(rF st b w0 w1 w2 p).lookup ("size":Str)=dk (.int p.s):=by unfold rF;repeat (first|rw[a9,Qq rfl]|rw[a9,Qr (by decide +kernel)]);try rfl
def uG:(rF st b w0 w1 w2 p).lookup ("rounds":Str)=dk (.int p.R):=by unfold rF;repeat (first|rw[a9,Qq rfl]|rw[a9,Qr (by decide +kernel)]);try rfl
def sE:(rF st b w0 w1 w2 p).lookup ("counter_first":Str)=dk (.bl p.e):=by unfold rF;repeat (first|rw[a9,Qq rfl]|rw[a9,Qr (by decide +kernel)]);try rfl
def lT:(rF st b w0 w1 w2 p).lookup ("filled":Str)=JZ:=by unfold rF;repeat (first|rw[a9,Qq rfl]|rw[a9,Qr (by decide +kernel)]);try rfl
def AN:(rF st b w0 w1 w2 p).lookup ("is_full":Str)=JZ:=by unfold rF;repeat (first|rw[a9,Qq rfl]|rw[a9,Qr (by decide +kernel)]);try rfl
def tD:(rF st b w0 w1 w2 p).lookup ("place_at":Str)=JZ:=by unfold rF;repeat (first|rw[a9,Qq rfl]|rw[a9,Qr (by decide +kernel)]);try rfl
def nI:(rF st b w0 w1 w2 p).lookup ("write_further":Str)=JZ:=by unfold rF;repeat (first|rw[a9,Qq rfl]|rw[a9,Qr (by decide +kernel)]);try rfl
def Dm:(rF st b w0 w1 w2 p).lookup ("lay":Str)=JZ:=by unfold rF;repeat (first|rw[a9,Qq rfl]|rw[a9,Qr (by decide +kernel)]);try rfl
def wy:(rF st b w0 w1 w2 p).lookup ("fetch":Str)=JZ:=by unfold rF;repeat (first|rw[a9,Qq rfl]|rw[a9,Qr (by decide +kernel)]);try rfl
end
def Rn (CR:D') (H:Hp) (q st:D') (b:Bool) (w0 w1 w2:Str) (p:RP):Prop:=∃ dx,H q=dk (.ins CR dx (rF st b w0 w1 w2 p))
def gK (ns:List Int):List (Key × V):=ns.map λi=>(.inl i,.bl j')
theorem gm (i:Int):∀ ns:List Int,mw (gK ns) (.inl i)=if ns.contains i then dk (.bl j') else JZ
|[]=>rfl
|n :: ns=>by
  by_cases h:n=i
  . subst h;show mw ((Lc n,V.bl j') :: gK ns) _=_;rw[gz rfl,contains_cons];simp
  . show mw ((Lc n,V.bl j') :: gK ns) _=_;rw[iU (λz=>h (Lc.inj z)),gm i ns,contains_cons];have:(i == n)=f':=by simpa using λz=>h z.symm
    rw[this];rfl
def qT (i:Int) (ns:List Int) (h:ns.contains i=f'):lB (gK ns) (.inl i) (.bl j')=gK (ns++[i]):=by
 unfold lB;rw[kz,gm,h];simp[gK]
def Em (i:Int) (ns:List Int) (h:ns.contains i=j'):lB (gK ns) (.inl i) (.bl j')=gK ns:=by
 unfold lB;rw[kz,gm,h];simp only[if_true,isSome_some];unfold gK;rw[map_map];refine List.map_congr_left λx _=>?_
 show (if Lc x=Lc i then _ else _)=_;split<;>rfl
theorem l6 (i:Int):∀ ns:List Int,kA (gK ns) (.inl i)=gK (ns.filter (λn=>decide (n≠i)))
|[]=>rfl
|n :: ns=>by
  have ih:=l6 i ns;unfold kA gK at ih |-;rw[K1,K4,K4,ih];have e:decide (((Lc n,V.bl j'):Key × V).1≠Lc i)=decide (n≠i):=by
   by_cases h:n=i
   . subst h;simp
   . have:(Lc n:Key)≠Lc i:=λz=>h (Lc.inj z)
     simp[h,this]
  rw[e];split<;>rfl
def qP (ns:List Int):(gK ns).length=ns.length:=by unfold gK;rw[Kv]
def lA (ns:List Int) (i:Int):List Int:=if ns.contains i then ns else ns++[i]
def DF (i:Int) (ns:List Int):lB (gK ns) (.inl i) (.bl j')=gK (lA ns i):=by
 unfold lA;cases h:ns.contains i with
|true=>rw[Em i ns h];rfl
|false=>rw[qT i ns h];rfl
structure HA where
 h:D'
 ra:D'
 rb:D'
 gd:D'
def hF (z:HA) (n:Int):List (Str × V):=bn "going" (.ref z.gd) (bn "names" (.int n) (bn "answers" (.ref z.rb) (bn "asks" (.ref z.ra) [])))
section
variable {z:HA}{n:Int}
def Au:(hF z n).lookup ("asks":Str)=dk (.ref z.ra):=by unfold hF;repeat (first|rw[a9,Qq rfl]|rw[a9,Qr (by decide +kernel)]);try rfl
def rm:(hF z n).lookup ("answers":Str)=dk (.ref z.rb):=by unfold hF;repeat (first|rw[a9,Qq rfl]|rw[a9,Qr (by decide +kernel)]);try rfl
def BA:(hF z n).lookup ("names":Str)=dk (.int n):=by unfold hF;repeat (first|rw[a9,Qq rfl]|rw[a9,Qr (by decide +kernel)]);try rfl
def oy:(hF z n).lookup ("going":Str)=dk (.ref z.gd):=by unfold hF;repeat (first|rw[a9,Qq rfl]|rw[a9,Qr (by decide +kernel)]);try rfl
def xy:(hF z n).lookup ("least_free":Str)=JZ:=by unfold hF;repeat (first|rw[a9,Qq rfl]|rw[a9,Qr (by decide +kernel)]);try rfl
def wH:(hF z n).lookup ("check_ask":Str)=JZ:=by unfold hF;repeat (first|rw[a9,Qq rfl]|rw[a9,Qr (by decide +kernel)]);try rfl
def GH:(hF z n).lookup ("ask":Str)=JZ:=by unfold hF;repeat (first|rw[a9,Qq rfl]|rw[a9,Qr (by decide +kernel)]);try rfl
def yo:(hF z n).lookup ("collect":Str)=JZ:=by unfold hF;repeat (first|rw[a9,Qq rfl]|rw[a9,Qr (by decide +kernel)]);try rfl
def Bp:(hF z n).lookup ("something_waits":Str)=JZ:=by unfold hF;repeat (first|rw[a9,Qq rfl]|rw[a9,Qr (by decide +kernel)]);try rfl
end
structure Hn (CH CR:D') (H:Hp) (z:HA) (st:D') (p:RP) (n:Int) (aw:List Int):Prop where
 ob:∃ dx,H z.h=dk (.ins CH dx (hF z n))
 ra:Rn CR H z.ra st f' "ask" "asked" "taken" p
 rb:Rn CR H z.rb st f' "answer" "answered" "handed" p
 go:H z.gd=dk (.dK (gK aw))
def HA.own (z:HA) (c:D'):Prop:=c=z.h\/c=z.ra\/c=z.rb\/c=z.gd
structure TA' where
 h:D'
 ra:D'
 rb:D'
 gd:D'
def tF (z:TA'):List (Str × V):=bn "doing" (.ref z.gd) (bn "answers" (.ref z.rb) (bn "asks" (.ref z.ra) []))
section
variable {z:TA'}
def Ao:(tF z).lookup ("asks":Str)=dk (.ref z.ra):=by unfold tF;repeat (first|rw[a9,Qq rfl]|rw[a9,Qr (by decide +kernel)]);try rfl
def qR:(tF z).lookup ("answers":Str)=dk (.ref z.rb):=by unfold tF;repeat (first|rw[a9,Qq rfl]|rw[a9,Qr (by decide +kernel)]);try rfl
def oF:(tF z).lookup ("doing":Str)=dk (.ref z.gd):=by unfold tF;repeat (first|rw[a9,Qq rfl]|rw[a9,Qr (by decide +kernel)]);try rfl
def Fe:(tF z).lookup ("take":Str)=JZ:=by unfold tF;repeat (first|rw[a9,Qq rfl]|rw[a9,Qr (by decide +kernel)]);try rfl
def wZ:(tF z).lookup ("check_answer":Str)=JZ:=by unfold tF;repeat (first|rw[a9,Qq rfl]|rw[a9,Qr (by decide +kernel)]);try rfl
def yK:(tF z).lookup ("answer":Str)=JZ:=by unfold tF;repeat (first|rw[a9,Qq rfl]|rw[a9,Qr (by decide +kernel)]);try rfl
def CG:(tF z).lookup ("tasks":Str)=JZ:=by unfold tF;repeat (first|rw[a9,Qq rfl]|rw[a9,Qr (by decide +kernel)]);try rfl
def Cl:(tF z).lookup ("something_waits":Str)=JZ:=by unfold tF;repeat (first|rw[a9,Qq rfl]|rw[a9,Qr (by decide +kernel)]);try rfl
end
structure Tn (CT CR:D') (H:Hp) (z:TA') (st:D') (p:RP) (ts:List Int):Prop where
 ob:∃ dx,H z.h=dk (.ins CT dx (tF z))
 ra:Rn CR H z.ra st j' "ask" "asked" "taken" p
 rb:Rn CR H z.rb st j' "answer" "answered" "handed" p
 go:H z.gd=dk (.dK (gK ts))
def TA'.own (z:TA') (c:D'):Prop:=c=z.h\/c=z.ra\/c=z.rb\/c=z.gd
section
variable {CH CT CR:D'}{H H':Hp}{st:D'}{p:RP}{n:Int}{aw:List Int}
def Rn.keep {q:D'}{b:Bool}{w0 w1 w2:Str}(r:Rn CR H q st b w0 w1 w2 p) (k:∀ o,H q=dk o->H' q=dk o):Rn CR H' q st b w0 w1 w2 p:=by
 obtain⟨dx,hx⟩:=r;exact⟨dx,k _ hx⟩
theorem Hn.keep {z:HA}(B:Hn CH CR H z st p n aw) (k:∀ c o,z.own c->H c=dk o->H' c=dk o):Hn CH CR H' z st p n aw:=by
 obtain⟨dx,hx⟩:=B.ob;exact⟨⟨dx,k _ _ (.inl rfl) hx⟩,B.ra.keep λo=>k _ o (.inr (.inl rfl)),B.rb.keep λo=>k _ o (.inr (.inr (.inl rfl))),k _ _ (.inr (.inr (.inr rfl))) B.go⟩
def Hn.same {z:HA}(B:Hn CH CR H z st p n aw) (q:bL H H'):Hn CH CR H' z st p n aw:=B.keep λc o _=>q c o
def Hn.there {z:HA}(B:Hn CH CR H z st p n aw) {c:D'}(hc:z.own c):∃ o,H c=dk o/\((∃ C dx fs,o=.ins C dx fs)\/∃ kvs,o=.dK kvs):=by
 rcases hc with rfl|rfl|rfl|rfl
 . obtain⟨dx,hx⟩:=B.ob;exact⟨_,hx,.inl ⟨_,_,_,rfl⟩⟩
 . obtain⟨dx,hx⟩:=B.ra;exact⟨_,hx,.inl ⟨_,_,_,rfl⟩⟩
 . obtain⟨dx,hx⟩:=B.rb;exact⟨_,hx,.inl ⟨_,_,_,rfl⟩⟩
 . exact⟨_,B.go,.inr ⟨_,rfl⟩⟩
def Hn.lists {z:HA}{xs:List D'}(B:Hn CH CR H z st p n aw) (k:Kp xs H H') (hx:∀ c∈xs,(∃ ys,H c=dk (.lst ys))\/∃ ee:List KQ × Nat,H c=dk (pY c ee.1 ee.2)):Hn CH CR H' z st p n aw :=
 B.keep λc o hc q=>k c o (λm=>by
  obtain⟨o',e,s⟩:=B.there hc;rcases hx c m with⟨ys,e'⟩|⟨ee,e'⟩
  . rw[e]at e';cases e';rcases s with⟨_,_,_,s⟩|⟨_,s⟩<;>cases s
  . rw[e]at e';cases e';rcases s with⟨_,_,_,s⟩|⟨_,s⟩<;>cases s) q
theorem Tn.keep {z:TA'}(B:Tn CT CR H z st p aw) (k:∀ c o,z.own c->H c=dk o->H' c=dk o):Tn CT CR H' z st p aw:=by
 obtain⟨dx,hx⟩:=B.ob;exact⟨⟨dx,k _ _ (.inl rfl) hx⟩,B.ra.keep λo=>k _ o (.inr (.inl rfl)),B.rb.keep λo=>k _ o (.inr (.inr (.inl rfl))),k _ _ (.inr (.inr (.inr rfl))) B.go⟩
def Tn.there {z:TA'}(B:Tn CT CR H z st p aw) {c:D'}(hc:z.own c):∃ o,H c=dk o/\((∃ C dx fs,o=.ins C dx fs)\/∃ kvs,o=.dK kvs):=by
 rcases hc with rfl|rfl|rfl|rfl
 . obtain⟨dx,hx⟩:=B.ob;exact⟨_,hx,.inl ⟨_,_,_,rfl⟩⟩
 . obtain⟨dx,hx⟩:=B.ra;exact⟨_,hx,.inl ⟨_,_,_,rfl⟩⟩
 . obtain⟨dx,hx⟩:=B.rb;exact⟨_,hx,.inl ⟨_,_,_,rfl⟩⟩
 . exact⟨_,B.go,.inr ⟨_,rfl⟩⟩
def Tn.lists {z:TA'}{xs:List D'}(B:Tn CT CR H z st p aw) (k:Kp xs H H') (hx:∀ c∈xs,(∃ ys,H c=dk (.lst ys))\/∃ ee:List KQ × Nat,H c=dk (pY c ee.1 ee.2)):Tn CT CR H' z st p aw :=
 B.keep λc o hc q=>k c o (λm=>by
  obtain⟨o',e,s⟩:=B.there hc;rcases hx c m with⟨ys,e'⟩|⟨ee,e'⟩
  . rw[e]at e';cases e';rcases s with⟨_,_,_,s⟩|⟨_,s⟩<;>cases s
  . rw[e]at e';cases e';rcases s with⟨_,_,_,s⟩|⟨_,s⟩<;>cases s) q
end
def bO (n:Nat) (aw:List Int):Option Int:=(Mm n).map (λ(k:Nat)=>(k:Int)) |>.find? λk=>!aw.contains k
def yk {n i:Nat}{aw:List Int}(hi:i < n) (h:aw.contains (i:Int)=f') (hno:∀ j < i,aw.contains (j:Int)=j'):bO n aw=dk (i:Int):=by
 unfold bO;rw[List.find?_eq_some_iff_getElem];refine⟨by rw[h];rfl,i,by simpa using hi,by simp,λj hj=>?_⟩;simp only[List.getElem_map,List.getElem_range];rw[hno j hj];rfl
def yu {n:Nat}{aw:List Int}(hno:∀ j < n,aw.contains (j:Int)=j'):bO n aw=JZ:=by
 unfold bO;rw[find?_eq_none];intro x hx;obtain⟨j,hj,rfl⟩:=Me.mp hx;rw[hno j (mem_range.mp hj)];decide
def mU {n:Nat}{aw:List Int}{k:Int}(h:bO n aw=dk k):aw.contains k=f':=by
 unfold bO at h;have:=List.find?_some h;simpa using this
def rP {n:Nat}{aw:List Int}{k:Int}(h:bO n aw=dk k):0 <= k/\k < n:=by
 unfold bO at h;have:=List.mem_of_find?_eq_some h;obtain⟨j,hj,rfl⟩:=Me.mp this;have:=mem_range.mp hj;omega
theorem sy (i:Str):∀ ns:List Str,inV (.str i) (ns.map V.str)=ns.contains i
|[]=>rfl
|n :: ns=>by
  have ih:=sy i ns;unfold inV at ih |-;rw[K1,any_cons,ih,contains_cons];congr 1;show eqV (.str n) (.str i)=(i == n)
  simp only[eqV];rw[Lz,beq_iff_eq,beq_iff_eq];exact eq_comm
theorem hU:∀ ns:List Str,(ns.map V.str).all sW=j'
|[]=>rfl
|n :: ns=>by rw[K1,all_cons,hU ns];rfl
def qZ {α:Type}{r:Bool->α}{b:Bool}{u v:α}:aC (aC r b u) b v=aC r b v:=by
 funext c;unfold aC;split<;>rfl
def kS {H:Hp}{t:Str}(h:Lf t=j'):vo H (.str t) (.str t):=⟨h,by show 0 <= 8;decide,rfl,.inl ⟨_,rfl⟩⟩
def kT {H:Hp}{a:D'}{t:Str}{i:Int}(h:Lf t=j') (ha:H a=dk (.tup [.str t,.int i])):vo H (.tuple [.str t,.int i]) (.ref a):=⟨by
 show (Lf _ && (j' && j'))=j';rw[h];rfl,by show 1 <= 8;decide,⟨a,_,rfl,ha,⟨_,_,rfl,rfl,_,_,rfl,rfl,rfl⟩⟩,.inr ⟨_,rfl⟩⟩
def up1 {H:Hp}{a b:D'}{o:HO}(h:upd H a o b=JZ):b≠a/\H b=JZ:=by
 have n:b≠a:=λz=>by rw[z,a8]at h;cases h
 exact⟨n,by rw[ac n]at h;exact h⟩
def cK {H H':Hp}{c:D'}(e:bL H H') (h:H' c=JZ):H c=JZ:=by
 cases z:H c with
|none=>rfl
|some o=>rw[e c o z]at h;cases h
def fZ {H H':Hp}{xs:List D'}{c:D'}(e:Kp xs H H') (h:H' c=JZ) (n:∀ x∈xs,H' x≠JZ):H c=JZ:=by
 cases z:H c with
|none=>rfl
|some o=>rw[e c o (λm=>n c m h) z]at h;cases h
def oQ (p:RP) (w0 w1:Str) (A:Int) (t:V):List (Ka × V) :=
 if p.e then [(.str w1,.int ((A+1) % (p.s * p.R))),(.tuple [.str w0,.int (A % p.s)],t)] else [(.tuple [.str w0,.int (A % p.s)],t),(.str w1,.int ((A+1) % (p.s * p.R)))]
def Sto.noT {w:Kk}{C:D'}{H:Hp}{x hd rl:D'}{l:Bool->D'}{M:List (Ka × V)}{r:Bool->List (Ka × V)}(S:Sto w C H x hd rl l M r) {b:Bool}{c:D'}{vs:List V}(h:H c=dk (.tup vs)):c ∉ [l b]:=λz=>by
 obtain⟨ts,e,_⟩:=S.rw b;rw[JY.mp z,e]at h;cases h
def Sto.noI {w:Kk}{C:D'}{H:Hp}{x hd rl:D'}{l:Bool->D'}{M:List (Ka × V)}{r:Bool->List (Ka × V)}(S:Sto w C H x hd rl l M r) {b:Bool}{c C' dx:D'}{fs:List (Str × V)}(h:H c=dk (.ins C' dx fs)):c ∉ [l b]:=λz=>by
 obtain⟨ts,e,_⟩:=S.rw b;rw[JY.mp z,e]at h;cases h
def Sto.noD {w:Kk}{C:D'}{H:Hp}{x hd rl:D'}{l:Bool->D'}{M:List (Ka × V)}{r:Bool->List (Ka × V)}(S:Sto w C H x hd rl l M r) {c:D'}{kvs:List (Key × V)}(h:H c=dk (.dK kvs)):¬ Sto.own x hd rl l c:=λz=>by
 rcases z with rfl|rfl|rfl|rfl|rfl
 . obtain⟨dx,e⟩:=S.ob;rw[e]at h;cases h
 . obtain⟨es,e⟩:=S.me.there;rw[e]at h;cases h
 . rw[S.ro]at h;cases h
 . obtain⟨ts,e,_⟩:=S.rw f';rw[e]at h;cases h
 . obtain⟨ts,e,_⟩:=S.rw j';rw[e]at h;cases h
def DJ {X:Cx}:kO (CXv X.prog X.w) X E0:=λ_ _ _ _ _ _ _ h=>by
 obtain⟨_,_,_,_,_,_,_,_,_,_,_,_,_,_,q⟩:=h;exact q.elim
def i8 {K:Kc}{H:Hp}{a C:D'}{fs:List (Str × V)}{v:V}{f:Str}{Q:V->Prop}(hx:∃ dx,H a=dk (.ins C dx fs)) (c:Cls K C) (na:aX K C f) (l:fs.lookup f=dk v) (q:Q v) :
 ∃ a' C' dx' fs' v',V.ref a=.ref a'/\H a'=dk (.ins C' dx' fs')/\Cls K C'/\aX K C' f/\fs'.lookup f=dk v'/\Q v':=let ⟨dx,hx⟩:=hx;⟨a,C,dx,fs,v,rfl,hx,c,na,l,q⟩
def dM {H:Hp}{a C:D'}{fs:List (Str × V)}{m:Str}{q:Prop}(hx:∃ dx,H a=dk (.ins C dx fs)) (l:fs.lookup m=JZ) (h:q) :
 ∃ a' dx' fs',V.ref a=.ref a'/\H a'=dk (.ins C dx' fs')/\fs'.lookup m=JZ/\q:=let ⟨dx,hx⟩:=hx;⟨a,dx,fs,rfl,hx,l,h⟩
section
variable {w:Kk}{CH CR CS:D'}{H H':Hp}{z:HA}{sa:SA}{p:RP}{n:Int}{aw:List Int}{M:List (Ka × V)}{r:Bool->List (Ka × V)}
end
section
variable {w:Kk}{CT CR CS:D'}{H H':Hp}{z:TA'}{sa:SA}{p:RP}{aw:List Int}{M:List (Ka × V)}{r:Bool->List (Ka × V)}
end
def RD (H:Hp) (p:Ka × V) (d:Ka):Prop:=∃ x,d=.tuple [p.1,x]/\DV H x p.2
theorem xk {H:Hp}:∀ {es:List (Ka × V)}{ts:List V}{ds:List Ka},Kx (Wt H) es ts->Kx (RD H) es ds->DVs H ds ts
|_,_,_,.nil,.nil=>rfl
|_,_,_,.cons ⟨t,cv,e,ht,hk⟩ r,.cons ⟨x,e',dx⟩ r'=>by
  subst e e';exact⟨_,_,rfl,⟨t,_,rfl,ht,_,_,rfl,hk.2.2.1,_,_,rfl,dx,rfl⟩,xk r r'⟩
theorem rp:∀ {ds:List Ka},(∀ d∈ds,MX.kd d=j'/\d.depth <= 9)->Lv ds=j'/\L0 ds <= 9
|[],_=>⟨rfl,LJ _⟩
|d :: ds,h=>by
  obtain⟨a,b⟩:=rp λu hu=>h u (Kl _ hu)
  have hd:=h d Km;refine⟨?_,?_⟩
  . show (Ka.canLay0 d && Lv ds)=j';rw[MX.kd_lay _ hd.1,a];rfl
  . show max d.depth (L0 ds) <= 9;have:=hd.2;omega
def lQ {H H':Hp}{h dh:D'}{C:D'}(nh:H h=JZ) (ndh:H dh=JZ) (kp:Kp [h] (upd (upd H dh (.own h)) h (.ins C dh [])) H'):bL H H':=λc o e=>by
 have y1:=ae e ndh;have y2:=ae e nh;exact kp c o (λz=>y2 (JY.mp z)) (by rw[ac y2,ac y1];exact e)
def xP {x:V}:[x].length <= Ki:=by show 1 <= Ki;decide
def pT:([]:List V).length <= Ki:=by show 0 <= Ki;decide
def FM {K:Kc}:kitOne K (.type "tuple") (.type "tuple")=dk j':=by rfl
def Iw {K:Kc}:kitOne K (.type "int") (.type "tuple")=dk f':=by rfl
inductive Cn where
|asked|taken|answered|handed|hs|ts
instance:DecidableEq Cn:=λa b=>by
 cases a<;>cases b<;>first|exact isTrue rfl|exact isFalse (λh=>by cases h)
def Cn.key:Cn->Str
|.asked=>"asked"
|.taken=>"taken"
|.answered=>"answered"
|.handed=>"handed"
|.hs=>"hand sleeps"
|.ts=>"heart sleeps"
def vQ:Bool->Str
|false=>"ask"
|true=>"answer"
def pk (g:Bool) (i:Int):Ka:=.tuple [.str (vQ g),.int i]
inductive Wr where
|c (k:Cn) (i:Int)
|p (g:Bool) (i nm wt:Int)
def Wr.key:Wr->Ka
|.c k _=>.str k.key
|.p g i _ _=>pk g i
def Wr.dat:Wr->Ka
|.c _ i=>.int i
|.p _ _ nm wt=>.tuple [.int nm,.int wt]
def Wr.Ok:Wr->Prop
|.c _ _=>True
|.p _ i nm _=>(0 <= i/\i < 8)/\0 <= nm/\nm < 9
def Wr.cnt (k:Cn):Wr->Option Int
|.c k' i=>if k'=k then dk i else JZ
|.p _ _ _ _=>JZ
def Wr.plc (g:Bool) (i:Int):Wr->Option (Int × Int)
|.c _ _=>JZ
|.p g' i' nm wt=>if g'=g/\i'=i then dk (nm,wt) else JZ
structure Mem where
 c:Cn->Int
 p:Bool->Int->Option (Int × Int)
def Mem.zero:Mem:=⟨λ_=>0,λ_ _=>JZ⟩
def Mem.put (m:Mem) (x:Wr):Mem:=⟨λk=>(x.cnt k).getD (m.c k),λg i=>(x.plc g i).or (m.p g i)⟩
def rdC (m:Mem) (row:List Wr) (k:Cn):Int:=(row.reverse.findSome? (Wr.cnt k)).getD (m.c k)
def rdP (m:Mem) (row:List Wr) (g:Bool) (i:Int):Option (Int × Int):=(row.reverse.findSome? (Wr.plc g i)).or (m.p g i)
def vG (m:Mem) (k:Cn):rdC m [] k=m.c k:=rfl
def f6 (m:Mem) (row:List Wr) (x:Wr) (k:Cn):rdC m (row++[x]) k=(x.cnt k).getD (rdC m row k):=by
 unfold rdC;rw[reverse_append];show (List.findSome? (Wr.cnt k) (x :: row.reverse)).getD (m.c k)=_;rw[LW];cases Wr.cnt k x<;>rfl
def lK (m:Mem) (row:List Wr) (x:Wr) (g:Bool) (i:Int):rdP m (row++[x]) g i=(x.plc g i).or (rdP m row g i):=by
 unfold rdP;rw[reverse_append];show (List.findSome? (Wr.plc g i) (x :: row.reverse)).or (m.p g i)=_;rw[LW];cases Wr.plc g i x<;>rfl
def yG (k:Cn):Lf k.key=j':=by cases k<;>decide +kernel
def Io (g:Bool):Lf (vQ g)=j':=by cases g<;>decide +kernel
def Fl {k k':Cn}(h:k.key=k'.key):k=k':=by
 cases k<;>cases k'<;>first|rfl|exact absurd h (by decide +kernel)
def GN {g g':Bool}(h:vQ g=vQ g'):g=g':=by
 cases g<;>cases g'<;>first|rfl|exact absurd h (by decide +kernel)
def wb (g:Bool) (i:Int):MX.kd (pk g i)=j':=by
 show (Lf (vQ g) && (j' && j'))=j';rw[Io];rfl
def wn (k:Cn):MX.kd (.str k.key)=j':=yG k
def Wr.key_kd (x:Wr):MX.kd x.key=j':=by
 cases x with
|c k i=>exact wn k
|p g i nm wt=>exact wb g i
def Wr.dat_kd (x:Wr):MX.kd x.dat=j':=by cases x<;>rfl
def Ft {g g':Bool}{i i':Int}(h:pk g i=pk g' i'):g=g'/\i=i':=by
 injection h with h
 injection h with h1 h2
 injection h1 with h1
 injection h2 with h2 _
 injection h2 with h2
 exact⟨GN h1,h2⟩
def se {x:Wr}{d:Ka}(hd:MX.kd d=j'):Kn x.key d=j' ↔ x.key=d:=MX.eqv_iff _ _ x.key_kd hd
def Wr.cnt_some {x:Wr}{k:Cn}{i:Int}(h:x.cnt k=dk i):x=.c k i:=by
 cases x with
|c k' j =>
  unfold Wr.cnt at h;dsimp only at h;split at h
  . rename_i e;cases e;cases h;rfl
  . cases h
|p=>cases h
def Wr.plc_some {x:Wr}{g:Bool}{i nm wt:Int}(h:x.plc g i=dk (nm,wt)):x=.p g i nm wt:=by
 cases x with
|c=>cases h
|p g' j a b =>
  unfold Wr.plc at h;dsimp only at h;split at h
  . rename_i e;obtain⟨e1,e2⟩:=e;cases e1;cases e2;cases h;rfl
  . cases h
def Wr.cnt_none {x:Wr}{k:Cn}(h:x.cnt k=JZ):x.key≠.str k.key:=by
 intro e;cases x with
|c k' j =>
  have:=Fl (Ka.str.inj e);unfold Wr.cnt at h;dsimp only at h;rw[Qq this]at h;cases h
|p=>cases e
def Wr.plc_none {x:Wr}{g:Bool}{i:Int}(h:x.plc g i=JZ):x.key≠pk g i:=by
 intro e;cases x with
|c=>cases e
|p g' j a b =>
  have:=Ft e;unfold Wr.plc at h;dsimp only at h;rw[Qq this]at h;cases h
def WrR (H:Hp) (x:Wr) (q:Ka × V):Prop:=x.Ok/\q.1=x.key/\DV H x.dat q.2
theorem WrR.keep {H H':Hp}{x:Wr}{q:Ka × V}(h:WrR H x q) (ht:∀ b vs,H b=dk (.tup vs)->H' b=dk (.tup vs)):WrR H' x q:=⟨h.1,h.2.1,DV.keep ht _ _ x.dat_kd h.2.2⟩
def lm:List Ka:=[.str (Cn.key .asked),.str (Cn.key .taken),.str (Cn.key .answered),.str (Cn.key .handed),.str (Cn.key .hs),.str (Cn.key .ts),
 pk f' 0,pk f' 1,pk f' 2,pk f' 3,pk f' 4,pk f' 5,pk f' 6,pk f' 7,pk j' 0,pk j' 1,pk j' 2,pk j' 3,pk j' 4,pk j' 5,pk j' 6,pk j' 7]
def Wr.key_all {x:Wr}(h:x.Ok):x.key∈lm:=by
 cases x with
|c k i=>cases k<;>first|exact KZ (i:=0) rfl|exact KZ (i:=1) rfl|exact KZ (i:=2) rfl|exact KZ (i:=3) rfl|exact KZ (i:=4) rfl|exact KZ (i:=5) rfl
|p g i a b =>
  obtain⟨m,rfl⟩:=Int.eq_ofNat_of_zero_le h.1.1;have h':m < 8:=Int.ofNat_lt.mp h.1.2;have e:∀ m:Nat,m < 8->lm[6+m]?=dk (pk f' m)/\lm[14+m]?=dk (pk j' m):=by intro m hm;match m,hm with|0,_|1,_|2,_|3,_|4,_|5,_|6,_|7,_=>exact⟨rfl,rfl⟩
  cases g
  . exact KZ (e m h').1
  . exact KZ (e m h').2
theorem oz {α:Type} [DecidableEq α]:∀ {l ks:List α},l.Nodup->(∀ a∈l,a∈ks)->l.length <= ks.length
|[],_,_,_=>LJ _
|a :: l,ks,h,hs=>by
  have ha:=hs a Km;have hn:=LK.mp h;have:=oz (l:=l) (ks:=ks.erase a) hn.2 λb hb=>(List.mem_erase_of_ne (λe=>hn.1 (by rw[<-e];exact hb))).mpr (hs b (Kl _ hb))
  rw[List.length_erase_of_mem ha]at this;have h0:0 < ks.length:=List.length_pos_of_mem ha;rw[KJ];omega
structure MemR (H:Hp) (M:List (Ka × V)) (m:Mem):Prop where
 c:∀ k:Cn,(fi M (.str k.key)).getD (.int 0)=.int (m.c k)
 p:∀ g i,(m.p g i=JZ/\fi M (pk g i)=JZ)\/∃ nm wt v,m.p g i=dk (nm,wt)/\fi M (pk g i)=dk v/\DV H (.tuple [.int nm,.int wt]) v
 ks:∀ q∈M,q.1∈lm
 ok:∀ g i nm wt,m.p g i=dk (nm,wt)->0 <= nm/\nm < 9
def yh:∀ d∈lm,MX.kd d=j':=by
 intro d hd;simp only[lm,KA,KL,or_false]at hd;rcases hd with rfl|rfl|rfl|rfl|rfl|rfl|rfl|rfl|rfl|rfl|rfl|rfl|rfl|rfl|rfl|rfl|rfl|rfl|rfl|rfl|rfl|rfl<;>first|exact wn _|exact wb _ _
def MemR.kk {H:Hp}{M:List (Ka × V)}{m:Mem}(h:MemR H M m):KK M:=λq hq=>yh _ (h.ks q hq)
theorem MemR.zero {H:Hp}:MemR H [] Mem.zero:=⟨λ_=>rfl,λ_ _=>.inl ⟨rfl,rfl⟩,λ_ h=>(by cases h),λ_ _ _ _ h=>(by cases h)⟩
theorem MemR.keep {H H':Hp}{M:List (Ka × V)}{m:Mem}(h:MemR H M m) (ht:∀ b vs,H b=dk (.tup vs)->H' b=dk (.tup vs)):MemR H' M m :=
 ⟨h.c,λg i=>(h.p g i).imp id λuq15=>by(obtain⟨nm,wt,v,a,b,c⟩:=uq15;exact ⟨nm,wt,v,a,b,DV.keep ht _ _ rfl c⟩),h.ks,h.ok⟩
def FC {M:List (Ka × V)}{k:Ka}{v:V}{K:List Ka}(h:∀ q∈M,q.1∈K) (hk:k∈K):∀ q∈vp M k v,q.1∈K:=by
 intro q hq;unfold vp at hq;split at hq
 . obtain⟨p,hp,e⟩:=Me.mp hq;have:=h p hp;rw[<-e];split<;>exact this
 . rcases KS.mp hq with z|z
   . exact h q z
   . rw[JY.mp z];exact hk
theorem MemR.put {H:Hp}{M:List (Ka × V)}{m:Mem}{x:Wr}{q:Ka × V}(h:MemR H M m) (hx:WrR H x q):MemR H (vp M q.1 q.2) (m.put x):=by
 obtain⟨ho,hk,hd⟩:=hx;refine⟨λk=>?_,λg i=>?_,FC h.ks (by rw[hk];exact Wr.key_all ho),λg i nm wt e=>?_⟩
 . rw[hk,xn h.kk x.key_kd (wn k)];unfold Mem.put;dsimp only;cases e:x.cnt k with
  |some i =>
    have ex:=Wr.cnt_some e;subst ex;rw[Qq (show Kn (Wr.key (.c k i)) (.str k.key)=j' from cT (wn k))];exact hd
  |none =>
    rw[Qr λz=>Wr.cnt_none e ((se (wn k)).mp z)];exact h.c k
 . rw[hk,xn h.kk x.key_kd (wb g i)];unfold Mem.put;dsimp only;cases e:x.plc g i with
  |some nw =>
    have ex:=Wr.plc_some (nm:=nw.1) (wt:=nw.2) e;subst ex;rw[Qq (show Kn (Wr.key (.p g i nw.1 nw.2)) (pk g i)=j' from cT (wb g i))];exact .inr ⟨nw.1,nw.2,q.2,rfl,rfl,hd⟩
  |none =>
    rw[Qr λz=>Wr.plc_none e ((se (wb g i)).mp z)];exact h.p g i
 . have e':(x.plc g i).or (m.p g i)=dk (nm,wt):=e;cases q:x.plc g i with
  |none=>rw[q]at e';exact h.ok g i nm wt e'
  |some nw =>
    rw[q]at e';cases e';have ex:=Wr.plc_some q;subst ex;exact ho.2
theorem Paired.rev {α β:Type}{F:α->β->Prop}:∀ {xs:List α}{ys:List β},Kx F xs ys->Kx F xs.reverse ys.reverse
|_,_,.nil=>.nil
|_,_,.cons r t=>by
  rw[List.reverse_cons,List.reverse_cons];exact Kx.snoc (Paired.rev t) r
theorem Dc {H:Hp}{k:Cn}:∀ {row:List Wr}{es:List (Ka × V)},Kx (WrR H) row es ->
 (es.find? λp=>Kn p.1 (.str k.key)).map (·.2)=(row.findSome? (Wr.cnt k)).map V.int
|_,_,.nil=>rfl
|x :: row,q :: es,.cons ⟨_,hk,hd⟩ t=>by
  rw[LL,LW];cases e:x.cnt k with
 |some i =>
   have ex:=Wr.cnt_some e;subst ex;have:Kn q.1 (.str k.key)=j':=by rw[hk];exact cT (wn k)
   rw[this];show dk q.2=dk (V.int i);exact congrArg dk hd
 |none =>
   have:Kn q.1 (.str k.key)=f':=by
    rw[hk];cases z:Kn x.key (.str k.key) with
   |false=>rfl
   |true=>exact absurd ((se (wn k)).mp z) (Wr.cnt_none e)
   rw[this];exact Dc t
theorem D8 {H:Hp}{g:Bool}{i:Int}:∀ {row:List Wr}{es:List (Ka × V)},Kx (WrR H) row es ->
 (row.findSome? (Wr.plc g i)=JZ/\(es.find? λp=>Kn p.1 (pk g i))=JZ)\/∃ nm wt q,row.findSome? (Wr.plc g i)=dk (nm,wt)/\(es.find? λp=>Kn p.1 (pk g i))=dk q/\DV H (.tuple [.int nm,.int wt]) q.2
|_,_,.nil=>.inl ⟨rfl,rfl⟩
|x :: row,q :: es,.cons ⟨_,hk,hd⟩ t=>by
  rw[LL,LW];cases e:x.plc g i with
 |some nw =>
   have ex:=Wr.plc_some (nm:=nw.1) (wt:=nw.2) e;subst ex;have:Kn q.1 (pk g i)=j':=by rw[hk];exact cT (wb g i)
   rw[this];exact .inr ⟨nw.1,nw.2,q,rfl,rfl,hd⟩
 |none =>
   have:Kn q.1 (pk g i)=f':=by
    rw[hk];cases z:Kn x.key (pk g i) with
   |false=>rfl
   |true=>exact absurd ((se (wb g i)).mp z) (Wr.plc_none e)
   rw[this];exact D8 t
def cG {H:Hp}{M es:List (Ka × V)}{m:Mem}{row:List Wr}(h:MemR H M m) (r:Kx (WrR H) row es) (k:Cn):cH M es (.str k.key)=.int (rdC m row k):=by
 rw[xx];unfold Bn rdC;rw[Dc (Paired.rev r)];cases row.reverse.findSome? (Wr.cnt k) with
|some i=>rfl
|none=>exact h.c k
def zZ {H:Hp}{M es:List (Ka × V)}{m:Mem}{row:List Wr}(h:MemR H M m) (r:Kx (WrR H) row es) (g:Bool) (i:Int) :
 (rdP m row g i=JZ/\cH M es (pk g i)=.int 0)\/∃ nm wt c,rdP m row g i=dk (nm,wt)/\cH M es (pk g i)=.ref c/\H c=dk (.tup [.int nm,.int wt]):=by
 rw[xx];unfold Bn rdP;have tup:∀ {nm wt:Int} {v:V},DV H (.tuple [.int nm,.int wt]) v->∃ c,v=.ref c/\H c=dk (.tup [.int nm,.int wt]):=λ{nm wt v} h=>by
  obtain⟨c,vs,e,hc,v1,r1,e1,d1,v2,r2,e2,d2,e3⟩:=h;cases d1;cases d2;cases e3;subst e2 e1;exact⟨c,e,hc⟩
 rcases D8 (g:=g) (i:=i) (Paired.rev r) with⟨e1,e2⟩|⟨nm,wt,q,e1,e2,d⟩
 . rw[e1,e2];rcases h.p g i with⟨a,b⟩|⟨nm,wt,v,a,b,c⟩
   . rw[a,b];exact .inl ⟨rfl,rfl⟩
   . rw[a,b];obtain⟨c',rfl,hc⟩:=tup c;exact .inr ⟨nm,wt,c',rfl,rfl,hc⟩
 . rw[e1,e2];obtain⟨c',e,hc⟩:=tup d;exact .inr ⟨nm,wt,c',rfl,by show q.2=_;exact e,hc⟩
theorem AB {H:Hp}{g:Bool}{i nm wt:Int}:∀ {row:List Wr}{es:List (Ka × V)},Kx (WrR H) row es->row.findSome? (Wr.plc g i)=dk (nm,wt)->0 <= nm/\nm < 9
|_,_,.nil,h=>by cases h
|x :: row,_,.cons hx t,h=>by
  rw[LW]at h;cases q:x.plc g i with
 |none=>rw[q]at h;exact AB t h
 |some nw =>
   rw[q]at h;cases h;have ex:=Wr.plc_some q;subst ex;exact hx.1.2
def FA {H:Hp}{M es:List (Ka × V)}{m:Mem}{row:List Wr}(h:MemR H M m) (r:Kx (WrR H) row es) {g:Bool}{i nm wt:Int}(e:rdP m row g i=dk (nm,wt)):0 <= nm/\nm < 9:=by
 unfold rdP at e;cases q:row.reverse.findSome? (Wr.plc g i) with
|none=>rw[q]at e;exact h.ok g i nm wt e
|some nw =>
  rw[q]at e;cases e;exact AB (Paired.rev r) q
def StT (w:Kk) (C:D') (H:Hp) (sa:SA) (m:Mem) (rs:Bool->List Wr):Prop:=∃ M r,sa.At w C H M r/\MemR H M m/\∀ b,Kx (WrR H) (rs b) (r b)
section
variable {w:Kk}{C:D'}{H H':Hp}{sa:SA}{m:Mem}{rs:Bool->List Wr}
theorem StT.keep (S:StT w C H sa m rs) (h:∀ c o,sa.own c->H c=dk o->H' c=dk o) (ht:∀ b vs,H b=dk (.tup vs)->H' b=dk (.tup vs)):StT w C H' sa m rs:=by
 obtain⟨M,r,S,R,P⟩:=S;exact⟨M,r,S.keep (λc o hc=>h c o (zr hc)) ht,R.keep ht,λb=>Paired.mapP (P b) λ_ _ q=>q.keep ht⟩
def StT.same (S:StT w C H sa m rs) (h:bL H H'):StT w C H' sa m rs:=S.keep (λc o _=>h c o) λb vs=>h b _
theorem StT.there (S:StT w C H sa m rs) {c:D'}(h:sa.own c):∃ o,H c=dk o/\(∀ xs,o≠.tup xs):=by
 obtain⟨M,r,S,_⟩:=S;exact S.there h
theorem StT.ob (S:StT w C H sa m rs):∃ dx,H sa.x=dk (.ins C dx (stF sa.hd sa.rl)):=by
 obtain⟨M,r,S,_⟩:=S;exact S.ob
def StT.names (S:StT w C H sa m rs) {b g:Bool}{i nm wt:Int}(e:rdP m (rs b) g i=dk (nm,wt)):0 <= nm/\nm < 9:=by
 obtain⟨M,r,S,R,P⟩:=S;exact FA R (P b) e
def StT.small {M:List (Ka × V)}{r:Bool->List (Ka × V)}(S:sa.At w C H M r) (R:MemR H M m):M.length <= 22:=by
 obtain⟨es,ep,_,_,nd,_⟩:=S.me;have:=@oz Ka (λa b=>Classical.propDecidable (a=b)) _ lm nd λd hd=>by
  obtain⟨q,hq,rfl⟩:=Me.mp hd;exact R.ks q hq
 rw[Kv]at this;exact this
end
theorem i5 {α β:Type}{F:α->β->Prop}:∀ {xs:List α}{ys:List β}{xs':List α}{ys':List β},Kx F xs ys->Kx F xs' ys'->Kx F (xs++xs') (ys++ys')
|_,_,_,_,.nil,t=>t
|_,_,_,_,.cons r t,t'=>.cons r (i5 t t')
def StT.grow {w:Kk}{C:D'}{H H':Hp}{sa:SA}{m:Mem}{rs:Bool->List Wr}{M:List (Ka × V)}{r:Bool->List (Ka × V)}{b:Bool}{ws:List Wr}{es:List (Ka × V)}(R:MemR H M m) (P:∀ b,Kx (WrR H) (rs b) (r b)) (S2:sa.At w C H' M (aC r b (r b++es))) (ht:∀ c vs,H c=dk (.tup vs)->H' c=dk (.tup vs)) (hn:Kx (WrR H') ws es):StT w C H' sa m (aC rs b (rs b++ws)):=by
 refine⟨M,_,S2,R.keep ht,λc=>?_⟩;by_cases e:c=b
 . subst e;rw[am,am];exact i5 (Paired.mapP (P c) λ_ _ q=>q.keep ht) hn
 . rw[aA e,aA e];exact Paired.mapP (P c) λ_ _ q=>q.keep ht
def aB (p:RP) (m:Mem) (row:List Wr) (a b:Cn):Int:=(rdC m row a - rdC m row b) % (p.s * p.R)
def cR (p:RP) (m:Mem) (row:List Wr) (a:Cn):Wr:=.c a ((rdC m row a+1) % (p.s * p.R))
def kQ (p:RP) (m:Mem) (row:List Wr) (g:Bool) (a:Cn) (nm wt:Int):List Wr :=
 if p.e then [cR p m row a,.p g (rdC m row a % p.s) nm wt] else [.p g (rdC m row a % p.s) nm wt,cR p m row a]
def x9 {H:Hp}{p:RP}{m:Mem}{row:List Wr}{g:Bool}{a:Cn}{nm wt:Int}{t:D'}(hp:p.Ok) (hn:0 <= nm/\nm < 9) (ht:H t=dk (.tup [.int nm,.int wt])):Kx (WrR H) (kQ p m row g a nm wt) (oQ p (vQ g) a.key (rdC m row a) (.ref t)):=by
 have h1:WrR H (.p g (rdC m row a % p.s) nm wt) (.tuple [.str (vQ g),.int (rdC m row a % p.s)],.ref t):=by
  have a1:=Mj (rdC m row a) (show p.s≠0 by have:=hp.s0;omega);have a2:=Mc (rdC m row a) hp.s0;have:=hp.s8;exact⟨⟨⟨a1,by omega⟩,hn⟩,rfl,⟨t,_,rfl,ht,_,_,rfl,rfl,_,_,rfl,rfl,rfl⟩⟩
 have h2:WrR H (cR p m row a) (.str a.key,.int ((rdC m row a+1) % (p.s * p.R))):=⟨trivial,rfl,rfl⟩
 unfold kQ oQ;cases p.e with
|true=>exact .cons h2 (.cons h1 .nil)
|false=>exact .cons h1 (.cons h2 .nil)
structure LA where
 sd:D'
 md:D'
 rw:D'
 l:Bool->D'
 ud:D'
 tk:D'
def mY {a b:Str}(h:a≠b):(Sum.inr a:Key)≠Sum.inr b:=λz=>h (Sum.inr.inj z)
section
variable {H:Hp}{la:LA}{p:RP}{n:Int}
end
section
variable {w:Kk}{H H':Hp}{la:LA}{p:RP}{n:Int}{m:Mem}{rs:Bool->List Wr}{un tk:List Int}
end
theorem AA (i:Int):∀ ns:List Int,inV (.int i) (ns.map V.int)=ns.contains i
|[]=>rfl
|n :: ns=>by
  have ih:=AA i ns;unfold inV at ih |-;rw[K1,any_cons,ih,contains_cons];congr 1;show eqV (.int n) (.int i)=(i == n)
  simp only[eqV];rw[Lz,beq_iff_eq,beq_iff_eq];exact eq_comm
def bS {α:Type}{x:α}{xs:List α}:atI (x :: xs) 0=dk x:=by
 unfold atI ixN;simp
theorem uQ {α β:Type}{F:α->β->Prop}:∀ {xs:List α}{ys:List β}{j:Nat}{y:β},Kx F xs ys->ys[j]?=dk y->∃ x,xs[j]?=dk x/\F x y
|_,_,_,_,.nil,e=>by simp at e
|_,_,0,_,.cons r _,e=>by simp at e;subst e;exact⟨_,rfl,r⟩
|_,_,j+1,_,.cons _ t,e=>by
  obtain⟨x,a,b⟩:=uQ (j:=j) t (by simpa using e);exact⟨x,by simpa using a,b⟩
def KO (own:D'->Prop) (H H':Hp):Prop:=∀ c o,¬ own c->H c=dk o->H' c=dk o
def KO.refl (own:D'->Prop) (H:Hp):KO own H H:=λ_ _ _ e=>e
def KO.of_kp {own:D'->Prop}{xs:List D'}{H H':Hp}(k:Kp xs H H') (h:∀ c∈xs,own c):KO own H H':=λc o n e=>k c o (λm=>n (h c m)) e
def KO.of_same {own:D'->Prop}{H H':Hp}(s:bL H H'):KO own H H':=λc o _ e=>s c o e
def KO.trans {own own':D'->Prop}{H H1 H2:Hp}(a:KO own H H1) (b:KO own' H1 H2) (h:∀ c,own' c->own c\/H c=JZ):KO own H H2:=λc o n e=>b c o (λz=>by
 rcases h c z with y|y
 . exact n y
 . rw[y]at e;cases e) (a c o n e)
section
variable {w:Kk}{CH CT CR CS:D'}{H H':Hp}{z:HA}{zt:TA'}{sa:SA}{la:LA}{p:RP}{n:Int}{m:Mem}{rs:Bool->List Wr}{un tk aw:List Int}{nn:Int}{st:D'}
end
def scD:Ka->Bool
|.none=>j'
|.bool _=>j'
|.int _=>j'
|.str _=>j'
|_=>f'
def flD:Ka->Bool
|.tuple ds=>ds.all scD
|d=>scD d
def DV.sc {H H':Hp}:∀ {d:Ka}{v:V},scD d=j'->DV H d v->DV H' d v
|.none,_,_,h=>h
|.bool _,_,_,h=>h
|.int _,_,_,h=>h
|.str _,_,_,h=>h
|.list _,_,h,_=>by cases h
|.tuple _,_,h,_=>by cases h
|.dict _,_,h,_=>by cases h
theorem DVs.sc {H H':Hp}:∀ {ds:List Ka}{vs:List V},ds.all scD=j'->DVs H ds vs->DVs H' ds vs
|[],_,_,h=>h
|d :: ds,_,h,⟨v,r,e,h1,h2⟩=>by
  rw[all_cons,Lk]at h;exact⟨v,r,e,DV.sc h.1 h1,DVs.sc h.2 h2⟩
def DV.fl {H H':Hp}(ht:∀ b vs,H b=dk (.tup vs)->H' b=dk (.tup vs)):∀ {d:Ka}{v:V},flD d=j'->DV H d v->DV H' d v
|.none,_,_,h=>h
|.bool _,_,_,h=>h
|.int _,_,_,h=>h
|.str _,_,_,h=>h
|.list _,_,h,_=>by cases h
|.tuple ds,_,h,⟨a,vs,e,ha,hv⟩=>⟨a,vs,e,ht _ _ ha,DVs.sc h hv⟩
|.dict _,_,h,_=>by cases h
def Nms (k:Int) (ns:List Int):Prop:=ns.Nodup/\∀ x∈ns,0 <= x/\x < k
def Nms.nil (k:Int):Nms k []:=⟨nodup_nil,λ_ h=>by cases h⟩
def Nms.len {k:Int}{ns:List Int}(h:Nms k ns) (hk:k <= 9):ns.length <= 9:=by
 have:=oz (l:=ns) (ks:=[0,1,2,3,4,5,6,7,8]) h.1 λx hx=>by
  have:=h.2 x hx;have:x=0\/x=1\/x=2\/x=3\/x=4\/x=5\/x=6\/x=7\/x=8:=by omega
  simp only[KA,KL,or_false];exact this
 exact this
def Nms.snoc {k x:Int}{ns:List Int}(h:Nms k ns) (hx:ns.contains x=f') (hb:0 <= x/\x < k):Nms k (ns++[x]):=by
 refine⟨?_,λy hy=>?_⟩
 . rw[nodup_append];refine⟨h.1,LK.mpr ⟨by simp,nodup_nil⟩,λa ha b hb' e=>?_⟩;rw[JY.mp hb']at e;rw[K5,decide_eq_false_iff_not]at hx;exact hx (e ▸ ha)
 . rcases KS.mp hy with z|z
   . exact h.2 y z
   . rw[JY.mp z];exact hb
theorem Nms.filter {k x:Int}{ns:List Int}(h:Nms k ns):Nms k (ns.filter λy=>decide (y≠x)) :=
 ⟨Pairwise.filter _ h.1,λy hy=>h.2 y (Mn.mp hy).1⟩
def Nms.next {k x:Int}{ns:List Int}(h:Nms k ns) (hb:0 <= x/\x < k):Nms k (lA ns x):=by
 unfold lA;cases e:ns.contains x with
|true=>exact h
|false=>exact h.snoc e hb
theorem Nms.erase {k x:Int}{ns:List Int}(h:Nms k ns):Nms k (ns.erase x) :=
 ⟨Nodup.erase x h.1,λy hy=>h.2 y (List.mem_of_mem_erase hy)⟩
def Nms.erase_eq {k x:Int}{ns:List Int}(h:Nms k ns):ns.erase x=ns.filter λy=>decide (y≠x):=by
 rw[h.1.erase_eq_filter];refine filter_congr λy _=>?_
 by_cases e:y=x
 . subst e;simp
 . simp[e]
inductive Hist (g:Bool) (a f:Cn) (s N:Int):List Wr->List (Int × Int)->Nat->Nat->Prop where
|nil:Hist g a f s N [] [] 0 0
|place {W A na nf} (nm wt:Int) (h:Hist g a f s N W A na nf) (e:na=A.length):Hist g a f s N (W++[.p g ((A.length:Int) % s) nm wt]) (A++[(nm,wt)]) na nf
|laid {W A na nf} (h:Hist g a f s N W A na nf) (e:na+1=A.length):Hist g a f s N (W++[.c a (((na+1:Nat):Int) % N)]) A (na+1) nf
|fetched {W A na nf} (h:Hist g a f s N W A na nf):Hist g a f s N (W++[.c f (((nf+1:Nat):Int) % N)]) A na (nf+1)
section
variable {g:Bool}{a f:Cn}{s N:Int}{W:List Wr}{A:List (Int × Int)}{na nf:Nat}
def Hist.le (h:Hist g a f s N W A na nf):na <= A.length/\A.length <= na+1:=by
 induction h with
|nil=>exact⟨Kf _,by show 0 <= 1;decide⟩
|place nm wt h e ih=>rw[JX];show _ <= _+1/\_+1 <= _;omega
|laid h e ih=>omega
|fetched h ih=>exact ih
def Hist.cA (h:Hist g a f s N W A na nf) (haf:a≠f):rdC Mem.zero W a=(na:Int) % N:=by
 induction h with
|nil=>show (0:Int)=0 % N;simp
|place nm wt h e ih=>rw[f6];exact ih
|laid h e ih=>rw[f6];show (if a=a then dk _ else JZ).getD _=_;rw[Qq rfl];rfl
|fetched h ih=>rw[f6];show (if f=a then dk _ else JZ).getD _=_;rw[Qr λy=>haf y.symm];exact ih
def Hist.cF (h:Hist g a f s N W A na nf) (haf:a≠f):rdC Mem.zero W f=(nf:Int) % N:=by
 induction h with
|nil=>show (0:Int)=0 % N;simp
|place nm wt h e ih=>rw[f6];exact ih
|laid h e ih=>rw[f6];show (if a=f then dk _ else JZ).getD _=_;rw[Qr haf];exact ih
|fetched h ih=>rw[f6];show (if f=f then dk _ else JZ).getD _=_;rw[Qq rfl];rfl
def Hist.pl (h:Hist g a f s N W A na nf) (hs:0 < s):∀ k:Nat,k < A.length->(A.length:Int) <= k+s->rdP Mem.zero W g ((k:Int) % s)=A[k]?:=by
 induction h with
|nil=>intro k hk;cases hk
|place nm wt h e ih =>
  rename_i W A na nf;intro k hk hl;rw[lK];rw[JX]at hk hl;have hl':((A.length:Int)+1) <= k+s:=hl;have hk':k < A.length+1:=hk;show (if g=g/\(A.length:Int) % s=(k:Int) % s then dk (nm,wt) else JZ).or _=_;by_cases y:k=A.length
  . rw[Qq ⟨rfl,by rw[y]⟩,y];show dk (nm,wt)=_;simp
  . have hlt:k < A.length:=by omega
    rw[Qr ?_]
    . show Option.or JZ _=_;rw[Option.none_or,ih k hlt (by omega),L3 hlt]
    . rintro⟨_,q⟩;have d:((A.length:Int) - k) % s=0:=Int.emod_eq_emod_iff_emod_sub_eq_zero.mp q;have d1:((A.length:Int) - k) < s:=by omega
      rw[Int.emod_eq_of_lt (by omega) d1]at d;omega
|laid h e ih=>intro k hk hl;rw[lK];exact ih k hk hl
|fetched h ih=>intro k hk hl;rw[lK];exact ih k hk hl
def Hist.pre (h:Hist g a f s N W A na nf):∀ d:Nat,∃ A' na' nf',Hist g a f s N (W.take d) A' na' nf'/\A' <+: A/\na' <= na/\nf' <= nf:=by
 induction h with
|nil=>intro d;exact⟨[],0,0,by rw[take_nil];exact .nil,prefix_refl _,Kf _,Kf _⟩
|place nm wt h e ih =>
  rename_i W A na nf;intro d;by_cases hd:d <= W.length
  . obtain⟨A',na',nf',q,q1,q2,q3⟩:=ih d;exact⟨A',na',nf',by rw[Ko hd];exact q,q1.trans (prefix_append _ _),q2,q3⟩
  . exact⟨_,_,_,by rw[Li (by rw[JX];show _+1 <= d;omega)];exact .place nm wt h e,prefix_refl _,Kf _,Kf _⟩
|laid h e ih =>
  rename_i W A na nf;intro d;by_cases hd:d <= W.length
  . obtain⟨A',na',nf',q,q1,q2,q3⟩:=ih d;exact⟨A',na',nf',by rw[Ko hd];exact q,q1,by omega,q3⟩
  . exact⟨_,_,_,by rw[Li (by rw[JX];show _+1 <= d;omega)];exact .laid h e,prefix_refl _,Kf _,Kf _⟩
|fetched h ih =>
  rename_i W A na nf;intro d;by_cases hd:d <= W.length
  . obtain⟨A',na',nf',q,q1,q2,q3⟩:=ih d;exact⟨A',na',nf',by rw[Ko hd];exact q,q1,q2,by omega⟩
  . exact⟨_,_,_,by rw[Li (by rw[JX];show _+1 <= d;omega)];exact .fetched h,prefix_refl _,Kf _,Kf _⟩
end
def Fg (m:Mem) (X Y:List Wr) (k:Cn):rdC m (X++Y) k=(Y.reverse.findSome? (Wr.cnt k)).getD (rdC m X k):=by
 unfold rdC;rw[reverse_append,List.findSome?_append];cases Y.reverse.findSome? (Wr.cnt k)<;>rfl
def Ep (m:Mem) (X Y:List Wr) (g:Bool) (i:Int):rdP m (X++Y) g i=(Y.reverse.findSome? (Wr.plc g i)).or (rdP m X g i):=by
 unfold rdP;rw[reverse_append,List.findSome?_append];cases Y.reverse.findSome? (Wr.plc g i)<;>rfl
def sX {m:Mem}{W:List Wr}{d:Nat}{k:Cn}(h:m.c k=rdC Mem.zero (W.take d) k):rdC m (W.drop d) k=rdC Mem.zero W k:=by
 have e:rdC Mem.zero W k=rdC Mem.zero (W.take d++W.drop d) k:=by rw[take_append_drop]
 rw[e,Fg,<-h];rfl
def oq {m:Mem}{k:Cn}:∀ {row:List Wr},(∀ x∈row,x.cnt k=JZ)->rdC m row k=m.c k:=λ{row} h=>by
 unfold rdC;rw[List.findSome?_eq_none_iff.mpr λx hx=>h x (mem_reverse.mp hx)];rfl
def xH {m:Mem}{g:Bool}{i:Int}:∀ {row:List Wr},(∀ x∈row,x.plc g i=JZ)->rdP m row g i=m.p g i:=λ{row} h=>by
 unfold rdP;rw[List.findSome?_eq_none_iff.mpr λx hx=>h x (mem_reverse.mp hx)];simp
def isC (k:Cn) (x:Wr):Bool:=(x.cnt k).isSome
section
variable {g:Bool}{a f:Cn}{s N:Int}{W:List Wr}{A:List (Int × Int)}{na nf:Nat}
def Hist.nA (h:Hist g a f s N W A na nf) (haf:a≠f):(W.filter (isC a)).length=na:=by
 induction h with
|nil=>rfl
|place nm wt h e ih=>rw[Lb,JX,ih];rfl
|laid h e ih =>
  rw[Lb,JX,ih];show _+(List.filter (isC a) [.c a _]).length=_;rw[K4,Qq (by show (if a=a then dk _ else JZ).isSome=j';rw[Qq rfl];rfl)];rfl
|fetched h ih =>
  rw[Lb,JX,ih];show _+(List.filter (isC a) [.c f _]).length=_;rw[K4,Qr (by show ¬ (if f=a then dk _ else JZ).isSome=j';rw[Qr λy=>haf y.symm];decide)];rfl
def Hist.nF (h:Hist g a f s N W A na nf) (haf:a≠f):(W.filter (isC f)).length=nf:=by
 induction h with
|nil=>rfl
|place nm wt h e ih=>rw[Lb,JX,ih];rfl
|laid h e ih =>
  rw[Lb,JX,ih];show _+(List.filter (isC f) [.c a _]).length=_;rw[K4,Qr (by show ¬ (if a=f then dk _ else JZ).isSome=j';rw[Qr haf];decide)];rfl
|fetched h ih =>
  rw[Lb,JX,ih];show _+(List.filter (isC f) [.c f _]).length=_;rw[K4,Qq (by show (if f=f then dk _ else JZ).isSome=j';rw[Qq rfl];rfl)];rfl
def Hist.only (h:Hist g a f s N W A na nf):∀ x∈W,(∃ i nm wt,x=.p g i nm wt)\/(∃ i,x=.c a i)\/∃ i,x=.c f i:=by
 induction h with
|nil=>intro x hx;cases hx
|place nm wt h e ih =>
  intro x hx;rcases KS.mp hx with y|y
  . exact ih x y
  . exact .inl ⟨_,_,_,JY.mp y⟩
|laid h e ih =>
  intro x hx;rcases KS.mp hx with y|y
  . exact ih x y
  . exact .inr (.inl ⟨_,JY.mp y⟩)
|fetched h ih =>
  intro x hx;rcases KS.mp hx with y|y
  . exact ih x y
  . exact .inr (.inr ⟨_,JY.mp y⟩)
end
structure Two (s R:Int) (m:Mem) (rs:Bool->List Wr) (A B:List (Int × Int)) (T Hd:Nat) (Wf Wt:List Wr) (df dt:Nat) (A' B':List (Int × Int)) (a' h' b' t':Nat):Prop where
 hf:Hist f' .asked .handed s (s * R) Wf A A.length Hd
 ht:Hist j' .answered .taken s (s * R) Wt B B.length T
 pf:Hist f' .asked .handed s (s * R) (Wf.take df) A' a' h'
 pt:Hist j' .answered .taken s (s * R) (Wt.take dt) B' b' t'
 af:A' <+: A
 bt:B' <+: B
 rf:rs f'=Wf.drop df
 rt:rs j'=Wt.drop dt
 ma:m.c .asked=rdC Mem.zero (Wf.take df) .asked
 mh:m.c .handed=rdC Mem.zero (Wf.take df) .handed
 mp:∀ i,m.p f' i=rdP Mem.zero (Wf.take df) f' i
 mb:m.c .answered=rdC Mem.zero (Wt.take dt) .answered
 mt:m.c .taken=rdC Mem.zero (Wt.take dt) .taken
 mq:∀ i,m.p j' i=rdP Mem.zero (Wt.take dt) j' i
 la:a' <= A.length
 lh:h' <= Hd
 lb:b' <= B.length
 lt:t' <= T
 ta:T <= a'
 hb:Hd <= b'
 sa:(A.length:Int) <= t'+s
 sb:(B.length:Int) <= h'+s
 xf:df <= Wf.length
 xt:dt <= Wt.length
def oB {s R:Int}{x y:Nat}(hs:0 < s) (hR:2 <= R) (h1:y <= x) (h2:(x:Int) <= y+s):((x:Int) % (s * R) - (y:Int) % (s * R)) % (s * R)=(x:Int) - y:=by
 have hN:s < s * R:=by
  have:=Int.mul_le_mul_of_nonneg_left hR (Int.le_of_lt hs);omega
 rw[<-Int.sub_emod];exact Int.emod_eq_of_lt (by omega) (by omega)
section
variable {s R:Int}{m:Mem}{rs:Bool->List Wr}{A B:List (Int × Int)}{T Hd:Nat}{Wf Wt:List Wr}{df dt:Nat}{A' B':List (Int × Int)}{a' h' b' t':Nat}
def Two.noT (t:Two s R m rs A B T Hd Wf Wt df dt A' B' a' h' b' t'):∀ x∈rs j',x.cnt .asked=JZ/\x.cnt .handed=JZ/\∀ i,x.plc f' i=JZ:=λx hx=>by
 rw[t.rt]at hx;rcases t.ht.only x (List.mem_of_mem_drop hx) with⟨i,nm,wt,rfl⟩|⟨i,rfl⟩|⟨i,rfl⟩
 . exact⟨rfl,rfl,λj=>by unfold Wr.plc;dsimp only;rw[Qr (by rintro⟨q,_⟩;cases q)]⟩
 . exact⟨rfl,rfl,λj=>rfl⟩
 . exact⟨rfl,rfl,λj=>rfl⟩
def Two.noF (t:Two s R m rs A B T Hd Wf Wt df dt A' B' a' h' b' t'):∀ x∈rs f',x.cnt .answered=JZ/\x.cnt .taken=JZ/\∀ i,x.plc j' i=JZ:=λx hx=>by
 rw[t.rf]at hx;rcases t.hf.only x (List.mem_of_mem_drop hx) with⟨i,nm,wt,rfl⟩|⟨i,rfl⟩|⟨i,rfl⟩
 . exact⟨rfl,rfl,λj=>by unfold Wr.plc;dsimp only;rw[Qr (by rintro⟨q,_⟩;cases q)]⟩
 . exact⟨rfl,rfl,λj=>rfl⟩
 . exact⟨rfl,rfl,λj=>rfl⟩
def Two.reads (t:Two s R m rs A B T Hd Wf Wt df dt A' B' a' h' b' t') :
 (rdC m (rs f') .asked=(A.length:Int) % (s * R)/\rdC m (rs f') .handed=(Hd:Int) % (s * R)/\rdC m (rs f') .taken=(t':Int) % (s * R)/\rdC m (rs f') .answered=(b':Int) % (s * R)) /\
 (rdC m (rs j') .asked=(a':Int) % (s * R)/\rdC m (rs j') .handed=(h':Int) % (s * R)/\rdC m (rs j') .taken=(T:Int) % (s * R)/\rdC m (rs j') .answered=(B.length:Int) % (s * R)):=by
 refine⟨⟨?_,?_,?_,?_⟩,?_,?_,?_,?_⟩
 . rw[t.rf,sX t.ma];exact t.hf.cA (by decide)
 . rw[t.rf,sX t.mh];exact t.hf.cF (by decide)
 . rw[oq λx hx=>(t.noF x hx).2.1,t.mt];exact t.pt.cF (by decide)
 . rw[oq λx hx=>(t.noF x hx).1,t.mb];exact t.pt.cA (by decide)
 . rw[oq λx hx=>(t.noT x hx).1,t.ma];exact t.pf.cA (by decide)
 . rw[oq λx hx=>(t.noT x hx).2.1,t.mh];exact t.pf.cF (by decide)
 . rw[t.rt,sX t.mt];exact t.ht.cF (by decide)
 . rw[t.rt,sX t.mb];exact t.ht.cA (by decide)
def Two.ask (t:Two s R m rs A B T Hd Wf Wt df dt A' B' a' h' b' t') (hs:0 < s) (h:T < a'):rdP m (rs j') f' ((T:Int) % (s * R) % s)=A[T]?:=by
 rw[Int.emod_emod_of_dvd _ (dvd_mul_right s R),xH λx hx=>(t.noT x hx).2.2 _,t.mp];have l1:=t.pf.le.1;have l2:=t.af.length_le;have l3:=t.sa;have l4:=t.lt;rw[t.pf.pl hs T (by omega) (by omega)];obtain⟨X,e⟩:=t.af;rw[<-e,L3 (by omega)]
def Two.answer (t:Two s R m rs A B T Hd Wf Wt df dt A' B' a' h' b' t') (hs:0 < s) (h:Hd < b'):rdP m (rs f') j' ((Hd:Int) % (s * R) % s)=B[Hd]?:=by
 rw[Int.emod_emod_of_dvd _ (dvd_mul_right s R),xH λx hx=>(t.noF x hx).2.2 _,t.mq];have l1:=t.pt.le.1;have l2:=t.bt.length_le;have l3:=t.sb;have l4:=t.lh;rw[t.pt.pl hs Hd (by omega) (by omega)];obtain⟨X,e⟩:=t.bt;rw[<-e,L3 (by omega)]
def sV (x:Nat) (N:Int):((x:Int) % N+1) % N=((x+1:Nat):Int) % N:=by
 rw[Int.emod_add_emod];rfl
theorem Two.asked (t:Two s R m rs A B T Hd Wf Wt df dt A' B' a' h' b' t') (hl:(A.length:Int) < t'+s) (nm wt:Int):∃ W,Two s R m (aC rs f' (rs f'++kQ ⟨s,R,f'⟩ m (rs f') f' .asked nm wt)) (A++[(nm,wt)]) B T Hd W Wt df dt A' B' a' h' b' t':=by
 have e1:=t.reads.1.1;have el:kQ ⟨s,R,f'⟩ m (rs f') f' .asked nm wt=[.p f' ((A.length:Int) % s) nm wt,.c .asked (((A.length+1:Nat):Int) % (s * R))]:=by
  unfold kQ cR;rw[e1];show [Wr.p f' ((A.length:Int) % (s * R) % s) nm wt,.c .asked (((A.length:Int) % (s * R)+1) % (s * R))]=_;rw[Int.emod_emod_of_dvd _ (dvd_mul_right s R),sV]
 rw[el];have h1:=(t.hf.place nm wt rfl).laid (by rw[JX];rfl);rw[Ku]at h1;have hlen:(A++[(nm,wt)]).length=A.length+1:=by rw[JX];rfl
 refine⟨_,⟨by rw[hlen];exact h1,t.ht,by rw[Ko t.xf];exact t.pf,t.pt,t.af.trans (prefix_append _ _),t.bt,?_,by rw[aA (by decide)];exact t.rt,by rw[Ko t.xf];exact t.ma,by rw[Ko t.xf];exact t.mh,λi=>by rw[Ko t.xf];exact t.mp i,t.mb,t.mt,t.mq,by rw[hlen];have:=t.la;omega,t.lh,t.lb,t.lt,t.ta,t.hb,by rw[hlen];omega,t.sb,by rw[JX];have:=t.xf;omega,t.xt⟩⟩;rw[am,t.rf,K3 t.xf];rfl
def Two.drainF (t:Two s R m rs A B T Hd Wf Wt df dt A' B' a' h' b' t') {x:Wr}{rest:List Wr}(e:rs f'=x :: rest):∃ A2 a2 h2,a' <= a2/\h' <= h2/\Two s R (m.put x) (aC rs f' rest) A B T Hd Wf Wt (df+1) dt A2 B' a2 h2 b' t':=by
 have hx:=t.rf.symm.trans e;have hlt:df < Wf.length:=by
  have:=congrArg LN hx;rw[length_drop,KJ]at this;omega
 have ht:Wf.take (df+1)=Wf.take df++[x]:=by
  have g:Wf[df]?=dk x:=by
   have:=congrArg head? hx;rw[List.head?_drop]at this;exact this
  rw[take_succ,g];rfl
 have hr:Wf.drop (df+1)=rest:=by
  rw[<-drop_drop,hx];rfl
 obtain⟨A2,a2,h2,q,q1,q2,q3⟩:=t.hf.pre (df+1);have n1:=t.pf.nA (by decide);have n2:=t.pf.nF (by decide);have n3:=q.nA (by decide);have n4:=q.nF (by decide);rw[ht,Lb,JX]at n3 n4;have ga:a' <= a2:=by omega
 have gh:h' <= h2:=by omega
 have ox:(∃ i nm wt,x=.p f' i nm wt)\/(∃ i,x=.c .asked i)\/∃ i,x=.c .handed i:=t.hf.only x (List.mem_of_mem_drop (by rw[hx];exact Km));have oth:x.cnt .answered=JZ/\x.cnt .taken=JZ/\∀ i,x.plc j' i=JZ:=t.noF x (by rw[e];exact Km);refine⟨A2,a2,h2,ga,gh,⟨t.hf,t.ht,q,t.pt,q1,t.bt,by rw[am];exact hr.symm,by rw[aA (by decide)];exact t.rt,?_,?_,λi=>?_,?_,?_,λi=>?_,by have:=q2;omega,q3,t.lb,t.lt,by have:=t.ta;omega,t.hb,t.sa,by have:=t.sb;omega,hlt,t.xt⟩⟩
 . rw[ht,f6,<-t.ma];rfl
 . rw[ht,f6,<-t.mh];rfl
 . rw[ht,lK,<-t.mp];rfl
 . rw[<-t.mb];show (x.cnt .answered).getD _=_;rw[oth.1];rfl
 . rw[<-t.mt];show (x.cnt .taken).getD _=_;rw[oth.2.1];rfl
 . rw[<-t.mq i];show (x.plc j' i).or _=_;rw[oth.2.2 i];rfl
def Two.collected (t:Two s R m rs A B T Hd Wf Wt df dt A' B' a' h' b' t') (hl:Hd < b'):∃ W,Two s R m (aC rs f' (rs f'++[cR ⟨s,R,f'⟩ m (rs f') .handed])) A B T (Hd+1) W Wt df dt A' B' a' h' b' t':=by
 have e1:=t.reads.1.2.1;have el:cR ⟨s,R,f'⟩ m (rs f') .handed=.c .handed (((Hd+1:Nat):Int) % (s * R)):=by
  unfold cR;rw[e1];show Wr.c .handed (((Hd:Int) % (s * R)+1) % (s * R))=_;rw[sV]
 rw[el];refine⟨_,⟨t.hf.fetched,t.ht,by rw[Ko t.xf];exact t.pf,t.pt,t.af,t.bt,?_,by rw[aA (by decide)];exact t.rt,by rw[Ko t.xf];exact t.ma,by rw[Ko t.xf];exact t.mh,λi=>by rw[Ko t.xf];exact t.mp i,t.mb,t.mt,t.mq,t.la,by have:=t.lh;omega,t.lb,t.lt,t.ta,hl,t.sa,t.sb,by rw[JX];have:=t.xf;omega,t.xt⟩⟩;rw[am,t.rf,K3 t.xf]
def Two.took (t:Two s R m rs A B T Hd Wf Wt df dt A' B' a' h' b' t') (hl:T < a'):∃ W,Two s R m (aC rs j' (rs j'++[cR ⟨s,R,f'⟩ m (rs j') .taken])) A B (T+1) Hd Wf W df dt A' B' a' h' b' t':=by
 have e1:=t.reads.2.2.2.1;have el:cR ⟨s,R,f'⟩ m (rs j') .taken=.c .taken (((T+1:Nat):Int) % (s * R)):=by
  unfold cR;rw[e1];show Wr.c .taken (((T:Int) % (s * R)+1) % (s * R))=_;rw[sV]
 rw[el];refine⟨_,⟨t.hf,t.ht.fetched,t.pf,by rw[Ko t.xt];exact t.pt,t.af,t.bt,by rw[aA (by decide)];exact t.rf,?_,t.ma,t.mh,t.mp,by rw[Ko t.xt];exact t.mb,by rw[Ko t.xt];exact t.mt,λi=>by rw[Ko t.xt];exact t.mq i,t.la,t.lh,t.lb,by have:=t.lt;omega,hl,t.hb,t.sa,t.sb,t.xf,by rw[JX];have:=t.xt;omega⟩⟩;rw[am,t.rt,K3 t.xt]
theorem Two.answered (t:Two s R m rs A B T Hd Wf Wt df dt A' B' a' h' b' t') (hl:(B.length:Int) < h'+s) (nm wt:Int):∃ W,Two s R m (aC rs j' (rs j'++kQ ⟨s,R,f'⟩ m (rs j') j' .answered nm wt)) A (B++[(nm,wt)]) T Hd Wf W df dt A' B' a' h' b' t':=by
 have e1:=t.reads.2.2.2.2;have el:kQ ⟨s,R,f'⟩ m (rs j') j' .answered nm wt=[.p j' ((B.length:Int) % s) nm wt,.c .answered (((B.length+1:Nat):Int) % (s * R))]:=by
  unfold kQ cR;rw[e1];show [Wr.p j' ((B.length:Int) % (s * R) % s) nm wt,.c .answered (((B.length:Int) % (s * R)+1) % (s * R))]=_;rw[Int.emod_emod_of_dvd _ (dvd_mul_right s R),sV]
 rw[el];have h1:=(t.ht.place nm wt rfl).laid (by rw[JX];rfl);rw[Ku]at h1;have hlen:(B++[(nm,wt)]).length=B.length+1:=by rw[JX];rfl
 refine⟨_,⟨t.hf,by rw[hlen];exact h1,t.pf,by rw[Ko t.xt];exact t.pt,t.af,t.bt.trans (prefix_append _ _),by rw[aA (by decide)];exact t.rf,?_,t.ma,t.mh,t.mp,by rw[Ko t.xt];exact t.mb,by rw[Ko t.xt];exact t.mt,λi=>by rw[Ko t.xt];exact t.mq i,t.la,t.lh,by rw[hlen];have:=t.lb;omega,t.lt,t.ta,t.hb,t.sa,by rw[hlen];omega,t.xf,by rw[JX];have:=t.xt;omega⟩⟩;rw[am,t.rt,K3 t.xt];rfl
def Two.drainT (t:Two s R m rs A B T Hd Wf Wt df dt A' B' a' h' b' t') {x:Wr}{rest:List Wr}(e:rs j'=x :: rest):∃ B2 b2 t2,b' <= b2/\t' <= t2/\Two s R (m.put x) (aC rs j' rest) A B T Hd Wf Wt df (dt+1) A' B2 a' h' b2 t2:=by
 have hx:=t.rt.symm.trans e;have hlt:dt < Wt.length:=by
  have:=congrArg LN hx;rw[length_drop,KJ]at this;omega
 have ht:Wt.take (dt+1)=Wt.take dt++[x]:=by
  have g:Wt[dt]?=dk x:=by
   have:=congrArg head? hx;rw[List.head?_drop]at this;exact this
  rw[take_succ,g];rfl
 have hr:Wt.drop (dt+1)=rest:=by
  rw[<-drop_drop,hx];rfl
 obtain⟨B2,b2,t2,q,q1,q2,q3⟩:=t.ht.pre (dt+1);have n1:=t.pt.nA (by decide);have n2:=t.pt.nF (by decide);have n3:=q.nA (by decide);have n4:=q.nF (by decide);rw[ht,Lb,JX]at n3 n4;have gb:b' <= b2:=by omega
 have gt:t' <= t2:=by omega
 have oth:x.cnt .asked=JZ/\x.cnt .handed=JZ/\∀ i,x.plc f' i=JZ:=t.noT x (by rw[e];exact Km);refine⟨B2,b2,t2,gb,gt,⟨t.hf,t.ht,t.pf,q,t.af,q1,by rw[aA (by decide)];exact t.rf,by rw[am];exact hr.symm,?_,?_,λi=>?_,?_,?_,λi=>?_,t.la,t.lh,by have:=q2;omega,q3,t.ta,by have:=t.hb;omega,by have:=t.sa;omega,t.sb,t.xf,hlt⟩⟩
 . rw[<-t.ma];show (x.cnt .asked).getD _=_;rw[oth.1];rfl
 . rw[<-t.mh];show (x.cnt .handed).getD _=_;rw[oth.2.1];rfl
 . rw[<-t.mp i];show (x.plc f' i).or _=_;rw[oth.2.2 i];rfl
 . rw[ht,f6,<-t.mb];rfl
 . rw[ht,f6,<-t.mt];rfl
 . rw[ht,lK,<-t.mq];rfl
def Two.waits (t:Two s R m rs A B T Hd Wf Wt df dt A' B' a' h' b' t'):(((rs f').filter (isC .asked)).length=A.length - a'/\((rs f').filter (isC .handed)).length=Hd - h')/\((rs j').filter (isC .answered)).length=B.length - b'/\((rs j').filter (isC .taken)).length=T - t':=by
 have spl:∀ (W:List Wr) (d:Nat) (k:Cn),(W.filter (isC k)).length=((W.take d).filter (isC k)).length+((W.drop d).filter (isC k)).length:=λW d k=>by
  rw[<-JX,<-Lb,take_append_drop]
 have x1:=spl Wf df .asked;have x2:=spl Wf df .handed;have x3:=spl Wt dt .answered;have x4:=spl Wt dt .taken;rw[t.hf.nA (by decide),t.pf.nA (by decide),<-t.rf]at x1;rw[t.hf.nF (by decide),t.pf.nF (by decide),<-t.rf]at x2;rw[t.ht.nA (by decide),t.pt.nA (by decide),<-t.rt]at x3;rw[t.ht.nF (by decide),t.pt.nF (by decide),<-t.rt]at x4;omega
theorem Two.zero {s R:Int}(hs:0 < s):Two s R Mem.zero (λ_=>[]) [] [] 0 0 [] [] 0 0 [] [] 0 0 0 0 :=
 ⟨.nil,.nil,.nil,.nil,prefix_refl _,prefix_refl _,rfl,rfl,rfl,rfl,λ_=>rfl,rfl,rfl,λ_=>rfl,Kf _,Kf _,Kf _,Kf _,Kf _,Kf _,by show (0:Int) <= 0+s;omega,by show (0:Int) <= 0+s;omega,Kf _,Kf _⟩
end
structure M8 (s R:Int) (n:Nat) (m:Mem) (rs:Bool->List Wr) (un tk:List Int) (A B:List (Int × Int)) (T Hd:Nat):Prop where
 two:∃ Wf Wt df dt A' B' a' h' b' t',Two s R m rs A B T Hd Wf Wt df dt A' B' a' h' b' t'
 pm:un.Perm ((A.drop T).map (·.1)++(tk++(B.drop Hd).map (·.1)))
 bt:B.length+tk.length=T
 und:Nms n un
 tkd:Nms 9 tk
 n9:n <= 9
 s0:0 < s
 s8:s <= 8
 R2:2 <= R
def nC (k:Cn) (row:List Wr):Nat:=(row.filter (isC k)).length
section
variable {s R:Int}{n:Nat}{m:Mem}{rs:Bool->List Wr}{un tk:List Int}{A B:List (Int × Int)}{T Hd:Nat}
def M8.TA (M:M8 s R n m rs un tk A B T Hd):T <= A.length/\Hd <= B.length:=by
 obtain⟨Wf,Wt,df,dt,A',B',a',h',b',t',t⟩:=M.two;have:=t.ta;have:=t.la;have:=t.hb;have:=t.lb;omega
def M8.full (M:M8 s R n m rs un tk A B T Hd):aB ⟨s,R,f'⟩ m (rs f') .asked .taken=s ↔ (A.length:Int) - ((T:Int) - (nC .taken (rs j'):Nat))=s:=by
 obtain⟨Wf,Wt,df,dt,A',B',a',h',b',t',t⟩:=M.two;unfold aB;rw[t.reads.1.1,t.reads.1.2.2.1];have h1:=t.lt;have h2:=t.ta;have h3:=t.la;have h4:=t.sa;show ((A.length:Int) % (s * R) - (t':Int) % (s * R)) % (s * R)=s ↔ _;rw[oB M.s0 M.R2 (by omega) h4];have:=t.waits.2.2;unfold nC;rw[this];omega
def M8.full2 (M:M8 s R n m rs un tk A B T Hd):aB ⟨s,R,f'⟩ m (rs j') .answered .handed=s ↔ (B.length:Int) - ((Hd:Int) - (nC .handed (rs f'):Nat))=s:=by
 obtain⟨Wf,Wt,df,dt,A',B',a',h',b',t',t⟩:=M.two;unfold aB;rw[t.reads.2.2.2.2,t.reads.2.2.1];have h1:=t.lh;have h2:=t.hb;have h3:=t.lb;have h4:=t.sb;show ((B.length:Int) % (s * R) - (h':Int) % (s * R)) % (s * R)=s ↔ _;rw[oB M.s0 M.R2 (by omega) h4];have:=t.waits.1.2;unfold nC;rw[this];omega
def M8.none1 (M:M8 s R n m rs un tk A B T Hd):aB ⟨s,R,f'⟩ m (rs j') .asked .taken=0 ↔ (A.length:Int) - (nC .asked (rs f'):Nat)=T:=by
 obtain⟨Wf,Wt,df,dt,A',B',a',h',b',t',t⟩:=M.two;unfold aB;rw[t.reads.2.1,t.reads.2.2.2.1];have h1:=t.lt;have h2:=t.ta;have h3:=t.la;have h4:=t.sa;show ((a':Int) % (s * R) - (T:Int) % (s * R)) % (s * R)=0 ↔ _;rw[oB M.s0 M.R2 h2 (by omega)];have:=t.waits.1.1;unfold nC;rw[this];omega
def M8.none2 (M:M8 s R n m rs un tk A B T Hd):aB ⟨s,R,f'⟩ m (rs f') .answered .handed=0 ↔ (B.length:Int) - (nC .answered (rs j'):Nat)=Hd:=by
 obtain⟨Wf,Wt,df,dt,A',B',a',h',b',t',t⟩:=M.two;unfold aB;rw[t.reads.1.2.2.2,t.reads.1.2.1];have h1:=t.lh;have h2:=t.hb;have h3:=t.lb;have h4:=t.sb;show ((b':Int) % (s * R) - (Hd:Int) % (s * R)) % (s * R)=0 ↔ _;rw[oB M.s0 M.R2 h2 (by omega)];have:=t.waits.2.1;unfold nC;rw[this];omega
def M8.ask (M:M8 s R n m rs un tk A B T Hd) (h:aB ⟨s,R,f'⟩ m (rs f') .asked .taken≠s) {nm:Int}(hl:bO n un=dk nm) (wt:Int) :
 M8 s R n m (aC rs f' (rs f'++kQ ⟨s,R,f'⟩ m (rs f') f' .asked nm wt)) (un++[nm]) tk (A++[(nm,wt)]) B T Hd:=by
 obtain⟨Wf,Wt,df,dt,A',B',a',h',b',t',t⟩:=M.two;have hlt:(A.length:Int) < t'+s:=by
  rw[Ne,M.full]at h;have h1:=t.waits.2.2;unfold nC at h;rw[h1]at h;have h1:=t.lt;have h2:=t.ta;have h3:=t.la;have h4:=t.sa;omega
 obtain⟨W,t2⟩:=t.asked hlt nm wt;have hT:=M.TA.1;refine⟨⟨_,_,_,_,_,_,_,_,_,_,t2⟩,?_,M.bt,M.und.snoc (mU hl) (rP hl),M.tkd,M.n9,M.s0,M.s8,M.R2⟩;rw[K3 hT,K8];refine(Lq [nm] M.pm).trans ?_;rw[Ku (List.map _ (List.drop T A)),Ku (List.map _ (List.drop T A))];refine Lh _ ?_;show (tk++(B.drop Hd).map (·.1)++[nm]).Perm ([nm]++_);exact perm_append_comm
def M8.takeR (M:M8 s R n m rs un tk A B T Hd) (h:aB ⟨s,R,f'⟩ m (rs j') .asked .taken≠0):∃ nw,A[T]?=dk nw/\rdP m (rs j') f' (rdC m (rs j') .taken % s)=dk nw/\T < A.length/\tk.contains nw.1=f'/\(0 <= nw.1/\nw.1 < 9) /\
 M8 s R n m (aC rs j' (rs j'++[cR ⟨s,R,f'⟩ m (rs j') .taken])) un (tk++[nw.1]) A B (T+1) Hd:=by
 obtain⟨Wf,Wt,df,dt,A',B',a',h',b',t',t⟩:=M.two;have hlt:T < a':=by
  rw[Ne,M.none1]at h;have h1:=t.waits.1.1;unfold nC at h;rw[h1]at h;have h2:=t.ta;have h3:=t.la;omega
 have hTA:T < A.length:=by have:=t.la;omega
 have hd:A.drop T=A[T] :: A.drop (T+1):=L4 hTA;have pm:=M.pm;rw[hd,K1,cons_append]at pm;have nd:=(pm.nodup_iff).mp M.und.1;have nin:=(LK.mp nd).1;have hin:A[T].1∈un:=pm.mem_iff.mpr Km;have hb:=M.und.2 _ hin;have n9:=M.n9;have hb9:0 <= A[T].1/\A[T].1 < 9:=⟨hb.1,by have:=hb.2;omega⟩
 have hc:tk.contains A[T].1=f':=by
  rw[K5,decide_eq_false_iff_not];exact λy=>nin (KS.mpr (.inr (KS.mpr (.inl y))))
 obtain⟨W,t2⟩:=t.took hlt;refine⟨A[T],Kh hTA,?_,hTA,hc,hb9,⟨⟨_,_,_,_,_,_,_,_,_,_,t2⟩,?_,by rw[JX];have:=M.bt;show _+(_+1)=_;omega,M.und,M.tkd.snoc hc hb9,M.n9,M.s0,M.s8,M.R2⟩⟩
 . rw[t.reads.2.2.2.1];rw[t.ask M.s0 hlt,Kh hTA]
 . refine pm.trans ?_;rw[Ku];show (A[T].1 :: ((A.drop (T+1)).map (·.1)++(tk++(B.drop Hd).map (·.1)))).Perm _;refine Mo.trans ?_ (Lh _ (List.perm_append_comm_assoc tk [A[T].1] _).symm);exact(perm_middle (a:=A[T].1)).symm
def M8.answer (M:M8 s R n m rs un tk A B T Hd) {nm:Int}(hm:nm∈tk) (h:aB ⟨s,R,f'⟩ m (rs j') .answered .handed≠s) (wt:Int) :
 M8 s R n m (aC rs j' (rs j'++kQ ⟨s,R,f'⟩ m (rs j') j' .answered nm wt)) un (tk.erase nm) A (B++[(nm,wt)]) T Hd:=by
 obtain⟨Wf,Wt,df,dt,A',B',a',h',b',t',t⟩:=M.two;have hlt:(B.length:Int) < h'+s:=by
  rw[Ne,M.full2]at h;have h1:=t.waits.1.2;unfold nC at h;rw[h1]at h;have h1:=t.lh;have h2:=t.hb;have h3:=t.lb;have h4:=t.sb;omega
 obtain⟨W,t2⟩:=t.answered hlt nm wt;have hH:=M.TA.2;have hpos:=List.length_pos_of_mem hm;refine⟨⟨_,_,_,_,_,_,_,_,_,_,t2⟩,?_,by rw[JX,List.length_erase_of_mem hm];have:=M.bt;show _+1+_=_;omega,M.und,M.tkd.erase,M.n9,M.s0,M.s8,M.R2⟩;rw[K3 hH,K8];refine M.pm.trans (Lh _ ?_);show (tk++_).Perm (tk.erase nm++((B.drop Hd).map (·.1)++[nm]));refine(Lq _ (List.perm_cons_erase hm)).trans ?_;rw[cons_append,<-Ku];exact(List.perm_append_singleton nm _).symm
def M8.collectR (M:M8 s R n m rs un tk A B T Hd) (h:aB ⟨s,R,f'⟩ m (rs f') .answered .handed≠0):∃ nw,B[Hd]?=dk nw/\rdP m (rs f') j' (rdC m (rs f') .handed % s)=dk nw/\Hd < B.length/\nw.1∈un /\
 M8 s R n m (aC rs f' (rs f'++[cR ⟨s,R,f'⟩ m (rs f') .handed])) (un.erase nw.1) tk A B T (Hd+1):=by
 obtain⟨Wf,Wt,df,dt,A',B',a',h',b',t',t⟩:=M.two;have hlt:Hd < b':=by
  rw[Ne,M.none2]at h;have h1:=t.waits.2.1;unfold nC at h;rw[h1]at h;have h2:=t.hb;have h3:=t.lb;omega
 have hHB:Hd < B.length:=by have:=t.lb;omega
 have hd:B.drop Hd=B[Hd] :: B.drop (Hd+1):=L4 hHB;have pm:=M.pm;rw[hd,K1]at pm;have hin:B[Hd].1∈un:=pm.mem_iff.mpr (KS.mpr (.inr (KS.mpr (.inr Km))));obtain⟨W,t2⟩:=t.collected hlt;refine⟨B[Hd],Kh hHB,?_,hHB,hin,⟨⟨_,_,_,_,_,_,_,_,_,_,t2⟩,?_,M.bt,M.und.erase,M.tkd,M.n9,M.s0,M.s8,M.R2⟩⟩
 . rw[t.reads.1.2.1];rw[t.answer M.s0 hlt,Kh hHB]
 . have p2:un.Perm (B[Hd].1 :: ((A.drop T).map (·.1)++(tk++(B.drop (Hd+1)).map (·.1)))):=by
    refine pm.trans ?_;rw[<-Ku,<-Ku];exact perm_middle
   have p3:=p2.erase B[Hd].1;rw[List.erase_cons_head]at p3;exact p3
def M8.drain (M:M8 s R n m rs un tk A B T Hd) (b:Bool) {x:Wr}{rest:List Wr}(e:rs b=x :: rest):M8 s R n (m.put x) (aC rs b rest) un tk A B T Hd:=by
 obtain⟨Wf,Wt,df,dt,A',B',a',h',b',t',t⟩:=M.two;cases b with
|false =>
  obtain⟨A2,a2,h2,_,_,t2⟩:=t.drainF e;exact⟨⟨_,_,_,_,_,_,_,_,_,_,t2⟩,M.pm,M.bt,M.und,M.tkd,M.n9,M.s0,M.s8,M.R2⟩
|true =>
  obtain⟨A2,a2,h2,_,_,t2⟩:=t.drainT e;exact⟨⟨_,_,_,_,_,_,_,_,_,_,t2⟩,M.pm,M.bt,M.und,M.tkd,M.n9,M.s0,M.s8,M.R2⟩
def vA (rs:Bool->List Wr) (b:Bool):aC rs b (rs b)=rs:=by
 funext c;unfold aC;split
 . rename_i y;rw[y]
 . rfl
theorem M8.zero {n:Nat}(hs:0 < s) (hs8:s <= 8) (hR:2 <= R) (n9:n <= 9):M8 s R n Mem.zero (λ_=>[]) [] [] [] [] 0 0 :=
 ⟨⟨_,_,_,_,_,_,_,_,_,_,Two.zero hs⟩,Mo.refl _,rfl,Nms.nil _,Nms.nil _,n9,hs,hs8,hR⟩
end
section
variable {X:Cx}
def Ite (K:Kc) (a:D'):It :=
 ⟨λi H=>∃ xs x,SqL K H a xs/\xs[i]?=dk x,
  λi H v H'=>∃ T x,H T=JZ/\v=.ref T/\H'=upd H T (.tup [.int (i:Int),x])/\∀ xs,SqL K H a xs->xs[i]?=dk x,
  λi H=>∃ xs,SqL K H a xs/\xs.length <= i⟩
def Al {P:Kz}{w:Kk}{K:Kc}{elts:List Expr}{kt:Nat}{pt:Pos}{e it a:D'}(hne:e≠it) :
 Turn P w K (.Tuple elts kt pt) (Ite K a) [e,it] e (λi h=>(∃ old,IsEnum h e it (i:Int) old)/\h.IsListIter it a i) where
 mem:=Km
 obj:=λi h st c hc=>by
  obtain⟨⟨_,s1⟩,o,s2,_,s3⟩:=st;simp only[KA,KL,or_false]at hc;rcases hc with rfl|rfl
  . exact⟨_,s1,λv q=>by cases q⟩
  . exact⟨o,s2,λv q=>by rw[s3]at q;cases q⟩
 keep:=λi h h' st k=>by
  obtain⟨⟨u,s1⟩,o,s2,s3⟩:=st;exact⟨⟨u,k e (by simp) _ s1⟩,o,k it (by simp) _ s2,s3⟩
 item:=by
  intro X hP hw hK hc i Mq s σ H E I hf st hg;subst hP hw hK;obtain⟨⟨u,s1⟩,s2⟩:=st;obtain⟨xs,x,q1,hx⟩:=hg;obtain⟨us,r1,p1,_⟩:=I.list q1;obtain⟨ux,hux,rx⟩:=r1.get hx;refine wpAny_pyNext_enum_item s1 s2 p1.isList (x:=ux) (by simpa using hux) hne λh' t1 t2 t3 t4 kk=>?_
  have hfresh:H s.heap.objs.size=JZ:=I.hok.fresh (Kf _);have lt:∀ {c o},s.heap.get? c=dk o->c≠s.heap.objs.size:=λe=>Ld (Ks e)
  refine⟨_,rfl,wpAny_letOwnedTupleGo_enum t1 λh'' u1 e2=>?_⟩;have ch:∀ c o,c ∉ [e,it]->s.heap.get? c=dk o->h''.get? c=dk o:=λc o n ee=>by
   have n1:c≠e:=λq=>n (by simp[q])
   exact e2.extBut _ _ n1 (kk c o n1 (λq=>n (by simp[q])) ee)
  have I1:Inv X Mq σ H { s with heap:=h'',toks:=s.toks+1 }:=I.turnedL (t':=s.toks+1) (λb hb=>hf b hb) ch;have T5:h''.get? s.heap.objs.size=dk { cls:=.type "tuple",data:=.seq #[.int (i:Int) s.toks,ux] }:=e2.extBut _ _ (lt s1).symm t3;have apt:=I.aptSz (Kf s.heap.objs.size) hfresh;have I2:=I1.seen (o:=.tup [.int (i:Int),x]) apt ⟨by show 2 <= Ki;decide,[.int (i:Int) s.toks,ux],.cons ⟨_,rfl⟩ (.cons rx .nil),⟨_,T5,rfl,_,rfl⟩⟩;refine⟨.ref s.heap.objs.size,_,I2,rfl,⟨_,x,hfresh,rfl,rfl,λzs hz=>by rw[I.list_inj hz q1];exact hx⟩,⟨⟨_,u1⟩,?_⟩,λb hb=>?_⟩
  . obtain⟨o,a1,a2⟩:=t2;exact⟨o,e2.extBut _ _ hne.symm a1,a2⟩
  . obtain⟨o,ho,_⟩:∃ o,s.heap.get? b=dk o/\True:=by
     simp only[KA,KL,or_false]at hb;rcases hb with rfl|rfl
     . exact⟨_,s1,trivial⟩
     . obtain⟨o,a1,_⟩:=s2;exact⟨o,a1,trivial⟩
    rw[ac (lt ho)];exact(hf b hb).1
 done:=by
  intro X hP hw hK hc i Mq s σ H E I hf st hg;subst hP hw hK;obtain⟨⟨u,s1⟩,s2⟩:=st;obtain⟨xs,q1,hx⟩:=hg;obtain⟨us,r1,p1,_⟩:=I.list q1;have hl:=r1.length;exact wpAny_pyNext_enum_end (I.ok.hd hc) s1 s2 p1.isList (by simp;omega) λh' kk=>⟨rfl,I.turnedL (t':=s.toks) (ch:=[it]) (λb hb=>hf b (by
   rw[JY.mp hb];simp)) λb o n ee=>kk b o (λq=>n (by simp[q])) ee⟩
 self:=λA i s Q E st hQ=>by
  obtain⟨⟨u,s1⟩,_⟩:=st;exact wpAny_pyIter_enum s1 hQ
def Hl (K:Kc) (ta:TA):TI:=λσ H R=>ta σ H λvs H1=>∃ a xs,vs=[.ref a]/\SqL K H1 a xs/\R (Ite K a) H1
def B4:K7 "enumerate"=dk (.type "enumerate"):=by decide +kernel
def EU {a:Expr}{ta:TA}{p pos pt:Pos}{elts:List Expr}{kt:Nat}(hg:Gl X "enumerate") (hm:X.mg "enumerate"=JZ) (ha:PA X [a] ta) (hs:KP [a] X.env=[(f',eval a X.env)]:=by rfl) :
 PI X (.Tuple elts kt pt) (.Call (.Name "enumerate" p) [a] [] pos) (Hl X.K ta):=by
 intro Mq s σ H R I h;refine Call_ (pc I hg hm B4 (LD (thn (ha pos Mq s σ H _ I h) λus s1 ⟨vs,H1,I1,r1,q1⟩=>?_) (by rw[hs];rfl) (by first|rfl|(rw[hs];rfl))));obtain⟨a1,xs,e,h1,q⟩:=q1;subst e;obtain⟨u,rfl,ru⟩:=r1.one;cases ru;obtain⟨us,_,p1,_⟩:=I1.list h1;refine call_enumerate_list p1.isList λh' z1 z2 z3 kk=>wpAny_pyIter_enum z1 ?_
 have fr:∀ b,s1.heap.objs.size <= b->wD X Mq H1 b:=λb hb=>I1.fpOk hb (I1.hok.fresh hb)
 refine⟨_,[s1.heap.objs.size+1,s1.heap.objs.size],_,_,H1,rfl,I1.kept (t':=s1.toks) kk,Al (by show (_:Nat)≠_;omega),⟨⟨_,z1⟩,z2⟩,λb hb=>fr b ?_,q⟩;simp only[KA,KL,or_false]at hb;rcases hb with rfl|rfl<;>omega
def CA {K:Kc}{a:D'}{xs:List V}{g:TG}{tb:TS}{D:Ends}{σ:St}{H:Hp}(Pv:Nat->St->Hp->Prop) (h0:Pv 0 σ H) (hl:∀ i σ H,i <= xs.length->Pv i σ H->SqL K H a xs)
 (hs:∀ i x T σ H,xs[i]?=dk x->H T=JZ->Pv i σ H->g (.ref T) σ (upd H T (.tup [.int (i:Int),x])) λσ2 H2=>tb { D with nx:=Pv (i+1),ct:=Pv (i+1),bk:=D.nx } σ2 H2) (hd:∀ σ H,Pv xs.length σ H->D.nx σ H) :
 ∃ W:Nat->Nat->St->Hp->Prop,(∃ m,W 0 m σ H)/\∀ i m σ H,W i m σ H ->
  ((Ite K a).stop i H/\D.nx σ H)\/((Ite K a).go i H/\∃ N:St->Hp->Prop,(∀ σ' H',N σ' H'->∃ m',m' < m/\W (i+1) m' σ' H')/\∀ x H',(Ite K a).yld i H x H'->g x σ H' λσ2 H2=>tb { D with nx:=N,ct:=N,bk:=D.nx } σ2 H2):=by
 refine⟨λi m σ H=>m=xs.length - i/\i <= xs.length/\Pv i σ H,⟨xs.length,by simp,LJ _,h0⟩,?_⟩;rintro i m σ H ⟨rfl,hi,p⟩;have q1:=hl i σ H hi p;by_cases hlt:i < xs.length
 . refine .inr ⟨⟨xs,xs[i],q1,Kh hlt⟩,Pv (i+1),λσ' H' z=>⟨xs.length - (i+1),by omega,rfl,hlt,z⟩,?_⟩;rintro v H' ⟨T,x,hT,rfl,rfl,hx⟩;exact hs i x T σ H (hx _ q1) hT p
 . refine .inl ⟨⟨xs,q1,by omega⟩,hd σ H ?_⟩;have e:i=xs.length:=by omega
   rw[<-e];exact p
end
section
variable {X:Cx}
end
section
variable {X:Cx}
end
def ltS (a b:Str):Prop:=a.cps.toList < b.cps.toList
def Paired.at' {α β:Type}{R:α->β->Prop}{as:List α}{bs:List β}(h:Kx R as bs):∀ {i:Nat}{a:α},as[i]?=dk a->∃ b,bs[i]?=dk b/\R a b:=by
 induction h with
|nil=>intro i a e;cases e
|cons r _ ih =>
  intro i a e;cases i with
 |zero=>cases e;exact⟨_,rfl,r⟩
 |succ i=>exact ih (i:=i) e
section
variable {X:Cx}{Mq:List (D' × LF)}{σ:St}{H:Hp}{s:Kb}
end
def IJ (K:Kc) (a:D') (D:List (Str × D')):Prop:=(a == Ls)=f'/\∃ o es ep,K.lookup a=dk o/\o.ExactDict/\o.data=.dict es ep/\KTD.Rows (λ(b:D') (v:JW)=>v=.ref b) es.toList D
section
variable {X:Cx}{Mq:List (D' × LF)}{σ:St}{H:Hp}{s:Kb}
def vR {A:KY}{E:JW->Kb->Prop}{a:D'}{D:List (Str × D')}{k:Str}{tk:Tok}{o:LF}{es:Array KQ}{ep:Nat}{prog:Kz}{w:Kk}{s:Kb}{Q:Option JW->Kb->Prop}(ho:s.heap.get? a=dk o) (hd:o.data=.dict es ep) (hr:KTD.Rows (λ(b:D') (v:JW)=>v=.ref b) es.toList D)
 (h1:Q ((KTD.datumAt k D).map KI) { s with toks:=s.toks+1 }):Kq (model prog w) A (dictGet a (.str k tk)) Q E s:=by
 unfold dictGet
 try with_reducible refine LG ?_
 refine G' (wpAny_pyHash_str (G' (KTD.kt_dictFind_strs (s:={ s with toks:=s.toks+1 }) ho hd (by obtain⟨l⟩:=es;simpa using hr.exact) ?_)));have hq:Q (findBy (λk v=>v.isStr k) es k) { s with toks:=s.toks+1 }:=by
  have hf:findBy (λk v=>v.isStr k) es k=(es.toList.find? λe=>e.key.isStr k).map (·.val):=by
   obtain⟨l⟩:=es;simp[findBy]
  rw[hf];cases hat:KTD.datumAt k D with
 |some d =>
   obtain⟨v,hv,hfl⟩:=hr.find_some hat;rw[hv,hfl];rw[hat]at h1;exact h1
 |none =>
   rw[hr.find_none hat];rw[hat]at h1;exact h1
 rw[findBy_of_findIdx?]at hq;cases hi:es.findIdx? λe=>e.key.isStr k with
|none=>rw[hi]at hq;exact Ke hq
|some i=>rw[hi]at hq;exact G' (wpAny_dictEntries (s:={ s with toks:=s.toks+1 }) ho hd (Ke hq))
def Jo:Option D'->V
|some b=>.ref b
|none=>.non
def EN (D:List (Str × D')) (ty:TE):TE:=λσ H Q=>ty σ H λy H1=>∃ k,y=.str k/\Q (Jo (KTD.datumAt k D)) H1
def Aj {T:Str}{a:D'}{D:List (Str × D')}{e:Expr}{ty:TE}{p apos cpos:Pos}(hg:Gl X T) (hm:X.mg T=dk (.ref a)) (ht:IJ X.K a D) (he:PE X e ty) (m:M1 X (.Name T p) "get" apos e cpos) (hdb:(T == ("__debug__":Str))=f':=by decide):PE X (.Call (.Attribute (.Name T p) "get" apos) [e] [] cpos) (EN D ty):=by
 intro Mq s σ H Q I h;obtain⟨hs,o,es,ep,hl,hx,hd,hr⟩:=ht;have ho:∀ {s':Kb} {H':Hp},Inv X Mq σ H' s'->s'.heap.get? a=dk o:=λI'=>I'.kIn a o hl
 refine wpAny_Call_method m.base m.few m.line PySem.F.plainAttrs_dict PySem.F.slot_dict_get PySem.F.type_dict_get (jZ I hg hm ?_ hdb);refine⟨⟨o,ho I,hx.1⟩,?_,?_⟩
 . intro b q;cases q;exact⟨o,ho I,hx.2.1⟩
 . rw[m.trees];refine LR rfl (LO (LM (thn (he Mq s σ H _ I h) λiv s2 ⟨y,H2,I2,ry,k,ey,q2⟩=>Calls.spliced_nil ?_)));subst ey;obtain⟨t,rfl⟩:=ry;refine LB PySem.F.slot_dict_get ⟨o,ho I2,hx.1⟩ PySem.F.entry_dict_get ?_ (PySem.F.args_dict_get_2 _ _);show Kq _ _ (dictGet a (.str k t) >>= _) _ _ s2;refine G' (vR (ho I2) hd hr ?_);cases hat:KTD.datumAt k D with
  |some b =>
    rw[hat]at q2;exact Ke ⟨_,rfl,.ref b,H2,I2.tok _,rfl,q2⟩
  |none =>
    rw[hat]at q2;show Kq _ _ (Builtin.Dict.missed a (.str k t) >>= _) _ _ _;exact G' (wpAny_missed_other hs (Ke ⟨.none,rfl,.non,H2,I2.tok _,rfl,q2⟩))
end
section
variable {X:Cx}
def yg {prog:Kz}{w:Kk}{A:KY}{I l:D'}{items:Array JW}(hh:A.handled=JZ) (hIl:I≠l) :
 Walks prog w A I [I,l] [I] items.size (λi v=>items[i]?=dk v) (λi h=>h.IsListIter I l i/\h.IsList l items) where
 sub b hb:=by rw[JY.mp hb];exact Km
 frame i h h' st k:=by
  obtain⟨⟨o,ho,r⟩,⟨ol,hol,rl⟩⟩:=st;exact⟨⟨o,k I Km _ ho,r⟩,⟨ol,k l (Kl _ Km) _ hol,rl⟩⟩
 item i s Q E hi st k:=by
  refine wpAny_pyNext_list_item st.1 st.2 (KW hi) λh' it' sb=>k _ h' s.toks (KW hi) ⟨it',?_⟩ λb o hb e=>(sb.2 b (λy=>hb (by rw[y];exact JY.mpr rfl))).trans e
  obtain⟨ol,hol,rl⟩:=st.2;exact⟨ol,(sb.2 l (Mb hIl)).trans hol,rl⟩
 done s Q E st k:=by
  refine wpAny_pyNext_list_end hh st.1 st.2 (by rw[Array.getElem?_eq_none_iff];exact Kf _) λh' eb=>k h' s.toks λb o hb e=>?_
  exact eb b o (λy=>hb (by rw[y];exact JY.mpr rfl)) e
 self i s Q E st k:=wpAny_pyIter_listiter st.1 k
theorem uq:∀ {bs:List Bool}{us:List JW},bZ (bs.map V.bl) us->us=bs.map JW.bool
|[],_,.nil=>rfl
|b :: bs,_,.cons r t=>by
  have r':_=JW.bool b:=r;rw[r',uq t];rfl
def Fs:K7 "all"=dk (.builtin "all"):=by decide +kernel
def C5 (hc:X.calm=j'):uP X (.builtin "all") (λxs H Q=>∃ (p:D') (bs:List Bool),xs=[.ref p]/\SqL X.K H p (bs.map V.bl)/\Q (.bl (bs.all id)) H):=by
 intro Mq s σ H xs us Q I r h;obtain⟨p,bs,rfl,hq,q⟩:=h;obtain⟨u,rfl,rx⟩:=ym r;cases rx;obtain⟨its,r',pl,hz⟩:=I.list hq;have hb:=uq r';have il:=pl.isList;refine call_all_walk (wpAny_pyIter_list il ⟨s.heap.objs.size,_,_,_,_,_,λi=>bs.getD i j',rfl,yg (I:=s.heap.objs.size) (l:=p) (items:=its.toArray) (I.ok.hd hc) ?_,⟨⟨_,Ky _ rfl,rfl,rfl⟩,?_⟩,?_,?_⟩)
 . obtain⟨o,ho,_⟩:=il;exact Mb (Ld (Ks ho))
 . obtain⟨o,ho,rr⟩:=il;exact⟨o,Kd _ ho,rr⟩
 . intro i v s' Q' E' hv hq';have hv':its[i]?=dk v:=by rw[<-hv];simp
   rw[hb,Lo]at hv';obtain⟨b,hbi,rfl⟩:=map_eq_some_iff.mp hv';have:bs.getD i j'=b:=by rw[LY,hbi];rfl
   have hq2:Q' (bs.getD i j') s':=hq';rw[this]at hq2;exact Lw hq2
 . intro h' tk k;have e:((Mm its.toArray.size).all λi=>bs.getD i j')=bs.all id:=by
    have hl:its.toArray.size=bs.length:=by rw[KD,hb,Kv]
    rw[hl,Lz,all_eq_true,all_eq_true];constructor
    . intro h x hx;obtain⟨i,hi,rfl⟩:=List.getElem_of_mem hx;have:=h i (mem_range.mpr hi);rw[LY,Kh hi]at this;exact this
    . intro h i hi;have hi':=mem_range.mp hi;rw[LY,Kh hi'];exact h _ (List.getElem_mem hi')
   rw[e];refine⟨.bl (bs.all id),H,I.kept λb o hb=>k b o (λy=>?_) (Kd _ hb),rfl,q⟩;rw[JY]at y;have:=Ks hb;rw[y]at this;exact L6 _ this
end
section
variable {X:Cx}
end
def xl {X:Cx}{x:Str}{i:Int}{p:Pos}(hg:Gl X x) (hm:∃ t,X.mg x=dk (.int i t)) (hdb:(x == ("__debug__":Str))=f':=by decide):PE X (.Name x p) (tC (.int i)):=by
 obtain⟨t,hm⟩:=hm;intro Mq s σ H Q I h;exact jZ I hg hm ⟨.int i,H,I,⟨t,rfl⟩,h⟩ hdb
def ye (z:HA) (zt:TA') (sa:SA) (c:D'):Prop:=z.own c\/zt.own c\/sa.own c
structure X5 (w:Kk) (CH CT CR CS:D') (H:Hp) (z:HA) (zt:TA') (sa:SA) (p:RP) (n:Nat) (m:Mem) (rs:Bool->List Wr) (un tk:List Int):Prop where
 hn:Hn CH CR H z sa.x p n un
 tn:Tn CT CR H zt sa.x p tk
 st:StT w CS H sa m rs
 dz:∀ c,z.own c->¬ zt.own c
section
variable {w:Kk}{CH CT CR CS:D'}{H H':Hp}{z:HA}{zt:TA'}{sa:SA}{p:RP}{n:Nat}{m m':Mem}{rs rs':Bool->List Wr}{un tk un' tk':List Int}
theorem X5.keep (W:X5 w CH CT CR CS H z zt sa p n m rs un tk) (k:∀ c o,ye z zt sa c->H c=dk o->H' c=dk o) (ht:∀ b vs,H b=dk (.tup vs)->H' b=dk (.tup vs)):X5 w CH CT CR CS H' z zt sa p n m rs un tk :=
 ⟨W.hn.keep λc o h=>k c o (.inl h),W.tn.keep λc o h=>k c o (.inr (.inl h)),W.st.keep (λc o h=>k c o (.inr (.inr h))) ht,W.dz⟩
theorem X5.there (W:X5 w CH CT CR CS H z zt sa p n m rs un tk) {c:D'}(h:ye z zt sa c):∃ o,H c=dk o/\∀ vs,o≠.tup vs:=by
 rcases h with h|h|h
 . obtain⟨o,e,⟨_,_,_,s⟩|⟨_,s⟩⟩:=W.hn.there h
   . exact⟨o,e,λvs y=>by rw[y]at s;cases s⟩
   . exact⟨o,e,λvs y=>by rw[y]at s;cases s⟩
 . obtain⟨o,e,⟨_,_,_,s⟩|⟨_,s⟩⟩:=W.tn.there h
   . exact⟨o,e,λvs y=>by rw[y]at s;cases s⟩
   . exact⟨o,e,λvs y=>by rw[y]at s;cases s⟩
 . exact W.st.there h
def Ht {p:RP}{st:D'}{nn:Int}{aw:List Int}(B:Hn CH CR H z st p nn aw) (S:StT w CS H sa m rs) (b:Bool):¬ z.own (sa.l b):=λhc=>by
 obtain⟨o1,q1,s1⟩:=B.there hc;obtain⟨M,r,S',_⟩:=S;obtain⟨ts,e,_⟩:=S'.rw b;rw[e]at q1;cases q1;rcases s1 with⟨_,_,_,s⟩|⟨_,s⟩<;>cases s
def Iu {p:RP}{st:D'}{aw:List Int}(B:Tn CT CR H zt st p aw) (S:StT w CS H sa m rs) (b:Bool):¬ zt.own (sa.l b):=λhc=>by
 obtain⟨o1,q1,s1⟩:=B.there hc;obtain⟨M,r,S',_⟩:=S;obtain⟨ts,e,_⟩:=S'.rw b;rw[e]at q1;cases q1;rcases s1 with⟨_,_,_,s⟩|⟨_,s⟩<;>cases s
def qW:∀ c∈[z.gd,sa.l f'],ye z zt sa c:=λc hc=>by
 rcases KA.mp hc with y|y
 . rw[y];exact .inl (.inr (.inr (.inr rfl)))
 . rw[JY.mp y];exact .inr (.inr (Fk f'))
def r6:∀ c∈[zt.gd,sa.l j'],ye z zt sa c:=λc hc=>by
 rcases KA.mp hc with y|y
 . rw[y];exact .inr (.inl (.inr (.inr (.inr rfl))))
 . rw[JY.mp y];exact .inr (.inr (Fk j'))
def tU {b:Bool}:∀ c∈[sa.l b,sa.hd],ye z zt sa c:=λc hc=>by
 rcases KA.mp hc with y|y
 . rw[y];exact .inr (.inr (Fk b))
 . rw[JY.mp y];exact .inr (.inr Fy)
def X5.hand (W:X5 w CH CT CR CS H z zt sa p n m rs un tk) (hn':Hn CH CR H' z sa.x p n un') (st':StT w CS H' sa m' rs') (kp:Kp [z.gd,sa.l f'] H H'):X5 w CH CT CR CS H' z zt sa p n m' rs' un' tk:=by
 refine⟨hn',W.tn.keep λc o hc e=>kp c o (λmm=>?_) e,st',W.dz⟩;rcases KA.mp mm with y|y
 . exact W.dz c (by rw[y];exact .inr (.inr (.inr rfl))) hc
 . exact Iu W.tn W.st f' (by rw[<-JY.mp y];exact hc)
def X5.heart (W:X5 w CH CT CR CS H z zt sa p n m rs un tk) (tn':Tn CT CR H' zt sa.x p tk') (st':StT w CS H' sa m' rs') (kp:Kp [zt.gd,sa.l j'] H H'):X5 w CH CT CR CS H' z zt sa p n m' rs' un tk':=by
 refine⟨W.hn.keep λc o hc e=>kp c o (λmm=>?_) e,tn',st',W.dz⟩;rcases KA.mp mm with y|y
 . exact W.dz c hc (by rw[y];exact .inr (.inr (.inr rfl)))
 . exact Ht W.hn W.st j' (by rw[<-JY.mp y];exact hc)
def X5.store (W:X5 w CH CT CR CS H z zt sa p n m rs un tk) {b:Bool}(st':StT w CS H' sa m' rs') (kp:Kp [sa.l b,sa.hd] H H'):X5 w CH CT CR CS H' z zt sa p n m' rs' un tk:=by
 have hx:∀ c∈[sa.l b,sa.hd],(∃ ys,H c=dk (.lst ys))\/∃ ee:List KQ × Nat,H c=dk (pY c ee.1 ee.2):=λc hc=>by
  obtain⟨M,r,S,_⟩:=W.st;rcases KA.mp hc with y|y
  . obtain⟨ts,e,_⟩:=S.rw b;exact .inl ⟨ts,by rw[y];exact e⟩
  . obtain⟨ee,e⟩:=S.me.there;exact .inr ⟨ee,by rw[JY.mp y];exact e⟩
 exact⟨W.hn.lists kp hx,W.tn.lists kp hx,st',W.dz⟩
end
def DV2 {H:Hp}{c:D'}{x y:Int}(h:H c=dk (.tup [.int x,.int y])):DV H (.tuple [.int x,.int y]) (.ref c):=⟨c,_,rfl,h,_,_,rfl,rfl,_,_,rfl,rfl,rfl⟩
theorem ic {H:Hp}:∀ {ds:List Ka}{ts:List V},DVs H ds ts->ts.length=ds.length
|[],_,h=>by cases h;rfl
|d :: ds,_,⟨v,r,h,h1,h2⟩=>by subst h;rw[KJ,KJ,ic h2]
def zK {xs:List V}{j:Nat}{v:V}(h:xs[j]?=dk v):atI xs (j:Int)=dk v:=by
 unfold atI ixN;have hl:=(Kw.mp h).1;rw[Qq (by omega),Qq (by omega)];exact h
inductive Bd where
|up|lies|asleep
instance:DecidableEq Bd:=λa b=>by
 cases a<;>cases b<;>first|exact isTrue rfl|exact isFalse (λh=>by cases h)
def Bd.key:Bd->Str
|.up=>"up"
|.lies=>"lies"
|.asleep=>"asleep"
def FP {a b:Bd}(h:a.key=b.key):a=b:=by
 cases a<;>cases b<;>first|rfl|exact absurd h (by decide +kernel)
structure YP where
 p:RP
 n:Nat
 fb:Bool
 fl:Bool
 fk:Bool
structure YP.Ok (q:YP):Prop where
 ok:q.p.Ok
 n9:q.n <= 9
structure YA where
 y:D'
 ft:D'
 sa:SA
 z:HA
 zt:TA'
 sl:D'
 qu:D'
 hp:D'
structure YS where
 m:Mem
 rs:Bool->List Wr
 un:List Int
 tk:List Int
 bd:Bool->Bd
 qt:Bool->Bool
 hs:List Ka
def YS.zero:YS:=⟨Mem.zero,λ_=>[],[],[],λ_=>.up,λ_=>j',[]⟩
def yF (a:YA) (q:YP):List (Str × V):=bn "happened" (.ref a.hp) (bn "quiet" (.ref a.qu) (bn "sleepers" (.ref a.sl) (bn "look_sees" (.bl q.fk) (bn "lie_fences" (.bl q.fl) (bn "bell_fences" (.bl q.fb) (bn "heart" (.ref a.zt.h) (bn "hand" (.ref a.z.h) (bn "shelf" (.ref a.sa.x) (bn "faults" (.ref a.ft) (bn "rounds" (.int q.p.R) (bn "size" (.int q.p.s) [])))))))))))
section
variable {a:YA}{q:YP}
def EC:(yF a q).lookup ("size":Str)=dk (.int q.p.s):=by unfold yF;repeat (first|rw[a9,Qq rfl]|rw[a9,Qr (by decide +kernel)]);try rfl
def AO:(yF a q).lookup ("rounds":Str)=dk (.int q.p.R):=by unfold yF;repeat (first|rw[a9,Qq rfl]|rw[a9,Qr (by decide +kernel)]);try rfl
def fE:(yF a q).lookup ("shelf":Str)=dk (.ref a.sa.x):=by unfold yF;repeat (first|rw[a9,Qq rfl]|rw[a9,Qr (by decide +kernel)]);try rfl
def sw:(yF a q).lookup ("hand":Str)=dk (.ref a.z.h):=by unfold yF;repeat (first|rw[a9,Qq rfl]|rw[a9,Qr (by decide +kernel)]);try rfl
def lF:(yF a q).lookup ("heart":Str)=dk (.ref a.zt.h):=by unfold yF;repeat (first|rw[a9,Qq rfl]|rw[a9,Qr (by decide +kernel)]);try rfl
def Ey:(yF a q).lookup ("bell_fences":Str)=dk (.bl q.fb):=by unfold yF;repeat (first|rw[a9,Qq rfl]|rw[a9,Qr (by decide +kernel)]);try rfl
def Gw:(yF a q).lookup ("lie_fences":Str)=dk (.bl q.fl):=by unfold yF;repeat (first|rw[a9,Qq rfl]|rw[a9,Qr (by decide +kernel)]);try rfl
def Ej:(yF a q).lookup ("look_sees":Str)=dk (.bl q.fk):=by unfold yF;repeat (first|rw[a9,Qq rfl]|rw[a9,Qr (by decide +kernel)]);try rfl
def cC:(yF a q).lookup ("sleepers":Str)=dk (.ref a.sl):=by unfold yF;repeat (first|rw[a9,Qq rfl]|rw[a9,Qr (by decide +kernel)]);try rfl
def oE:(yF a q).lookup ("quiet":Str)=dk (.ref a.qu):=by unfold yF;repeat (first|rw[a9,Qq rfl]|rw[a9,Qr (by decide +kernel)]);try rfl
def iI:(yF a q).lookup ("happened":Str)=dk (.ref a.hp):=by unfold yF;repeat (first|rw[a9,Qq rfl]|rw[a9,Qr (by decide +kernel)]);try rfl
def dC {f:Str}(h:f ∉ (["size","rounds","faults","shelf","hand","heart","bell_fences","lie_fences","look_sees","sleepers","quiet","happened"]:List Str)):(yF a q).lookup f=JZ:=by
 simp only[KA,KL,or_false,not_or]at h;obtain⟨h1,h2,h3,h4,h5,h6,h7,h8,h9,h10,h11,h12⟩:=h;unfold yF;rw[a9,Qr h12,a9,Qr h11,a9,Qr h10,a9,Qr h9,a9,Qr h8,a9,Qr h7,a9,Qr h6,a9,Qr h5,a9,Qr h4,a9,Qr h3,a9,Qr h2,a9,Qr h1];rfl
end
def YA.lists (a:YA) (c:D'):Prop:=c=a.sl\/c=a.qu\/c=a.hp
def YA.own (a:YA) (c:D'):Prop:=c=a.y\/ye a.z a.zt a.sa c\/a.lists c
structure Yn (w:Kk) (CY CH CT CR CS:D') (H:Hp) (a:YA) (q:YP) (S:YS):Prop where
 ob:∃ dx,H a.y=dk (.ins CY dx (yF a q))
 x:X5 w CH CT CR CS H a.z a.zt a.sa q.p q.n S.m S.rs S.un S.tk
 sl:H a.sl=dk (.lst [.str (S.bd f').key,.str (S.bd j').key])
 qu:H a.qu=dk (.lst [.bl (S.qt f'),.bl (S.qt j')])
 hp:∃ ts,H a.hp=dk (.lst ts)/\DVs H S.hs ts
 fl:∀ d∈S.hs,flD d=j'
 d1:∀ c,a.lists c->¬ ye a.z a.zt a.sa c
 d2:a.sl≠a.qu/\a.sl≠a.hp/\a.qu≠a.hp
 d3:¬ ye a.z a.zt a.sa a.y
theorem DVs.fl {H H':Hp}(ht:∀ b vs,H b=dk (.tup vs)->H' b=dk (.tup vs)):∀ {ds:List Ka}{vs:List V},(∀ d∈ds,flD d=j')->DVs H ds vs->DVs H' ds vs
|[],_,_,h=>h
|d :: ds,_,hf,⟨v,r,e,h1,h2⟩=>⟨v,r,e,DV.fl ht (hf d Km) h1,DVs.fl ht (λx hx=>hf x (Kl _ hx)) h2⟩
section
variable {w:Kk}{CY CH CT CR CS:D'}{H H':Hp}{a:YA}{q:YP}{S:YS}
theorem Yn.keep (Y:Yn w CY CH CT CR CS H a q S) (k:∀ c o,a.own c->H c=dk o->H' c=dk o) (ht:∀ b vs,H b=dk (.tup vs)->H' b=dk (.tup vs)):Yn w CY CH CT CR CS H' a q S:=by
 obtain⟨dx,hx⟩:=Y.ob;obtain⟨ts,h1,h2⟩:=Y.hp;exact⟨⟨dx,k _ _ (.inl rfl) hx⟩,Y.x.keep (λc o h=>k c o (.inr (.inl h))) ht,k _ _ (.inr (.inr (.inl rfl))) Y.sl,k _ _ (.inr (.inr (.inr (.inl rfl)))) Y.qu,⟨ts,k _ _ (.inr (.inr (.inr (.inr rfl)))) h1,DVs.fl ht Y.fl h2⟩,Y.fl,Y.d1,Y.d2,Y.d3⟩
def Yn.same (Y:Yn w CY CH CT CR CS H a q S) (s:bL H H'):Yn w CY CH CT CR CS H' a q S:=Y.keep (λc o _=>s c o) λb vs=>s b _
def Yn.list (Y:Yn w CY CH CT CR CS H a q S) {c:D'}(h:a.lists c):∃ ys,H c=dk (.lst ys):=by
 rcases h with rfl|rfl|rfl
 . exact⟨_,Y.sl⟩
 . exact⟨_,Y.qu⟩
 . obtain⟨ts,e,_⟩:=Y.hp;exact⟨_,e⟩
theorem Yn.there (Y:Yn w CY CH CT CR CS H a q S) {c:D'}(h:a.own c):∃ o,H c=dk o/\∀ vs,o≠.tup vs:=by
 rcases h with rfl|h|h
 . obtain⟨dx,e⟩:=Y.ob;exact⟨_,e,λ_ z=>by cases z⟩
 . exact Y.x.there h
 . obtain⟨ys,e⟩:=Y.list h;exact⟨_,e,λ_ z=>by cases z⟩
def Yn.tups (Y:Yn w CY CH CT CR CS H a q S) {xs:List D'}(kp:Kp xs H H') (h:∀ c∈xs,a.own c):∀ b vs,H b=dk (.tup vs)->H' b=dk (.tup vs):=λb vs e=>kp b _ (λmm=>by
 obtain⟨o,e',nn⟩:=Y.there (h b mm);rw[e']at e;exact nn vs (KH e)) e
def Yn.parts (Y:Yn w CY CH CT CR CS H a q S) {xs:List D'}{m:Mem}{rs:Bool->List Wr}{un tk:List Int}(X':X5 w CH CT CR CS H' a.z a.zt a.sa q.p q.n m rs un tk) (kp:Kp xs H H') (h:∀ c∈xs,ye a.z a.zt a.sa c):Yn w CY CH CT CR CS H' a q { S with m:=m,rs:=rs,un:=un,tk:=tk }:=by
 have ht:=Y.tups kp λc hc=>.inr (.inl (h c hc))
 obtain⟨dx,hx⟩:=Y.ob;obtain⟨ts,h1,h2⟩:=Y.hp;have ls:∀ c o,a.lists c->H c=dk o->H' c=dk o:=λc o hc e=>kp c o (λmm=>Y.d1 c hc (h c mm)) e
 exact⟨⟨dx,kp _ _ (λmm=>Y.d3 (h _ mm)) hx⟩,X',ls _ _ (.inl rfl) Y.sl,ls _ _ (.inr (.inl rfl)) Y.qu,⟨ts,ls _ _ (.inr (.inr rfl)) h1,DVs.fl ht Y.fl h2⟩,Y.fl,Y.d1,Y.d2,Y.d3⟩
def Yn.lst_tups (Y:Yn w CY CH CT CR CS H a q S) {c:D'}(hc:a.lists c) (o:HO):∀ b vs,H b=dk (.tup vs)->upd H c o b=dk (.tup vs):=λb vs e=>by
 obtain⟨ys,e'⟩:=Y.list hc;rw[ac (λy=>by rw[y,e']at e;cases e)];exact e
def Yn.lst_own (Y:Yn w CY CH CT CR CS H a q S) {c:D'}(hc:a.lists c) (o:HO):∀ b u,ye a.z a.zt a.sa b->H b=dk u->upd H c o b=dk u:=λb u hb e=>by
 rw[ac (λy=>Y.d1 c hc (by rw[<-y];exact hb))];exact e
def Yn.lst_y (Y:Yn w CY CH CT CR CS H a q S) {c:D'}(hc:a.lists c) (o:HO):∃ dx,upd H c o a.y=dk (.ins CY dx (yF a q)):=by
 obtain⟨dx,hx⟩:=Y.ob;obtain⟨ys,e'⟩:=Y.list hc;exact⟨dx,by rw[ac (λy=>by rw[y,e']at hx;cases hx)];exact hx⟩
def Yn.setSl (Y:Yn w CY CH CT CR CS H a q S) (b:Bool) (x:Bd) {ys:List V}(h:ys=[.str (aC S.bd b x f').key,.str (aC S.bd b x j').key]):Yn w CY CH CT CR CS (upd H a.sl (.lst ys)) a q { S with bd:=aC S.bd b x }:=by
 have hc:a.lists a.sl:=.inl rfl;obtain⟨ts,h1,h2⟩:=Y.hp;have ht:=Y.lst_tups hc (.lst ys);exact⟨Y.lst_y hc _,Y.x.keep (Y.lst_own hc _) ht,by rw[a8,h],by rw[ac (Mb Y.d2.1)];exact Y.qu,⟨ts,by rw[ac (Mb Y.d2.2.1)];exact h1,DVs.fl ht Y.fl h2⟩,Y.fl,Y.d1,Y.d2,Y.d3⟩
def Yn.setQu (Y:Yn w CY CH CT CR CS H a q S) (b x:Bool) {ys:List V}(h:ys=[.bl (aC S.qt b x f'),.bl (aC S.qt b x j')]):Yn w CY CH CT CR CS (upd H a.qu (.lst ys)) a q { S with qt:=aC S.qt b x }:=by
 have hc:a.lists a.qu:=.inr (.inl rfl);obtain⟨ts,h1,h2⟩:=Y.hp;have ht:=Y.lst_tups hc (.lst ys);exact⟨Y.lst_y hc _,Y.x.keep (Y.lst_own hc _) ht,by rw[ac Y.d2.1];exact Y.sl,by rw[a8,h],⟨ts,by rw[ac (Mb Y.d2.2.2)];exact h1,DVs.fl ht Y.fl h2⟩,Y.fl,Y.d1,Y.d2,Y.d3⟩
def Yn.setHp (Y:Yn w CY CH CT CR CS H a q S) {x:Ka}{v:V}{ts:List V}(hts:H a.hp=dk (.lst ts)) (hv:DV H x v) (hx:flD x=j'):Yn w CY CH CT CR CS (upd H a.hp (.lst (ts++[v]))) a q { S with hs:=S.hs++[x] }:=by
 have hc:a.lists a.hp:=.inr (.inr rfl);obtain⟨ts',h1,h2⟩:=Y.hp;rw[hts]at h1;cases h1;have ht:=Y.lst_tups hc (.lst (ts++[v]));have hf:∀ d∈S.hs++[x],flD d=j':=λd hd=>by
  rcases KS.mp hd with h|h
  . exact Y.fl d h
  . rw[JY.mp h];exact hx
 exact⟨Y.lst_y hc _,Y.x.keep (Y.lst_own hc _) ht,by rw[ac Y.d2.2.1];exact Y.sl,by rw[ac Y.d2.2.2];exact Y.qu,⟨_,a8,DVs.fl ht hf (DVs.snoc h2 hv)⟩,hf,Y.d1,Y.d2,Y.d3⟩
end
inductive Dd where
|ask (wt:Int)|collect|take|answer (nm wt:Int)|bell (b:Bool)|lie (b:Bool)|look (b:Bool)|drain (b:Bool)
def Dd.vs:Dd->List V
|.ask wt=>[.str "ask",.int wt]
|.collect=>[.str "collect"]
|.take=>[.str "take"]
|.answer nm wt=>[.str "answer",.int nm,.int wt]
|.bell b=>[.str "bell",.int (sdI b)]
|.lie b=>[.str "lie",.int (sdI b)]
|.look b=>[.str "look",.int (sdI b)]
|.drain b=>[.str "drain",.int (sdI b)]
def Dd.dat:Dd->Ka
|.ask wt=>.tuple [.str "ask",.int wt]
|.collect=>.tuple [.str "collect"]
|.take=>.tuple [.str "take"]
|.answer nm wt=>.tuple [.str "answer",.int nm,.int wt]
|.bell b=>.tuple [.str "bell",.int (sdI b)]
|.lie b=>.tuple [.str "lie",.int (sdI b)]
|.look b=>.tuple [.str "look",.int (sdI b)]
|.drain b=>.tuple [.str "drain",.int (sdI b)]
def Dd.Ok:Dd->Prop
|.ask wt=>-1000000000 <= wt/\wt <= 1000000000
|.answer _ wt=>-1000000000 <= wt/\wt <= 1000000000
|_=>True
inductive Rf where
|deed|full|name|task
def Dd.chk (q:YP) (S:YS):Dd->Option Rf
|.drain b=>if S.rs b=[] then dk .deed else JZ
|.look b=>if S.bd b=.lies then JZ else dk .deed
|.bell b=>if S.bd b=.up then JZ else dk .deed
|.lie b=>if S.bd b=.up then JZ else dk .deed
|.collect=>if S.bd f'=.up then JZ else dk .deed
|.take=>if S.bd j'=.up then JZ else dk .deed
|.ask _=>if S.bd f'=.up then (if aB q.p S.m (S.rs f') .asked .taken=q.p.s then dk .full else match bO q.n S.un with|none=>dk .name|some _=>JZ) else dk .deed
|.answer nm _=>if S.bd j'=.up then (if S.tk.contains nm=f' then dk .task else if aB q.p S.m (S.rs j') .answered .handed=q.p.s then dk .full else JZ) else dk .deed
def Dd.dv {H:Hp}{t:D'}(d:Dd) (h:H t=dk (.tup d.vs)):DV H d.dat (.ref t):=by
 cases d<;>first
 |exact⟨t,_,rfl,h,_,_,rfl,rfl,rfl⟩
 |exact⟨t,_,rfl,h,_,_,rfl,rfl,_,_,rfl,rfl,rfl⟩
 |exact⟨t,_,rfl,h,_,_,rfl,rfl,_,_,rfl,rfl,_,_,rfl,rfl,rfl⟩
section
variable {K:Kc}
def Hu:kitOne K (.type "int") (.type "int")=dk j':=by rfl
def Ii:kitOne K (.type "int") (.type "bool")=dk f':=by rfl
def Hy:kitOne K (.type "str") (.type "str")=dk j':=by rfl
end
def gv (x:Int) (k:Str):Bool:=if k="worth" then decide (-1000000000 <= x) && decide (x <= 1000000000) else if k="side" then decide (x=0) || decide (x=1) else j'
def Dd.word:Dd->Str
|.ask _=>"ask"
|.collect=>"collect"
|.take=>"take"
|.answer _ _=>"answer"
|.bell _=>"bell"
|.lie _=>"lie"
|.look _=>"look"
|.drain _=>"drain"
def Dd.args:Dd->List Int
|.ask wt=>[wt]
|.collect=>[]
|.take=>[]
|.answer nm wt=>[nm,wt]
|.bell b=>[sdI b]
|.lie b=>[sdI b]
|.look b=>[sdI b]
|.drain b=>[sdI b]
def Dd.ks:Dd->List Str
|.ask _=>["worth"]
|.collect=>[]
|.take=>[]
|.answer _ _=>["name","worth"]
|_=>["side"]
def Dd.side:Dd->Bool
|.ask _=>f'
|.collect=>f'
|.take=>j'
|.answer _ _=>j'
|.bell b=>b
|.lie b=>b
|.look b=>b
|.drain b=>b
def Dd.vs_eq (x:Dd):x.vs=.str x.word :: x.args.map V.int:=by cases x<;>rfl
def Dd.len (x:Dd):x.args.length=x.ks.length/\x.args.length <= 2:=by cases x<;>exact⟨rfl,by simp[Dd.args]⟩
def oA (b:Bool):gv (sdI b) "side"=j':=by cases b<;>decide +kernel
def Dd.part {x:Dd}(h:x.Ok):∀ (i:Nat) (y:Int) (k:Str),x.args[i]?=dk y->x.ks[i]?=dk k->gv y k=j':=by
 intro i y k hy hk;have wk:∀ {wt:Int},(-1000000000 <= wt/\wt <= 1000000000)->gv wt "worth"=j':=λ{wt} h=>by
  unfold gv;rw[Qq rfl,Qt h.1,Qt h.2];rfl
 have nmk:∀ {nm:Int},gv nm "name"=j':=λ{nm}=>by
  unfold gv;rw[Qr (by decide +kernel),Qr (by decide +kernel)]
 cases x with
|ask wt =>
  match i,hy,hk with
 |0,hy,hk=>cases hy;cases hk;exact wk h
 |_+1,hy,_=>cases hy
|collect=>cases hy
|take=>cases hy
|answer nm wt =>
  match i,hy,hk with
 |0,hy,hk=>cases hy;cases hk;exact nmk
 |1,hy,hk=>cases hy;cases hk;exact wk h
 |_+2,hy,_=>cases hy
|bell b =>
  match i,hy,hk with
 |0,hy,hk=>cases hy;cases hk;exact oA b
 |_+1,hy,_=>cases hy
|lie b =>
  match i,hy,hk with
 |0,hy,hk=>cases hy;cases hk;exact oA b
 |_+1,hy,_=>cases hy
|look b =>
  match i,hy,hk with
 |0,hy,hk=>cases hy;cases hk;exact oA b
 |_+1,hy,_=>cases hy
|drain b =>
  match i,hy,hk with
 |0,hy,hk=>cases hy;cases hk;exact oA b
 |_+1,hy,_=>cases hy
def rA (xs:List V) (k:Nat):lP xs (dk (k:Int)) JZ=xs.drop k:=by
 unfold lP;rw[HT.sIx_nat,show HT.sIx xs.length xs.length JZ=xs.length from rfl];by_cases h:k <= xs.length
 . rw[min_eq_left h,Li (by rw[length_drop];exact Kf _)]
 . rw[Nat.min_eq_right (by omega),drop_of_length_le (Kf _),drop_of_length_le (by omega),take_nil]
end L2
namespace L2
def Dd.grp (x:Dd):((x.word="ask"\/x.word="collect")/\x.side=f')\/((x.word="take"\/x.word="answer")/\x.side=j')\/((x.word="bell"\/x.word="lie"\/x.word="look"\/x.word="drain")/\x.args=[sdI x.side]):=by
 cases x
 . exact .inl ⟨.inl rfl,rfl⟩
 . exact .inl ⟨.inr rfl,rfl⟩
 . exact .inr (.inl ⟨.inl rfl,rfl⟩)
 . exact .inr (.inl ⟨.inr rfl,rfl⟩)
 . exact .inr (.inr ⟨.inl rfl,rfl⟩)
 . exact .inr (.inr ⟨.inr (.inl rfl),rfl⟩)
 . exact .inr (.inr ⟨.inr (.inr (.inl rfl)),rfl⟩)
 . exact .inr (.inr ⟨.inr (.inr (.inr rfl)),rfl⟩)
end L2
namespace L2
open PySem
def Dd.need:Dd->Bd
|.look _=>.lies
|_=>.up
def Dd.chk_bed {q:YP}{S:YS}{x:Dd}(hd:∀ b,x≠.drain b) (h:S.bd x.side≠x.need):x.chk q S=dk .deed:=by
 cases x
 . exact Qr h
 . exact Qr h
 . exact Qr h
 . exact Qr h
 . exact Qr h
 . exact Qr h
 . exact Qr h
 . exact absurd rfl (hd _)
def Dd.word_drain (x:Dd):x.word="drain" ↔ ∃ b,x=.drain b:=by
 constructor
 . intro h;cases x with
  |drain b=>exact⟨b,rfl⟩
  |ask wt=>exact absurd (show ("ask":Str)="drain" from h) (by decide +kernel)
  |collect=>exact absurd (show ("collect":Str)="drain" from h) (by decide +kernel)
  |take=>exact absurd (show ("take":Str)="drain" from h) (by decide +kernel)
  |answer nm wt=>exact absurd (show ("answer":Str)="drain" from h) (by decide +kernel)
  |bell b=>exact absurd (show ("bell":Str)="drain" from h) (by decide +kernel)
  |lie b=>exact absurd (show ("lie":Str)="drain" from h) (by decide +kernel)
  |look b=>exact absurd (show ("look":Str)="drain" from h) (by decide +kernel)
 . rintro⟨b,rfl⟩;rfl
def Dd.word_look (x:Dd):(x.word="look"/\x.need=.lies/\∃ b,x=.look b)\/(x.word≠"look"/\x.need=.up):=by
 cases x with
|look b=>exact .inl ⟨rfl,rfl,b,rfl⟩
|ask wt=>exact .inr ⟨show ¬ ("ask":Str)="look" by decide +kernel,rfl⟩
|collect=>exact .inr ⟨show ¬ ("collect":Str)="look" by decide +kernel,rfl⟩
|take=>exact .inr ⟨show ¬ ("take":Str)="look" by decide +kernel,rfl⟩
|answer nm wt=>exact .inr ⟨show ¬ ("answer":Str)="look" by decide +kernel,rfl⟩
|bell b=>exact .inr ⟨show ¬ ("bell":Str)="look" by decide +kernel,rfl⟩
|lie b=>exact .inr ⟨show ¬ ("lie":Str)="look" by decide +kernel,rfl⟩
|drain b=>exact .inr ⟨show ¬ ("drain":Str)="look" by decide +kernel,rfl⟩
def Dd.word_aa (x:Dd):(∃ wt,x=.ask wt)\/(∃ nm wt,x=.answer nm wt)\/(x.word≠"ask"/\x.word≠"answer"/\∀ (q:YP) (S:YS),(∀ b,x≠.drain b)->S.bd x.side=x.need->x.chk q S=JZ):=by
 cases x with
|ask wt=>exact .inl ⟨_,rfl⟩
|answer nm wt=>exact .inr (.inl ⟨_,_,rfl⟩)
|collect=>exact .inr (.inr ⟨show ¬ ("collect":Str)="ask" by decide +kernel,show ¬ ("collect":Str)="answer" by decide +kernel,λq S _ h=>Qq h⟩)
|take=>exact .inr (.inr ⟨show ¬ ("take":Str)="ask" by decide +kernel,show ¬ ("take":Str)="answer" by decide +kernel,λq S _ h=>Qq h⟩)
|bell b=>exact .inr (.inr ⟨show ¬ ("bell":Str)="ask" by decide +kernel,show ¬ ("bell":Str)="answer" by decide +kernel,λq S _ h=>Qq h⟩)
|lie b=>exact .inr (.inr ⟨show ¬ ("lie":Str)="ask" by decide +kernel,show ¬ ("lie":Str)="answer" by decide +kernel,λq S _ h=>Qq h⟩)
|look b=>exact .inr (.inr ⟨show ¬ ("look":Str)="ask" by decide +kernel,show ¬ ("look":Str)="answer" by decide +kernel,λq S _ h=>Qq h⟩)
|drain b=>exact .inr (.inr ⟨show ¬ ("drain":Str)="ask" by decide +kernel,show ¬ ("drain":Str)="answer" by decide +kernel,λq S h _=>absurd rfl (h b)⟩)
def zw {a b:Bd}(h:a≠b):V.str a.key≠V.str b.key:=λy=>h (FP (by injection y))
end L2
namespace L2
open PySem PySem.Spec PyProof.Rows
instance (a b:Str):Decidable (ltS a b):=inferInstanceAs (Decidable (a.cps.toList < b.cps.toList))
def bE:Bool->Cn
|false=>.hs
|true=>.ts
def Mem.putAllY (m:Mem) (row:List Wr):Mem:=row.foldl Mem.put m
def YS.fence (S:YS) (b:Bool):YS:={ S with m:=S.m.putAllY (S.rs b),rs:=aC S.rs b [] }
def YS.wr (S:YS) (b:Bool) (x:Wr):YS:={ S with rs:=aC S.rs b (S.rs b++[x]) }
def mV (wd:Str) (x y:Ka):Ka:=.tuple [.str wd,x,y]
def swT (q:YP) (S:YS):Bool->Bool
|false=>decide (aB q.p S.m (S.rs f') .answered .handed≠0)
|true=>decide (aB q.p S.m (S.rs j') .asked .taken≠0)
def Dd.run (q:YP) (S:YS):Dd->Ka × YS
|.ask wt=>match bO q.n S.un with
 |some nm=>(.int nm,{ S with rs:=aC S.rs f' (S.rs f'++kQ q.p S.m (S.rs f') f' .asked nm wt),un:=S.un++[nm],qt:=aC S.qt f' f',hs:=S.hs++[mV "asked" (.int nm) (.int wt)] })
 |none=>(.none,S)
|.collect=>if aB q.p S.m (S.rs f') .answered .handed=0 then (.none,S) else match rdP S.m (S.rs f') j' (rdC S.m (S.rs f') .handed % q.p.s) with
 |some nw=>(.tuple [.int nw.1,.int nw.2],{ S with rs:=aC S.rs f' (S.rs f'++[cR q.p S.m (S.rs f') .handed]),un:=S.un.filter (λk=>decide (k≠nw.1)),hs:=S.hs++[mV "handed" (.int nw.1) (.int nw.2)] })
 |none=>(.tuple [.none,.none],{ S with rs:=aC S.rs f' (S.rs f'++[cR q.p S.m (S.rs f') .handed]),hs:=S.hs++[mV "handed" .none .none] })
|.take=>if aB q.p S.m (S.rs j') .asked .taken=0 then (.none,S) else match rdP S.m (S.rs j') f' (rdC S.m (S.rs j') .taken % q.p.s) with
 |some nw=>(.tuple [.int nw.1,.int nw.2],{ S with rs:=aC S.rs j' (S.rs j'++[cR q.p S.m (S.rs j') .taken]),tk:=lA S.tk nw.1,hs:=S.hs++[mV "taken" (.int nw.1) (.int nw.2)] })
 |none=>(.tuple [.none,.none],{ S with rs:=aC S.rs j' (S.rs j'++[cR q.p S.m (S.rs j') .taken]),hs:=S.hs++[mV "taken" .none .none] })
|.answer nm wt=>(.none,{ S with rs:=aC S.rs j' (S.rs j'++kQ q.p S.m (S.rs j') j' .answered nm wt),tk:=S.tk.filter (λk=>decide (k≠nm)),qt:=aC S.qt j' f',hs:=S.hs++[mV "answered" (.int nm) (.int wt)] })
|.bell b =>
  let S1:=if q.fb then S.fence b else S
  let S2:={ S1 with qt:=aC S1.qt b j' }
  if rdC S2.m (S2.rs b) (bE (!b))≠1 then (.bool f',S2) else if S2.bd (!b)=.asleep then (.bool j',({ S2 with bd:=aC S2.bd (!b) .up }:YS).wr (!b) (.c (bE (!b)) 0)) else (.bool j',S2)
|.lie b =>
  let S1:=S.wr b (.c (bE b) 1);let S2:=if q.fl then S1.fence b else S1
  (.none,{ S2 with bd:=aC S2.bd b .lies })
|.look b=>if q.fk=j'/\swT q S b=j' then (.bool j',{ (S.wr b (.c (bE b) 0)) with bd:=aC S.bd b .up }) else (.bool f',{ S with bd:=aC S.bd b .asleep })
|.drain b=>match S.rs b with
 |x :: rest=>(.none,{ S with m:=S.m.put x,rs:=aC S.rs b rest })
 |[]=>(.none,S)
structure YI (q:YP) (S:YS) (L:Nat):Prop where
 und:Nms q.n S.un
 tkd:Nms 9 S.tk
 len:∀ b,(S.rs b).length <= L
 hl:S.hs.length <= L
theorem YI.zero (q:YP):YI q YS.zero 0:=⟨Nms.nil _,Nms.nil _,λ_=>Kf _,Kf _⟩
def YI.mono {q:YP}{S:YS}{L L':Nat}(h:YI q S L) (hl:L <= L'):YI q S L':=⟨h.und,h.tkd,λb=>K6 (h.len b) hl,K6 h.hl hl⟩
def Rf.key:Rf->Str
|.deed=>"deed"
|.full=>"full"
|.name=>"name"
|.task=>"task"
def Rf.key_ne (r:Rf):r.key≠"none":=by cases r<;>decide +kernel
def Dd.out (q:YP) (S:YS) (x:Dd):Str × Ka × YS:=match x.chk q S with
|none=>("none",(x.run q S).1,(x.run q S).2)
|some r=>(r.key,.none,S)
def Dd.out_none {q:YP}{S:YS}{x:Dd}(h:x.chk q S=JZ):x.out q S=(("none":Str),(x.run q S).1,(x.run q S).2):=by unfold Dd.out;rw[h]
def Dd.out_some {q:YP}{S:YS}{x:Dd}{r:Rf}(h:x.chk q S=dk r):x.out q S=(r.key,.none,S):=by unfold Dd.out;rw[h]
def Dd.ftc:Dd->Prop
|.take=>True
|.collect=>True
|_=>False
def Dd.aft (ts:List Int) (x:Dd) (key:Str) (d:Ka):List Int:=if key="none" then (match x,d with
|.take,.tuple [.int a,.int _]=>lA ts a
|.answer nm _,_=>ts.erase nm
|_,_=>ts) else ts
def IK:Ka->Ka
|.tuple (a :: _)=>a
|d=>d
def IF:Ka->Ka
|.tuple (_ :: b :: _)=>b
|d=>d
def Dd.hap (x:Dd) (key:Str) (d:Ka):List Ka:=if key="none" then (match x with
|.ask wt=>[mV "asked" d (.int wt)]
|.answer nm wt=>[mV "answered" (.int nm) (.int wt)]
|.take=>(match d with|.none=>[]|_=>[mV "taken" (IK d) (IF d)])
|.collect=>(match d with|.none=>[]|_=>[mV "handed" (IK d) (IF d)])
|_=>[]) else []
def Dd.at0 (x:Dd):atI x.vs 0=dk (.str x.word):=by cases x<;>rfl
def vN {own:D'->Prop}{H H':Hp}(ko:KO own H H') (h:∀ c,own c->∀ vs,H c≠dk (.tup vs)):∀ b vs,H b=dk (.tup vs)->H' b=dk (.tup vs):=λb vs e=>ko b _ (λz=>h b z vs e) e
section
variable {w:Kk}{CY CH CT CR CS:D'}{H H':Hp}{a:YA}{q:YP}{S:YS}
def Yn.noT (Y:Yn w CY CH CT CR CS H a q S):∀ c,a.own c->∀ vs,H c≠dk (.tup vs):=λc hc vs e=>by
 obtain⟨o,e',n⟩:=Y.there hc;rw[e']at e;exact n vs (KH e)
def Yn.ko (Y:Yn w CY CH CT CR CS H a q S) {own:D'->Prop}(ko:KO own H H') (hd:∀ c,own c->¬ a.own c) (hn:∀ c,own c->∀ vs,H c≠dk (.tup vs)):Yn w CY CH CT CR CS H' a q S :=
 Y.keep (λc o hc e=>ko c o (λz=>hd c z hc) e) (vN ko hn)
def Yn.fresh (Y:Yn w CY CH CT CR CS H a q S) {c:D'}(h:H c=JZ):¬ a.own c:=λhc=>by
 obtain⟨o,e,_⟩:=Y.there hc;rw[e]at h;cases h
end
def FnOk.or {P:Kz}{w:Kk}{K:Kc}{mg:Str->Option JW}{base:KN}{CX:CXT}{k:Nat}{f:D'}{fd:Kj}{ps:List Str}{sp1 sp2:Sp}(F1:FnOk P w K mg base CX k f fd ps sp1) (F2:FnOk P w K mg base CX k f fd ps sp2):FnOk P w K mg base CX k f fd ps (λvs H Q E=>sp1 vs H Q E\/sp2 vs H Q E) :=
 ⟨λvs H Q E h=>h.elim (F1.len vs H Q E) (F2.len vs H Q E),λA outer s H args us vs Q E hr he hb hv hs=>hs.elim (F1.run A outer s H args us vs Q E hr he hb hv) (F2.run A outer s H args us vs Q E hr he hb hv)⟩
def Dd.lays:Dd->Option Bool
|.ask _=>dk f'
|.answer _ _=>dk j'
|_=>JZ
def inC (N:Int) (k:Cn) (i:Int):Prop:=k=.hs\/k=.ts\/(0 <= i/\i < N)
def Wr.In (N:Int):Wr->Prop
|.c k i=>inC N k i
|.p _ _ _ _=>True
structure Rng (N:Int) (m:Mem) (rs:Bool->List Wr):Prop where
 mm:∀ k,inC N k (m.c k)
 rr:∀ b,∀ x∈rs b,x.In N
theorem Rng.zero {N:Int}(h:0 < N):Rng N Mem.zero (λ_=>[]):=⟨λ_=>.inr (.inr ⟨Int.le_refl _,h⟩),λ_ _ hx=>absurd hx KL⟩
section
variable {N:Int}{m:Mem}{rs:Bool->List Wr}{b:Bool}{x:Wr}{rest:List Wr}
def Gz {row:List Wr}{k:Cn}(h1:∀ k,inC N k (m.c k)) (h2:∀ x∈row,x.In N):inC N k (rdC m row k):=by
 unfold rdC;cases h:row.reverse.findSome? (Wr.cnt k) with
|none=>exact h1 k
|some i =>
  obtain⟨y,hy,e⟩:=List.exists_of_findSome?_eq_some h;have:=Wr.cnt_some e;subst this;exact h2 _ (mem_reverse.mp hy)
def Rng.rd (h:Rng N m rs) (b:Bool) (k:Cn):inC N k (rdC m (rs b) k):=Gz h.mm (h.rr b)
def Rng.row (h:Rng N m rs) {row:List Wr}(hr:∀ x∈row,x.In N):Rng N m (aC rs b row):=⟨h.mm,λc x hx=>by
 by_cases e:c=b
 . subst e;rw[am]at hx;exact hr x hx
 . rw[aA e]at hx;exact h.rr c x hx⟩
def Rng.app (h:Rng N m rs) {xs:List Wr}(hx:∀ x∈xs,x.In N):Rng N m (aC rs b (rs b++xs)):=h.row λx hm=>by
 rcases KS.mp hm with y|y
 . exact h.rr b x y
 . exact hx x y
def Db (h:∀ k,inC N k (m.c k)) (hx:x.In N):∀ k,inC N k ((m.put x).c k):=λk=>by
 show inC N k ((x.cnt k).getD (m.c k));cases e:x.cnt k with
|none=>exact h k
|some i =>
  have:=Wr.cnt_some e;subst this;exact hx
def Rng.drain (h:Rng N m rs) (hb:rs b=x :: rest):Rng N (m.put x) (aC rs b rest):=by
 have h2:=h.rr b;rw[hb]at h2;have:=h.row (b:=b) (row:=rest) λy hy=>h2 y (Kl _ hy)
 exact⟨Db h.mm (h2 x Km),this.rr⟩
theorem tR:∀ {row:List Wr}{m:Mem},(∀ k,inC N k (m.c k))->(∀ x∈row,x.In N)->∀ k,inC N k ((m.putAllY row).c k)
|[],_,h,_=>h
|x :: row,m,h,hr=>tR (row:=row) (m:=m.put x) (Db h (hr x Km)) λy hy=>hr y (Kl _ hy)
def Rng.fence (h:Rng N m rs):Rng N (m.putAllY (rs b)) (aC rs b []):=⟨tR h.mm (h.rr b),(h.row (b:=b) (row:=[]) λ_ hx=>absurd hx KL).rr⟩
end
def nG {p:RP}(hp:p.Ok) {m:Mem}{row:List Wr}{a:Cn}:(cR p m row a).In (p.s * p.R):=.inr (.inr ⟨Mj _ (by have:=hp.sR;omega),Mc _ hp.sR⟩)
def CU {p:RP}(hp:p.Ok) {m:Mem}{row:List Wr}{g:Bool}{a:Cn}{nm wt:Int}:∀ x∈kQ p m row g a nm wt,x.In (p.s * p.R):=λx hx=>by
 unfold kQ at hx;split at hx
 . simp only[KA,KL,or_false]at hx;rcases hx with rfl|rfl
   . exact nG hp
   . exact trivial
 . simp only[KA,KL,or_false]at hx;rcases hx with rfl|rfl
   . exact trivial
   . exact nG hp
def YS.Rg (S:YS) (q:YP):Prop:=Rng (q.p.s * q.p.R) S.m S.rs
def oP {N:Int}{x:Wr}(h:x.In N):∀ y∈[x],y.In N:=λy hy=>by rw[JY.mp hy];exact h
def zY {N i:Int}{b:Bool}:(Wr.c (bE b) i).In N:=by cases b;exact .inl rfl;exact .inr (.inl rfl)
def Er {q:YP}{S:YS}(hq:q.Ok) (h:S.Rg q) (x:Dd):(x.out q S).2.2.Rg q:=by
 cases hc:x.chk q S with
|some r=>rw[Dd.out_some hc];exact h
|none =>
  rw[Dd.out_none hc];cases x with
 |ask wt =>
   show YS.Rg (match bO q.n S.un with|some nm=>_|none=>_:Ka × YS).2 q;cases bO q.n S.un with
  |none=>exact h
  |some nm=>exact Rng.app h (CU hq.ok)
 |answer nm wt=>exact Rng.app h (CU hq.ok)
 |take =>
   unfold Dd.run;by_cases h0:aB q.p S.m (S.rs j') .asked .taken=0
   . rw[Qq h0];exact h
   . rw[Qr h0];cases rdP S.m (S.rs j') f' (rdC S.m (S.rs j') .taken % q.p.s) with
    |none=>exact Rng.app h (oP (nG hq.ok))
    |some nw=>exact Rng.app h (oP (nG hq.ok))
 |collect =>
   unfold Dd.run;by_cases h0:aB q.p S.m (S.rs f') .answered .handed=0
   . rw[Qq h0];exact h
   . rw[Qr h0];cases rdP S.m (S.rs f') j' (rdC S.m (S.rs f') .handed % q.p.s) with
    |none=>exact Rng.app h (oP (nG hq.ok))
    |some nw=>exact Rng.app h (oP (nG hq.ok))
 |bell b =>
   have aux:∀ S2:YS,S2.Rg q->YS.Rg (if rdC S2.m (S2.rs b) (bE (!b))≠1 then (Ka.bool f',S2) else if S2.bd (!b)=.asleep then (.bool j',({ S2 with bd:=aC S2.bd (!b) .up }:YS).wr (!b) (.c (bE (!b)) 0)) else (.bool j',S2)).2 q:=λS2 h2=>by
    split
    . exact h2
    . split
      . exact Rng.app h2 (oP zY)
      . exact h2
   refine aux { (if q.fb then S.fence b else S) with qt:=aC (if q.fb then S.fence b else S).qt b j' } ?_;show YS.Rg (if q.fb then S.fence b else S) q;split
   . exact Rng.fence h
   . exact h
 |lie b =>
   show YS.Rg (if q.fl then (S.wr b (.c (bE b) 1)).fence b else S.wr b (.c (bE b) 1)) q;have h2:(S.wr b (.c (bE b) 1)).Rg q:=Rng.app h (oP zY);split
   . exact Rng.fence h2
   . exact h2
 |look b =>
   show YS.Rg (if _ then _ else _:Ka × YS).2 q;split
   . exact Rng.app h (oP zY)
   . exact h
 |drain b =>
   show YS.Rg (match S.rs b with|x :: rest=>_|[]=>_:Ka × YS).2 q;cases hb:S.rs b with
  |nil=>exact h
  |cons x rest=>exact Rng.drain h hb
def D5 {a b N:Int}(ha:0 <= a/\a < N) (hb:0 <= b/\b < N):(a - b) % N=0 ↔ a=b:=by
 constructor
 . intro h;obtain⟨c,hc⟩:=Int.dvd_of_emod_eq_zero h;have h0:c=0:=by
    by_cases h1:c <= -1
    . have:N * c <= N * (-1):=Int.mul_le_mul_of_nonneg_left h1 (by omega);omega
    . by_cases h2:1 <= c
      . have:N * 1 <= N * c:=Int.mul_le_mul_of_nonneg_left h2 (by omega);omega
      . omega
   rw[h0,Int.mul_zero]at hc;omega
 . intro h;subst h;rw[Int.sub_self,Int.zero_emod]
def lkA:Bool->Cn
|false=>.answered
|true=>.asked
def lkB:Bool->Cn
|false=>.handed
|true=>.taken
def I8 {q:YP}{S:YS}(h:S.Rg q) (b:Bool):swT q S b=decide (rdC S.m (S.rs b) (lkA b)≠rdC S.m (S.rs b) (lkB b)):=by
 have g:∀ k,k≠.hs->k≠.ts->0 <= rdC S.m (S.rs b) k/\rdC S.m (S.rs b) k < q.p.s * q.p.R:=λk h1 h2=>by
  rcases Rng.rd h b k with z|z|z
  . exact absurd z h1
  . exact absurd z h2
  . exact z
 cases b with
|false =>
  show decide (aB q.p S.m (S.rs f') .answered .handed≠0)=_;exact decide_eq_decide.mpr (not_congr (D5 (g .answered (λz=>by cases z) λz=>by cases z) (g .handed (λz=>by cases z) λz=>by cases z)))
|true =>
  show decide (aB q.p S.m (S.rs j') .asked .taken≠0)=_;exact decide_eq_decide.mpr (not_congr (D5 (g .asked (λz=>by cases z) λz=>by cases z) (g .taken (λz=>by cases z) λz=>by cases z)))
def YS.wh (S:YS) (h:List Ka):YS:={ S with hs:=h }
def EqS (S T:YS):Prop:=∃ h,T=S.wh h
def pj {q:YP}{S:YS}{b:Bool}{x:Wr}{rest:List Wr}(h:S.rs b=x :: rest):(Dd.drain b).chk q S=JZ/\(Dd.drain b).run q S=(.none,{ S with m:=S.m.put x,rs:=aC S.rs b rest }):=by
 refine⟨Qr (by rw[h];exact λy=>by cases y),?_⟩;show (match S.rs b with|x :: rest=>_|[]=>_)=_;rw[h]
def noS (b:Bool) (x:Wr):Prop:=∀ i,x≠.c (bE (!b)) i
def pZ (rs:Bool->List Wr):Prop:=∀ b,∀ x∈rs b,noS b x
def pZ.zero:pZ (λ_=>[]):=λ_ _ h=>absurd h KL
section
variable {rs:Bool->List Wr}{b:Bool}
def pZ.row (h:pZ rs) {row:List Wr}(hr:∀ x∈row,noS b x):pZ (aC rs b row):=λc x hx=>by
 by_cases e:c=b
 . subst e;rw[am]at hx;exact hr x hx
 . rw[aA e]at hx;exact h c x hx
def pZ.app (h:pZ rs) {xs:List Wr}(hx:∀ x∈xs,noS b x):pZ (aC rs b (rs b++xs)):=h.row λx hm=>by
 rcases KS.mp hm with y|y
 . exact h b x y
 . exact hx x y
end
def qJ {b:Bool}{k:Cn}{i:Int}(h:k≠bE (!b)):noS b (.c k i):=λj e=>by cases e;exact h rfl
def FN {b g:Bool}{i nm wt:Int}:noS b (.p g i nm wt):=λj e=>by cases e
def jP {b:Bool}{x:Wr}(h:noS b x):∀ y∈[x],noS b y:=λy hy=>by rw[JY.mp hy];exact h
def u8 (b:Bool):bE b≠bE (!b):=by cases b<;>exact λh=>by cases h
def AF {p:RP}{m:Mem}{row:List Wr}{b g:Bool}{a:Cn}{nm wt:Int}(ha:a≠bE (!b)):∀ x∈kQ p m row g a nm wt,noS b x:=λx hx=>by
 unfold kQ at hx;split at hx
 . simp only[KA,KL,or_false]at hx;rcases hx with rfl|rfl
   . exact qJ ha
   . exact FN
 . simp only[KA,KL,or_false]at hx;rcases hx with rfl|rfl
   . exact FN
   . exact qJ ha
def DD {q:YP}{S:YS}(h:pZ S.rs) (x:Dd):pZ (x.out q S).2.2.rs:=by
 cases hc:x.chk q S with
|some r=>rw[Dd.out_some hc];exact h
|none =>
  rw[Dd.out_none hc];cases x with
 |ask wt =>
   show pZ (match bO q.n S.un with|some nm=>_|none=>_:Ka × YS).2.rs;cases bO q.n S.un with
  |none=>exact h
  |some nm=>exact h.app (AF λe=>by cases e)
 |answer nm wt=>exact h.app (AF λe=>by cases e)
 |take =>
   unfold Dd.run;by_cases h0:aB q.p S.m (S.rs j') .asked .taken=0
   . rw[Qq h0];exact h
   . rw[Qr h0];cases rdP S.m (S.rs j') f' (rdC S.m (S.rs j') .taken % q.p.s) with
    |none=>exact h.app (jP (qJ λe=>by cases e))
    |some nw=>exact h.app (jP (qJ λe=>by cases e))
 |collect =>
   unfold Dd.run;by_cases h0:aB q.p S.m (S.rs f') .answered .handed=0
   . rw[Qq h0];exact h
   . rw[Qr h0];cases rdP S.m (S.rs f') j' (rdC S.m (S.rs f') .handed % q.p.s) with
    |none=>exact h.app (jP (qJ λe=>by cases e))
    |some nw=>exact h.app (jP (qJ λe=>by cases e))
 |bell b =>
   have aux:∀ S2:YS,pZ S2.rs->pZ (if rdC S2.m (S2.rs b) (bE (!b))≠1 then (Ka.bool f',S2) else if S2.bd (!b)=.asleep then (.bool j',({ S2 with bd:=aC S2.bd (!b) .up }:YS).wr (!b) (.c (bE (!b)) 0)) else (.bool j',S2)).2.rs:=λS2 h2=>by
    split
    . exact h2
    . split
      . exact pZ.app h2 (jP (qJ (u8 _)))
      . exact h2
   refine aux { (if q.fb then S.fence b else S) with qt:=aC (if q.fb then S.fence b else S).qt b j' } ?_;show pZ (if q.fb then S.fence b else S).rs;split
   . exact h.row λ_ hx=>absurd hx KL
   . exact h
 |lie b =>
   show pZ (if q.fl then (S.wr b (.c (bE b) 1)).fence b else S.wr b (.c (bE b) 1)).rs;have h2:pZ (S.wr b (.c (bE b) 1)).rs:=h.app (jP (qJ (u8 b)));split
   . exact h2.row λ_ hx=>absurd hx KL
   . exact h2
 |look b =>
   show pZ (if _ then _ else _:Ka × YS).2.rs;split
   . exact h.app (jP (qJ (u8 b)))
   . exact h
 |drain b =>
   show pZ (match S.rs b with|x :: rest=>_|[]=>_:Ka × YS).2.rs;cases hb:S.rs b with
  |nil=>exact h
  |cons x rest=>exact h.row λy hy=>h b y (by rw[hb];exact Kl _ hy)
theorem kq {k:Cn}:∀ {row:List Wr}{m:Mem},(∀ x∈row,∀ i,x≠.c k i)->(m.putAllY row).c k=m.c k
|[],_,_=>rfl
|x :: row,m,h=>by
  have e:(m.put x).c k=m.c k:=by
   show (x.cnt k).getD (m.c k)=_;cases hx:x.cnt k with
  |none=>rfl
  |some i=>exact absurd (Wr.cnt_some hx) (h x Km i)
  exact(kq (row:=row) (m:=m.put x) λy hy=>h y (Kl _ hy)).trans e
def vC {k:Cn}{i:Int}{row:List Wr}{m:Mem}:(m.putAllY (row++[.c k i])).c k=i:=by
 unfold Mem.putAllY;rw[List.foldl_append];show (((Wr.c k i).cnt k).getD _)=i;unfold Wr.cnt;dsimp only;rw[Qq rfl];rfl
def Fp (b:Bool):(!b)≠b:=by cases b<;>decide
structure Ord where
 lt:Nat->Nat->Bool
 n:Nat
 tr:∀ a b c,lt a b=j'->lt b c=j'->lt a c=j'
 tot:∀ a b,a < n->b < n->a≠b->lt a b=f'->lt b a=j'
section
variable {O:Ord}
end
section
variable {prog:Kz}{w:Kk}{A:KY}{E:JW->Kb->Prop}{s:Kb}
end
section
variable {X:Cx}
end
def Dd.nam (un:List Int) (x:Dd) (key:Str) (d:Ka):List Int:=if key="none" then (match x,d with
|.ask _,.int a=>un++[a]
|.collect,.tuple [.int a,.int _]=>un.erase a
|_,_=>un) else un
def tS {xs:List Int}(h:xs.Nodup) (a:Int):xs.erase a=xs.filter λk=>decide (k≠a):=by
 induction xs with
|nil=>rfl
|cons x xs ih =>
  rw[LK]at h;rw[List.erase_cons,K4];by_cases e:x=a
  . rw[Qq (by rw[e];exact beq_self_eq_true _),Qr (by rw[Qs];exact λz=>z e)];refine(List.filter_eq_self.mpr λy hy=>?_).symm;rw[Qs];exact λz=>h.1 (by rw[<-z]at e;rw[e];exact hy)
  . rw[Qr (by rw[beq_iff_eq];exact e),Qq (Qt e),ih h.2]
def G2 {q:YP}{S:YS}{n:Int}(hn:Nms n S.tk) (x:Dd):(x.out q S).2.2.tk=x.aft S.tk (x.out q S).1 (x.out q S).2.1:=by
 cases hc:x.chk q S with
|some r=>rw[Dd.out_some hc];unfold Dd.aft;rw[Qr r.key_ne]
|none =>
  rw[Dd.out_none hc];unfold Dd.aft;rw[Qq rfl];cases x with
 |ask wt =>
   show (match bO q.n S.un with|some nm=>_|none=>_:Ka × YS).2.tk=_;cases hl:bO q.n S.un<;>rfl
 |answer nm wt=>exact(tS hn.1 nm).symm
 |take =>
   unfold Dd.run;by_cases h:aB q.p S.m (S.rs j') .asked .taken=0
   . rw[Qq h]
   . rw[Qr h];cases rdP S.m (S.rs j') f' (rdC S.m (S.rs j') .taken % q.p.s)<;>rfl
 |collect =>
   unfold Dd.run;by_cases h:aB q.p S.m (S.rs f') .answered .handed=0
   . rw[Qq h]
   . rw[Qr h];cases rdP S.m (S.rs f') j' (rdC S.m (S.rs f') .handed % q.p.s)<;>rfl
 |drain b =>
   show (match S.rs b with|x :: rest=>_|[]=>_:Ka × YS).2.tk=_;cases S.rs b<;>rfl
 |look b =>
   show (if _ then _ else _:Ka × YS).2.tk=_;split<;>rfl
 |lie b =>
   show (if q.fl then (S.wr b (.c (bE b) 1)).fence b else S.wr b (.c (bE b) 1)).tk=S.tk;split<;>rfl
 |bell b =>
   have aux:∀ S2:YS,(if rdC S2.m (S2.rs b) (bE (!b))≠1 then (Ka.bool f',S2) else if S2.bd (!b)=.asleep then (.bool j',({ S2 with bd:=aC S2.bd (!b) .up }:YS).wr (!b) (.c (bE (!b)) 0)) else (.bool j',S2)).2.tk=S2.tk:=λS2=>by
    split
    . rfl
    . split<;>rfl
   refine(aux { (if q.fb then S.fence b else S) with qt:=aC (if q.fb then S.fence b else S).qt b j' }).trans ?_;show (if q.fb then S.fence b else S).tk=S.tk;split<;>rfl
section
variable {K:Kc}
end
def Wr.slp:Wr->Bool
|.c .hs _=>j'
|.c .ts _=>j'
|_=>f'
def bR (row:List Wr):List Wr:=row.filter λx=>!x.slp
def Mem.ns (m:Mem):Mem:=⟨λk=>match k with|.hs=>0|.ts=>0|.asked=>m.c .asked|.taken=>m.c .taken|.answered=>m.c .answered|.handed=>m.c .handed,m.p⟩
def Cn.wk:Cn->Bool
|.hs=>f'
|.ts=>f'
|_=>j'
def Gb {m:Mem}{k:Cn}(h:k.wk=j'):m.ns.c k=m.c k:=by cases k<;>first|rfl|cases h
def vS {x:Wr}{k:Cn}(h:k.wk=j') (hx:x.slp=j'):x.cnt k=JZ:=by
 cases x with
|p=>rfl
|c k' i =>
  have:k'≠k:=λe=>by subst e;cases k'<;>cases h<;>cases hx
  exact Qr this
def DB {x:Wr}{g:Bool}{i:Int}(hx:x.slp=j'):x.plc g i=JZ:=by
 cases x with
|p=>cases hx
|c k' i=>rfl
def jv (xs ys:List Wr):bR (xs++ys)=bR xs++bR ys:=Lb ..
def qO {β:Type}(f:Wr->Option β) (h:∀ x,x.slp=j'->f x=JZ) (row:List Wr):(bR row).reverse.findSome? f=row.reverse.findSome? f:=by
 unfold bR;rw[<-List.filter_reverse];generalize row.reverse=r
 induction r with
|nil=>rfl
|cons x r ih =>
  rw[K4];cases hx:x.slp with
 |true =>
   rw[Qr (by decide),ih,LW,h x hx]
 |false =>
   rw[Qq (by decide),LW,LW,ih]
def fJ {m:Mem}{row:List Wr}{k:Cn}(h:k.wk=j'):rdC m.ns (bR row) k=rdC m row k:=by
 unfold rdC;rw[qO (Wr.cnt k) (λx hx=>vS h hx),Gb h]
def mn {m:Mem}{row:List Wr}{g:Bool}{i:Int}:rdP m.ns (bR row) g i=rdP m row g i:=by
 unfold rdP;rw[qO (Wr.plc g i) (λx hx=>DB hx)];rfl
def eW {p:RP}{m:Mem}{row:List Wr}{a b:Cn}(ha:a.wk=j') (hb:b.wk=j'):aB p m.ns (bR row) a b=aB p m row a b:=by
 unfold aB;rw[fJ ha,fJ hb]
def mR {p:RP}{m:Mem}{row:List Wr}{a:Cn}(ha:a.wk=j'):cR p m.ns (bR row) a=cR p m row a:=by
 unfold cR;rw[fJ ha]
def uv {p:RP}{m:Mem}{row:List Wr}{g:Bool}{a:Cn}{nm wt:Int}(ha:a.wk=j'):kQ p m.ns (bR row) g a nm wt=kQ p m row g a nm wt:=by
 unfold kQ;rw[fJ ha,mR ha]
def rW {p:RP}{m:Mem}{row:List Wr}{a:Cn}(ha:a.wk=j'):(cR p m row a).slp=f':=by
 cases a<;>first|rfl|cases ha
def zV {p:RP}{m:Mem}{row:List Wr}{g:Bool}{a:Cn}{nm wt:Int}(ha:a.wk=j'):bR (kQ p m row g a nm wt)=kQ p m row g a nm wt:=by
 unfold bR kQ;have h:=rW (p:=p) (m:=m) (row:=row) ha;split<;>(refine List.filter_eq_self.mpr λx hx=>?_;simp only[KA,KL,or_false]at hx;rcases hx with rfl|rfl<;>first|(rw[h];rfl)|rfl)
def DU {m:Mem}{x:Wr}(h:x.slp=j'):(m.put x).ns=m.ns:=by
 cases x with
|p=>cases h
|c k i =>
  unfold Mem.put Mem.ns;congr 1;funext j;cases j<;>first|rfl|(show ((Wr.c k i).cnt _).getD _=_;rw[vS rfl h];rfl)
def GT {m:Mem}{x:Wr}(h:x.slp=f'):(m.put x).ns=m.ns.put x:=by
 unfold Mem.put Mem.ns;congr 1;funext j;cases j<;>first|rfl|(cases x with|p=>rfl|c k i=>cases k<;>first|rfl|cases h)
def xh {k:Cn}{row:List Wr}(h:k.wk=j'):nC k (bR row)=nC k row:=by
 unfold nC bR;rw[List.filter_filter];congr 1;refine filter_congr λx _=>?_
 cases hx:x.slp with
|true =>
  have:isC k x=f':=by unfold isC;rw[vS h hx];rfl
  rw[this];rfl
|false=>cases isC k x<;>rfl
def ki {x:Wr}{row:List Wr}:bR (x :: row)=if x.slp then bR row else x :: bR row:=by
 unfold bR;rw[K4];cases x.slp<;>rfl
def fF {rs:Bool->List Wr}{b:Bool}{row:List Wr}:(λc=>bR (aC rs b row c))=aC (λc=>bR (rs c)) b (bR row):=by
 funext c;by_cases h:c=b
 . subst h;rw[am,am]
 . rw[aA h,aA h]
def M30 (s R:Int) (n:Nat) (S:YS) (A B:List (Int × Int)) (T Hd:Nat):Prop:=M8 s R n S.m.ns (λb=>bR (S.rs b)) S.un S.tk A B T Hd
section
variable {s R:Int}{n:Nat}{S:YS}{A B:List (Int × Int)}{T Hd:Nat}
theorem M30.drain (M:M30 s R n S A B T Hd) {b:Bool}{x:Wr}{rest:List Wr}(e:S.rs b=x :: rest):M30 s R n { S with m:=S.m.put x,rs:=aC S.rs b rest } A B T Hd:=by
 unfold M30 at M |-;show M8 s R n (S.m.put x).ns (λc=>bR (aC S.rs b rest c)) S.un S.tk A B T Hd;rw[fF];have hb:(λc=>bR (S.rs c)) b=if x.slp then bR rest else x :: bR rest:=by
  show bR (S.rs b)=_;rw[e,ki]
 cases hx:x.slp with
|true =>
  rw[DU hx];rw[hx,Qq rfl]at hb;rw[<-hb,vA];exact M
|false =>
  rw[GT hx];rw[hx,Qr (by decide)]at hb;exact M.drain b hb
theorem M30.fence (b:Bool):∀ (row:List Wr) {S:YS},M30 s R n S A B T Hd->S.rs b=row->M30 s R n { S with m:=S.m.putAllY row,rs:=aC S.rs b [] } A B T Hd
|[],S,M,e=>by
  show M30 s R n { S with m:=S.m,rs:=aC S.rs b [] } A B T Hd;rw[<-e,vA];exact M
|x :: row,S,M,e=>by
  have M1:=M.drain e;have:=M30.fence b row M1 (am);have h2:aC (aC S.rs b row) b []=aC S.rs b []:=by
   funext c;by_cases h:c=b
   . subst h;rw[am,am]
   . rw[aA h,aA h,aA h]
  show M30 s R n { S with m:=(S.m.put x).putAllY row,rs:=aC S.rs b [] } A B T Hd;rw[<-h2];exact this
def M30.slept (M:M30 s R n S A B T Hd) {b:Bool}{x:Wr}(h:x.slp=j'):M30 s R n (S.wr b x) A B T Hd:=by
 unfold M30 at M |-;show M8 s R n S.m.ns (λc=>bR (aC S.rs b (S.rs b++[x]) c)) S.un S.tk A B T Hd;rw[fF,jv];have:bR [x]=[]:=by rw[ki,h];rfl
 rw[this,KC];have h2:=vA (λc=>bR (S.rs c)) b;rw[show aC (λc=>bR (S.rs c)) b (bR (S.rs b))=_ from h2];exact M
def sS (b:Bool) (i:Int):(Wr.c (bE b) i).slp=j':=by cases b<;>rfl
end
abbrev Ev:=Cn × Int × Int
def evD (e:Ev):Ka:=mV e.1.key (.int e.2.1) (.int e.2.2)
def th (k:Cn) (es:List Ev):List (Int × Int):=(es.filter λe=>decide (e.1=k)).map (·.2)
def b7 (k:Cn) (es fs:List Ev):th k (es++fs)=th k es++th k fs:=by unfold th;rw[Lb,K8]
def fK (k:Cn) (a b:Int):th k [(k,a,b)]=[(a,b)]:=by unfold th;rw[K4,Qq (Qt rfl)];rfl
def dE {k j:Cn}(h:k≠j) (a b:Int):th j [(k,a,b)]=[]:=by unfold th;rw[K4,Qr (by rw[Qs];exact h)];rfl
def yp0 (s R:Int) (n:Nat):YP:=⟨⟨s,R,f'⟩,n,j',j',j'⟩
structure Q30 (s R:Int) (n:Nat) (S:YS) (es:List Ev):Prop where
 m:M30 s R n S (th .asked es) (th .answered es) (th .taken es).length (th .handed es).length
 tk:th .taken es=(th .asked es).take (th .taken es).length
 hd:th .handed es=(th .answered es).take (th .handed es).length
 hs:S.hs=es.map evD
section
variable {s R:Int}{n:Nat}{S:YS}{es:List Ev}
theorem Q30.zero (hs:0 < s) (hs8:s <= 8) (hR:2 <= R) (n9:n <= 9):Q30 s R n YS.zero []:=by
 refine⟨?_,rfl,rfl,rfl⟩;have:=M8.zero (n:=n) hs hs8 hR n9;have e:Mem.zero.ns=Mem.zero:=by
  unfold Mem.ns Mem.zero;congr 1;funext k;cases k<;>rfl
 show M8 s R n Mem.zero.ns (λ_=>[]) [] [] [] [] 0 0;rw[e];exact this
def Q30.quiet {S':YS}(Q:Q30 s R n S es) (h:∀ {A B T Hd},M30 s R n S A B T Hd->M30 s R n S' A B T Hd) (hh:S'.hs=S.hs):Q30 s R n S' es:=⟨h Q.m,Q.tk,Q.hd,hh.trans Q.hs⟩
theorem Q30.ask (Q:Q30 s R n S es) {wt nm:Int}(h:aB ⟨s,R,f'⟩ S.m (S.rs f') .asked .taken≠s) (hl:bO n S.un=dk nm):Q30 s R n ((Dd.ask wt).run (yp0 s R n) S).2 (es++[(.asked,nm,wt)]):=by
 have hr:(Dd.ask wt).run (yp0 s R n) S=(.int nm,{ S with rs:=aC S.rs f' (S.rs f'++kQ ⟨s,R,f'⟩ S.m (S.rs f') f' .asked nm wt),un:=S.un++[nm],qt:=aC S.qt f' f',hs:=S.hs++[mV "asked" (.int nm) (.int wt)] }):=by
  show (match bO n S.un with|some nm=>_|none=>_:Ka × YS)=_;rw[hl];rfl
 rw[hr];have M:=Q.m;unfold M30 at M;have M1:=M8.ask M (by rw[eW rfl rfl];exact h) hl wt;refine⟨?_,?_,?_,?_⟩
 . rw[b7,b7,b7,b7,fK,dE (by decide),dE (by decide),dE (by decide),KC,KC,KC];unfold M30;show M8 s R n S.m.ns (λc=>bR (aC S.rs f' (S.rs f'++kQ ⟨s,R,f'⟩ S.m (S.rs f') f' .asked nm wt) c)) (S.un++[nm]) S.tk _ _ _ _;rw[fF,jv,zV rfl];have e:=uv (p:=⟨s,R,f'⟩) (m:=S.m) (row:=S.rs f') (g:=f') (a:=.asked) (nm:=nm) (wt:=wt) rfl;rw[<-e];exact M1
 . rw[b7,b7,fK,dE (by decide),KC];have h1:=Q.tk;have h2:(th .taken es).length <= (th .asked es).length:=by
    have:=congrArg LN h1;rw[Lu]at this;omega
   rw[Ko h2];exact h1
 . rw[b7,b7,dE (by decide),dE (by decide),KC,KC];exact Q.hd
 . show S.hs++[mV "asked" (.int nm) (.int wt)]=_;rw[Q.hs,K8];rfl
theorem Q30.answer (Q:Q30 s R n S es) {wt nm:Int}(hm:S.tk.contains nm≠f') (h:aB ⟨s,R,f'⟩ S.m (S.rs j') .answered .handed≠s):Q30 s R n ((Dd.answer nm wt).run (yp0 s R n) S).2 (es++[(.answered,nm,wt)]):=by
 have M:=Q.m;unfold M30 at M;have hm':nm∈S.tk:=contains_iff_mem.mp (by cases hh:S.tk.contains nm with|true=>rfl|false=>exact absurd hh hm);have M1:=M8.answer M hm' (by rw[eW rfl rfl];exact h) wt;refine⟨?_,?_,?_,?_⟩
 . rw[b7,b7,b7,b7,fK,dE (by decide),dE (by decide),dE (by decide),KC,KC,KC];unfold M30;show M8 s R n S.m.ns (λc=>bR (aC S.rs j' (S.rs j'++kQ ⟨s,R,f'⟩ S.m (S.rs j') j' .answered nm wt) c)) S.un (S.tk.filter (λk=>decide (k≠nm))) _ _ _ _;rw[fF,jv,zV rfl,<-M.tkd.erase_eq];have e:=uv (p:=⟨s,R,f'⟩) (m:=S.m) (row:=S.rs j') (g:=j') (a:=.answered) (nm:=nm) (wt:=wt) rfl;rw[<-e];exact M1
 . rw[b7,b7,dE (by decide),dE (by decide),KC,KC];exact Q.tk
 . rw[b7,b7,fK,dE (by decide),KC];have h1:=Q.hd;have h2:(th .handed es).length <= (th .answered es).length:=by
    have:=congrArg LN h1;rw[Lu]at this;omega
   rw[Ko h2];exact h1
 . show S.hs++[mV "answered" (.int nm) (.int wt)]=_;rw[Q.hs,K8];rfl
theorem Q30.take (Q:Q30 s R n S es) (h:aB ⟨s,R,f'⟩ S.m (S.rs j') .asked .taken≠0):∃ nw:Int × Int,(th .asked es)[(th .taken es).length]?=dk nw/\(Dd.take.run (yp0 s R n) S).1=.tuple [.int nw.1,.int nw.2]/\Q30 s R n (Dd.take.run (yp0 s R n) S).2 (es++[(.taken,nw.1,nw.2)]):=by
 have M:=Q.m;unfold M30 at M;obtain⟨nw,h1,h2,h3,h4,h5,M1⟩:=M8.takeR M (by rw[eW rfl rfl];exact h);rw[fJ rfl,mn]at h2;have hr:Dd.take.run (yp0 s R n) S=(.tuple [.int nw.1,.int nw.2],{ S with rs:=aC S.rs j' (S.rs j'++[cR ⟨s,R,f'⟩ S.m (S.rs j') .taken]),tk:=lA S.tk nw.1,hs:=S.hs++[mV "taken" (.int nw.1) (.int nw.2)] }):=by
  show (if aB ⟨s,R,f'⟩ S.m (S.rs j') .asked .taken=0 then _ else match rdP S.m (S.rs j') f' (rdC S.m (S.rs j') .taken % s) with|some nw=>_|none=>_:Ka × YS)=_;rw[Qr h,h2];rfl
 rw[hr];refine⟨nw,h1,rfl,?_,?_,?_,?_⟩
 . rw[b7,b7,b7,b7,fK,dE (by decide),dE (by decide),dE (by decide),KC,KC,KC,JX];unfold M30;show M8 s R n S.m.ns (λc=>bR (aC S.rs j' (S.rs j'++[cR ⟨s,R,f'⟩ S.m (S.rs j') .taken]) c)) S.un (lA S.tk nw.1) _ _ (_+1) _;have g:lA S.tk nw.1=S.tk++[nw.1]:=by unfold lA;rw[h4];rfl
   have e:=mR (p:=⟨s,R,f'⟩) (m:=S.m) (row:=S.rs j') (a:=.taken) rfl;rw[fF,jv,g,ki,rW rfl,Qr (by decide),<-e];exact M1
 . rw[b7,b7,fK,dE (by decide),KC,JX];show _=List.take (_+1) _;rw[take_add_one,h1,<-Q.tk];rfl
 . rw[b7,b7,dE (by decide),dE (by decide),KC,KC];exact Q.hd
 . show S.hs++[mV "taken" (.int nw.1) (.int nw.2)]=_;rw[Q.hs,K8];rfl
theorem Q30.collect (Q:Q30 s R n S es) (h:aB ⟨s,R,f'⟩ S.m (S.rs f') .answered .handed≠0):∃ nw:Int × Int,(th .answered es)[(th .handed es).length]?=dk nw/\(Dd.collect.run (yp0 s R n) S).1=.tuple [.int nw.1,.int nw.2]/\Q30 s R n (Dd.collect.run (yp0 s R n) S).2 (es++[(.handed,nw.1,nw.2)]):=by
 have M:=Q.m;unfold M30 at M;obtain⟨nw,h1,h2,h3,h4,M1⟩:=M8.collectR M (by rw[eW rfl rfl];exact h);rw[fJ rfl,mn]at h2;have hr:Dd.collect.run (yp0 s R n) S=(.tuple [.int nw.1,.int nw.2],{ S with rs:=aC S.rs f' (S.rs f'++[cR ⟨s,R,f'⟩ S.m (S.rs f') .handed]),un:=S.un.filter (λk=>decide (k≠nw.1)),hs:=S.hs++[mV "handed" (.int nw.1) (.int nw.2)] }):=by
  show (if aB ⟨s,R,f'⟩ S.m (S.rs f') .answered .handed=0 then _ else match rdP S.m (S.rs f') j' (rdC S.m (S.rs f') .handed % s) with|some nw=>_|none=>_:Ka × YS)=_;rw[Qr h,h2];rfl
 rw[hr];refine⟨nw,h1,rfl,?_,?_,?_,?_⟩
 . rw[b7,b7,b7,b7,fK,dE (by decide),dE (by decide),dE (by decide),KC,KC,KC,JX];unfold M30;show M8 s R n S.m.ns (λc=>bR (aC S.rs f' (S.rs f'++[cR ⟨s,R,f'⟩ S.m (S.rs f') .handed]) c)) (S.un.filter (λk=>decide (k≠nw.1))) S.tk _ _ _ (_+1);have e:=mR (p:=⟨s,R,f'⟩) (m:=S.m) (row:=S.rs f') (a:=.handed) rfl;rw[fF,jv,<-M.und.erase_eq,ki,rW rfl,Qr (by decide),<-e];exact M1
 . rw[b7,b7,dE (by decide),dE (by decide),KC,KC];exact Q.tk
 . rw[b7,b7,fK,dE (by decide),KC,JX];show _=List.take (_+1) _;rw[take_add_one,h1,<-Q.hd];rfl
 . show S.hs++[mV "handed" (.int nw.1) (.int nw.2)]=_;rw[Q.hs,K8];rfl
def Q30.rest (Q:Q30 s R n S es) {x:Dd}(h:match x with|.bell _=>True|.lie _=>True|.look _=>True|.drain _=>True|_=>False):Q30 s R n (x.run (yp0 s R n) S).2 es:=by
 cases x with
|ask=>exact h.elim
|collect=>exact h.elim
|take=>exact h.elim
|answer=>exact h.elim
|drain b =>
  cases e:S.rs b with
 |nil =>
   have:(Dd.drain b).run (yp0 s R n) S=(.none,S):=by
    show (match S.rs b with|x :: rest=>_|[]=>_:Ka × YS)=_;rw[e]
   rw[this];exact Q
 |cons x rest =>
   rw[(pj (q:=yp0 s R n) e).2];exact Q.quiet (λM=>M.drain e) rfl
|look b =>
  by_cases hh:(yp0 s R n).fk=j'/\swT (yp0 s R n) S b=j'
  . rw[show (Dd.look b).run (yp0 s R n) S=_ from Qq hh];exact Q.quiet (λM=>M.slept (b:=b) (sS b 0)) rfl
  . rw[show (Dd.look b).run (yp0 s R n) S=_ from Qr hh];exact Q.quiet (λM=>M) rfl
|lie b=>exact Q.quiet (λM=>M30.fence b _ (M.slept (b:=b) (sS b 1)) rfl) rfl
|bell b =>
  have Q1:Q30 s R n (S.fence b) es:=Q.quiet (λM=>M30.fence b _ M rfl) rfl;show Q30 s R n (if rdC (S.fence b).m ((S.fence b).rs b) (bE (!b))≠1 then _ else if (S.fence b).bd (!b)=.asleep then _ else _:Ka × YS).2 es;split
  . exact Q1.quiet (λM=>M) rfl
  . split
    . exact Q1.quiet (λM=>M30.slept (S:={ S.fence b with qt:=aC (S.fence b).qt b j',bd:=aC (S.fence b).bd (!b) .up }) M (b:=!b) (sS (!b) 0)) rfl
    . exact Q1.quiet (λM=>M) rfl
end
def zu {m:Mem}{W:List Wr}{d:Nat}{g:Bool}{i:Int}(h:m.p g i=rdP Mem.zero (W.take d) g i):rdP m (W.drop d) g i=rdP Mem.zero W g i:=by
 have e:=Ep Mem.zero (W.take d) (W.drop d) g i;rw[take_append_drop]at e;rw[e,<-h];rfl
structure Cts (s R:Int) (S:YS) (A B:List (Int × Int)) (T Hd:Nat):Prop where
 ra:rdC S.m (S.rs f') .asked=(A.length:Int) % (s * R)
 rt:rdC S.m (S.rs j') .taken=(T:Int) % (s * R)
 rb:rdC S.m (S.rs j') .answered=(B.length:Int) % (s * R)
 rh:rdC S.m (S.rs f') .handed=(Hd:Int) % (s * R)
 ma:S.m.c .asked=((A.length:Int) - (nC .asked (S.rs f'):Nat)) % (s * R)
 mt:S.m.c .taken=((T:Int) - (nC .taken (S.rs j'):Nat)) % (s * R)
 mb:S.m.c .answered=((B.length:Int) - (nC .answered (S.rs j'):Nat)) % (s * R)
 mh:S.m.c .handed=((Hd:Int) - (nC .handed (S.rs f'):Nat)) % (s * R)
 la:(A.length:Int) - T <= s
 lb:(B.length:Int) - Hd <= s
 ta:(T:Int) <= (A.length:Int) - (nC .asked (S.rs f'):Nat)
 hb:(Hd:Int) <= (B.length:Int) - (nC .answered (S.rs j'):Nat)
 pa:∀ k:Nat,T <= k->k < A.length->rdP S.m (S.rs f') f' ((k:Int) % s)=A[k]?
 pb:∀ k:Nat,Hd <= k->k < B.length->rdP S.m (S.rs j') j' ((k:Int) % s)=B[k]?
 ca:aB ⟨s,R,f'⟩ S.m (S.rs f') .asked .taken=s ↔ (A.length:Int) - ((T:Int) - (nC .taken (S.rs j'):Nat))=s
 cb:aB ⟨s,R,f'⟩ S.m (S.rs j') .answered .handed=s ↔ (B.length:Int) - ((Hd:Int) - (nC .handed (S.rs f'):Nat))=s
 na:aB ⟨s,R,f'⟩ S.m (S.rs j') .asked .taken=0 ↔ (A.length:Int) - (nC .asked (S.rs f'):Nat)=T
 nb:aB ⟨s,R,f'⟩ S.m (S.rs f') .answered .handed=0 ↔ (B.length:Int) - (nC .answered (S.rs j'):Nat)=Hd
def M30.cts {s R:Int}{n:Nat}{S:YS}{A B:List (Int × Int)}{T Hd:Nat}(M:M30 s R n S A B T Hd):Cts s R S A B T Hd:=by
 unfold M30 at M;have hs:=M.s0;have f1:=M.full;have f2:=M.full2;have f3:=M.none1;have f4:=M.none2;obtain⟨Wf,Wt,df,dt,A',B',a',h',b',t',t⟩:=M.two;obtain⟨⟨r1,r2,_,_⟩,_,_,r3,r4⟩:=t.reads;obtain⟨⟨w1,w2⟩,w3,w4⟩:=t.waits;rw[fJ rfl]at r1 r2 r3 r4;rw[eW rfl rfl,xh rfl]at f1 f2 f3 f4;change nC .asked (bR (S.rs f'))=_ at w1;change nC .handed (bR (S.rs f'))=_ at w2;have la:=t.la;have lh:=t.lh;have lb:=t.lb;have lt:=t.lt;have ta:=t.ta;have hb:=t.hb;have sa:=t.sa;have sb:=t.sb;have w3':nC .taken (bR (S.rs j'))=T - t':=by first|exact w3|exact w4
 have w4':nC .answered (bR (S.rs j'))=B.length - b':=by first|exact w4|exact w3
 rw[xh rfl]at w1 w2 w3' w4';have m1:S.m.c .asked=(a':Int) % (s * R):=by
  have:=t.ma;rw[Gb rfl]at this;rw[this];exact t.pf.cA (by decide)
 have m2:S.m.c .handed=(h':Int) % (s * R):=by
  have:=t.mh;rw[Gb rfl]at this;rw[this];exact t.pf.cF (by decide)
 have m3:S.m.c .answered=(b':Int) % (s * R):=by
  have:=t.mb;rw[Gb rfl]at this;rw[this];exact t.pt.cA (by decide)
 have m4:S.m.c .taken=(t':Int) % (s * R):=by
  have:=t.mt;rw[Gb rfl]at this;rw[this];exact t.pt.cF (by decide)
 refine⟨r1,r3,r4,r2,?_,?_,?_,?_,by omega,by omega,by omega,by omega,λk k1 k2=>?_,λk k1 k2=>?_,f1,f2,f3,f4⟩
 . rw[m1,w1];congr 1;omega
 . rw[m4,w3'];congr 1;omega
 . rw[m3,w4'];congr 1;omega
 . rw[m2,w2];congr 1;omega
 . rw[<-mn];have:=t.rf;change bR (S.rs f')=_ at this;rw[this,zu (t.mp _)];exact t.hf.pl hs k k2 (by omega)
 . rw[<-mn];have:=t.rt;change bR (S.rs j')=_ at this;rw[this,zu (t.mq _)];exact t.ht.pl hs k k2 (by omega)
structure Q31 (s R:Int) (n:Nat) (S:YS) (es:List Ev):Prop where
 q:Q30 s R n S es
 tp:((th .taken es).map (·.1)).Perm ((th .answered es).map (·.1)++S.tk)
section
variable {s R:Int}{n:Nat}{S:YS}{es:List Ev}
theorem Q31.zero (hs:0 < s) (hs8:s <= 8) (hR:2 <= R) (n9:n <= 9):Q31 s R n YS.zero []:=⟨Q30.zero hs hs8 hR n9,Mo.refl _⟩
def Q31.pu (Q:Q31 s R n S es):((th .asked es).map (·.1)).Perm ((th .handed es).map (·.1)++S.un):=by
 have M:=Q.q.m;unfold M30 at M;have pm:=M.pm;have e1:(th .asked es).map (·.1)=(th .taken es).map (·.1)++((th .asked es).drop (th .taken es).length).map (·.1):=by
  have h:=Q.q.tk;have h2:th .taken es++(th .asked es).drop (th .taken es).length=th .asked es:=by
   have h3:=take_append_drop (th .taken es).length (th .asked es);rw[<-h]at h3;exact h3
  rw[<-K8,h2]
 have e2:(th .answered es).map (·.1)=(th .handed es).map (·.1)++((th .answered es).drop (th .handed es).length).map (·.1):=by
  have h:=Q.q.hd;have h2:th .handed es++(th .answered es).drop (th .handed es).length=th .answered es:=by
   have h3:=take_append_drop (th .handed es).length (th .answered es);rw[<-h]at h3;exact h3
  rw[<-K8,h2]
 rw[e1];refine(Lq _ Q.tp).trans ?_;rw[e2,Ku,Ku];refine Lh _ ?_;refine Mo.trans ?_ pm.symm;generalize ((th .answered es).drop (th .handed es).length).map (·.1)=b;generalize ((th .asked es).drop (th .taken es).length).map (·.1)=c;generalize S.tk=t;refine perm_append_comm.trans ?_;rw[<-Ku c];exact Lq _ perm_append_comm
theorem Q31.und (Q:Q31 s R n S es):Nms n S.un:=by have M:=Q.q.m;unfold M30 at M;exact M.und
theorem Q31.tkd (Q:Q31 s R n S es):Nms 9 S.tk:=by have M:=Q.q.m;unfold M30 at M;exact M.tkd
def Cw {ts:List Int}{a b:Int}:Dd.take.aft ts "none" (.tuple [.int a,.int b])=lA ts a:=Qq rfl
def Fa {ts:List Int}{nm wt:Int}{d:Ka}:(Dd.answer nm wt).aft ts "none" d=ts.erase nm:=Qq rfl
theorem Q31.out (Q:Q31 s R n S es) (x:Dd):∃ fs:List Ev,fs.length <= 1/\x.hap (x.out (yp0 s R n) S).1 (x.out (yp0 s R n) S).2.1=fs.map evD/\Q31 s R n (x.out (yp0 s R n) S).2.2 (es++fs):=by
 have ht:=G2 (q:=yp0 s R n) Q.tkd x;have tp:=Q.tp;have stay:(x.out (yp0 s R n) S).2.2.tk=S.tk->Q30 s R n (x.out (yp0 s R n) S).2.2 es->x.hap (x.out (yp0 s R n) S).1 (x.out (yp0 s R n) S).2.1=[]->∃ fs:List Ev,fs.length <= 1/\x.hap (x.out (yp0 s R n) S).1 (x.out (yp0 s R n) S).2.1=fs.map evD/\Q31 s R n (x.out (yp0 s R n) S).2.2 (es++fs):=λh1 h2 h3 =>
  ⟨[],LJ _,h3,by rw[KC];exact⟨h2,by rw[h1];exact tp⟩⟩
 cases hc:x.chk (yp0 s R n) S with
|some r =>
  rw[Dd.out_some hc]at stay |-;exact stay rfl Q.q (by unfold Dd.hap;rw[Qr r.key_ne])
|none =>
  rw[Dd.out_none hc]at stay ht |-;cases x with
 |ask wt =>
   have h':(if S.bd f'=.up then (if aB ⟨s,R,f'⟩ S.m (S.rs f') .asked .taken=s then dk Rf.full else match bO n S.un with|none=>dk Rf.name|some _=>JZ) else dk Rf.deed)=JZ:=hc;split at h'
   . split at h'
     . cases h'
     . rename_i hf;cases hl:bO n S.un with
      |none=>rw[hl]at h';cases h'
      |some nm =>
        have e1:((Dd.ask wt).run (yp0 s R n) S).1=.int nm:=by
         show (match bO n S.un with|some nm=>_|none=>_:Ka × YS).1=_;rw[hl]
        refine⟨[(.asked,nm,wt)],Kf _,?_,Q.q.ask hf hl,?_⟩
        . rw[e1];unfold Dd.hap;rw[Qq rfl];rfl
        . rw[b7,b7,dE (by decide),dE (by decide),KC,KC,ht.trans (Qq rfl)];exact tp
   . cases h'
 |collect =>
   by_cases h:aB ⟨s,R,f'⟩ S.m (S.rs f') .answered .handed=0
   . have e1:Dd.collect.run (yp0 s R n) S=(.none,S):=Qq h;rw[e1]at stay |-;exact stay rfl Q.q (by unfold Dd.hap;rw[Qq rfl])
   . obtain⟨nw,_,e1,Q'⟩:=Q.q.collect h;refine⟨[(.handed,nw.1,nw.2)],Kf _,?_,Q',?_⟩
     . rw[e1];unfold Dd.hap;rw[Qq rfl];rfl
     . rw[b7,b7,dE (by decide),dE (by decide),KC,KC,ht.trans (Qq rfl)];exact tp
 |take =>
   by_cases h:aB ⟨s,R,f'⟩ S.m (S.rs j') .asked .taken=0
   . have e1:Dd.take.run (yp0 s R n) S=(.none,S):=Qq h;rw[e1]at stay |-;exact stay rfl Q.q (by unfold Dd.hap;rw[Qq rfl])
   . obtain⟨nw,h1,e1,Q'⟩:=Q.q.take h;have M:=Q.q.m;unfold M30 at M;obtain⟨nw2,h2,_,_,h4,_,_⟩:=M8.takeR M (by rw[eW rfl rfl];exact h);rw[h1]at h2;cases h2;refine⟨[(.taken,nw.1,nw.2)],Kf _,?_,Q',?_⟩
     . rw[e1];unfold Dd.hap;rw[Qq rfl];rfl
     . rw[b7,b7,fK,dE (by decide),KC,ht,e1,Cw];have g:lA S.tk nw.1=S.tk++[nw.1]:=by unfold lA;rw[h4];rfl
       rw[g,K8,<-Ku];exact Lq _ tp
 |answer nm wt =>
   have h':(if S.bd j'=.up then (if S.tk.contains nm=f' then dk Rf.task else if aB ⟨s,R,f'⟩ S.m (S.rs j') .answered .handed=s then dk Rf.full else JZ) else dk Rf.deed)=JZ:=hc;split at h'
   . split at h'
     . cases h'
     . rename_i hm;split at h'
       . cases h'
       . rename_i hf;refine⟨[(.answered,nm,wt)],Kf _,?_,Q.q.answer hm hf,?_⟩
         . unfold Dd.hap;rw[Qq rfl];rfl
         . rw[b7,b7,fK,dE (by decide),KC,ht,Fa];show ((th .taken es).map (·.1)).Perm ((th .answered es++[(nm,wt)]).map (·.1)++S.tk.erase nm);have hm':nm∈S.tk:=contains_iff_mem.mp (by cases hh:S.tk.contains nm with|true=>rfl|false=>exact absurd hh hm);rw[K8,Ku];exact tp.trans (Lh _ (List.perm_cons_erase hm'))
   . cases h'
 |bell b=>exact stay (ht.trans (Qq rfl)) (Q.q.rest (x:=.bell b) trivial) (by unfold Dd.hap;rw[Qq rfl])
 |lie b=>exact stay (ht.trans (Qq rfl)) (Q.q.rest (x:=.lie b) trivial) (by unfold Dd.hap;rw[Qq rfl])
 |look b=>exact stay (ht.trans (Qq rfl)) (Q.q.rest (x:=.look b) trivial) (by unfold Dd.hap;rw[Qq rfl])
 |drain b=>exact stay (ht.trans (Qq rfl)) (Q.q.rest (x:=.drain b) trivial) (by unfold Dd.hap;rw[Qq rfl])
end
def pl (c:Cn) (k:Int) (es:List Ev):List Nat:=(Mm es.length).filter λi=>match es[i]? with|some e=>decide (e.1=c) && decide (e.2.1=k)|none=>f'
def wo (es:List Ev) (i:Nat):Option Int:=(es[i]?).map (·.2.2)
section
variable {pa pt pb ph:List Nat}{wo wo':Nat->Option Int}{N:Nat}
end
section
variable {s R:Int}{n:Nat}{S S':YS}{es:List Ev}
def C6 {k c:Cn}{a b:Int}(h:c≠k):th k (es++[(c,a,b)])=th k es:=by rw[b7,dE h,KC]
def wU {k:Cn}{a b:Int}:th k (es++[(k,a,b)])=th k es++[(a,b)]:=by rw[b7,fK]
def FG {x:Dd}{key:Str}{d:Ka}{e:Ev}(h:x.hap key d=[evD e]):e.1=.asked\/e.1=.taken\/e.1=.answered\/e.1=.handed:=by
 have kP:∀ {wd:Str} {d1 d2:Ka},[mV wd d1 d2]=[evD e]->wd=e.1.key:=λh=>by
  injection h with h
  unfold evD mV at h;injection h with h
  injection h with h
  injection h
 have go:∀ {wd:Str},wd=e.1.key->(wd="asked"\/wd="taken"\/wd="answered"\/wd="handed")->e.1=.asked\/e.1=.taken\/e.1=.answered\/e.1=.handed:=λ{wd} h1 h2=>by
  rw[h1]at h2;revert h2;cases e.1 with
 |asked=>exact λ_=>.inl rfl
 |taken=>exact λ_=>.inr (.inl rfl)
 |answered=>exact λ_=>.inr (.inr (.inl rfl))
 |handed=>exact λ_=>.inr (.inr (.inr rfl))
 |hs=>exact λh2=>absurd h2 (by decide +kernel)
 |ts=>exact λh2=>absurd h2 (by decide +kernel)
 unfold Dd.hap at h;split at h
 . split at h
   . exact go (kP h) (.inl rfl)
   . exact go (kP h) (.inr (.inr (.inl rfl)))
   . split at h
     . cases h
     . exact go (kP h) (.inr (.inl rfl))
   . split at h
     . cases h
     . exact go (kP h) (.inr (.inr (.inr rfl)))
   . cases h
 . cases h
end
structure Zz (S:YS):Prop where
 ow:pZ S.rs
 sl:∀ b,S.bd b≠.up->S.m.c (bE b)=1/\∀ x∈S.rs b,∀ i,x≠.c (bE b) i
theorem Zz.zero:Zz YS.zero:=⟨pZ.zero,λb h=>absurd rfl h⟩
section
variable {s R:Int}{n:Nat}{S T:YS}{es:List Ev}
def Zz.work (Z:Zz S) (sd:Bool) (h1:T.bd=S.bd) (h2:T.m=S.m) (h3:T.rs (!sd)=S.rs (!sd)) (h4:S.bd sd=.up) (ow:pZ T.rs):Zz T:=⟨ow,λb hb=>by
 rw[h1]at hb;have:b=!sd:=by cases b<;>cases sd<;>first|rfl|exact absurd h4 hb
 subst this;rw[h2,h3];exact Z.sl _ hb⟩
def wz {m:Mem}{x:Wr}{k:Cn}(h:∀ i,x≠.c k i):(m.put x).c k=m.c k:=by
 show (x.cnt k).getD (m.c k)=_;cases hx:x.cnt k with
|none=>rfl
|some i=>exact absurd (Wr.cnt_some hx) (h i)
def HI {q:YP}(x:Dd) (h:x.lays≠JZ\/x.ftc):(x.out q S).2.2.m=S.m/\(x.out q S).2.2.bd=S.bd/\(x.out q S).2.2.rs (!x.side)=S.rs (!x.side):=by
 cases hc:x.chk q S with
|some r=>rw[Dd.out_some hc];exact⟨rfl,rfl,rfl⟩
|none =>
  rw[Dd.out_none hc];cases x with
 |ask wt =>
   unfold Dd.run;cases bO q.n S.un with
  |none=>exact⟨rfl,rfl,rfl⟩
  |some nm=>exact⟨rfl,rfl,rfl⟩
 |collect =>
   unfold Dd.run;by_cases h:aB q.p S.m (S.rs f') .answered .handed=0
   . rw[Qq h];exact⟨rfl,rfl,rfl⟩
   . rw[Qr h];cases rdP S.m (S.rs f') j' (rdC S.m (S.rs f') .handed % q.p.s) with
    |none=>exact⟨rfl,rfl,rfl⟩
    |some nw=>exact⟨rfl,rfl,rfl⟩
 |take =>
   unfold Dd.run;by_cases h:aB q.p S.m (S.rs j') .asked .taken=0
   . rw[Qq h];exact⟨rfl,rfl,rfl⟩
   . rw[Qr h];cases rdP S.m (S.rs j') f' (rdC S.m (S.rs j') .taken % q.p.s) with
    |none=>exact⟨rfl,rfl,rfl⟩
    |some nw=>exact⟨rfl,rfl,rfl⟩
 |answer nm wt=>exact⟨rfl,rfl,rfl⟩
 |bell b=>exact(h.elim (λz=>absurd rfl z) id).elim
 |lie b=>exact(h.elim (λz=>absurd rfl z) id).elim
 |look b=>exact(h.elim (λz=>absurd rfl z) id).elim
 |drain b=>exact(h.elim (λz=>absurd rfl z) id).elim
theorem Zz.out (Z:Zz S) (x:Dd):Zz (x.out (yp0 s R n) S).2.2:=by
 have ow:=DD (q:=yp0 s R n) Z.ow x;have nb:∀ b:Bool,(!b)≠b:=λb=>by cases b<;>decide
 cases hc:x.chk (yp0 s R n) S with
|some r=>rw[Dd.out_some hc];exact Z
|none =>
  have wk:(x.lays≠JZ\/x.ftc)->S.bd x.side=.up->Zz (x.out (yp0 s R n) S).2.2:=λh1 h2=>by
   obtain⟨a,b,c⟩:=HI (q:=yp0 s R n) (S:=S) x h1;exact Z.work x.side b a c h2 ow
  cases x with
 |ask wt =>
   refine wk (.inl (by intro z;cases z)) ?_;by_cases h:S.bd f'=.up
   . exact h
   . rw[show (Dd.ask wt).chk (yp0 s R n) S=dk .deed from Qr h]at hc;cases hc
 |collect =>
   refine wk (.inr trivial) ?_;by_cases h:S.bd f'=.up
   . exact h
   . rw[show Dd.collect.chk (yp0 s R n) S=dk .deed from Qr h]at hc;cases hc
 |take =>
   refine wk (.inr trivial) ?_;by_cases h:S.bd j'=.up
   . exact h
   . rw[show Dd.take.chk (yp0 s R n) S=dk .deed from Qr h]at hc;cases hc
 |answer nm wt =>
   refine wk (.inl (by intro z;cases z)) ?_;by_cases h:S.bd j'=.up
   . exact h
   . rw[show (Dd.answer nm wt).chk (yp0 s R n) S=dk .deed from Qr h]at hc;cases hc
 |drain b =>
   rw[Dd.out_none hc]at ow |-;cases e:S.rs b with
  |nil=>rw[show (Dd.drain b).chk (yp0 s R n) S=dk .deed from Qq e]at hc;cases hc
  |cons x rest =>
    rw[(pj (q:=yp0 s R n) e).2]at ow |-;refine⟨ow,λc h=>?_⟩;obtain⟨h1,h2⟩:=Z.sl c h;have hx:x∈S.rs b:=by rw[e];exact Km
    by_cases hcb:c=b
    . subst hcb;refine⟨?_,λy hy=>h2 y ?_⟩
      . show (S.m.put x).c (bE c)=1;rw[wz (h2 x hx)];exact h1
      . have hy':y∈aC S.rs c rest c:=hy;rw[am]at hy';rw[e];exact Kl _ hy'
    . have:c=!b:=by cases b<;>cases c<;>first|rfl|exact absurd rfl hcb
      subst this;refine⟨?_,λy hy=>h2 y ?_⟩
      . show (S.m.put x).c (bE (!b))=1;rw[wz (Z.ow b x hx)];exact h1
      . have hy':y∈aC S.rs b rest (!b):=hy;rw[aA (nb b)]at hy';exact hy'
 |lie b =>
   rw[Dd.out_none hc]at ow |-;refine⟨ow,λc h=>?_⟩;have e:(Dd.lie b).run (yp0 s R n) S=(.none,{ (S.wr b (.c (bE b) 1)).fence b with bd:=aC S.bd b .lies }):=rfl;rw[e]at h |-;have em:((S.wr b (.c (bE b) 1)).fence b).m=S.m.putAllY (S.rs b++[.c (bE b) 1]):=by show S.m.putAllY (aC S.rs b _ b)=_;rw[am]
   by_cases hcb:c=b
   . subst hcb;refine⟨?_,λy hy=>?_⟩
     . show ((S.wr c (.c (bE c) 1)).fence c).m.c (bE c)=1;rw[em];exact vC
     . have hy':y∈aC (aC S.rs c (S.rs c++[.c (bE c) 1])) c [] c:=hy;rw[am]at hy';cases hy'
   . have:c=!b:=by cases b<;>cases c<;>first|rfl|exact absurd rfl hcb
     subst this;have hb:S.bd (!b)≠.up:=by
      have h':aC S.bd b .lies (!b)≠.up:=h;rw[aA (nb b)]at h';exact h'
     obtain⟨h1,h2⟩:=Z.sl _ hb;refine⟨?_,λy hy=>h2 y ?_⟩
     . show ((S.wr b (.c (bE b) 1)).fence b).m.c (bE (!b))=1;rw[em,kq]
       . exact h1
       . intro y hy i z;rcases KS.mp hy with w|w
         . exact Z.ow b y w i z
         . rw[JY.mp w]at z;injection z with z
           exact u8 b z
     . have hy':y∈aC (aC S.rs b (S.rs b++[.c (bE b) 1])) b [] (!b):=hy;rw[aA (nb b),aA (nb b)]at hy';exact hy'
 |look b =>
   rw[Dd.out_none hc]at ow |-;refine⟨ow,λc h=>?_⟩;by_cases hh:(yp0 s R n).fk=j'/\swT (yp0 s R n) S b=j'
   . have e:(Dd.look b).run (yp0 s R n) S=(.bool j',{ (S.wr b (.c (bE b) 0)) with bd:=aC S.bd b .up }):=Qq hh;rw[e]at h |-;have hcb:c≠b:=λz=>by subst z;exact h (show aC S.bd c .up c=.up from am)
     have:c=!b:=by cases b<;>cases c<;>first|rfl|exact absurd rfl hcb
     subst this;have hb:S.bd (!b)≠.up:=by
      have h':aC S.bd b .up (!b)≠.up:=h;rw[aA (nb b)]at h';exact h'
     obtain⟨h1,h2⟩:=Z.sl _ hb;refine⟨h1,λy hy=>h2 y ?_⟩;have hy':y∈aC S.rs b (S.rs b++[.c (bE b) 0]) (!b):=hy;rw[aA (nb b)]at hy';exact hy'
   . have e:(Dd.look b).run (yp0 s R n) S=(.bool f',{ S with bd:=aC S.bd b .asleep }):=Qr hh;rw[e]at h |-;have hl:S.bd b=.lies:=by
      by_cases hl:S.bd b=.lies
      . exact hl
      . rw[show (Dd.look b).chk (yp0 s R n) S=dk .deed from Qr hl]at hc;cases hc
     refine Z.sl c ?_;by_cases hcb:c=b
     . rw[hcb,hl];intro z;cases z
     . have h':aC S.bd b .asleep c≠.up:=h;rw[aA hcb]at h';exact h'
 |bell b =>
   rw[Dd.out_none hc]at ow |-;have hup:S.bd b=.up:=by
    by_cases h:S.bd b=.up
    . exact h
    . rw[show (Dd.bell b).chk (yp0 s R n) S=dk .deed from Qr h]at hc;cases hc
   have Z1:Zz { S.fence b with qt:=aC (S.fence b).qt b j' }:=by
    refine⟨Z.ow.row λ_ hx=>absurd hx KL,λc h=>?_⟩;have h':S.bd c≠.up:=h;have:c=!b:=by cases b<;>cases c<;>first|rfl|exact absurd hup h'
    subst this;obtain⟨h1,h2⟩:=Z.sl _ h';refine⟨?_,λy hy=>h2 y ?_⟩
    . show (S.m.putAllY (S.rs b)).c (bE (!b))=1;rw[kq λy hy i=>Z.ow b y hy i];exact h1
    . have hy':y∈aC S.rs b [] (!b):=hy;rw[aA (nb b)]at hy';exact hy'
   have e:(Dd.bell b).run (yp0 s R n) S=(λS2:YS=>if rdC S2.m (S2.rs b) (bE (!b))≠1 then (Ka.bool f',S2) else if S2.bd (!b)=.asleep then (.bool j',({ S2 with bd:=aC S2.bd (!b) .up }:YS).wr (!b) (.c (bE (!b)) 0)) else (.bool j',S2)) { S.fence b with qt:=aC (S.fence b).qt b j' }:=rfl;rw[e]at ow |-;generalize ({ S.fence b with qt:=aC (S.fence b).qt b j' }:YS)=S2 at Z1 ow |-;dsimp only at ow |-;split
   . exact Z1
   . split
     . refine⟨Z1.ow.app (jP (qJ (u8 _))),λc h=>?_⟩;have h':aC S2.bd (!b) .up c≠.up:=h;have hcb:c≠!b:=λz=>by subst z;exact h' am
       rw[aA hcb]at h';obtain⟨h1,h2⟩:=Z1.sl c h';refine⟨h1,λy hy=>h2 y ?_⟩;have hy':y∈aC S2.rs (!b) (S2.rs (!b)++[.c (bE (!b)) 0]) c:=hy;rw[aA hcb]at hy';exact hy'
     . exact Z1
def Q31.ok (Q:Q31 s R n S es):(yp0 s R n).Ok:=by
 have M:=Q.q.m;unfold M30 at M;exact⟨⟨M.s0,M.s8,show 0 < s * R from Int.mul_pos M.s0 (by have:=M.R2;omega)⟩,M.n9⟩
end
inductive Wd where
|asked|taken|answered|handed
instance:DecidableEq Wd:=λa b=>by
 cases a<;>cases b<;>first|exact isTrue rfl|exact isFalse (λh=>by cases h)
def Wd.key:Wd->Str
|.asked=>"asked"
|.taken=>"taken"
|.answered=>"answered"
|.handed=>"handed"
structure Hap where
 w:Wd
 n:Int
 o:Int
def thH (w:Wd) (hs:List Hap):List (Int × Int):=(hs.filter λh=>decide (h.w=w)).map λh=>(h.n,h.o)
def sP (w:Wd) (hs:List Hap) (h:Hap):thH w (hs++[h])=if h.w=w then thH w hs++[(h.n,h.o)] else thH w hs:=by
 unfold thH;rw[Lb,K8];by_cases e:h.w=w
 . rw[Qq e,K4,Qq (Qt e)];rfl
 . rw[Qr e,K4,Qr (by rw[decide_eq_false e];decide)];simp
def cnt (w:Wd) (x:Int) (hs:List Hap):Nat:=((thH w hs).filter λp=>decide (p.1=x)).length
def CO (w:Wd) (x:Int) (hs:List Hap) (h:Hap):cnt w x (hs++[h])=cnt w x hs+if h.w=w/\h.n=x then 1 else 0:=by
 unfold cnt;rw[sP];by_cases e:h.w=w
 . rw[Qq e,Lb,JX];by_cases q:h.n=x
   . rw[Qq ⟨e,q⟩,K4,Qq (Qt q)];rfl
   . rw[Qr (λz=>q z.2),K4,Qr (by rw[decide_eq_false q];decide)];rfl
 . rw[Qr e,Qr (λz=>e z.1)];rfl
def cn {w' w:Wd}{hs:List Hap}{n o:Int}:thH w (hs++[⟨w',n,o⟩])=if w'=w then thH w hs++[(n,o)] else thH w hs:=sP w hs _
def FD {w' w:Wd}{hs:List Hap}{n o x:Int}:cnt w x (hs++[⟨w',n,o⟩])=cnt w x hs+if w'=w/\n=x then 1 else 0:=CO w x hs _
def ji {w' w:Wd}{hs:List Hap}{n o x:Int}(h:w'≠w):cnt w x (hs++[⟨w',n,o⟩])=cnt w x hs:=by rw[FD,Qr λz=>h z.1];rfl
def sI {w:Wd}{hs:List Hap}{n o x:Int}:cnt w x (hs++[⟨w,n,o⟩])=cnt w x hs+if n=x then 1 else 0:=by rw[FD];simp
def eB (ah:List Hap) (h:Hap):Bool:=match h.w with
|.asked=>decide (cnt .asked h.n ah=cnt .handed h.n ah)
|.answered=>decide (cnt .answered h.n ah < cnt .taken h.n ah)
|.taken=>decide (((thH .asked ah).drop (thH .taken ah).length).take 1=[(h.n,h.o)])
|.handed=>decide (((thH .answered ah).drop (thH .handed ah).length).take 1=[(h.n,h.o)])
def ju:List Hap->List Hap->Option Nat
|_,[]=>JZ
|ah,h :: t=>if eB ah h=j' then ju (ah++[h]) t else dk ah.length
def qN (hs:List Hap):Option Nat:=ju [] hs
theorem qY:∀ (t ah:List Hap) (h:Hap),ju ah t=JZ->eB (ah++t) h=j'->ju ah (t++[h])=JZ
|[],ah,h,_,f=>by
  rw[KC]at f;show (if eB ah h=j' then ju (ah++[h]) [] else dk ah.length)=JZ;rw[Qq f];rfl
|x :: t,ah,h,e,f=>by
  have e':(if eB ah x=j' then ju (ah++[x]) t else dk ah.length)=JZ:=e;show (if eB ah x=j' then ju (ah++[x]) (t++[h]) else dk ah.length)=JZ;by_cases q:eB ah x=j'
  . rw[Qq q]at e' |-;exact qY t _ h e' (by rw[Ku];exact f)
  . rw[Qr q]at e';cases e'
def yj {hs:List Hap}{h:Hap}(e:qN hs=JZ) (f:eB hs h=j'):qN (hs++[h])=JZ:=qY hs [] h e f
structure JI (ah:List Hap) (un uh:List (Int × Int)) (go do':List Int):Prop where
 eu:un=(thH .asked ah).drop (thH .taken ah).length
 eh:uh=(thH .answered ah).drop (thH .handed ah).length
 lt:(thH .taken ah).length <= (thH .asked ah).length
 lh:(thH .handed ah).length <= (thH .answered ah).length
 pm:go.Perm (un.map (·.1)++(do'++uh.map (·.1)))
 nd:go.Nodup
 ca:∀ x,cnt .asked x ah=cnt .handed x ah+if x∈go then 1 else 0
 ct:∀ x,cnt .taken x ah=cnt .answered x ah+if x∈do' then 1 else 0
def JI.zero:JI [] [] [] [] []:=⟨rfl,rfl,Kf _,Kf _,Mo.refl _,nodup_nil,λ_=>rfl,λ_=>rfl⟩
def El (un uh:List (Int × Int)) (go do':List Int) (h:Hap):Bool:=match h.w with
|.asked=>!go.contains h.n
|.answered=>do'.contains h.n
|.taken=>decide (un.take 1=[(h.n,h.o)])
|.handed=>decide (uh.take 1=[(h.n,h.o)])
section
variable {ah:List Hap}{un uh:List (Int × Int)}{go do':List Int}
def JI.fits (J:JI ah un uh go do') (h:Hap):El un uh go do' h=eB ah h:=by
 unfold El eB;cases h.w with
|asked =>
  show (!go.contains h.n)=decide _;rw[K5,J.ca h.n];by_cases e:h.n∈go<;>simp[e]
|taken=>show decide _=decide _;rw[J.eu]
|answered =>
  show do'.contains h.n=decide _;rw[K5,J.ct h.n];by_cases e:h.n∈do'<;>simp[e]
|handed=>show decide _=decide _;rw[J.eh]
def Ba {α:Type}{xs:List α}{x:α}(h:xs.take 1=[x]):xs=x :: xs.drop 1:=by
 cases xs with
|nil=>cases h
|cons y ys=>have:[y]=[x]:=h;cases this;rfl
theorem JI.asked (J:JI ah un uh go do') {n o:Int}(h:n ∉ go):JI (ah++[⟨.asked,n,o⟩]) (un++[(n,o)]) uh (go++[n]) do':=by
 refine⟨?_,?_,?_,?_,?_,?_,λx=>?_,λx=>?_⟩
 . rw[cn,cn,Qq rfl,Qr (by decide),K3 J.lt,<-J.eu]
 . rw[cn,cn,Qr (by decide),Qr (by decide)];exact J.eh
 . rw[cn,cn,Qq rfl,Qr (by decide),JX];have:=J.lt;omega
 . rw[cn,cn,Qr (by decide),Qr (by decide)];exact J.lh
 . refine(Lq [n] J.pm).trans ?_;rw[K8,Ku (un.map (·.1)),Ku (un.map (·.1))];exact Lh _ perm_append_comm
 . exact nodup_append.mpr ⟨J.nd,by simp,λa ha b hb e=>h (by rw[JY.mp hb]at e;exact e ▸ ha)⟩
 . rw[sI,ji (by decide),J.ca x];by_cases e:n=x
   . subst e;simp[h]
   . have e':¬ x=n:=λz=>e z.symm
     simp[e,e']
 . rw[ji (by decide),ji (by decide),J.ct x]
theorem JI.taken (J:JI ah un uh go do') {n o:Int}(h:un.take 1=[(n,o)]):JI (ah++[⟨.taken,n,o⟩]) (un.drop 1) uh go (do'++[n])/\n ∉ do':=by
 have e1:=Ba h;have pm:=J.pm;rw[e1,K1,cons_append]at pm;have hn:n ∉ do':=λy=>(LK.mp (pm.nodup_iff.mp J.nd)).1 (KS.mpr (.inr (KS.mpr (.inl y))))
 have lt:(thH .taken ah).length < (thH .asked ah).length:=by
  have:=congrArg LN (J.eu.symm.trans e1);rw[length_drop,KJ]at this;omega
 refine⟨⟨?_,?_,?_,?_,?_,J.nd,λx=>?_,λx=>?_⟩,hn⟩
 . rw[cn,cn,Qq rfl,Qr (by decide),JX,J.eu,drop_drop];rfl
 . rw[cn,cn,Qr (by decide),Qr (by decide)];exact J.eh
 . rw[cn,cn,Qq rfl,Qr (by decide),JX];exact lt
 . rw[cn,cn,Qr (by decide),Qr (by decide)];exact J.lh
 . refine pm.trans ?_;rw[Ku do'];show (n :: (List.map (·.1) (un.drop 1)++(do'++uh.map (·.1)))).Perm _;refine Mo.trans ?_ (Lh _ (List.perm_append_comm_assoc do' [n] _).symm);exact(perm_middle (a:=n)).symm
 . rw[ji (by decide),ji (by decide),J.ca x]
 . rw[sI,ji (by decide),J.ct x];by_cases e:n=x
   . subst e;simp[hn]
   . have e':¬ x=n:=λz=>e z.symm
     simp[e,e']
theorem JI.answered (J:JI ah un uh go do') {n o:Int}(h:n∈do'):JI (ah++[⟨.answered,n,o⟩]) un (uh++[(n,o)]) go (do'.erase n):=by
 have ndo:do'.Nodup:=(nodup_append.mp (nodup_append.mp (J.pm.nodup_iff.mp J.nd)).2.1).1;refine⟨?_,?_,?_,?_,?_,J.nd,λx=>?_,λx=>?_⟩
 . rw[cn,cn,Qr (by decide),Qr (by decide)];exact J.eu
 . rw[cn,cn,Qq rfl,Qr (by decide),K3 J.lh,<-J.eh]
 . rw[cn,cn,Qr (by decide),Qr (by decide)];exact J.lt
 . rw[cn,cn,Qq rfl,Qr (by decide),JX];have:=J.lh;omega
 . refine J.pm.trans (Lh _ ?_);rw[K8];refine(Lq _ (List.perm_cons_erase h)).trans ?_;rw[cons_append,<-Ku];exact(List.perm_append_singleton n _).symm
 . rw[ji (by decide),ji (by decide),J.ca x]
 . rw[ji (by decide),sI,J.ct x];by_cases e:n=x
   . subst e;simp[h,Nodup.mem_erase_iff ndo]
   . have e':¬ x=n:=λz=>e z.symm
     simp[e,e',Nodup.mem_erase_iff ndo]
theorem JI.handed (J:JI ah un uh go do') {n o:Int}(h:uh.take 1=[(n,o)]):JI (ah++[⟨.handed,n,o⟩]) un (uh.drop 1) (go.erase n) do'/\n∈go:=by
 have e1:=Ba h;have pm:=J.pm;rw[e1,K1]at pm;have hn:n∈go:=pm.mem_iff.mpr (KS.mpr (.inr (KS.mpr (.inr Km))));have lt:(thH .handed ah).length < (thH .answered ah).length:=by
  have:=congrArg LN (J.eh.symm.trans e1);rw[length_drop,KJ]at this;omega
 refine⟨⟨?_,?_,?_,?_,?_,J.nd.erase n,λx=>?_,λx=>?_⟩,hn⟩
 . rw[cn,cn,Qr (by decide),Qr (by decide)];exact J.eu
 . rw[cn,cn,Qq rfl,Qr (by decide),JX,J.eh,drop_drop];rfl
 . rw[cn,cn,Qr (by decide),Qr (by decide)];exact J.lt
 . rw[cn,cn,Qq rfl,Qr (by decide),JX];exact lt
 . have p2:go.Perm (n :: (un.map (·.1)++(do'++(uh.drop 1).map (·.1)))):=by
    refine pm.trans ?_;rw[<-Ku,<-Ku];exact perm_middle
   have p3:=p2.erase n;rw[List.erase_cons_head]at p3;exact p3
 . rw[ji (by decide),sI,J.ca x];by_cases e:n=x
   . subst e;simp[hn,Nodup.mem_erase_iff J.nd]
   . have e':¬ x=n:=λz=>e z.symm
     simp[e,e',Nodup.mem_erase_iff J.nd]
 . rw[ji (by decide),ji (by decide),J.ct x]
def JI.ndo (J:JI ah un uh go do'):do'.Nodup:=(nodup_append.mp (nodup_append.mp (J.pm.nodup_iff.mp J.nd)).2.1).1
def JI.lens (J:JI ah un uh go do'):un.length <= ah.length/\uh.length <= ah.length/\go.length <= un.length+(do'.length+uh.length)/\do'.length <= ah.length:=by
 have l1:∀ w,(thH w ah).length <= ah.length:=λw=>by unfold thH;rw[Kv];exact Mg _ _
 have h1:=l1 .asked;have h2:=l1 .answered;have q1:=congrArg LN J.eu;have q2:=congrArg LN J.eh;rw[length_drop]at q1 q2;have q3:=J.pm.length_eq;rw[JX,JX,Kv,Kv]at q3;have q4:do'.length <= (thH .taken ah).length:=by
  have hsub:∀ x∈do',x∈(thH .taken ah).map (·.1):=λx hx=>by
   have:=J.ct x;rw[Qq hx]at this;have h0:0 < cnt .taken x ah:=by omega
   unfold cnt at h0;obtain⟨p,hp⟩:=List.exists_mem_of_length_pos h0;obtain⟨hp1,hp2⟩:=Mn.mp hp;exact Me.mpr ⟨p,hp1,of_decide_eq_true hp2⟩
  have:=oz J.ndo hsub;rw[Kv]at this;exact this
 have h3:=l1 .taken;omega
end
def HV (H:Hp):Hap->V->Prop:=λh v=>∃ c,v=.ref c/\H c=dk (.tup [.str h.w.key,.int h.n,.int h.o])
def PV (H:Hp):Int × Int->V->Prop:=λp v=>∃ c,v=.ref c/\H c=dk (.tup [.int p.1,.int p.2])
def Kt (H H':Hp):Prop:=∀ b vs,H b=dk (.tup vs)->H' b=dk (.tup vs)
def HV.keep {H H':Hp}(ht:Kt H H') {h:Hap}{v:V}(q:HV H h v):HV H' h v:=by
 obtain⟨c,e,x⟩:=q;exact⟨c,e,ht _ _ x⟩
def PV.keep {H H':Hp}(ht:Kt H H') {p:Int × Int}{v:V}(q:PV H p v):PV H' p v:=by
 obtain⟨c,e,x⟩:=q;exact⟨c,e,ht _ _ x⟩
def bL.kt {H H':Hp}(s:bL H H'):Kt H H':=λb _=>s b _
def SV (H:Hp) (l:D') (hs:List Hap):Prop:=∃ ts,H l=dk (.lst ts)/\Kx (HV H) hs ts
def TL (H:Hp) (l:D') (ps:List (Int × Int)):Prop:=∃ ts,H l=dk (.lst ts)/\Kx (PV H) ps ts
theorem SV.keep {H H':Hp}{l:D'}{hs:List Hap}(h:SV H l hs) (k:∀ o,H l=dk o->H' l=dk o) (ht:Kt H H'):SV H' l hs:=by
 obtain⟨ts,e,p⟩:=h;exact⟨ts,k _ e,Paired.mapP p λ_ _ q=>q.keep ht⟩
theorem TL.keep {H H':Hp}{l:D'}{ps:List (Int × Int)}(h:TL H l ps) (k:∀ o,H l=dk o->H' l=dk o) (ht:Kt H H'):TL H' l ps:=by
 obtain⟨ts,e,p⟩:=h;exact⟨ts,k _ e,Paired.mapP p λ_ _ q=>q.keep ht⟩
def SV.same {H H':Hp}{l:D'}{hs:List Hap}(h:SV H l hs) (s:bL H H'):SV H' l hs:=h.keep (λo=>s l o) s.kt
def TL.same {H H':Hp}{l:D'}{ps:List (Int × Int)}(h:TL H l ps) (s:bL H H'):TL H' l ps:=h.keep (λo=>s l o) s.kt
structure JA where
 j:D'
 u:D'
 h:D'
 g:D'
 d:D'
def jF (z:JA):List (Str × V):=bn "doing" (.ref z.d) (bn "going" (.ref z.g) (bn "unhanded" (.ref z.h) (bn "untaken" (.ref z.u) [])))
section
variable {z:JA}
def Hg:(jF z).lookup ("untaken":Str)=dk (.ref z.u):=by unfold jF;repeat (first|rw[a9,Qq rfl]|rw[a9,Qr (by decide +kernel)]);try rfl
def He:(jF z).lookup ("unhanded":Str)=dk (.ref z.h):=by unfold jF;repeat (first|rw[a9,Qq rfl]|rw[a9,Qr (by decide +kernel)]);try rfl
def Hv:(jF z).lookup ("going":Str)=dk (.ref z.g):=by unfold jF;repeat (first|rw[a9,Qq rfl]|rw[a9,Qr (by decide +kernel)]);try rfl
def HQ:(jF z).lookup ("doing":Str)=dk (.ref z.d):=by unfold jF;repeat (first|rw[a9,Qq rfl]|rw[a9,Qr (by decide +kernel)]);try rfl
def zI:(jF z).lookup ("fits":Str)=JZ:=by unfold jF;repeat (first|rw[a9,Qq rfl]|rw[a9,Qr (by decide +kernel)]);try rfl
def HG:(jF z).lookup ("go_on":Str)=JZ:=by unfold jF;repeat (first|rw[a9,Qq rfl]|rw[a9,Qr (by decide +kernel)]);try rfl
end
structure Jn (CJ:D') (H:Hp) (z:JA) (un uh:List (Int × Int)) (go do':List Int):Prop where
 ob:∃ dx,H z.j=dk (.ins CJ dx (jF z))
 u:TL H z.u un
 h:TL H z.h uh
 g:H z.g=dk (.dK (gK go))
 d:H z.d=dk (.dK (gK do'))
 nu:z.u≠z.h
 ng:z.g≠z.d
def JA.own (z:JA) (c:D'):Prop:=c=z.j\/c=z.u\/c=z.h\/c=z.g\/c=z.d
section
variable {CJ:D'}{H H':Hp}{z:JA}{un uh:List (Int × Int)}{go do':List Int}
theorem Jn.keep (J:Jn CJ H z un uh go do') (k:∀ c o,z.own c->H c=dk o->H' c=dk o) (ht:Kt H H'):Jn CJ H' z un uh go do':=by
 obtain⟨dx,hx⟩:=J.ob;exact⟨⟨dx,k _ _ (.inl rfl) hx⟩,J.u.keep (λo=>k _ o (.inr (.inl rfl))) ht,J.h.keep (λo=>k _ o (.inr (.inr (.inl rfl)))) ht,k _ _ (.inr (.inr (.inr (.inl rfl)))) J.g,k _ _ (.inr (.inr (.inr (.inr rfl)))) J.d,J.nu,J.ng⟩
def Jn.same (J:Jn CJ H z un uh go do') (s:bL H H'):Jn CJ H' z un uh go do':=J.keep (λc o _=>s c o) s.kt
def iB {c x:D'}{o o':HO}(hx:H x=dk o') (h:H c=dk o) (hn:o≠o'):∀ q,upd H x q c=dk o:=λq=>by
 rw[ac λe=>by rw[e,hx]at h;exact hn (KH h).symm];exact h
def gH {x:D'}{o':HO}(hx:H x=dk o') (hn:∀ vs,o'≠.tup vs) (q:HO):Kt H (upd H x q):=λb vs e=>iB hx e (λz=>hn vs z.symm) q
def TL.up {l x:D'}{ps:List (Int × Int)}{o':HO}(h:TL H l ps) (hx:H x=dk o') (hn:∀ vs,o'≠.tup vs) (nl:l≠x) (q:HO):TL (upd H x q) l ps :=
 h.keep (λo e=>by rw[ac nl];exact e) (gH hx hn q)
def Jn.setU (J:Jn CJ H z un uh go do') {un':List (Int × Int)}{ts:List V}(h:Kx (PV H) un' ts):Jn CJ (upd H z.u (.lst ts)) z un' uh go do':=by
 obtain⟨t0,e0,_⟩:=J.u;obtain⟨dx,hx⟩:=J.ob;have ht:=gH e0 (λ_ z=>by cases z) (.lst ts);exact⟨⟨dx,iB e0 hx (by intro z;cases z) _⟩,⟨ts,a8,Paired.mapP h λ_ _ q=>q.keep ht⟩,J.h.up e0 (λ_ z=>by cases z) J.nu.symm _,iB e0 J.g (by intro z;cases z) _,iB e0 J.d (by intro z;cases z) _,J.nu,J.ng⟩
def Jn.setH (J:Jn CJ H z un uh go do') {uh':List (Int × Int)}{ts:List V}(h:Kx (PV H) uh' ts):Jn CJ (upd H z.h (.lst ts)) z un uh' go do':=by
 obtain⟨t0,e0,_⟩:=J.h;obtain⟨dx,hx⟩:=J.ob;have ht:=gH e0 (λ_ z=>by cases z) (.lst ts);exact⟨⟨dx,iB e0 hx (by intro z;cases z) _⟩,J.u.up e0 (λ_ z=>by cases z) J.nu _,⟨ts,a8,Paired.mapP h λ_ _ q=>q.keep ht⟩,iB e0 J.g (by intro z;cases z) _,iB e0 J.d (by intro z;cases z) _,J.nu,J.ng⟩
def Jn.setG (J:Jn CJ H z un uh go do') {kv:List (Key × V)}{go2:List Int}(h:kv=gK go2):Jn CJ (upd H z.g (.dK kv)) z un uh go2 do':=by
 obtain⟨dx,hx⟩:=J.ob;have nl:∀ {l ps},TL H l ps->l≠z.g:=λ{l ps} ⟨ts,e,_⟩ y=>by rw[y,J.g]at e;cases e
 exact⟨⟨dx,iB J.g hx (by intro z;cases z) _⟩,J.u.up J.g (λ_ z=>by cases z) (nl J.u) _,J.h.up J.g (λ_ z=>by cases z) (nl J.h) _,by rw[a8,h],by rw[ac J.ng.symm];exact J.d,J.nu,J.ng⟩
def Jn.setD (J:Jn CJ H z un uh go do') {kv:List (Key × V)}{do2:List Int}(h:kv=gK do2):Jn CJ (upd H z.d (.dK kv)) z un uh go do2:=by
 obtain⟨dx,hx⟩:=J.ob;have nl:∀ {l ps},TL H l ps->l≠z.d:=λ{l ps} ⟨ts,e,_⟩ y=>by rw[y,J.d]at e;cases e
 exact⟨⟨dx,iB J.d hx (by intro z;cases z) _⟩,J.u.up J.d (λ_ z=>by cases z) (nl J.u) _,J.h.up J.d (λ_ z=>by cases z) (nl J.h) _,by rw[ac J.ng];exact J.g,by rw[a8,h],J.nu,J.ng⟩
end
def tj {H:Hp}{j x C dx:D'}{fs:List (Str × V)}{o:HO}{f:Str}(hj:H j=dk (.ins C dx fs)) (hx:H x=JZ) :
 upd (upd H x o) j (.ins C dx (bn f (.ref x) fs)) j=dk (.ins C dx (bn f (.ref x) fs))/\upd (upd H x o) j (.ins C dx (bn f (.ref x) fs)) x=dk o/\upd H x o j=dk (.ins C dx fs)/\(∀ c u,c≠j->H c=dk u->upd (upd H x o) j (.ins C dx (bn f (.ref x) fs)) c=dk u):=by
 have n1:x≠j:=λz=>by rw[z,hj]at hx;cases hx
 refine⟨a8,by rw[ac n1];exact a8,by rw[ac n1.symm];exact hj,λc u nc e=>?_⟩;rw[ac nc,ac (ae e hx)];exact e
def vO:Option Nat->V
|none=>.non
|some k=>.int (k:Int)
def pvD (p:Int × Int):Ka:=.tuple [.int p.1,.int p.2]
theorem pU {H:Hp}:∀ {ps:List (Int × Int)}{ts:List V},Kx (PV H) ps ts->DVs H (ps.map pvD) ts
|_,_,.nil=>rfl
|_,_,.cons ⟨c,e,q⟩ t=>⟨_,_,rfl,⟨c,_,e,q,_,_,rfl,rfl,_,_,rfl,rfl,rfl⟩,pU t⟩
def xR (p:Int × Int):MX.kd (pvD p)=j':=rfl
def GO (p q:Int × Int):Kn (pvD p) (pvD q)=decide (p=q):=by
 by_cases e:p=q
 . subst e;rw[cT (xR p)];simp
 . rw[decide_eq_false e];cases z:Kn (pvD p) (pvD q) with
  |false=>rfl
  |true =>
    have:=(MX.eqv_iff _ _ (xR p) (xR q)).mp z;injection this with this
    injection this with h1 h2
    injection h2 with h2 _
    injection h1 with h1
    injection h2 with h2
    exact absurd (Prod.ext h1 h2) e
def C3 (ds:List Ka) (h:∀ d∈ds,MX.kd d=j'/\d.depth <= 9):sF (.list ds):=by
 obtain⟨h1,h2⟩:=rp h;exact⟨h1,by show L0 _+1 <= 16;omega⟩
def rG (ps:List (Int × Int)):sF (.list (ps.map pvD)):=C3 _ λd hd=>by
 obtain⟨p,_,rfl⟩:=Me.mp hd;exact⟨rfl,by show 1 <= 9;decide⟩
theorem vK {α:Type}(f:α->Ka) (h:∀ a,MX.kd (f a)=j'):∀ xs:List α,MX.kds (xs.map f)=j'
|[]=>rfl
|x :: xs=>by
  show (MX.kd (f x) && MX.kds (xs.map f))=j';rw[h x,vK f h xs];rfl
def DI {p q:Int × Int}(h:pvD p=pvD q):p=q:=by
 injection h with this
 injection this with h1 h2
 injection h2 with h2 _
 injection h1 with h1
 injection h2 with h2
 exact Prod.ext h1 h2
def zH (ps qs:List (Int × Int)):Kn (.list (ps.map pvD)) (.list (qs.map pvD))=decide (ps=qs):=by
 have e:=MX.eqvs_iff (ps.map pvD) (qs.map pvD) (vK pvD xR ps) (vK pvD xR qs);show Ka.eqvAll _ _=_;by_cases h:ps=qs
 . rw[Qt h];exact e.mpr (by rw[h])
 . rw[decide_eq_false h];cases z:Ka.eqvAll (ps.map pvD) (qs.map pvD) with
  |false=>rfl
  |true=>exact absurd ((List.map_inj_right λ_ _ y=>DI y).mp (e.mp z)) h
def su (xs:List V) (k:Nat):lP xs JZ (dk (k:Int))=xs.take k:=by
 unfold lP;rw[HT.sIx_nat,show HT.sIx xs.length 0 JZ=0 from rfl,drop_zero,Nat.sub_zero];by_cases h:k <= xs.length
 . rw[min_eq_left h]
 . rw[Nat.min_eq_right (by omega),Li (Kf _),Li (by omega)]
def Cr (xs:List V) (j k:Nat):lP xs (dk (j:Int)) (dk (k:Int))=(xs.drop j).take (k - j):=by
 unfold lP;rw[HT.sIx_nat,HT.sIx_nat];by_cases h:j <= xs.length
 . rw[min_eq_left h];by_cases h2:k <= xs.length
   . rw[min_eq_left h2]
   . rw[Nat.min_eq_right (by omega),Li (by rw[length_drop];exact Kf _),Li (by rw[length_drop];omega)]
 . have e1:min j xs.length=xs.length:=by omega
   rw[e1,drop_of_length_le (Kf _),drop_of_length_le (show xs.length <= j by omega),take_nil,take_nil]
theorem fO {α β:Type}{F:α->β->Prop}:∀ {xs:List α}{ys:List β}(k:Nat),Kx F xs ys->Kx F (xs.take k) (ys.take k)
|_,_,0,_=>by rw[take_zero,take_zero];exact .nil
|_,_,_+1,.nil=>.nil
|_,_,k+1,.cons r t=>.cons r (fO k t)
theorem j8 {α β:Type}{F:α->β->Prop}:∀ {xs:List α}{ys:List β}(k:Nat),Kx F xs ys->Kx F (xs.drop k) (ys.drop k)
|_,_,0,h=>by rw[drop_zero,drop_zero];exact h
|_,_,_+1,.nil=>.nil
|_,_,k+1,.cons _ t=>j8 k t
def Dj {α:Type}(xs:List α):xs.eraseIdx 0=xs.drop 1:=by cases xs<;>rfl
inductive L5 where
|st|la|ta|to|aw
instance:DecidableEq L5:=λa b=>by
 cases a<;>cases b<;>first|exact isTrue rfl|exact isFalse (λh=>by cases h)
section
variable {H H':Hp}{q:L5->D'}{hs:List Hap}{un uh:List (Int × Int)}{go do':List Int}
end
end L2
namespace L2
open PySem
def Cn.wd:Cn->Wd
|.taken=>.taken
|.answered=>.answered
|.handed=>.handed
|_=>.asked
def o3 (e:Ev):Hap:=⟨e.1.wd,e.2.1,e.2.2⟩
def WkE (es:List Ev):Prop:=∀ e∈es,e.1.wk=j'
def G6 {a b:Cn}(ha:a.wk=j') (hb:b.wk=j'):a.wd=b.wd ↔ a=b:=by
 constructor
 . intro h;cases a<;>cases b<;>first|rfl|(cases ha;done)|(cases hb;done)|(cases h;done)
 . intro h;rw[h]
theorem thE {k:Cn}(hk:k.wk=j'):∀ {es:List Ev},WkE es->thH k.wd (es.map o3)=th k es
|[],_=>rfl
|e :: es,h=>by
  have ih:=thE hk (es:=es) λx hx=>h x (Kl _ hx)
  have he:=h e Km;unfold thH th at ih |-;rw[K1,K4,K4];by_cases z:e.1=k
  . rw[Qq (Qt (show (o3 e).w=k.wd from (G6 he hk).mpr z)),Qq (Qt z),K1,K1,ih];rfl
  . rw[Qr (show ¬ decide ((o3 e).w=k.wd)=j' by rw[Qs];exact λw=>z ((G6 he hk).mp w)),Qr (show ¬ decide (e.1=k)=j' by rw[Qs];exact z),ih]
def nmc (k:Cn) (x:Int) (es:List Ev):Nat:=((th k es).map (·.1)).count x
theorem pX (x:Int):∀ l:List (Int × Int),(l.filter λp=>decide (p.1=x)).length=(l.map (·.1)).count x
|[]=>rfl
|p :: l=>by
  rw[K4,K1,List.count_cons];by_cases z:p.1=x
  . rw[Qq (Qt z),KJ,pX x l,Qq (beq_iff_eq.mpr z)]
  . rw[Qr (by rw[Qs];exact z),pX x l,Qr (λw=>z (beq_iff_eq.mp w))];rfl
def Hc {k:Cn}(hk:k.wk=j') {es:List Ev}(h:WkE es) (x:Int):cnt k.wd x (es.map o3)=nmc k x es:=by
 unfold cnt nmc;rw[thE hk h];exact pX x _
def Ci {l:List Int}(h:l.Nodup) (x:Int):l.count x <= 1:=List.nodup_iff_count.mp h x
def z9 {A T:List (Int × Int)}{x:Int × Int}(h:T++[x]=A.take (T.length+1)):(A.drop T.length).take 1=[x]:=by
 have e:(A.drop T.length).take 1=(A.take (T.length+1)).drop T.length:=by rw[List.drop_take,Nat.add_sub_cancel_left]
 rw[e,<-h,K3 (Kf _),List.drop_length];rfl
section
variable {s R:Int}{n:Nat}{S S':YS}{es:List Ev}
def Q31.fit (Q:Q31 s R n S es) {e:Ev}(Q':Q31 s R n S' (es++[e])) (he:e.1.wk=j') (hw:WkE es):eB (es.map o3) (o3 e)=j':=by
 obtain⟨c,nm,wt⟩:=e;cases c with
|hs=>cases he
|ts=>cases he
|asked =>
  show decide (cnt (Cn.wd .asked) nm (es.map o3)=cnt (Cn.wd .handed) nm (es.map o3))=j';rw[Hc rfl hw,Hc rfl hw,Qs];have h1:=Q.pu.count_eq nm;have h2:=Q'.pu.count_eq nm;rw[wU,C6 (by decide),K8,List.count_append,List.count_append]at h2;rw[List.count_append]at h1;have h3:=Ci Q'.und.1 nm;have h4:(([(nm,wt)]:List (Int × Int)).map (·.1)).count nm=1:=by show [nm].count nm=1;exact List.count_singleton_self
  rw[h4]at h2;unfold nmc;omega
|answered =>
  show decide (cnt (Cn.wd .answered) nm (es.map o3) < cnt (Cn.wd .taken) nm (es.map o3))=j';rw[Hc rfl hw,Hc rfl hw,Qs];have h2:=Q'.tp.count_eq nm;rw[wU,C6 (by decide),K8,List.count_append,List.count_append]at h2;have h4:(([(nm,wt)]:List (Int × Int)).map (·.1)).count nm=1:=by show [nm].count nm=1;exact List.count_singleton_self
  rw[h4]at h2;unfold nmc;omega
|taken =>
  show decide (((thH (Cn.wd .asked) (es.map o3)).drop (thH (Cn.wd .taken) (es.map o3)).length).take 1=[(nm,wt)])=j';rw[thE rfl hw,thE rfl hw,Qs];have h:=Q'.q.tk;rw[wU,C6 (by decide),JX]at h;exact z9 h
|handed =>
  show decide (((thH (Cn.wd .answered) (es.map o3)).drop (thH (Cn.wd .handed) (es.map o3)).length).take 1=[(nm,wt)])=j';rw[thE rfl hw,thE rfl hw,Qs];have h:=Q'.q.hd;rw[wU,C6 (by decide),JX]at h;exact z9 h
end
end L2
namespace L2
open PySem
def noW (b:Bool) (t:Bool) (x:Wr):Prop:=(∀ i,x≠.c (lkB (!b)) i)/\(t=j'->∀ i,x≠.c (lkA (!b)) i)
structure Sl (S:YS):Prop where
 row:∀ b,S.bd b≠.up->S.rs b=[]
 no:∀ b,∀ x∈S.rs b,noW b (S.qt b) x
 ap:∀ b,S.bd b=.asleep->S.qt (!b)=j'->S.m.c (lkA b)=S.m.c (lkB b)
theorem Sl.zero:Sl YS.zero:=⟨λ_ _=>rfl,λ_ _ h=>absurd h KL,λ_ h=>by cases h⟩
def y6 {b c:Bool}(h:c≠b):c=!b:=by cases b<;>cases c<;>first|rfl|exact absurd rfl h
def DE {b t:Bool}{k:Cn}{i:Int}(h1:k≠lkB (!b)) (h2:k≠lkA (!b)):noW b t (.c k i):=⟨λj e=>by cases e;exact h1 rfl,λ_ j e=>by cases e;exact h2 rfl⟩
def wu {b t:Bool}{c:Bool}{i:Int}:noW b t (.c (bE c) i):=DE (by cases b<;>cases c<;>intro h<;>cases h) (by cases b<;>cases c<;>intro h<;>cases h)
def Ge {b t g:Bool}{i nm wt:Int}:noW b t (.p g i nm wt):=⟨λj e=>(by cases e),λ_ j e=>(by cases e)⟩
def zU {p:RP}{m:Mem}{row:List Wr}{b g:Bool}{a:Cn}{nm wt:Int}(ha:a≠lkB (!b)):∀ x∈kQ p m row g a nm wt,noW b f' x:=λx hx=>by
 have hc:∀ i,noW b f' (.c a i):=λi=>⟨λj e=>(by cases e;exact ha rfl),λh=>(by cases h)⟩
 unfold kQ at hx;split at hx
 . simp only[KA,KL,or_false]at hx;rcases hx with rfl|rfl
   . exact hc _
   . exact Ge
 . simp only[KA,KL,or_false]at hx;rcases hx with rfl|rfl
   . exact Ge
   . exact hc _
section
variable {s R:Int}{n:Nat}{S T:YS}
def Sl.work (L:Sl S) {b:Bool}{xs:List Wr}(hu:S.bd b=.up) (h1:T.bd=S.bd) (h2:T.m=S.m) (h3:T.rs=aC S.rs b (S.rs b++xs)) (h4:T.qt (!b)=S.qt (!b)) (h5:T.qt b=j'->S.qt b=j') (hx:∀ x∈xs,noW b (T.qt b) x):Sl T:=by
 refine⟨λc hc=>?_,λc x hm=>?_,λc hc hq=>?_⟩
 . rw[h1]at hc;have e:c≠b:=λz=>hc (by rw[z];exact hu)
   rw[h3,aA e];exact L.row c hc
 . rw[h3]at hm;by_cases e:c=b
   . subst e;rw[am]at hm;rcases KS.mp hm with w|w
     . exact⟨(L.no c x w).1,λz=>(L.no c x w).2 (h5 z)⟩
     . exact hx x w
   . rw[aA e]at hm;have:=L.no c x hm;rw[y6 e]at this |-;rw[h4];exact this
 . rw[h1]at hc;have e:c≠b:=λz=>by rw[z,hu]at hc;cases hc
   have e':(!c)=b:=by rw[y6 e];cases b<;>rfl
   rw[h2];rw[e']at hq;exact L.ap c hc (by rw[e'];exact h5 hq)
def Zz.rung (Z:Zz S) {b:Bool}(hc:(Dd.bell b).chk (yp0 s R n) S=JZ):((Dd.bell b).out (yp0 s R n) S).2.2.bd (!b)≠.asleep:=by
 rw[Dd.out_none hc];have e:(Dd.bell b).run (yp0 s R n) S=(λS2:YS=>if rdC S2.m (S2.rs b) (bE (!b))≠1 then (Ka.bool f',S2) else if S2.bd (!b)=.asleep then (.bool j',({ S2 with bd:=aC S2.bd (!b) .up }:YS).wr (!b) (.c (bE (!b)) 0)) else (.bool j',S2)) { S.fence b with qt:=aC (S.fence b).qt b j' }:=rfl;rw[e];have hr:∀ h:S.bd (!b)=.asleep,rdC (S.fence b).m ((S.fence b).rs b) (bE (!b))=1:=λh=>by
  have h0:(S.fence b).rs b=[]:=am;rw[h0,vG];show (S.m.putAllY (S.rs b)).c (bE (!b))=1;rw[kq λy hy i=>Z.ow b y hy i];exact(Z.sl (!b) (by rw[h];intro z;cases z)).1
 intro h;by_cases ha:S.bd (!b)=.asleep
 . have h1:=hr ha;have h2:({ S.fence b with qt:=aC (S.fence b).qt b j' }:YS).bd (!b)=.asleep:=ha;dsimp only at h;rw[Qr (by rw[h1];exact λz=>z rfl),Qq h2]at h;have h':aC S.bd (!b) .up (!b)=.asleep:=h;rw[am]at h';cases h'
 . dsimp only at h;split at h
   . exact ha h
   . split at h
     . rename_i w;exact ha w
     . exact ha h
theorem Sl.out (L:Sl S) (Z:Zz S) (g:S.Rg (yp0 s R n)) (x:Dd):Sl (x.out (yp0 s R n) S).2.2:=by
 cases hc:x.chk (yp0 s R n) S with
|some r=>rw[Dd.out_some hc];exact L
|none =>
  cases x with
 |ask wt =>
   have hu:S.bd f'=.up:=by
    by_cases h:S.bd f'=.up
    . exact h
    . rw[show (Dd.ask wt).chk (yp0 s R n) S=dk .deed from Qr h]at hc;cases hc
   rw[Dd.out_none hc];show Sl (match bO (yp0 s R n).n S.un with|some nm=>_|none=>_:Ka × YS).2;cases bO (yp0 s R n).n S.un with
  |none=>exact L
  |some nm=>exact L.work (b:=f') hu rfl rfl rfl rfl (λz=>by have z':aC S.qt f' f' f'=j':=z;rw[am]at z';cases z') (zU λe=>by cases e)
 |answer nm wt =>
   have hu:S.bd j'=.up:=by
    by_cases h:S.bd j'=.up
    . exact h
    . rw[show (Dd.answer nm wt).chk (yp0 s R n) S=dk .deed from Qr h]at hc;cases hc
   rw[Dd.out_none hc];exact L.work (b:=j') hu rfl rfl rfl rfl (λz=>by have z':aC S.qt j' f' j'=j':=z;rw[am]at z';cases z') (zU λe=>by cases e)
 |take =>
   have hu:S.bd j'=.up:=by
    by_cases h:S.bd j'=.up
    . exact h
    . rw[show Dd.take.chk (yp0 s R n) S=dk .deed from Qr h]at hc;cases hc
   rw[Dd.out_none hc];unfold Dd.run;by_cases h0:aB (yp0 s R n).p S.m (S.rs j') .asked .taken=0
   . rw[Qq h0];exact L
   . rw[Qr h0];have hx:∀ y∈[cR (yp0 s R n).p S.m (S.rs j') .taken],noW j' (S.qt j') y:=λy hy=>by
      rw[JY.mp hy];exact DE (λe=>by cases e) λe=>by cases e
     cases rdP S.m (S.rs j') f' (rdC S.m (S.rs j') .taken % (yp0 s R n).p.s) with
    |none=>exact L.work (b:=j') hu rfl rfl rfl rfl id hx
    |some nw=>exact L.work (b:=j') hu rfl rfl rfl rfl id hx
 |collect =>
   have hu:S.bd f'=.up:=by
    by_cases h:S.bd f'=.up
    . exact h
    . rw[show Dd.collect.chk (yp0 s R n) S=dk .deed from Qr h]at hc;cases hc
   rw[Dd.out_none hc];unfold Dd.run;by_cases h0:aB (yp0 s R n).p S.m (S.rs f') .answered .handed=0
   . rw[Qq h0];exact L
   . rw[Qr h0];have hx:∀ y∈[cR (yp0 s R n).p S.m (S.rs f') .handed],noW f' (S.qt f') y:=λy hy=>by
      rw[JY.mp hy];exact DE (λe=>by cases e) λe=>by cases e
     cases rdP S.m (S.rs f') j' (rdC S.m (S.rs f') .handed % (yp0 s R n).p.s) with
    |none=>exact L.work (b:=f') hu rfl rfl rfl rfl id hx
    |some nw=>exact L.work (b:=f') hu rfl rfl rfl rfl id hx
 |drain b =>
   rw[Dd.out_none hc];cases e:S.rs b with
  |nil=>rw[show (Dd.drain b).chk (yp0 s R n) S=dk .deed from Qq e]at hc;cases hc
  |cons x rest =>
    rw[(pj (q:=yp0 s R n) e).2];have hup:S.bd b=.up:=by
     by_cases h:S.bd b=.up
     . exact h
     . have:=L.row b h;rw[e]at this;cases this
    have hx:x∈S.rs b:=by rw[e];exact Km
    refine⟨λc h=>?_,λc y hy=>?_,λc h hq=>?_⟩
    . have hcb:c≠b:=λz=>h (by rw[z];exact hup)
      show aC S.rs b rest c=[]
      rw[aA hcb];exact L.row c h
    . have hy':y∈aC S.rs b rest c:=hy;by_cases hcb:c=b
      . subst hcb;rw[am]at hy';exact L.no c y (by rw[e];exact Kl _ hy')
      . rw[aA hcb]at hy';exact L.no c y hy'
    . have hcb:c≠b:=λz=>by subst z;have h':S.bd c=.asleep:=h;rw[hup]at h';cases h'
      have e':(!c)=b:=by rw[y6 hcb];cases b<;>rfl
      have hn:=L.no b x hx;have ec:(!b)=c:=(y6 hcb).symm;rw[<-e']at hn;have hq':S.qt (!c)=j':=hq;have n2:=hn.2 hq';have n1:=hn.1;have ecc:(!(!c))=c:=by cases c<;>rfl
      rw[ecc]at n1 n2;show (S.m.put x).c (lkA c)=(S.m.put x).c (lkB c);rw[wz n1,wz n2];exact L.ap c h hq'
 |lie b =>
   rw[Dd.out_none hc];have e:(Dd.lie b).run (yp0 s R n) S=(.none,{ (S.wr b (.c (bE b) 1)).fence b with bd:=aC S.bd b .lies }):=rfl;rw[e];have em:((S.wr b (.c (bE b) 1)).fence b).m=S.m.putAllY (S.rs b++[.c (bE b) 1]):=by show S.m.putAllY (aC S.rs b _ b)=_;rw[am]
   refine⟨λc h=>?_,λc y hy=>?_,λc h hq=>?_⟩
   . show aC (aC S.rs b _) b [] c=[]
     by_cases hcb:c=b
     . subst hcb;exact am
     . rw[aA hcb,aA hcb];refine L.row c λz=>h ?_
       show aC S.bd b .lies c=.up;rw[aA hcb];exact z
   . have hy':y∈aC (aC S.rs b (S.rs b++[.c (bE b) 1])) b [] c:=hy;by_cases hcb:c=b
     . subst hcb;rw[am]at hy';cases hy'
     . rw[aA hcb,aA hcb]at hy';exact L.no c y hy'
   . have hcb:c≠b:=λz=>by subst z;have h':aC S.bd c .lies c=.asleep:=h;rw[am]at h';cases h'
     have h':S.bd c=.asleep:=by have h':aC S.bd b .lies c=.asleep:=h;rw[aA hcb]at h';exact h'
     have e':(!c)=b:=by rw[y6 hcb];cases b<;>rfl
     have hq':S.qt (!c)=j':=hq;have ecc:(!(!c))=c:=by cases c<;>rfl
     have hn:∀ y∈S.rs b++[.c (bE b) 1],(∀ i,y≠.c (lkB c) i)/\∀ i,y≠.c (lkA c) i:=λy hy=>by
      have:=λhy=>L.no b y hy
      rw[<-e']at this;rcases KS.mp hy with w|w
      . have k:=this (by rw[e'];exact w);unfold noW at k;rw[ecc]at k;exact⟨k.1,k.2 hq'⟩
      . rw[JY.mp w];have k:noW (!c) j' (.c (bE b) 1):=wu;unfold noW at k;rw[ecc]at k;exact⟨k.1,k.2 rfl⟩
     show ((S.wr b (.c (bE b) 1)).fence b).m.c (lkA c)=((S.wr b (.c (bE b) 1)).fence b).m.c (lkB c);rw[em,kq λy hy i=>(hn y hy).1 i,kq λy hy i=>(hn y hy).2 i];exact L.ap c h' hq'
 |look b =>
   have hl:S.bd b=.lies:=by
    by_cases hl:S.bd b=.lies
    . exact hl
    . rw[show (Dd.look b).chk (yp0 s R n) S=dk .deed from Qr hl]at hc;cases hc
   have hr:S.rs b=[]:=L.row b (by rw[hl];intro z;cases z);rw[Dd.out_none hc];by_cases hh:(yp0 s R n).fk=j'/\swT (yp0 s R n) S b=j'
   . have e:(Dd.look b).run (yp0 s R n) S=(.bool j',{ (S.wr b (.c (bE b) 0)) with bd:=aC S.bd b .up }):=Qq hh;rw[e];refine⟨λc h=>?_,λc y hy=>?_,λc h hq=>?_⟩
     . have hcb:c≠b:=λz=>by subst z;exact h (show aC S.bd c .up c=.up from am)
       show aC S.rs b _ c=[]
       rw[aA hcb];refine L.row c λz=>h ?_
       show aC S.bd b .up c=.up;rw[aA hcb];exact z
     . have hy':y∈aC S.rs b (S.rs b++[.c (bE b) 0]) c:=hy;by_cases hcb:c=b
       . subst hcb;rw[am,hr]at hy';rw[JY.mp hy'];exact wu
       . rw[aA hcb]at hy';exact L.no c y hy'
     . have h':aC S.bd b .up c=.asleep:=h;by_cases hcb:c=b
       . rw[hcb,am]at h';cases h'
       . rw[aA hcb]at h';exact L.ap c h' hq
   . have e:(Dd.look b).run (yp0 s R n) S=(.bool f',{ S with bd:=aC S.bd b .asleep }):=Qr hh;rw[e];refine⟨λc h=>?_,λc y hy=>L.no c y hy,λc h hq=>?_⟩
     . by_cases hcb:c=b
       . rw[hcb];exact hr
       . refine L.row c λz=>h ?_
         show aC S.bd b .asleep c=.up;rw[aA hcb];exact z
     . have h':aC S.bd b .asleep c=.asleep:=h;by_cases hcb:c=b
       . subst hcb;have hs:=I8 g c;rw[hr,vG,vG]at hs;show S.m.c (lkA c)=S.m.c (lkB c);by_cases z:S.m.c (lkA c)=S.m.c (lkB c)
         . exact z
         . exact absurd ⟨rfl,by rw[hs];exact Qt z⟩ hh
       . rw[aA hcb]at h';exact L.ap c h' hq
 |bell b =>
   have hup:S.bd b=.up:=by
    by_cases h:S.bd b=.up
    . exact h
    . rw[show (Dd.bell b).chk (yp0 s R n) S=dk .deed from Qr h]at hc;cases hc
   have hrg:=Z.rung hc;rw[Dd.out_none hc]at hrg |-;have e:(Dd.bell b).run (yp0 s R n) S=(λS2:YS=>if rdC S2.m (S2.rs b) (bE (!b))≠1 then (Ka.bool f',S2) else if S2.bd (!b)=.asleep then (.bool j',({ S2 with bd:=aC S2.bd (!b) .up }:YS).wr (!b) (.c (bE (!b)) 0)) else (.bool j',S2)) { S.fence b with qt:=aC (S.fence b).qt b j' }:=rfl;rw[e]at hrg |-;have nb:(!b)≠b:=Fp b;have r2:∀ c,S.bd c≠.up->aC S.rs b [] c=[]:=λc h=>by
    by_cases hcb:c=b
    . rw[hcb];exact am
    . rw[aA hcb];exact L.row c h
   have n2:∀ c,∀ x∈aC S.rs b [] c,noW c (aC S.qt b j' c) x:=λc x hx=>by
    by_cases hcb:c=b
    . rw[hcb,am]at hx;cases hx
    . rw[aA hcb]at hx |-;exact L.no c x hx
   have done:∀ T:YS,(∀ c,T.bd c≠.up->T.rs c=[])->(∀ c,∀ x∈T.rs c,noW c (T.qt c) x)->T.bd b=.up->T.bd (!b)≠.asleep->Sl T:=λT h1 h2 h3 h4=>⟨h1,h2,λc h=>by
    by_cases hcb:c=b
    . rw[hcb,h3]at h;cases h
    . rw[y6 hcb]at h;exact absurd h h4⟩
   dsimp only at hrg |-;by_cases c1:rdC (S.fence b).m ((S.fence b).rs b) (bE (!b))≠1
   . rw[Qq c1]at hrg |-;exact done _ r2 n2 hup hrg
   . rw[Qr c1]at hrg |-;by_cases c2:(S.fence b).bd (!b)=.asleep
     . rw[Qq c2]at hrg |-;refine done _ (λc h=>?_) (λc x hx=>?_) ?_ hrg
       . have h':aC S.bd (!b) .up c≠.up:=h;have hcb:c≠!b:=λz=>by subst z;exact h' am
         rw[aA hcb]at h';show aC (aC S.rs b []) (!b) _ c=[]
         rw[aA hcb];exact r2 c h'
       . have hx':x∈aC (aC S.rs b []) (!b) (aC S.rs b [] (!b)++[.c (bE (!b)) 0]) c:=hx;by_cases hcb:c=!b
         . subst hcb;rw[am]at hx';rcases KS.mp hx' with w|w
           . exact n2 _ x w
           . rw[JY.mp w];exact wu
         . rw[aA hcb]at hx';exact n2 c x hx'
       . show aC S.bd (!b) .up b=.up;rw[aA nb.symm];exact hup
     . rw[Qr c2]at hrg |-;exact done _ r2 n2 hup hrg
end
end L2
namespace L2
open PySem
structure K35 (s R:Int) (n:Nat) (S:YS) (es:List Ev):Prop where
 q:Q31 s R n S es
 z:Zz S
 g:S.Rg (yp0 s R n)
 l:Sl S
 w:WkE es
 r:qN (es.map o3)=JZ
section
variable {s R:Int}{n:Nat}{S:YS}{es:List Ev}
theorem K35.zero (hs:0 < s) (hs8:s <= 8) (hR:2 <= R) (n9:n <= 9):K35 s R n YS.zero [] :=
 ⟨Q31.zero hs hs8 hR n9,Zz.zero,Rng.zero (show 0 < s * R from Int.mul_pos hs (by omega)),Sl.zero,λ_ h=>absurd h KL,rfl⟩
theorem K35.out (K:K35 s R n S es) (x:Dd):∃ fs:List Ev,fs.length <= 1/\x.hap (x.out (yp0 s R n) S).1 (x.out (yp0 s R n) S).2.1=fs.map evD/\K35 s R n (x.out (yp0 s R n) S).2.2 (es++fs):=by
 obtain⟨fs,h1,h2,Q'⟩:=K.q.out x
 suffices hh:WkE (es++fs)/\qN ((es++fs).map o3)=JZ by
  exact⟨fs,h1,h2,Q',K.z.out x,Er K.q.ok K.g x,K.l.out K.z K.g x,hh.1,hh.2⟩
 cases fs with
|nil=>rw[KC];exact⟨K.w,K.r⟩
|cons e r =>
  cases r with
 |cons e' r'=>exact absurd (Nat.le_of_succ_le_succ h1) (Nat.not_succ_le_zero _)
 |nil =>
   have he:e.1.wk=j':=by rcases FG h2 with z|z|z|z<;>rw[z]<;>rfl
   refine⟨λy hy=>?_,?_⟩
   . rcases KS.mp hy with u|u
     . exact K.w y u
     . rw[JY.mp u];exact he
   . rw[K8];exact yj K.r (K.q.fit Q' he K.w)
def Aw {a t N:Int}(h0:0 <= a - t) (h1:a - t < N):(a % N - t % N) % N=a - t:=by
 rw[<-Int.sub_emod];exact Int.emod_eq_of_lt h0 h1
def K35.apart (K:K35 s R n S es) (h0:S.rs f'=[]) (h1:S.rs j'=[]) (b:Bool):(S.m.c (lkA b) - S.m.c (lkB b)) % (s * R)=((th (lkA b) es).length:Int) - (th (lkB b) es).length:=by
 have M:=K.q.q.m;have C:=M.cts;unfold M30 at M;have hs:=M.s0;have hR:=M.R2;have hN:s < s * R:=by
  have:s * 2 <= s * R:=Int.mul_le_mul_of_nonneg_left hR (by omega);omega
 have la:=C.la;have lb:=C.lb;have ta:=C.ta;have hb:=C.hb;have ma:=C.ma;have mt:=C.mt;have mb:=C.mb;have mh:=C.mh;rw[h0]at ma mh ta;rw[h1]at mt mb hb;have e0:∀ k,(nC k []:Nat)=0:=λ_=>rfl
 rw[e0]at ma mt mb mh ta hb;rw[show ((0:Nat):Int)=0 from rfl,Int.sub_zero]at ma mt mb mh ta hb;cases b with
|false =>
  show (S.m.c .answered - S.m.c .handed) % (s * R)=((th .answered es).length:Int) - (th .handed es).length;rw[mb,mh];exact Aw (by omega) (by omega)
|true =>
  show (S.m.c .asked - S.m.c .taken) % (s * R)=((th .asked es).length:Int) - (th .taken es).length;rw[ma,mt];exact Aw (by omega) (by omega)
theorem K35.asleep (K:K35 s R n S es) {b:Bool}(h:S.bd b=.asleep):S.m.c (bE b)=1/\(S.qt (!b)=j'->(S.m.c (lkA b) - S.m.c (lkB b)) % (s * R)=0) :=
 ⟨(K.z.sl b (by rw[h];intro z;cases z)).1,λhq=>by rw[K.l.ap b h hq,Int.sub_self,Int.zero_emod]⟩
end
end L2
namespace L2
open PySem PySem.Spec PyProof.Rows
inductive Hx where
|h (x:Hap)
|n (b:Bool)
def Hx.w:Hx->Wd
|.h x=>x.w
|.n f'=>.handed
|.n j'=>.taken
def Hx.d1:Hx->Ka
|.h x=>.int x.n
|.n _=>.none
def Hx.d2:Hx->Ka
|.h x=>.int x.o
|.n _=>.none
def Hx.v1:Hx->V
|.h x=>.int x.n
|.n _=>.non
def Hx.v2:Hx->V
|.h x=>.int x.o
|.n _=>.non
def Hx.d (x:Hx):Ka:=mV x.w.key x.d1 x.d2
def XV (H:Hp):Hx->V->Prop:=λh v=>∃ c,v=.ref c/\H c=dk (.tup [.str h.w.key,h.v1,h.v2])
def SX (H:Hp) (l:D') (hs:List Hx):Prop:=∃ ts,H l=dk (.lst ts)/\Kx (XV H) hs ts
def XV.keep {H H':Hp}(ht:Kt H H') {h:Hx}{v:V}(q:XV H h v):XV H' h v:=by
 obtain⟨c,e,x⟩:=q;exact⟨c,e,ht _ _ x⟩
def SX.same {H H':Hp}{l:D'}{hs:List Hx}(h:SX H l hs) (s:bL H H'):SX H' l hs:=by
 obtain⟨ts,e,p⟩:=h;exact⟨ts,s _ _ e,Paired.mapP p λ_ _ q=>q.keep s.kt⟩
theorem CK {H:Hp}:∀ {hs:List Hx}{ts:List V},DVs H (hs.map Hx.d) ts->Kx (XV H) hs ts
|[],ts,h=>by
  have:ts=[]:=h;rw[this];exact .nil
|x :: hs,ts,h=>by
  obtain⟨v,r,rfl,h1,h2⟩:=h;obtain⟨t,vs,rfl,ht,v1,r1,rfl,d1,v2,r2,rfl,d2,v3,r3,rfl,d3,e3⟩:=h1;have e3':r3=[]:=e3;subst e3';have z1:v1=.str x.w.key:=d1;have z2:v2=x.v1:=by cases x<;>exact d2
  have z3:v3=x.v2:=by cases x<;>exact d3
  subst z1 z2 z3;exact .cons ⟨t,rfl,ht⟩ (CK h2)
theorem EG {H:Hp}:∀ {A:List Hx}{ts:List V}{k:Nat}{y:V},Kx (XV H) A ts->ts[k]?=dk y->∃ h c,A[k]?=dk h/\y=.ref c/\H c=dk (.tup [.str h.w.key,h.v1,h.v2])
|_,_,_,_,.nil,h=>by cases h
|h :: _,_ :: _,0,_,.cons ⟨c,e,q⟩ _,hk=>by cases hk;exact⟨h,c,rfl,e,q⟩
|_ :: _,_ :: _,k+1,_,.cons _ t,hk=>EG (k:=k) t hk
theorem Du {H:Hp}:∀ {hs:List Hap}{ts:List V},Kx (XV H) (hs.map Hx.h) ts->Kx (HV H) hs ts
|[],_,.nil=>.nil
|_ :: _,_,.cons ⟨c,e,q⟩ t=>.cons ⟨c,e,q⟩ (Du t)
def c7:List Hap->List Hx->Option Nat
|_,[]=>JZ
|ah,.h x :: t=>if eB ah x=j' then c7 (ah++[x]) t else dk ah.length
|ah,.n _ :: _=>dk ah.length
def rls:List Hx->List Hap
|[]=>[]
|.h x :: t=>x :: rls t
|.n _ :: t=>rls t
theorem jQ:∀ {hs:List Hx}{ah:List Hap},c7 ah hs=JZ->hs=(rls hs).map .h
|[],_,_=>rfl
|.h x :: t,ah,h=>by
  have h':(if eB ah x=j' then c7 (ah++[x]) t else dk ah.length)=JZ:=h;split at h'
  . show Hx.h x :: t=.h x :: (rls t).map .h;rw[<-jQ h']
  . cases h'
|.n _ :: _,_,h=>by cases h
theorem sH:∀ (hs ah:List Hap),c7 ah (hs.map .h)=ju ah hs
|[],_=>rfl
|x :: t,ah=>by
  show (if eB ah x=j' then c7 (ah++[x]) (t.map .h) else dk ah.length)=if eB ah x=j' then ju (ah++[x]) t else dk ah.length
  rw[sH t]
theorem Gx:∀ hs:List Hap,rls (hs.map .h)=hs
|[]=>rfl
|x :: t=>by show x :: rls (t.map .h)=x :: t;rw[Gx t]
def oG {hs:List Hx}{ah:List Hap}{i:Nat}{x:Hap}(hi:hs[i]?=dk (.h x)):c7 ah (hs.drop i)=if eB ah x=j' then c7 (ah++[x]) (hs.drop (i+1)) else dk ah.length:=by
 have hlt:i < hs.length:=(Kw.mp hi).1;rw[L4 hlt,(Kw.mp hi).2];rfl
def qQ {hs:List Hx}{ah:List Hap}{i:Nat}{b:Bool}(hi:hs[i]?=dk (.n b)):c7 ah (hs.drop i)=dk ah.length:=by
 have hlt:i < hs.length:=(Kw.mp hi).1;rw[L4 hlt,(Kw.mp hi).2];rfl
def GP {hs:List Hx}{ah:List Hap}{i:Nat}{x:Hap}(hi:hs[i]?=dk (.h x)) (h:hs.take i=ah.map .h):hs.take (i+1)=(ah++[x]).map .h:=by
 rw[take_succ,hi,h,K8];rfl
def IB {hs:List Hx}{ah:List Hap}{i:Nat}(hi:i <= hs.length) (h:hs.take i=ah.map .h):ah.length=i:=by
 have:=congrArg LN h;rw[Lu,Kv]at this;omega
theorem jr:∀ (hs ah:List Hap) (un uh:List (Int × Int)) (go do':List Int),JI ah un uh go do'->ju ah hs=JZ->∃ un' uh' go' do2,JI (ah++hs) un' uh' go' do2
|[],ah,un,uh,go,do',J,_=>by rw[KC];exact⟨_,_,_,_,J⟩
|x :: t,ah,un,uh,go,do',J,h=>by
  have h':(if eB ah x=j' then ju (ah++[x]) t else dk ah.length)=JZ:=h;by_cases q:eB ah x=j'
  . rw[Qq q]at h';have e:ah++x :: t=(ah++[x])++t:=by rw[Ku];rfl
    rw[e];rw[<-J.fits]at q;obtain⟨w,n,o⟩:=x;cases w with
   |asked =>
     have q':(!go.contains n)=j':=q;have hn:n ∉ go:=by simpa using q'
     exact jr t _ _ _ _ _ (J.asked hn) h'
   |taken=>exact jr t _ _ _ _ _ (J.taken (of_decide_eq_true q)).1 h'
   |answered =>
     have q':do'.contains n=j':=q;have hn:n∈do':=by simpa using q'
     exact jr t _ _ _ _ _ (J.answered hn) h'
   |handed=>exact jr t _ _ _ _ _ (J.handed (of_decide_eq_true q)).1 h'
  . rw[Qr q]at h';cases h'
def lkW:Bool->Wd
|false=>.answered
|true=>.asked
def lkX:Bool->Wd
|false=>.handed
|true=>.taken
def wQ {hs:List Hap}(h:qN hs=JZ) (b:Bool):(thH (lkX b) hs).length <= (thH (lkW b) hs).length:=by
 obtain⟨un,uh,go,do',J⟩:=jr hs [] _ _ _ _ JI.zero h;cases b
 . exact J.lh
 . exact J.lt
def DG {X:Cx}:OpR X (Lg .IsNot) (λx y H Q=>∃ b c,x=.bl b/\y=.bl c/\Q (.bl (b != c)) H):=by
 intro Mq s σ H x y v u Q I rx ry h;obtain⟨b,c,rfl,rfl,q⟩:=h;cases rx;cases ry;exact isnot_bool (bv I q rfl)
structure RA where
 ld:D'
 sn:D'
 l:Bool->D'
 ud:D'
 tk:D'
def RA.own (z:RA) (c:D'):Prop:=c=z.ld\/c=z.sn\/c=z.l j'\/c=z.l f'\/c=z.ud\/c=z.tk
def ldK (l:Bool->D'):List (Key × V):=[(.inr "taken",.ref (l j')),(.inr "handed",.ref (l f'))]
def snK (f:Bool->Nat):List (Key × V):=[(.inr "taken",.int (f j')),(.inr "handed",.int (f f'))]
def zF (l:Bool->D') (b:Bool):mw (ldK l) (.inr (lkX b).key)=dk (.ref (l b)):=by
 unfold ldK;cases b
 . exact(iU (mY (by decide +kernel))).trans (gz rfl)
 . exact gz rfl
def zE (f:Bool->Nat) (b:Bool):mw (snK f) (.inr (lkX b).key)=dk (.int (f b)):=by
 unfold snK;cases b
 . exact(iU (mY (by decide +kernel))).trans (gz rfl)
 . exact gz rfl
def DQ (f g:Bool->Nat) (b:Bool) (h:g b=f b+1) (h2:g (!b)=f (!b)):lB (snK f) (.inr (lkX b).key) (.int ((f b:Int)+1))=snK g:=by
 unfold lB;rw[kz,zE];simp only[isSome_some,if_true];unfold snK;simp only[K1,map_nil];cases b
 . rw[show lkX f'=.handed from rfl,Qr (mY (by decide +kernel)),Qq (show (Sum.inr "handed":Key)=.inr (Wd.key .handed) from rfl),h,show g j'=f j' from h2];rfl
 . rw[show lkX j'=.taken from rfl,Qq (show (Sum.inr "taken":Key)=.inr (Wd.key .taken) from rfl),Qr (mY (by decide +kernel)),h,show g f'=f f' from h2];rfl
def D3 {k1 k2:Key}{v1 v2:V}(h:k1≠k2):rn [] [(k1,v1),(k2,v2)]=[(k1,v1),(k2,v2)]:=by
 show lB (lB [] k1 v1) k2 v2=_;rw[wW _ xa,List.nil_append,wW _ ((iU h).trans xa)];rfl
structure RS (H:Hp) (z:RA) (ah:List Hap) (go do':List Int):Prop where
 ld:H z.ld=dk (.dK (ldK z.l))
 sn:H z.sn=dk (.dK (snK λb=>(thH (lkX b) ah).length))
 l:∀ b,TL H (z.l b) (thH (lkW b) ah)
 ud:H z.ud=dk (.dK (gK go))
 tk:H z.tk=dk (.dK (gK do'))
 nl:z.l j'≠z.l f'
 n1:z.ld≠z.sn
 n2:z.ld≠z.ud
 n3:z.ld≠z.tk
 n4:z.sn≠z.ud
 n5:z.sn≠z.tk
 n6:z.ud≠z.tk
section
variable {H H':Hp}{z:RA}{ah ah':List Hap}{go do' go2 do2:List Int}
theorem RS.same (R:RS H z ah go do') (s:bL H H'):RS H' z ah go do':=⟨s _ _ R.ld,s _ _ R.sn,λb=>(R.l b).same s,s _ _ R.ud,s _ _ R.tk,R.nl,R.n1,R.n2,R.n3,R.n4,R.n5,R.n6⟩
def RS.ne (R:RS H z ah go do') (b:Bool) {c:D'}{kv:List (Key × V)}(h:H c=dk (.dK kv)):z.l b≠c:=λy=>by
 obtain⟨ts,e,_⟩:=R.l b;rw[y,h]at e;cases e
def RS.setUd (R:RS H z ah go do') {kv:List (Key × V)}(h:kv=gK go2):RS (upd H z.ud (.dK kv)) z ah go2 do' :=
 ⟨by rw[ac R.n2];exact R.ld,by rw[ac R.n4];exact R.sn,λb=>(R.l b).up R.ud (λ_ z=>by cases z) (R.ne b R.ud) _,by rw[a8,h],by rw[ac R.n6.symm];exact R.tk,R.nl,R.n1,R.n2,R.n3,R.n4,R.n5,R.n6⟩
def RS.setTk (R:RS H z ah go do') {kv:List (Key × V)}(h:kv=gK do2):RS (upd H z.tk (.dK kv)) z ah go do2 :=
 ⟨by rw[ac R.n3];exact R.ld,by rw[ac R.n5];exact R.sn,λb=>(R.l b).up R.tk (λ_ z=>by cases z) (R.ne b R.tk) _,by rw[ac R.n6];exact R.ud,by rw[a8,h],R.nl,R.n1,R.n2,R.n3,R.n4,R.n5,R.n6⟩
def RS.lay (R:RS H z ah go do') {b:Bool}{n o:Int}{ts:List V}(h:Kx (PV H) (thH (lkW b) ah++[(n,o)]) ts):RS (upd H (z.l b) (.lst ts)) z (ah++[⟨lkW b,n,o⟩]) go do':=by
 obtain⟨t0,e0,_⟩:=R.l b;have ht:=gH e0 (λ_ z=>by cases z) (.lst ts);have nb:z.l (!b)≠z.l b:=by cases b;exact R.nl;exact R.nl.symm
 have nn:∀ {c kv},H c=dk (.dK kv)->upd H (z.l b) (.lst ts) c=dk (.dK kv):=λe=>by rw[ac (R.ne b e).symm];exact e
 refine⟨nn R.ld,?_,λc=>?_,nn R.ud,nn R.tk,R.nl,R.n1,R.n2,R.n3,R.n4,R.n5,R.n6⟩
 . rw[nn R.sn];congr 4;funext c;rw[cn,Qr (by cases b<;>cases c<;>decide)]
 . by_cases hc:c=b
   . subst hc;rw[cn,Qq rfl];exact⟨ts,a8,Paired.mapP h λ_ _ q=>q.keep ht⟩
   . have hc':c=!b:=by cases b<;>cases c<;>first|rfl|exact absurd rfl hc
     subst hc';rw[cn,Qr (by cases b<;>decide)];exact(R.l (!b)).up e0 (λ_ z=>by cases z) nb _
def RS.fetch (R:RS H z ah go do') {b:Bool}{n o:Int}{kv:List (Key × V)}(h:kv=snK λc=>(thH (lkX c) (ah++[⟨lkX b,n,o⟩])).length):RS (upd H z.sn (.dK kv)) z (ah++[⟨lkX b,n,o⟩]) go do':=by
 refine⟨by rw[ac R.n1];exact R.ld,by rw[a8,h],λc=>?_,by rw[ac R.n4.symm];exact R.ud,by rw[ac R.n5.symm];exact R.tk,R.nl,R.n1,R.n2,R.n3,R.n4,R.n5,R.n6⟩;rw[cn,Qr (by cases b<;>cases c<;>decide)];exact(R.l c).up R.sn (λ_ z=>by cases z) (R.ne c R.sn) _
end
def Ic (b:Bool):(Hx.n b).w=lkX b:=by cases b<;>rfl
def HK (b:Bool):(lkX b).key≠"asked":=by cases b<;>decide +kernel
def HM (b:Bool):(lkX b).key≠"answered":=by cases b<;>decide +kernel
def Gu (ah:List Hap):Hx->Bool
|.h x=>eB ah x
|.n _=>f'
def uK (ah:List Hap) (b:Bool) (n o:Int):eB ah ⟨lkX b,n,o⟩=decide (((thH (lkW b) ah).drop (thH (lkX b) ah).length).take 1=[(n,o)]):=by cases b<;>rfl
def C9 {ah:List Hap}{x:Hx}{b:Bool}(hx:x.w=lkX b) (h:(thH (lkW b) ah).length <= (thH (lkX b) ah).length):Gu ah x=f':=by
 cases x with
|n _=>rfl
|h y =>
  obtain⟨w,n,o⟩:=y;have hw:w=lkX b:=hx;subst hw;show eB ah _=f';rw[uK,drop_of_length_le h];exact decide_eq_false λz=>by cases z
def BP {A:List (Int × Int)}{T:Nat}(h:T < A.length):(A.drop T).take 1=[A[T]]:=by rw[L4 h];rfl
def pvX (x:Hx):Ka:=.tuple [x.d1,x.d2]
def Dw {ah:List Hap}{x:Hx}{b:Bool}(hx:x.w=lkX b) (h:(thH (lkX b) ah).length < (thH (lkW b) ah).length):Kn (pvD (thH (lkW b) ah)[(thH (lkX b) ah).length]) (pvX x)=Gu ah x:=by
 cases x with
|n _ =>
  show Kn (.tuple [.int _,.int _]) (.tuple [.none,.none])=f';simp[Kn,Ka.eqvAll]
|h y =>
  obtain⟨w,n,o⟩:=y;have hw:w=lkX b:=hx;subst hw;show Kn (pvD _) (pvD (n,o))=eB ah _;rw[GO,uK,BP h];by_cases z:(thH (lkW b) ah)[(thH (lkX b) ah).length]=(n,o)
  . rw[Qt z,Qt (by rw[z])]
  . rw[decide_eq_false z,decide_eq_false λy=>z (by injection y)]
def EW (x:Hx):sF (pvX x):=by cases x<;>exact⟨rfl,by show 1 <= 16;decide⟩
def wN (q:YP) (S:YS) (b:Bool):Int:=(S.m.c (lkA b) - S.m.c (lkB b)) % (q.p.s * q.p.R)
def sO (q:YP) (S:YS) (hs:List Hap) (b:Bool):Bool:=decide (wN q S b≠(((thH (lkW b) hs).length - (thH (lkX b) hs).length:Nat):Int))
def ovB (q:YP) (S:YS) (b:Bool):Bool:=decide (S.bd b=.asleep) && (S.qt (!b) && decide (wN q S b≠0))
def B9 (q:YP) (S:YS) (hs:List Hx):Bool:=if c7 [] hs=JZ then (if S.rs f'=[]/\S.rs j'=[] then (sO q S (rls hs) j' || (sO q S (rls hs) f' || (ovB q S f' || ovB q S j'))) else f') else j'
section
variable {q:YP}{S:YS}{hs:List Hx}
def B6 (h:c7 [] hs≠JZ):B9 q S hs=j':=Qr h
def zQ (h:c7 [] hs=JZ) (h2:¬ (S.rs f'=[]/\S.rs j'=[])):B9 q S hs=f':=(Qq h).trans (Qr h2)
def wT (h:c7 [] hs=JZ) (h2:S.rs f'=[]/\S.rs j'=[]):B9 q S hs=(sO q S (rls hs) j' || (sO q S (rls hs) f' || (ovB q S f' || ovB q S j'))):=(Qq h).trans (Qq h2)
def A8 (h:c7 [] hs=JZ) (h2:S.rs f'=[]/\S.rs j'=[]) (b:Bool) (h3:sO q S (rls hs) b=j'\/ovB q S b=j'):B9 q S hs=j':=by
 rw[wT h h2];cases b<;>rcases h3 with h|h<;>rw[h]<;>simp
def FB (h:c7 [] hs=JZ) (h2:S.rs f'=[]/\S.rs j'=[]) (h3:∀ b,sO q S (rls hs) b=f'/\ovB q S b=f'):B9 q S hs=f':=by
 rw[wT h h2,(h3 j').1,(h3 f').1,(h3 j').2,(h3 f').2];rfl
def ES (h:c7 [] hs=JZ) (b:Bool):sO q S (rls hs) b=decide (wN q S b≠((thH (lkW b) (rls hs)).length:Int) - (thH (lkX b) (rls hs)).length):=by
 have e:=jQ h;have h':qN (rls hs)=JZ:=by rw[e,sH]at h;exact h
 have l:=wQ h' b;unfold sO;rw[show (((thH (lkW b) (rls hs)).length - (thH (lkX b) (rls hs)).length:Nat):Int)=((thH (lkW b) (rls hs)).length:Int) - (thH (lkX b) (rls hs)).length by omega]
def yW (ok:q.Ok) (b:Bool):0 <= wN q S b:=Mj _ (by have:=ok.ok.sR;omega)
end
def Dd.trn (x:Dd) (f:Bool->Bool):Bool->Bool:=match x with
|.ask _=>aC f f' f'
|.answer _ _=>aC f j' f'
|.bell b=>aC f b j'
|_=>f
def A0 {q:YP}{S:YS}{wt:Int}(h:(Dd.ask wt).chk q S=JZ):∃ nm,bO q.n S.un=dk nm:=by
 have h':(if S.bd f'=.up then (if aB q.p S.m (S.rs f') .asked .taken=q.p.s then dk Rf.full else match bO q.n S.un with|none=>dk Rf.name|some _=>JZ) else dk Rf.deed)=JZ:=h;split at h'
 . split at h'
   . cases h'
   . cases e:bO q.n S.un with
    |none=>rw[e]at h';cases h'
    |some nm=>exact⟨nm,rfl⟩
 . cases h'
def EV {q:YP}{S:YS}{x:Dd}(h:x.chk q S=JZ):(x.run q S).2.qt=x.trn S.qt:=by
 cases x with
|ask wt =>
  obtain⟨nm,e⟩:=A0 h;show (match bO q.n S.un with|some nm=>_|none=>_:Ka × YS).2.qt=_;rw[e];rfl
|answer nm wt=>rfl
|take =>
  unfold Dd.run;by_cases h0:aB q.p S.m (S.rs j') .asked .taken=0
  . rw[Qq h0];rfl
  . rw[Qr h0];cases rdP S.m (S.rs j') f' (rdC S.m (S.rs j') .taken % q.p.s)<;>rfl
|collect =>
  unfold Dd.run;by_cases h0:aB q.p S.m (S.rs f') .answered .handed=0
  . rw[Qq h0];rfl
  . rw[Qr h0];cases rdP S.m (S.rs f') j' (rdC S.m (S.rs f') .handed % q.p.s)<;>rfl
|bell b =>
  have aux:∀ S2:YS,(if rdC S2.m (S2.rs b) (bE (!b))≠1 then (Ka.bool f',S2) else if S2.bd (!b)=.asleep then (.bool j',({ S2 with bd:=aC S2.bd (!b) .up }:YS).wr (!b) (.c (bE (!b)) 0)) else (.bool j',S2)).2.qt=S2.qt:=λS2=>by
   split
   . rfl
   . split<;>rfl
  refine(aux { (if q.fb then S.fence b else S) with qt:=aC (if q.fb then S.fence b else S).qt b j' }).trans ?_;show aC (if q.fb then S.fence b else S).qt b j'=aC S.qt b j';cases q.fb<;>rfl
|lie b =>
  show (if q.fl then (S.wr b (.c (bE b) 1)).fence b else S.wr b (.c (bE b) 1)).qt=S.qt;cases q.fl<;>rfl
|look b =>
  show (if _ then _ else _:Ka × YS).2.qt=S.qt;split<;>rfl
|drain b =>
  show (match S.rs b with|x :: rest=>_|[]=>_:Ka × YS).2.qt=S.qt;cases S.rs b<;>rfl
end L2
namespace L2
open PySem
def Fu {e:Ev}(h:e.1.wk=j'):(Hx.h (o3 e)).d=evD e:=by
 obtain⟨c,n,o⟩:=e;cases c<;>first|rfl|cases h
theorem zB:∀ {es:List Ev},WkE es->((es.map o3).map Hx.h).map Hx.d=es.map evD
|[],_=>rfl
|e :: es,h=>by
  rw[K1,K1,K1,K1,Fu (h e Km),zB λx hx=>h x (Kl _ hx)]
section
variable {s R:Int}{n:Nat}{S:YS}{es:List Ev}
def K35.hx (K:K35 s R n S es):S.hs=((es.map o3).map Hx.h).map Hx.d:=by rw[zB K.w];exact K.q.q.hs
def K35.right (K:K35 s R n S es):c7 [] ((es.map o3).map Hx.h)=JZ:=by rw[sH];exact K.r
def K35.err (K:K35 s R n S es):B9 (yp0 s R n) S ((es.map o3).map Hx.h)=f':=by
 unfold B9;rw[Qq K.right,Gx];split
 . rename_i h;have hm:∀ b,sO (yp0 s R n) S (es.map o3) b=f':=λb=>by
    unfold sO;refine decide_eq_false λz=>z ?_
    have a:=K.apart h.1 h.2 b;have l:=wQ K.r b;have e1:thH (lkW b) (es.map o3)=th (lkA b) es:=by cases b;exact thE (k:=.answered) rfl K.w;exact thE (k:=.asked) rfl K.w
    have e2:thH (lkX b) (es.map o3)=th (lkB b) es:=by cases b;exact thE (k:=.handed) rfl K.w;exact thE (k:=.taken) rfl K.w
    rw[e1,e2]at l |-;show (S.m.c (lkA b) - S.m.c (lkB b)) % (s * R)=_;rw[a];omega
   have ho:∀ b,ovB (yp0 s R n) S b=f':=λb=>by
    unfold ovB;by_cases z:S.bd b=.asleep
    . rw[Qt z,Bool.true_and];cases hq:S.qt (!b) with
     |false=>rfl
     |true =>
       have:wN (yp0 s R n) S b=0:=(K.asleep z).2 hq;rw[this];rfl
    . rw[decide_eq_false z];rfl
   rw[hm,hm,ho,ho];rfl
 . rfl
end
end L2
set_option maxHeartbeats 4000000
namespace My
open PySem L2
local macro_rules
 |`($x∣$y)=>`(@E1 _ _ _ _ _ $x $y (by rfl))
 |`($x∪$y)=>`(@Cm _ _ _ _ _ $x $y)
 |`($x∩$y)=>`(@aI _ _ _ _ _ _ _ aH $x $y (fun _ _ => rfl))
 |`($x⊆$y)=>`(@aI _ _ _ _ _ _ _ ba $x $y (fun _ _ => rfl))
 |`($x⁻¹)=>`(@ar _ _ _ (@GB _ _ _ _ $x))
def top (i:Nat):K0:=PySem.Challenge.pw_askring_k35_whole_nothing_lost_nobody_sl.main.body.getD i (.Pass ⟨0,0,0,0⟩)
abbrev gY:K0:=top 2
abbrev mX:K0:=top 3
abbrev nk:K0:=top 4
abbrev iM:K0:=top 8
abbrev jL:K0:=aD (top 9) 0
abbrev iu:K0:=aD (top 9) 1
abbrev gW:K0:=aD (top 9) 2
abbrev fU:K0:=aD (top 9) 3
abbrev cZ:K0:=aD (top 9) 4
abbrev mS:K0:=aD (top 9) 5
abbrev jz:K0:=aD (top 9) 6
abbrev iW:K0:=aD (top 11) 0
abbrev jp:K0:=aD (top 11) 1
abbrev jb:K0:=aD (top 11) 2
abbrev ja:K0:=top 12
abbrev iZ:K0:=top 13
abbrev jB:K0:=aD (top 21) 0
abbrev eT:K0:=aD (top 21) 2
abbrev fo:K0:=aD (top 21) 3
abbrev mP:K0:=aD (top 21) 4
abbrev gR:K0:=aD (top 21) 5
abbrev cx:K0:=aD (top 21) 7
abbrev iR:K0:=aD (top 23) 0
abbrev jx:K0:=aD (top 23) 2
abbrev cX:K0:=aD (top 23) 3
abbrev gU:K0:=aD (top 23) 4
abbrev iP:K0:=aD (top 23) 5
abbrev cc:K0:=aD (top 23) 6
abbrev iJ:K0:=aD (top 25) 0
abbrev iL:K0:=aD (top 25) 2
abbrev io:K0:=aD (top 25) 3
abbrev iy:K0:=aD (top 25) 4
abbrev jY:K0:=aD (top 25) 5
abbrev gM:K0:=aD (top 25) 6
abbrev iD:K0:=aD (top 25) 7
abbrev nv:K0:=top 30
abbrev pM:K0:=top 31
abbrev p9:K0:=top 32
abbrev pi:K0:=top 33
abbrev jq:K0:=aD (top 34) 0
abbrev l8:K0:=aD (top 34) 1
abbrev dZ:K0:=aD (top 34) 2
abbrev jU:K0:=aD (top 34) 3
abbrev gP:K0:=aD (top 34) 5
abbrev fR:K0:=aD (top 34) 6
abbrev lr:K0:=aD (top 34) 7
abbrev jH:K0:=aD (top 34) 8
abbrev jS:K0:=aD (top 34) 11
abbrev eN:K0:=aD (top 34) 12
abbrev fq:K0:=aD (top 34) 13
abbrev iO:K0:=aD (top 34) 14
abbrev fj:K0:=aD (top 34) 15
abbrev dc:K0:=aD (top 34) 16
abbrev gQ:K0:=aD (top 34) 17
abbrev iS:K0:=aD (top 34) 18
abbrev gX:K0:=aD (top 34) 19
abbrev cw:K0:=aD (top 34) 20
abbrev AD:K0:=top 36
abbrev eo:K0:=top 37
abbrev l9:K0:=top 38
abbrev jy:K0:=top 39
abbrev iC:K0:=top 41
abbrev pA:K0:=top 42
abbrev mM:K0:=top 43
abbrev j7:K0:=top 44
abbrev eR:K0:=top 45
abbrev ly:K0:=top 46
abbrev ni:K0:=top 47
abbrev en:K0:=top 48
abbrev jX:K0:=top 49
abbrev dO:K0:=top 50
abbrev EX:K0:=top 51
def aQ {N P:List Str}{sc:Scope}(a:sc.kind=.function) (b:sc.isCoroutine=f') (c:sc.isGenerator=f') (h:N.Nodup/\N.take P.length=P/\(∀ x∈P,sc.names.lookup x=dk .local\/sc.names.lookup x=dk .cell)/\∀ y∈sc.names,y.2≠.free):FnScope N P sc:=⟨a,b,c,h.1,h.2.1,h.2.2.1,h.2.2.2⟩
def oJ:FnScope ["counter","size","rounds"] ["counter","size","rounds"] (aj gY):=aQ rfl rfl rfl (by decide +kernel)
def vB:FnScope ["counter","size"] ["counter","size"] (aj mX):=aQ rfl rfl rfl (by decide +kernel)
def vJ:FnScope ["one","other","size","rounds"] ["one","other","size","rounds"] (aj nk):=aQ rfl rfl rfl (by decide +kernel)
def qw:FnScope ["rounds","faults"] ["rounds","faults"] (aj iM):=aQ rfl rfl rfl (by decide +kernel)
def sY:FnScope ["self","store","side","words","size","rounds","faults"] ["self","store","side","words","size","rounds","faults"] (aj jL):=aQ rfl rfl rfl (by decide +kernel)
def gT:FnScope ["self","laid","fetched"] ["self"] (aj iu):=aQ rfl rfl rfl (by decide +kernel)
def oS:FnScope ["self"] ["self"] (aj gW):=aQ rfl rfl rfl (by decide +kernel)
def o7:FnScope ["self","counter"] ["self","counter"] (aj fU):=aQ rfl rfl rfl (by decide +kernel)
def jA:FnScope ["self","cell","counter"] ["self","cell","counter"] (aj cZ):=aQ rfl rfl rfl (by decide +kernel)
def pE:FnScope ["self","name","worth","counter"] ["self","name","worth"] (aj mS):=aQ rfl rfl rfl (by decide +kernel)
def j9:FnScope ["self","counter","found"] ["self"] (aj jz):=aQ rfl rfl rfl (by decide +kernel)
def qf:FnScope ["self"] ["self"] (aj iW):=aQ rfl rfl rfl (by decide +kernel)
def mo:FnScope ["self","word","name","worth"] ["self","word","name","worth"] (aj jp):=aQ rfl rfl rfl (by decide +kernel)
def ql:FnScope ["self","word","name","worth"] ["self","word","name","worth"] (aj jb):=aQ rfl rfl rfl (by decide +kernel)
def eY:FnScope ["story","judge","number","happening"] ["story"] (aj ja):=aQ rfl rfl rfl (by decide +kernel)
def gN:FnScope ["story","laid","fetched","pairs","gone"] ["story","laid","fetched"] (aj iZ):=aQ rfl rfl rfl (by decide +kernel)
def sj:FnScope ["self","store","size","rounds","names","faults"] ["self","store","size","rounds","names","faults"] (aj jB):=aQ rfl rfl rfl (by decide +kernel)
def gu:FnScope ["self","name"] ["self"] (aj eT):=aQ rfl rfl rfl (by decide +kernel)
def nJ:FnScope ["self"] ["self"] (aj fo):=aQ rfl rfl rfl (by decide +kernel)
def oH:FnScope ["self","worth","name"] ["self","worth"] (aj mP):=aQ rfl rfl rfl (by decide +kernel)
def jI:FnScope ["self","told"] ["self"] (aj gR):=aQ rfl rfl rfl (by decide +kernel)
def iY:FnScope ["self"] ["self"] (aj cx):=aQ rfl rfl rfl (by decide +kernel)
def qL:FnScope ["self","store","size","rounds","faults"] ["self","store","size","rounds","faults"] (aj iR):=aQ rfl rfl rfl (by decide +kernel)
def lU:FnScope ["self","told"] ["self"] (aj jx):=aQ rfl rfl rfl (by decide +kernel)
def jE:FnScope ["self","name"] ["self","name"] (aj cX):=aQ rfl rfl rfl (by decide +kernel)
def pF:FnScope ["self","name","worth"] ["self","name","worth"] (aj gU):=aQ rfl rfl rfl (by decide +kernel)
def qi:FnScope ["self"] ["self"] (aj iP):=aQ rfl rfl rfl (by decide +kernel)
def gZ:FnScope ["self"] ["self"] (aj cc):=aQ rfl rfl rfl (by decide +kernel)
def qE:FnScope ["self"] ["self"] (aj iJ):=aQ rfl rfl rfl (by decide +kernel)
def qx:FnScope ["self","side","cell","worth"] ["self","side","cell","worth"] (aj iL):=aQ rfl rfl rfl (by decide +kernel)
def kL:FnScope ["self","side","first"] ["self","side"] (aj io):=aQ rfl rfl rfl (by decide +kernel)
def qB:FnScope ["self","side"] ["self","side"] (aj iy):=aQ rfl rfl rfl (by decide +kernel)
def lL:FnScope ["self","side","cell","waiting"] ["self","side","cell"] (aj jY):=aQ rfl rfl rfl (by decide +kernel)
def oX:FnScope ["self","cell"] ["self","cell"] (aj gM):=aQ rfl rfl rfl (by decide +kernel)
def qz:FnScope ["self","side"] ["self","side"] (aj iD):=aQ rfl rfl rfl (by decide +kernel)
def vM:FnScope ["value"] ["value"] (aj nv):=aQ rfl rfl rfl (by decide +kernel)
def y8:FnScope ["value","kind"] ["value","kind"] (aj pM):=aQ rfl rfl rfl (by decide +kernel)
def qS:FnScope ["some","kinds"] ["some"] (aj p9):=aQ rfl rfl rfl (by decide +kernel)
def yn:FnScope ["some"] ["some"] (aj pi):=aQ rfl rfl rfl (by decide +kernel)
def si:FnScope ["self","size","rounds","names","faults"] ["self","size","rounds","names","faults"] (aj jq):=aQ rfl rfl rfl (by decide +kernel)
def nO:FnScope ["self","some","word"] ["self","some"] (aj l8):=aQ rfl rfl rfl (by decide +kernel)
def lg:FnScope ["self","worths"] ["self","worths"] (aj dZ):=aQ rfl rfl rfl (by decide +kernel)
def tE:FnScope ["self"] ["self"] (aj jU):=aQ rfl rfl rfl (by decide +kernel)
def pQ:FnScope ["self","side"] ["self","side"] (aj gP):=aQ rfl rfl rfl (by decide +kernel)
def oa:FnScope ["self","side"] ["self","side"] (aj fR):=aQ rfl rfl rfl (by decide +kernel)
def uZ:FnScope ["self"] ["self"] (aj lr):=aQ rfl rfl rfl (by decide +kernel)
def sr:FnScope ["self"] ["self"] (aj jH):=aQ rfl rfl rfl (by decide +kernel)
def t7:FnScope ["self","some"] ["self","some"] (aj jS):=aQ rfl rfl rfl (by decide +kernel)
def lY:FnScope ["self","some"] ["self","some"] (aj eN):=aQ rfl rfl rfl (by decide +kernel)
def cU:FnScope ["self","worths","deeds","name","word"] ["self","worths"] (aj fq):=aQ rfl rfl rfl (by decide +kernel)
def kG:FnScope ["self","worth","name"] ["self","worth"] (aj iO):=aQ rfl rfl rfl (by decide +kernel)
def mZ:FnScope ["self","name","worth"] ["self","name","worth"] (aj fj):=aQ rfl rfl rfl (by decide +kernel)
def kC:FnScope ["self","word","told"] ["self","word","told"] (aj dc):=aQ rfl rfl rfl (by decide +kernel)
def jW:FnScope ["self","side","other"] ["self","side"] (aj gQ):=aQ rfl rfl rfl (by decide +kernel)
def qI:FnScope ["self","side"] ["self","side"] (aj iS):=aQ rfl rfl rfl (by decide +kernel)
def pI:FnScope ["self","side"] ["self","side"] (aj gX):=aQ rfl rfl rfl (by decide +kernel)
def ik:FnScope ["self","side"] ["self","side"] (aj cw):=aQ rfl rfl rfl (by decide +kernel)
def zj:FnScope ["yard","story"] ["yard"] (aj AD):=aQ rfl rfl rfl (by decide +kernel)
def cf:FnScope ["yard","words","made","laid","fetched"] ["yard","words"] (aj eo):=aQ rfl rfl rfl (by decide +kernel)
def ue:FnScope ["yard","story","words"] ["yard","story","words"] (aj l9):=aQ rfl rfl rfl (by decide +kernel)
def sh:FnScope ["yard","side"] ["yard","side"] (aj jy):=aQ rfl rfl rfl (by decide +kernel)
def qj:FnScope ["script","k"] ["script","k"] (aj iC):=aQ rfl rfl rfl (by decide +kernel)
def yH:FnScope ["cell"] ["cell"] (aj pA):=aQ rfl rfl rfl (by decide +kernel)
def pq:FnScope ["row","many","told"] ["row","many"] (aj mM):=aQ rfl rfl rfl (by decide +kernel)
def qp:FnScope ["story","word"] ["story","word"] (aj j7):=aQ rfl rfl rfl (by decide +kernel)
def aW:FnScope ["story","laid","seen","under","tasks","word","name","worth"] ["story"] (aj eR):=aQ rfl rfl rfl (by decide +kernel)
def jo:FnScope ["yard","side","size","rounds","one","other"] ["yard","side","size","rounds"] (aj ly):=aQ rfl rfl rfl (by decide +kernel)
def eK:FnScope ["yard","size","rounds","quiet","story","side","one","other","apart"] ["yard","size","rounds","quiet"] (aj ni):=aQ rfl rfl rfl (by decide +kernel)
def lz:FnScope ["quiet","some"] ["quiet","some"] (aj en):=aQ rfl rfl rfl (by decide +kernel)
def fC:FnScope ["row","some","drains","others","way"] ["row","some"] (aj jX):=aQ rfl rfl rfl (by decide +kernel)
def gc:FnScope ["yard","size","rounds","quiet","deed","side"] ["yard","size","rounds","quiet","deed"] (aj dO):=aQ rfl rfl rfl (by decide +kernel)
def jh:FnScope ["script","row","size","rounds","yard","quiet","cell","worths","k","some","deed"] ["script"] (aj EX):=aQ rfl rfl rfl (by decide +kernel)
set_option genInjectivity false
set_option genSizeOfSpec false
structure Ad where
 cE:D'
 iF:D'
 ie:D'
 dG:D'
 eS:D'
 dH:D'
 cO:D'
 ce:D'
 b9:D'
 ig:D'
 eU:D'
 dq:D'
 cS:D'
 dD:D'
 dw:D'
 dA:D'
 eC:D'
 bC:D'
 bN:D'
 iV:D'
 cL:D'
 aU:D'
 de:D'
 eF:D'
 bb:D'
 cI:D'
 dg:D'
 aR:D'
 dl:D'
 dj:D'
 dB:D'
 du:D'
 eJ:D'
 cP:D'
 dm:D'
 iz:D'
 lv:D'
 lp:D'
 ln:D'
 eO:D'
 fT:D'
 bq:D'
 eE:D'
 cB:D'
 c8:D'
 fN:D'
 eL:D'
 eQ:D'
 bB:D'
 bM:D'
 d9:D'
 bP:D'
 bh:D'
 cD:D'
 dn:D'
 cN:D'
 aV:D'
 Fb:D'
 bp:D'
 gi:D'
 eM:D'
 di:D'
 lj:D'
 iH:D'
 dF:D'
 bD:D'
 fQ:D'
 iG:D'
 br:D'
 eP:D'
 bu:D'
 law:D'
 cg:D'
 gp:D'
 dI:D'
 b8:D'
 aM:D'
 bf:D'
 hV:D'
 vn:D'
 gJ:D'
 gx:D'
 hZ:D'
 gD:D'
 bI:D'
 aP:D'
 kZ:D'
 gn:D'
 fV:D'
 fG:D'
 ge:D'
 fW:D'
 fH:D'
 gg:D'
 fX:D'
structure Fd where
 cE:Kj
 iF:Kj
 ie:Kj
 dG:Kj
 eS:Kj
 dH:Kj
 cO:Kj
 ce:Kj
 b9:Kj
 ig:Kj
 eU:Kj
 dq:Kj
 cS:Kj
 dD:Kj
 dw:Kj
 dA:Kj
 eC:Kj
 bC:Kj
 bN:Kj
 iV:Kj
 cL:Kj
 aU:Kj
 de:Kj
 eF:Kj
 bb:Kj
 cI:Kj
 dg:Kj
 aR:Kj
 dl:Kj
 dj:Kj
 dB:Kj
 du:Kj
 eJ:Kj
 cP:Kj
 dm:Kj
 iz:Kj
 lv:Kj
 lp:Kj
 ln:Kj
 eO:Kj
 fT:Kj
 bq:Kj
 eE:Kj
 cB:Kj
 c8:Kj
 fN:Kj
 eL:Kj
 eQ:Kj
 bB:Kj
 bM:Kj
 d9:Kj
 bP:Kj
 bh:Kj
 cD:Kj
 dn:Kj
 cN:Kj
 aV:Kj
 Fb:Kj
 bp:Kj
 gi:Kj
 eM:Kj
 di:Kj
 lj:Kj
 iH:Kj
 dF:Kj
 bD:Kj
 fQ:Kj
 iG:Kj
 br:Kj
 eP:Kj
 bu:Kj
 law:Kj
structure Gs (K:Kc) (mg:Str->Option JW) (a:Ad) (d:Fd):Prop where
 kK:Fun K "next_counter" "next_counter" gY a.cE d.cE
 qD:aG K d.cE ["counter","size","rounds"] []
 qe:mg "next_counter"=dk (.ref a.cE)
 rC:Fun K "place_of" "place_of" mX a.iF d.iF
 xO:aG K d.iF ["counter","size"] []
 xK:mg "place_of"=dk (.ref a.iF)
 mO:Fun K "ahead_by" "ahead_by" nk a.ie d.ie
 rH:aG K d.ie ["one","other","size","rounds"] []
 r8:mg "ahead_by"=dk (.ref a.ie)
 iq:Fun K "rounds_with" "rounds_with" iM a.dG d.dG
 mJ:aG K d.dG ["rounds","faults"] []
 mI:mg "rounds_with"=dk (.ref a.dG)
 uO:Fun K "__init__" "Ring.__init__" jL a.eS d.eS
 gq:aG K d.eS ["self","store","side","words","size","rounds","faults"] []
 rZ:Fun K "filled" "Ring.filled" iu a.dH d.dH
 fB:aG K d.dH ["self"] []
 eX:Meth K a.cg "filled" a.dH
 q9:Fun K "is_full" "Ring.is_full" gW a.cO d.cO
 kE:aG K d.cO ["self"] []
 jD:Meth K a.cg "is_full" a.cO
 oW:Fun K "place_at" "Ring.place_at" fU a.ce d.ce
 k8:aG K d.ce ["self","counter"] []
 jf:Meth K a.cg "place_at" a.ce
 kD:Fun K "write_further" "Ring.write_further" cZ a.b9 d.b9
 cY:aG K d.b9 ["self","cell","counter"] []
 cM:Meth K a.cg "write_further" a.b9
 yb:Fun K "lay" "Ring.lay" mS a.ig d.ig
 rJ:aG K d.ig ["self","name","worth"] []
 pG:Meth K a.cg "lay" a.ig
 vh:Fun K "fetch" "Ring.fetch" jz a.eU d.eU
 nU:aG K d.eU ["self"] []
 lE:Meth K a.cg "fetch" a.eU
 sx:Fun K "__init__" "Judge.__init__" iW a.dq d.dq
 tM:aG K d.dq ["self"] []
 nN:Fun K "fits" "Judge.fits" jp a.cS d.cS
 tZ:aG K d.cS ["self","word","name","worth"] []
 sG:Meth K a.gp "fits" a.cS
 sU:Fun K "go_on" "Judge.go_on" jb a.dD d.dD
 tN:aG K d.dD ["self","word","name","worth"] []
 qc:Meth K a.gp "go_on" a.dD
 lW:Fun K "first_wrong" "first_wrong" ja a.dw d.dw
 sZ:aG K d.dw ["story"] []
 rV:mg "first_wrong"=dk (.ref a.dw)
 mE:Fun K "not_fetched" "not_fetched" iZ a.dA d.dA
 sK:aG K d.dA ["story","laid","fetched"] []
 sA:mg "not_fetched"=dk (.ref a.dA)
 vj:Fun K "__init__" "Hand.__init__" jB a.eC d.eC
 vd:aG K d.eC ["self","store","size","rounds","names","faults"] []
 mW:Fun K "least_free" "Hand.least_free" eT a.bC d.bC
 i6:aG K d.bC ["self"] []
 gI:Meth K a.dI "least_free" a.bC
 o4:Fun K "check_ask" "Hand.check_ask" fo a.bN d.bN
 jc:aG K d.bN ["self"] []
 hG:Meth K a.dI "check_ask" a.bN
 xX:Fun K "ask" "Hand.ask" mP a.iV d.iV
 yB:aG K d.iV ["self","worth"] []
 vW:Meth K a.dI "ask" a.iV
 qh:Fun K "collect" "Hand.collect" gR a.cL d.cL
 qm:aG K d.cL ["self"] []
 pe:Meth K a.dI "collect" a.cL
 jk:Fun K "something_waits" "Hand.something_waits" cx a.aU d.aU
 jm:aG K d.aU ["self"] []
 ip:Meth K a.dI "something_waits" a.aU
 sC:Fun K "__init__" "Heart.__init__" iR a.de d.de
 tK:aG K d.de ["self","store","size","rounds","faults"] []
 vg:Fun K "take" "Heart.take" jx a.eF d.eF
 u7:aG K d.eF ["self"] []
 sJ:Meth K a.b8 "take" a.eF
 kB:Fun K "check_answer" "Heart.check_answer" cX a.bb d.bb
 fw:aG K d.bb ["self","name"] []
 f9:Meth K a.b8 "check_answer" a.bb
 qy:Fun K "answer" "Heart.answer" gU a.cI d.cI
 qk:aG K d.cI ["self","name","worth"] []
 oU:Meth K a.b8 "answer" a.cI
 rL:Fun K "tasks" "Heart.tasks" iP a.dg d.dg
 rN:aG K d.dg ["self"] []
 qH:Meth K a.b8 "tasks" a.dg
 im:Fun K "something_waits" "Heart.something_waits" cc a.aR d.aR
 iQ:aG K d.aR ["self"] []
 i0:Meth K a.b8 "something_waits" a.aR
 rO:Fun K "__init__" "Store.__init__" iJ a.dl d.dl
 t9:aG K d.dl ["self"] []
 sf:Fun K "write" "Store.write" iL a.dj d.dj
 dN:aG K d.dj ["self","side","cell","worth"] []
 d6:Meth K a.aM "write" a.dj
 sT:Fun K "drain" "Store.drain" io a.dB d.dB
 lG:aG K d.dB ["self","side"] []
 kM:Meth K a.aM "drain" a.dB
 tG:Fun K "fence" "Store.fence" iy a.du d.du
 mr:aG K d.du ["self","side"] []
 kJ:Meth K a.aM "fence" a.du
 u9:Fun K "read" "Store.read" jY a.eJ d.eJ
 dL:aG K d.eJ ["self","side","cell"] []
 cQ:Meth K a.aM "read" a.eJ
 qC:Fun K "memory" "Store.memory" gM a.cP d.cP
 cr:aG K d.cP ["self","cell"] []
 bT:Meth K a.aM "memory" a.cP
 tJ:Fun K "waits" "Store.waits" iD a.dm d.dm
 dW:aG K d.dm ["self","side"] []
 d5:Meth K a.aM "waits" a.dm
 qM:Fun K "is_whole" "is_whole" nv a.iz d.iz
 xU:aG K d.iz ["value"] []
 yD:mg "is_whole"=dk (.ref a.iz)
 va:Fun K "is_part" "is_part" pM a.lv d.lv
 Ap:aG K d.lv ["value","kind"] []
 zG:mg "is_part"=dk (.ref a.lv)
 tX:Fun K "is_deed" "is_deed" p9 a.lp d.lp
 AT:aG K d.lp ["some"] []
 yL:mg "is_deed"=dk (.ref a.lp)
 uJ:Fun K "side_of" "side_of" pi a.ln d.ln
 Ac:aG K d.ln ["some"] []
 Ay:mg "side_of"=dk (.ref a.ln)
 uA:Fun K "__init__" "Yard.__init__" jq a.eO d.eO
 uS:aG K d.eO ["self","size","rounds","names","faults"] []
 wf:Fun K "deed" "Yard.deed" l8 a.fT d.fT
 wc:aG K d.fT ["self","some"] []
 uo:Meth K a.bf "deed" a.fT
 mv:Fun K "can_be_done" "Yard.can_be_done" dZ a.bq d.bq
 mf:aG K d.bq ["self","worths"] []
 lx:Meth K a.bf "can_be_done" a.bq
 uL:Fun K "story" "Yard.story" jU a.eE d.eE
 jM:aG K d.eE ["self"] []
 iw:Meth K a.bf "story" a.eE
 qF:Fun K "sleeper" "Yard.sleeper" gP a.cB d.cB
 gS:aG K d.cB ["self","side"] []
 fL:Meth K a.bf "sleeper" a.cB
 p8:Fun K "is_quiet" "Yard.is_quiet" fR a.c8 d.c8
 pN:aG K d.c8 ["self","side"] []
 oo:Meth K a.bf "is_quiet" a.c8
 vv:Fun K "made" "Yard.made" lr a.fN d.fN
 wj:aG K d.fN ["self"] []
 uM:Meth K a.bf "made" a.fN
 uu:Fun K "store" "Yard.store" jH a.eL d.eL
 bG:aG K d.eL ["self"] []
 bx:Meth K a.bf "store" a.eL
 uE:Fun K "check" "Yard.check" jS a.eQ d.eQ
 nX:aG K d.eQ ["self","some"] []
 mC:Meth K a.bf "check" a.eQ
 mK:Fun K "is_allowed" "Yard.is_allowed" eN a.bB d.bB
 mQ:aG K d.bB ["self","some"] []
 mD:Meth K a.bf "is_allowed" a.bB
 oj:Fun K "thinkable" "Yard.thinkable" fq a.bM d.bM
 o8:aG K d.bM ["self","worths"] []
 n8:Meth K a.bf "thinkable" a.bM
 ss:Fun K "do_ask" "Yard.do_ask" iO a.d9 d.d9
 tf:aG K d.d9 ["self","worth"] []
 qG:Meth K a.bf "do_ask" a.d9
 nZ:Fun K "do_answer" "Yard.do_answer" fj a.bP d.bP
 om:aG K d.bP ["self","name","worth"] []
 nz:Meth K a.bf "do_answer" a.bP
 kX:Fun K "tell_fetched" "Yard.tell_fetched" dc a.bh d.bh
 fM:aG K d.bh ["self","word","told"] []
 fu:Meth K a.bf "tell_fetched" a.bh
 qA:Fun K "do_bell" "Yard.do_bell" gQ a.cD d.cD
 qg:aG K d.cD ["self","side"] []
 pK:Meth K a.bf "do_bell" a.cD
 rS:Fun K "do_lie" "Yard.do_lie" iS a.dn d.dn
 tH:aG K d.dn ["self","side"] []
 qK:Meth K a.bf "do_lie" a.dn
 qr:Fun K "do_look" "Yard.do_look" gX a.cN d.cN
 qa:aG K d.cN ["self","side"] []
 pC:Meth K a.bf "do_look" a.cN
 jn:Fun K "something_waits" "Yard.something_waits" cw a.aV d.aV
 jl:aG K d.aV ["self","side"] []
 iT:Meth K a.bf "something_waits" a.aV
 D9:Fun K "errs" "errs" AD a.Fb d.Fb
 FT:aG K d.Fb ["yard"] []
 FK:mg "errs"=dk (.ref a.Fb)
 dQ:Fun K "filled_in_memory" "filled_in_memory" eo a.bp d.bp
 gw:aG K d.bp ["yard","words"] []
 gL:mg "filled_in_memory"=dk (.ref a.bp)
 l7:Fun K "miscounts" "miscounts" l9 a.gi d.gi
 oZ:aG K d.gi ["yard","story","words"] []
 oN:mg "miscounts"=dk (.ref a.gi)
 jJ:Fun K "oversleeps" "oversleeps" jy a.eM d.eM
 nS:aG K d.eM ["yard","side"] []
 nR:mg "oversleeps"=dk (.ref a.eM)
 lX:Fun K "_law_cell_at" "_law_cell_at" iC a.di d.di
 sM:aG K d.di ["script","k"] []
 sB:mg "_law_cell_at"=dk (.ref a.di)
 pS:Fun K "_law_row" "_law_row" pA a.lj d.lj
 ut:aG K d.lj ["cell"] []
 uN:mg "_law_row"=dk (.ref a.lj)
 bX:Fun K "_law_take" "_law_take" mM a.iH d.iH
 cu:aG K d.iH ["row","many"] []
 cp:mg "_law_take"=dk (.ref a.iH)
 ij:Fun K "_law_rows_of" "_law_rows_of" j7 a.dF d.dF
 mj:aG K d.dF ["story","word"] []
 lZ:mg "_law_rows_of"=dk (.ref a.dF)
 eV:Fun K "_law_story_right" "_law_story_right" eR a.bD d.bD
 ia:aG K d.bD ["story"] []
 i7:mg "_law_story_right"=dk (.ref a.bD)
 kU:Fun K "_law_apart" "_law_apart" ly a.fQ d.fQ
 oV:aG K d.fQ ["yard","side","size","rounds"] []
 oK:mg "_law_apart"=dk (.ref a.fQ)
 qV:Fun K "_law_errs" "_law_errs" ni a.iG d.iG
 yq:aG K d.iG ["yard","size","rounds","quiet"] []
 yy:mg "_law_errs"=dk (.ref a.iG)
 gF:Fun K "_law_turned_quiet" "_law_turned_quiet" en a.br d.br
 lJ:aG K d.br ["quiet","some"] []
 lH:mg "_law_turned_quiet"=dk (.ref a.br)
 nP:Fun K "_law_chosen" "_law_chosen" jX a.eP d.eP
 uT:aG K d.eP ["row","some"] []
 uY:mg "_law_chosen"=dk (.ref a.eP)
 gC:Fun K "_law_moment_right" "_law_moment_right" dO a.bu d.bu
 lD:aG K d.bu ["yard","size","rounds","quiet","deed"] []
 m7:mg "_law_moment_right"=dk (.ref a.bu)
 HC:Fun K "law" "law" EX a.law d.law
 JP:aG K d.law ["script"] []
 IY:mg "law"=dk (.ref a.law)
 ay:Cls K a.cg
 xm:mg "Ring"=dk (.ref a.cg)
 xi:Mk K a.cg a.eS
 bz:aX K a.cg "shelf"
 bK:aX K a.cg "side"
 nM:aX K a.cg "word"
 fg:aX K a.cg "laid"
 dP:aX K a.cg "fetched"
 fc:aX K a.cg "size"
 gO:aX K a.cg "rounds"
 bJ:aX K a.cg "counter_first"
 bo:Cls K a.gp
 DL:mg "Judge"=dk (.ref a.gp)
 F4:Mk K a.gp a.dq
 ci:aX K a.gp "untaken"
 bY:aX K a.gp "unhanded"
 eZ:aX K a.gp "going"
 f7:aX K a.gp "doing"
 c6:Cls K a.dI
 GU:mg "Hand"=dk (.ref a.dI)
 Ga:Mk K a.dI a.eC
 jR:aX K a.dI "asks"
 fP:aX K a.dI "answers"
 mB:aX K a.dI "names"
 eA:aX K a.dI "going"
 bH:Cls K a.b8
 Ex:mg "Heart"=dk (.ref a.b8)
 Fj:Mk K a.b8 a.de
 ix:aX K a.b8 "asks"
 fh:aX K a.b8 "answers"
 d7:aX K a.b8 "doing"
 aF:Cls K a.aM
 DY:mg "Store"=dk (.ref a.aM)
 Ez:Mk K a.aM a.dl
 iA:aX K a.aM "held"
 c9:aX K a.aM "rows"
 ak:Cls K a.bf
 GM:mg "Yard"=dk (.ref a.bf)
 G5:Mk K a.bf a.eO
 nY:aX K a.bf "size"
 kN:aX K a.bf "rounds"
 q5:aX K a.bf "faults"
 aY:aX K a.bf "shelf"
 f8:aX K a.bf "hand"
 cV:aX K a.bf "heart"
 gk:aX K a.bf "bell_fences"
 gy:aX K a.bf "lie_fences"
 hW:aX K a.bf "look_sees"
 aZ:aX K a.bf "sleepers"
 dS:aX K a.bf "quiet"
 cj:aX K a.bf "happened"
 HB:mg "all"=JZ
 G0:mg "bool"=JZ
 vq:mg "enumerate"=JZ
 Hz:mg "int"=JZ
 fe:mg "isinstance"=JZ
 oi:mg "len"=JZ
 CQ:mg "list"=JZ
 Af:mg "range"=JZ
 xM:mg "reversed"=JZ
 Bm:mg "sorted"=JZ
 Iy:mg "str"=JZ
 vD:mg "tuple"=JZ
 Hm:mg "zip"=JZ
 vP:mg "RingError"=dk (.ref a.hV)
 Do:mg "Full"=dk (.ref a.vn)
 Bs:mg "NoName"=dk (.ref a.gJ)
 Bj:mg "NoTask"=dk (.ref a.gx)
 rX:mg "NoDeed"=dk (.ref a.hZ)
 wC:mg "ASKS"=dk (.ref a.gD)
 xB:∀ H,SqT K H a.gD [.str "ask",.str "asked",.str "taken"]
 lM:mg "ANSWERS"=dk (.ref a.bI)
 m8:∀ H,SqT K H a.bI [.str "answer",.str "answered",.str "handed"]
 fA:mg "SLEEP_CELLS"=dk (.ref a.aP)
 fD:∀ H,SqT K H a.aP [.str "hand sleeps",.str "heart sleeps"]
 nQ:∃ t,mg "MOST_WORTH"=dk (.int 1000000000 t)
 Et:mg "FORMS"=dk (.ref a.kZ)
 Es:IJ K a.kZ [("ask",a.gn),("collect",a.fV),("take",a.fG),("answer",a.ge),("bell",a.fW),("lie",a.fH),("look",a.gg),("drain",a.fX)]
 za:∀ H,SqT K H a.gn [.str "worth"]
 Aa:∀ H,SqT K H a.fV []
 zd:∀ H,SqT K H a.fG []
 zl:∀ H,SqT K H a.ge [.str "name",.str "worth"]
 zn:∀ H,SqT K H a.fW [.str "side"]
 A5:∀ H,SqT K H a.fH [.str "side"]
 Ag:∀ H,SqT K H a.gg [.str "side"]
 AK:∀ H,SqT K H a.fX [.str "side"]
 xc_Full:excIn K a.vn veB "ValueError.__new__"=j'
 xc_NoName:excIn K a.gJ veB "ValueError.__new__"=j'
 xc_NoTask:excIn K a.gx veB "ValueError.__new__"=j'
 xc_NoDeed:excIn K a.hZ veB "ValueError.__new__"=j'
 JL:K' K (.ref a.vn) (.ref a.hV)=dk j'
 JN:K' K (.ref a.gJ) (.ref a.hV)=dk j'
 JJ:K' K (.ref a.gx) (.ref a.hV)=dk j'
 Jp:K' K (.ref a.hZ) (.ref a.hV)=dk j'
 JM:K' K (.ref a.hZ) (.ref a.hZ)=dk j'
 Jt:K' K (.ref a.hZ) (.ref a.vn)=dk f'
 Jj:K' K (.ref a.hZ) (.ref a.gJ)=dk f'
 Jk:K' K (.ref a.hZ) (.ref a.gx)=dk f'
 IX:K' K (.ref a.vn) (.ref a.hZ)=dk f'
 Jd:K' K (.ref a.vn) (.ref a.vn)=dk j'
 JU:K' K (.ref a.vn) (.ref a.gJ)=dk f'
 JB:K' K (.ref a.vn) (.ref a.gx)=dk f'
 JQ:K' K (.ref a.gJ) (.ref a.hZ)=dk f'
 Jq:K' K (.ref a.gJ) (.ref a.vn)=dk f'
 JG:K' K (.ref a.gJ) (.ref a.gJ)=dk j'
 Jl:K' K (.ref a.gJ) (.ref a.gx)=dk f'
 Jg:K' K (.ref a.gx) (.ref a.hZ)=dk f'
 Jw:K' K (.ref a.gx) (.ref a.vn)=dk f'
 JD:K' K (.ref a.gx) (.ref a.gJ)=dk f'
 Jh:K' K (.ref a.gx) (.ref a.gx)=dk j'
set_option genInjectivity true
set_option genSizeOfSpec true
def cW {c A B:Prop} [Decidable c] (hc:¬ c) (h:B):if decide c=j' then A else B:=by
 rw[decide_eq_false hc];exact iE h
def jO {c A B:Prop} [Decidable c] (hc:c) (h:A):if decide c=j' then A else B:=by
 rw[Qt hc];exact jt h
def ky {i j:Int}(h:V.int i=V.int j):i=j:=by injection h
def sne {a b:Str}(h:a≠b):¬ V.str a=V.str b:=λy=>h (by injection y)
def l3 {x y z:V}:[x,y,z].length <= Ki:=by show 3 <= Ki;decide
def IG {n:Nat}(h:0 < n):seqIndex? 0 n=dk 0:=by
 unfold seqIndex?;simp[h]
def zk (w:Kk) (C:D'):Sp:=λvs H Q _=>∃ x dx,vs=[.ref x]/\H x=dk (.ins C dx []) /\
 ∀ (hd rl:D') (l:Bool->D') (H':Hp),H hd=JZ->H rl=JZ->(∀ b,H (l b)=JZ)->Sto w C H' x hd rl l [] (λ_=>[])->Kp [x] H H'->Q .non H'
def xA (w:Kk) (C:D'):Sp:=λvs H Q _=>∃ (x hd rl:D') (l:Bool->D') (M:List (Ka × V)) (r:Bool->List (Ka × V)) (b:Bool) (cv wv:V) (k:Ka),vs=[.ref x,.int (sdI b),cv,wv]/\Sto w C H x hd rl l M r/\(r b).length < 100000/\vo H k cv /\
 ∀ H',Sto w C H' x hd rl l M (aC r b (r b++[(k,wv)]))->Kp [l b] H H'->Q .non H'
def xj (w:Kk) (C:D'):Sp:=λvs H Q _=>∃ (x hd rl:D') (l:Bool->D') (M:List (Ka × V)) (r:Bool->List (Ka × V)) (b:Bool) (k:Ka) (v:V) (rest:List (Ka × V)),vs=[.ref x,.int (sdI b)]/\Sto w C H x hd rl l M r/\r b=(k,v) :: rest/\M.length < 100000 /\
 ∀ H',Sto w C H' x hd rl l (vp M k v) (aC r b rest)->Kp [l b,hd] H H'->Q .non H'
def wL (w:Kk) (C:D'):Sp:=λvs H Q _=>∃ (x hd rl:D') (l:Bool->D') (M:List (Ka × V)) (r:Bool->List (Ka × V)) (b:Bool),vs=[.ref x,.int (sdI b)]/\Sto w C H x hd rl l M r/\M.length+(r b).length < 100000 /\
 ∀ H',Sto w C H' x hd rl l (mH M (r b)) (aC r b [])->Kp [l b,hd] H H'->Q .non H'
def Ar (w:Kk) (C:D'):Sp:=λvs H Q _=>∃ (x hd rl:D') (l:Bool->D') (M:List (Ka × V)) (r:Bool->List (Ka × V)) (b:Bool) (cv:V) (k:Ka),vs=[.ref x,.int (sdI b),cv]/\Sto w C H x hd rl l M r/\vo H k cv/\Q (cH M (r b) k) H
def vb (w:Kk) (C:D'):Sp:=λvs H Q _=>∃ (x hd rl:D') (l:Bool->D') (M:List (Ka × V)) (r:Bool->List (Ka × V)) (cv:V) (k:Ka),vs=[.ref x,cv]/\Sto w C H x hd rl l M r/\vo H k cv/\Q ((fi M k).getD (.int 0)) H
def xu (w:Kk) (C:D'):Sp:=λvs H Q _=>∃ (x hd rl:D') (l:Bool->D') (M:List (Ka × V)) (r:Bool->List (Ka × V)) (b:Bool),vs=[.ref x,.int (sdI b)]/\Sto w C H x hd rl l M r /\
 ∀ (p:D') (ts:List V),H p=JZ->Kx (Wt H) (r b) ts->Q (.ref p) (upd H p (.lst ts))
def IS:100000 <= Ki:=by decide
def l2 {x y:V}:[x,y].length <= Ki:=by show 2 <= Ki;decide
section
variable {P:Kz}{w:Kk}{K:Kc}{mg:Str->Option JW}{base:KN}{a:Ad}{d:Fd}
def EI (G:Gs K mg a d):FnOk P w K mg base CX0 1 a.dl d.dl ["self"] (zk w a.aM):=by
 refine G.rO.ok qE (λvs H Q E h=>?_) (λcdv A outer s H vs Q E hr h=>?_)
 . obtain⟨x,dx,rfl,_⟩:=h;rfl
 . obtain⟨x,dx,rfl,hx,k⟩:=h;refine⟨_,((bw (pv 0) DH rfl)∪(@ar _ _ _ (bw (pv 0) (@bQ _ _ _ _ ((@bQ _ _ _ _ aa)∣((@bQ _ _ _ _ aa)∣aa))) rfl))),?_⟩;intro hd hhd;have n0:x≠hd:=ae hx hhd;refine⟨_,rfl,x,a.aM,dx,[],rfl,(by rw[ac n0];exact hx),G.aF,G.iA,(by show 0 < 1000;decide),?_⟩;refine⟨by show 0 <= Ki;decide,λl0 h0=>⟨by show 0 <= Ki;decide,λl1 h1=>⟨l2,λrl hrl=>⟨_,rfl,x,a.aM,dx,bn "held" (.ref hd) [],rfl,?_,G.aF,G.c9,by show 1 < 1000;decide,?_⟩⟩⟩⟩
   all_goals
    have m0:x≠l0:=ae a8 h0;have m1:x≠l1:=ae (o:=.ins a.aM dx (bn "held" (.ref hd) [])) (by rw[ac m0];exact a8) h1;have m2:x≠rl:=ae (o:=.ins a.aM dx (bn "held" (.ref hd) [])) (by rw[ac m1,ac m0];exact a8) hrl
   . rw[ac m2,ac m1,ac m0];exact a8
   . have q0:hd≠l0:=ae (o:=pY hd [] 0) (by rw[ac n0.symm];exact a8) h0;have q1:hd≠l1:=ae (o:=pY hd [] 0) (by rw[ac q0,ac n0.symm];exact a8) h1;have q2:hd≠rl:=ae (o:=pY hd [] 0) (by rw[ac q1,ac q0,ac n0.symm];exact a8) hrl;have r1:l0≠l1:=ae a8 h1;have r2:l0≠rl:=ae (o:=.lst []) (by rw[ac r1];exact a8) hrl;have r3:l1≠rl:=ae a8 hrl;have e0:∀ c o,H c=dk o->c≠hd:=λc o e=>ae e hhd
     have f0:H l0=JZ:=by
      cases z:H l0 with
     |none=>rfl
     |some o=>rw[ac m0.symm,ac q0.symm,z]at h0;cases h0
     have f1:H l1=JZ:=by
      cases z:H l1 with
     |none=>rfl
     |some o=>rw[ac r1.symm,ac m1.symm,ac q1.symm,z]at h1;cases h1
     have f2:H rl=JZ:=by
      cases z:H rl with
     |none=>rfl
     |some o=>rw[ac r3.symm,ac r2.symm,ac m2.symm,ac q2.symm,z]at hrl;cases hrl
     refine k hd rl (λb=>if b then l1 else l0) _ hhd f2 (λb=>by cases b;exact f0;exact f1) ⟨⟨dx,a8⟩,⟨[],0,by rw[ac n0.symm,ac q2,ac q1,ac q0,ac n0.symm,a8],.nil,nodup_nil,LJ _⟩,by rw[ac m2.symm,a8];rfl,λb=>⟨[],?_,.nil⟩,r1,λb=>by cases b;exact r2;exact r3⟩ λc o n e=>?_
     . cases b
       . show upd _ x _ l0=_;rw[ac m0.symm,ac r2,ac r1,a8]
       . show upd _ x _ l1=_;rw[ac m1.symm,ac r3,a8]
     . have c0:c≠x:=λz=>n (JY.mpr z)
       rw[ac c0,ac (ae e f2),ac (ae e f1),ac (ae e f0),ac c0,ac (e0 c o e)];exact e
def lI (G:Gs K mg a d):FnOk P w K mg base CX0 1 a.dj d.dj ["self","side","cell","worth"] (xA w a.aM):=by
 refine G.sf.ok qx (λvs H Q E h=>?_) (λcdv A outer s H vs Q E hr h=>?_)
 . obtain⟨x,hd,rl,l,M,r,b,cv,wv,k,rfl,_⟩:=h;rfl
 . obtain⟨x,hd,rl,l,M,r,b,cv,wv,k,rfl,S,hlen,hk,q⟩:=h;refine⟨_,(@ar _ _ _ (@aK _ _ _ _ (@lV _ _ _ _ _ _ _ _ _ _ _ _ KG K9 PySem.F.type_list_append dX (@aI _ _ _ _ _ _ _ ba (al (pv 0) rfl) (pv 1) (λ_ _=>rfl)) ((@bj _ _ _ _ _ ((pv 2)∣((pv 3)∣aa)))∣aa) (by rfl) (by rfl) (by rfl) (by rfl) (by rfl)) (by rfl))),?_⟩;obtain⟨dx,hx⟩:=S.ob;obtain⟨ts,hl,hp⟩:=S.rw b;have hn:=aL hp;refine⟨_,rfl,x,a.aM,dx,_,_,rfl,hx,G.aF,G.c9,kf,_,rfl,rl,_,_,_,rfl,rfl,SqL.of S.ro,re b,.inl ⟨rfl,_,SqL.of hl⟩,_,rfl,_,rfl,l2,λt ht=>⟨l b,ts,.ref t,rfl,rfl,by rw[ac (ae hl ht)];exact hl,Kg (by omega) IS,?_⟩⟩;have tne:∀ c o,H c=dk o->c≠t:=λc o e=>ae e ht
   have tl:t≠l b:=(tne _ _ hl).symm;have kp:Kp [l b] H (upd (upd H t (.tup [cv,wv])) (l b) (.lst (ts++[.ref t]))):=λc o n e=>by
    rw[ac λz=>n (JY.mpr z),ac (tne c o e)];exact e
   have kt:∀ c vs,H c=dk (.tup vs)->upd (upd H t (.tup [cv,wv])) (l b) (.lst (ts++[.ref t])) c=dk (.tup vs):=λc vs e=>kp c _ (λz=>by
    rw[JY.mp z,hl]at e;cases e) e
   refine q _ ⟨⟨dx,kp _ _ (λz=>by rw[JY.mp z,hl]at hx;cases hx) hx⟩,S.me.keepS (λo e=>kp _ _ (λz=>by
    obtain⟨es,e'⟩:=S.me.there;rw[JY.mp z,hl]at e';cases e') e) kt,kp _ _ (λz=>S.nr b (JY.mp z).symm) S.ro,λc=>?_,S.nl,S.nr⟩ kp
   by_cases z:c=b
   . subst z;rw[am];exact⟨_,a8,Kx.snoc (Paired.mapP hp λ_ _ q=>q.keep kt) ⟨t,cv,rfl,by rw[ac tl];exact a8,hk.keep kt⟩⟩
   . rw[aA z];exact(S.rw c).keep (λo e=>kp _ _ (λy=>by
      have y':=JY.mp y;cases c<;>cases b
      . exact z rfl
      . exact S.nl y'
      . exact S.nl y'.symm
      . exact z rfl) e) kt
def wV (G:Gs K mg a d):FnOk P w K mg base CX0 1 a.dB d.dB ["self","side"] (xj w a.aM):=by
 refine G.sT.ok kL (λvs H Q E h=>?_) (λcdv A outer s H vs Q E hr h=>?_)
 . obtain⟨x,hd,rl,l,M,r,b,k,v,rest,rfl,_⟩:=h;rfl
 . obtain⟨x,hd,rl,l,M,r,b,k,v,rest,rfl,S,hrow,hlen,q⟩:=h;refine⟨_,((aO (i9 (mF (@aI _ _ _ _ _ _ _ ba (al (pv 0) rfl) (pv 1) (λ_ _=>rfl)) (λ_=>rfl))) (@ar _ _ _ BF) aq)∪((@bi _ _ 2 _ _ _ _ kL.nd rfl (KU rfl) (@lV _ _ _ _ _ _ _ _ _ _ _ _ KG PySem.F.slot_list_pop PySem.F.type_list_pop sg (@aI _ _ _ _ _ _ _ ba (al (pv 0) rfl) (pv 1) (λ_ _=>rfl)) (ai∣aa) (by rfl) (by rfl) (by rfl) (by rfl) (by rfl)) (by rfl) (by first|exact .inl rfl|exact .inr rfl|assumption))∪(@ar _ _ _ (Ef hr.units (al (pv 0) rfl) (@aI _ _ _ _ _ _ _ aH (pv 2) ai (λ_ _=>rfl)) (@aI _ _ _ _ _ _ _ aH (pv 2) ai (λ_ _=>rfl)) rfl)))),?_⟩;obtain⟨dx,hx⟩:=S.ob;obtain⟨ts0,hl,hp0⟩:=S.rw b;rw[hrow]at hp0;cases hp0 with
  |@cons _ tv _ ts hw hp =>
    obtain⟨t,cv,rfl,ht,hk⟩:=hw;refine⟨_,rfl,x,a.aM,dx,_,_,rfl,hx,G.aF,G.c9,kf,_,rfl,rl,_,_,_,rfl,rfl,SqL.of S.ro,re b,j',.inl ⟨_,SqL.of hl,rfl⟩,iE ?_⟩;refine⟨_,rfl,x,a.aM,dx,_,_,rfl,hx,G.aF,G.c9,kf,_,rfl,rl,_,_,_,rfl,rfl,SqL.of S.ro,re b,.inl ⟨rfl,_,SqL.of hl⟩,l b,_,0,0,.ref t,rfl,rfl,hl,by decide,by decide,by simp[seqIndex?],rfl,?_⟩;have tl:t≠l b:=iK ht hl (by intro z;cases z);have kp:Kp [l b] H (upd H (l b) (.lst (List.eraseIdx (.ref t :: ts) 0))):=λc o n e=>by
     rw[ac λz=>n (JY.mpr z)];exact e
    have kt:∀ c vs,H c=dk (.tup vs)->upd H (l b) (.lst (List.eraseIdx (.ref t :: ts) 0)) c=dk (.tup vs):=λc vs e=>kp c _ (λz=>by
     rw[JY.mp z,hl]at e;cases e) e
    have hx':=kp x _ (λz=>by rw[JY.mp z,hl]at hx;cases hx) hx;have me':=S.me.keepS (λo e=>kp _ _ (λz=>by
     obtain⟨es,e'⟩:=S.me.there;rw[JY.mp z,hl]at e';cases e') e) kt
    have ro':=kp rl _ (λz=>S.nr b (JY.mp z).symm) S.ro;have ht':=kt t _ ht;have rw':∀ c,Ah (upd H (l b) (.lst (List.eraseIdx (.ref t :: ts) 0))) (l c) (aC r b rest c):=λc=>by
     by_cases z:c=b
     . subst z;rw[am];exact⟨ts,a8,Paired.mapP hp λ_ _ q=>q.keep kt⟩
     . rw[aA z];exact(S.rw c).keep (λo e=>kp _ _ (λy=>by
        have y':=JY.mp y;cases c<;>cases b
        . exact z rfl
        . exact S.nl y'
        . exact S.nl y'.symm
        . exact z rfl) e) kt
    have hk':=hk.keep kt;refine⟨_,rfl,t,_,_,_,rfl,rfl,SqT.of ht',rfl,_,rfl,x,a.aM,dx,_,_,rfl,hx',G.aF,G.iA,xb,_,rfl,t,_,_,_,rfl,rfl,SqT.of ht',rfl,hd,M,k,rfl,me',Kg hlen IS,hk',λH4 g1 g2=>?_⟩;generalize upd H (l b) (.lst (List.eraseIdx (.ref t :: ts) 0))=H1 at kp kt hx' me' ro' ht' rw' hk' g1 |-;have hdn:∀ c o,H1 c=dk o->(∀ ee:List KQ × Nat,o≠pY hd ee.1 ee.2)->c≠hd:=λc o e n z=>by
     obtain⟨es,e'⟩:=me'.there;rw[z,e']at e;exact n es (KH e).symm
    have k4:∀ c o,c≠hd->H1 c=dk o->H4 c=dk o:=λc o n e=>by rw[g1 c n];exact e
    have kt4:∀ c vs,H1 c=dk (.tup vs)->H4 c=dk (.tup vs):=λc vs e=>k4 c _ (hdn c _ e λes z=>by cases z) e
    refine q H4 ⟨⟨dx,k4 _ _ (hdn _ _ hx' λes z=>by cases z) hx'⟩,g2,k4 _ _ (hdn _ _ ro' λes z=>by cases z) ro',λc=>(rw' c).keep (λo e=>k4 _ _ (by
     obtain⟨ts',e',_⟩:=rw' c;exact hdn _ _ e' λes z=>by cases z) e) kt4,S.nl,S.nr⟩ λc o n e=>?_
    exact k4 c o (λz=>n (by rw[z];simp)) (kp c o (λz=>n (by rw[JY.mp z];simp)) e)
def lR (G:Gs K mg a d):FnOk P w K mg base CX0 1 a.cP d.cP ["self","cell"] (vb w a.aM):=by
 refine G.qC.ok oX (λvs H Q E h=>?_) (λcdv A outer s H vs Q E hr h=>?_)
 . obtain⟨x,hd,rl,l,M,r,cv,k,rfl,_⟩:=h;rfl
 . obtain⟨x,hd,rl,l,M,r,cv,k,rfl,S,hk,q⟩:=h;refine⟨_,((C1 hr.units (al (pv 0) rfl) (pv 1) ai ⟨rfl,rfl,rfl,rfl⟩)⁻¹),?_⟩;obtain⟨dx,hx⟩:=S.ob;exact⟨_,rfl,x,a.aM,dx,_,_,rfl,hx,G.aF,G.iA,xb,hd,rfl,⟨_,S.me⟩,_,rfl,M,k,S.me,hk,q⟩
def tz (G:Gs K mg a d):FnOk P w K mg base CX0 1 a.dm d.dm ["self","side"] (xu w a.aM):=by
 refine G.tJ.ok qz (λvs H Q E h=>?_) (λcdv A outer s H vs Q E hr h=>?_)
 . obtain⟨x,hd,rl,l,M,r,b,rfl,_⟩:=h;rfl
 . obtain⟨x,hd,rl,l,M,r,b,rfl,S,q⟩:=h;refine⟨_,((pW nW (by rfl) G.CQ yV ((@aI _ _ _ _ _ _ _ ba (al (pv 0) rfl) (pv 1) (λ_ _=>rfl))∣aa))⁻¹),?_⟩;obtain⟨dx,hx⟩:=S.ob;obtain⟨ts,hl,hp⟩:=S.rw b;exact⟨_,rfl,x,a.aM,dx,_,_,rfl,hx,G.aF,G.c9,kf,_,rfl,rl,_,_,_,rfl,rfl,SqL.of S.ro,re b,l b,ts,rfl,.inl (SqL.of hl),λp hp'=>q p ts hp' hp⟩
def wO (G:Gs K mg a d):FnOk P w K mg base CX0 2 a.du d.du ["self","side"] (wL w a.aM):=by
 have Pl:FnOk P w K mg base CX0 1 _ _ _ _:=wV G;refine G.tG.ok qB (λvs H Q E h=>?_) (λcdv A outer s H vs Q E hr h=>?_)
 . obtain⟨x,hd,rl,l,M,r,b,rfl,_⟩:=h;rfl
 . obtain⟨x,hd,rl,l,M,r,b,rfl,S,hlen,q⟩:=h;refine⟨_,(@ar _ _ _ (CB Lm (mF (@aI _ _ _ _ _ _ _ ba (al (pv 0) rfl) (pv 1) (λ_ _=>rfl)) (λ_=>rfl)) (@ar _ _ _ (@aK _ _ _ _ (az (pv 0) G.aF G.kM Pl (hr.mono (by decide)) G.lG .nil av ((pv 1)∣aa)) (by rfl))))),?_⟩;refine⟨λm σ H'=>σ=[dk (.ref x),dk (.int (sdI b))]/\∃ (M' es:List (Ka × V)),Sto w a.aM H' x hd rl l M' (aC r b es)/\m=es.length/\mH M' es=mH M (r b)/\M'.length+es.length < 100000/\Kp [l b,hd] H H',
    ⟨_,rfl,M,r b,by rw[show aC r b (r b)=r from funext λc=>by unfold aC;split;(rename_i z;rw[z]);rfl];exact S,rfl,rfl,hlen,Kp.refl _ _⟩,?_⟩
   rintro m σ H' ⟨rfl,M',es,S',rfl,hd',hl',kp⟩;obtain⟨dx,hx⟩:=S'.ob;obtain⟨ts,hl,hp⟩:=S'.rw b;rw[am]at hp;have hn:=aL hp;refine⟨_,rfl,x,a.aM,dx,_,_,rfl,hx,G.aF,G.c9,kf,_,rfl,rl,_,_,_,rfl,rfl,SqL.of S'.ro,re b,!ts.isEmpty,.inl ⟨_,SqL.of hl,rfl⟩,?_⟩;refine Bi (λht=>?_) (λht=>?_)
   . cases es with
    |nil =>
      cases hp;cases ht
    |cons p es =>
      refine⟨_,λσ' H2 z=>z,?_⟩;refine⟨_,rfl,x,dx,_,rfl,hx,bU (by decide +kernel) (by decide +kernel),_,rfl,x,hd,rl,l,M',_,b,p.1,p.2,es,rfl,S',am,by rw[KJ]at hl';omega,λH2 S2 kp2=>?_⟩;refine⟨es.length,by rw[KJ];omega,rfl,vp M' p.1 p.2,es,?_,rfl,hd',by have:=Cc M' p.1 p.2;rw[KJ]at hl';omega,kp.trans kp2⟩;rw[show aC (aC r b (p :: es)) b es=aC r b es from funext λc=>by unfold aC;split<;>rfl]at S2;exact S2
   . cases es with
    |nil =>
      have e:mH M' []=M':=rfl;rw[e]at hd';rw[hd']at S';exact q H' S' kp
    |cons p es =>
      cases hp with
     |cons _ _=>exact absurd rfl ht
def tI (G:Gs K mg a d):FnOk P w K mg base CX0 2 a.eJ d.eJ ["self","side","cell"] (Ar w a.aM):=by
 have Pn:FnOk P w K mg base CX0 1 _ _ _ _:=lR G;refine G.u9.ok lL (λvs H Q E h=>?_) (λcdv A outer s H vs Q E hr h=>?_)
 . obtain⟨x,hd,rl,l,M,r,b,cv,k,rfl,_⟩:=h;rfl
 . obtain⟨x,hd,rl,l,M,r,b,cv,k,rfl,S,hk,q⟩:=h;refine⟨_,((kH Lm rfl (G9 (by rfl) G.xM ((@aI _ _ _ _ _ _ _ ba (al (pv 0) rfl) (pv 1) (λ_ _=>rfl))∣aa)) (bV (i:=3) lL.nd rfl (KU rfl)) (@ar _ _ _ (aO (ao (qX hr.units) (@aI _ _ _ _ _ _ _ aH (pv 3) ai (λ_ _=>rfl)) (pv 2) (ax _)) ((@aI _ _ _ _ _ _ _ aH (pv 3) ai (λ_ _=>rfl))⁻¹) aq)))∪((az (pv 0) G.aF G.bT Pn (hr.mono (by decide)) G.cr .nil av ((pv 2)∣aa))⁻¹)),?_⟩;obtain⟨dx,hx⟩:=S.ob;obtain⟨ts,hl,hp⟩:=S.rw b;have hn:=aL hp;refine⟨_,rfl,x,a.aM,dx,_,_,rfl,hx,G.aF,G.c9,kf,_,rfl,rl,_,_,_,rfl,rfl,SqL.of S.ro,re b,l b,ts,rfl,SqL.of hl,?_⟩;refine Ew (K:=K) (a:=l b) (xs:=ts) (λi σ H'=>(∃ v,σ=[dk (.ref x),dk (.int (sdI b)),dk cv,v])/\H'=H/\∀ p∈((r b).reverse.take i),Kn p.1 k=f')
    ⟨⟨_,rfl⟩,rfl,λp hp=>by cases hp⟩ (λ_ _ _ _ z=>by rw[z.2.1];exact SqL.of hl) ?_ ?_
   . rintro i y σ H' hi hy ⟨⟨v,rfl⟩,rfl,hno⟩;obtain⟨p,e1,t,tc,rfl,ht,hc⟩:=MX.f2_get hp _ _ hy;have hrev:(r b).reverse[i]?=dk p:=by
      rw[List.getElem?_reverse (by omega)];rw[hn];exact e1
     refine⟨_,rfl,t,_,_,_,rfl,rfl,SqT.of ht,rfl,_,rfl,p.1,k,hc.2.2.1,hk.2.2.1,sF.key hc.1 hc.2.1,sF.key hk.1 hk.2.1,_,rfl,?_⟩;simp only[Ll,if_false];refine Bi (λhe=>?_) (λhe=>?_)
     . refine⟨_,rfl,t,_,_,_,rfl,rfl,SqT.of ht,rfl,?_⟩;have e:cH M (r b) k=p.2:=by
        unfold cH;have hfind:(r b).reverse.find? (λp=>Kn p.1 k)=dk p:=by
         rw[List.find?_eq_some_iff_getElem];refine⟨he,i,(Kw.mp hrev).1,(Kw.mp hrev).2,λj hj=>?_⟩;rw[hno _ (KZ (by rw[List.getElem?_take,Qq hj];exact Kh _))];rfl
        rw[hfind]
       rw[e]at q;exact q
     . refine⟨⟨_,rfl⟩,rfl,λp' hp'=>?_⟩;rw[take_succ,hrev]at hp';rcases KS.mp hp' with z|z
       . exact hno p' z
       . rw[show p'=p by simpa using z];cases w':Kn p.1 k with
        |false=>rfl
        |true=>exact absurd w' he
   . rintro σ H' ⟨⟨v,rfl⟩,rfl,hno⟩;refine⟨_,rfl,x,dx,_,rfl,hx,bU (by decide +kernel) (by decide +kernel),_,rfl,x,hd,rl,l,M,r,cv,k,rfl,S,hk,?_⟩;have e:cH M (r b) k=(fi M k).getD (.int 0):=by
      unfold cH;have hfind:(r b).reverse.find? (λp=>Kn p.1 k)=JZ:=by
       rw[find?_eq_none];intro p hp';rw[hno p (by rw[Li (by rw[List.length_reverse];omega)];exact hp')];decide
      rw[hfind]
     rw[e]at q;exact q
def ED:Sp:=λvs H Q _=>∃ c s r:Int,vs=[.int c,.int s,.int r]/\0 < s/\s <= 8/\0 < s * r/\Q (.int ((c+1) % (s * r))) H
def Bo:Sp:=λvs H Q _=>∃ c s:Int,vs=[.int c,.int s]/\0 < s/\Q (.int (c % s)) H
def BZ:Sp:=λvs H Q _=>∃ o b s r:Int,vs=[.int o,.int b,.int s,.int r]/\0 < s/\s <= 8/\0 < s * r/\Q (.int ((o - b) % (s * r))) H
def Dx (G:Gs K mg a d):FnOk P w K mg base CX0 1 a.cE d.cE ["counter","size","rounds"] ED:=by
 refine G.kK.ok oJ (λvs H Q E h=>?_) (λcdv A outer st H vs Q E hr h=>?_)
 . obtain⟨c,s,r,rfl,_⟩:=h;rfl
 . obtain⟨c,s,r,rfl,h0,h1,h2,k⟩:=h;refine⟨_,((@cy _ _ _ _ _ _ _ _ nV (@cy _ _ _ _ _ _ _ _ lS (pv 0) ai) (@cy _ _ _ _ _ _ _ _ ur (pv 1) (pv 2)))⁻¹),?_⟩;exact⟨_,rfl,_,_,rfl,rfl,_,rfl,_,rfl,_,_,rfl,rfl,pV (by omega) (by omega),_,_,rfl,rfl,h2,k⟩
def BE (G:Gs K mg a d):FnOk P w K mg base CX0 1 a.iF d.iF ["counter","size"] Bo:=by
 refine G.rC.ok vB (λvs H Q E h=>?_) (λcdv A outer st H vs Q E hr h=>?_)
 . obtain⟨c,s,rfl,_⟩:=h;rfl
 . obtain⟨c,s,rfl,h0,k⟩:=h;refine⟨_,((@cy _ _ _ _ _ _ _ _ nV (pv 0) (pv 1))⁻¹),?_⟩;exact⟨_,rfl,_,rfl,_,_,rfl,rfl,h0,k⟩
def wA (G:Gs K mg a d):FnOk P w K mg base CX0 1 a.ie d.ie ["one","other","size","rounds"] BZ:=by
 refine G.mO.ok vJ (λvs H Q E h=>?_) (λcdv A outer st H vs Q E hr h=>?_)
 . obtain⟨o,b,s,r,rfl,_⟩:=h;rfl
 . obtain⟨o,b,s,r,rfl,h0,h1,h2,k⟩:=h;refine⟨_,((@cy _ _ _ _ _ _ _ _ nV (@cy _ _ _ _ _ _ _ _ my (pv 0) (pv 1)) (@cy _ _ _ _ _ _ _ _ ur (pv 2) (pv 3)))⁻¹),?_⟩;exact⟨_,rfl,_,rfl,_,_,rfl,rfl,_,rfl,_,rfl,_,_,rfl,rfl,pV (by omega) (by omega),_,_,rfl,rfl,h2,k⟩
def C2:Sp:=λvs H Q _=>∃ (R:Int) (ft:D') (fs:List Str),vs=[.int R,.ref ft]/\H ft=dk (.tup (fs.map V.str))/\Q (.int (if fs.contains "round" then 1 else R)) H
def Cf (K:Kc) (CR:D'):Sp:=λvs H Q _=>∃ (q dx st wa ft:D') (b:Bool) (w0 w1 w2:Str) (s R:Int) (fs:List Str),vs=[.ref q,.ref st,.int (sdI b),.ref wa,.int s,.int R,.ref ft]/\H q=dk (.ins CR dx [])/\(∀ H,SqT K H wa [.str w0,.str w1,.str w2])/\H ft=dk (.tup (fs.map V.str)) /\
 ∀ H',Rn CR H' q st b w0 w1 w2 ⟨s,if fs.contains "round" then 1 else R,fs.contains "counter"⟩->Kp [q] H H'->Q .non H'
def B5 (w:Kk) (CR CS:D'):Sp:=λvs H Q _=>∃ (q:D') (z:SA) (b:Bool) (w0 w1 w2:Str) (p:RP) (M:List (Ka × V)) (r:Bool->List (Ka × V)) (A T:Int),vs=[.ref q]/\Rn CR H q z.x b w0 w1 w2 p/\z.At w CS H M r/\p.Ok/\Lf w1=j'/\Lf w2=j' /\
 cH M (r b) (.str w1)=.int A/\cH M (r b) (.str w2)=.int T/\Q (.int ((A - T) % (p.s * p.R))) H
def EB (w:Kk) (CR CS:D'):Sp:=λvs H Q _=>∃ (q:D') (z:SA) (b:Bool) (w0 w1 w2:Str) (p:RP) (M:List (Ka × V)) (r:Bool->List (Ka × V)) (A T:Int),vs=[.ref q]/\Rn CR H q z.x b w0 w1 w2 p/\z.At w CS H M r/\p.Ok/\Lf w1=j'/\Lf w2=j' /\
 cH M (r b) (.str w1)=.int A/\cH M (r b) (.str w2)=.int T/\Q (.bl (decide ((A - T) % (p.s * p.R)=p.s))) H
def y3 (CR:D'):Sp:=λvs H Q _=>∃ (q st:D') (b:Bool) (w0 w1 w2:Str) (p:RP) (A:Int),vs=[.ref q,.int A]/\Rn CR H q st b w0 w1 w2 p/\p.Ok/\∀ t,H t=JZ->Q (.ref t) (upd H t (.tup [.str w0,.int (A % p.s)]))
def xJ (w:Kk) (CR CS:D'):Sp:=λvs H Q _=>∃ (q:D') (z:SA) (b:Bool) (w0 w1 w2:Str) (p:RP) (M:List (Ka × V)) (r:Bool->List (Ka × V)) (A:Int) (cv:V) (k:Ka),vs=[.ref q,cv,.int A]/\Rn CR H q z.x b w0 w1 w2 p/\z.At w CS H M r/\p.Ok/\(r b).length < 100000/\vo H k cv /\
 ∀ H',z.At w CS H' M (aC r b (r b++[(k,.int ((A+1) % (p.s * p.R)))]))->Kp [z.l b] H H'->Q .non H'
def Gj (w:Kk) (CR CS:D'):Sp:=λvs H Q _=>∃ (q:D') (z:SA) (b:Bool) (w0 w1 w2:Str) (p:RP) (M:List (Ka × V)) (r:Bool->List (Ka × V)) (A:Int) (nm wv:V),vs=[.ref q,nm,wv]/\Rn CR H q z.x b w0 w1 w2 p/\z.At w CS H M r/\p.Ok/\Lf w0=j'/\Lf w1=j'/\(r b).length < 99999 /\
 cH M (r b) (.str w1)=.int A/\∀ t H',H t=JZ->H' t=dk (.tup [nm,wv])->z.At w CS H' M (aC r b (r b++oQ p w0 w1 A (.ref t)))->Kp [z.l b] H H'->Q .non H'
def BV (w:Kk) (CR CS:D'):Sp:=λvs H Q _=>∃ (q:D') (z:SA) (b:Bool) (w0 w1 w2:Str) (p:RP) (M:List (Ka × V)) (r:Bool->List (Ka × V)) (A T:Int),vs=[.ref q]/\Rn CR H q z.x b w0 w1 w2 p/\z.At w CS H M r/\p.Ok/\Lf w0=j'/\Lf w1=j'/\Lf w2=j'/\(r b).length < 100000 /\
 cH M (r b) (.str w1)=.int A/\cH M (r b) (.str w2)=.int T/\(if (A - T) % (p.s * p.R)=0 then Q .non H else
  (∃ c vs,cH M (r b) (.tuple [.str w0,.int (T % p.s)])=.ref c/\H c=dk (.tup vs)/\∀ H',z.At w CS H' M (aC r b (r b++[(.str w2,.int ((T+1) % (p.s * p.R)))]))->Kp [z.l b] H H'->Q (.ref c) H') \/
  ∃ i,cH M (r b) (.tuple [.str w0,.int (T % p.s)])=.int i/\∀ t H',H t=JZ->H' t=dk (.tup [.non,.non])->z.At w CS H' M (aC r b (r b++[(.str w2,.int ((T+1) % (p.s * p.R)))]))->Kp [z.l b] H H'->Q (.ref t) H')
def xE (G:Gs K mg a d):FnOk P w K mg base CX0 1 a.dG d.dG ["rounds","faults"] C2:=by
 refine G.iq.ok qw (λvs H Q E h=>?_) (λcdv A outer s H vs Q E hr h=>?_)
 . obtain⟨R,ft,fs,rfl,_⟩:=h;rfl
 . obtain⟨R,ft,fs,rfl,hf,k⟩:=h;refine⟨_,((ms (ao jw au (pv 1) (by with_unfolding_all rfl)) ai (pv 0))⁻¹),?_⟩;refine⟨_,rfl,ft,_,rfl,.inr (SqT.of hf),rfl,hU fs,_,rfl,?_⟩;simp only[Ll,if_false];rw[sy];by_cases hb:fs.contains "round"=j'
   . rw[Qq hb]at k |-;exact k
   . rw[Qr hb]at k |-;exact⟨_,rfl,k⟩
def wF (G:Gs K mg a d):FnOk P w K mg base CX0 2 a.eS d.eS ["self","store","side","words","size","rounds","faults"] (Cf K a.cg):=by
 have Qi:FnOk P w K mg base CX0 1 _ _ _ _:=xE G;refine G.uO.ok sY (λvs H Q E h=>?_) (λcdv A outer s H vs Q E hr h=>?_)
 . obtain⟨q,dx,st,wa,ft,b,w0,w1,w2,s,R,fs,rfl,_⟩:=h;rfl
 . obtain⟨q,dx,st,wa,ft,b,w0,w1,w2,s,R,fs,rfl,hx,hw,hf,k⟩:=h;refine⟨_,((bw (pv 0) (pv 1) rfl)∪((bw (pv 0) (pv 2) rfl)∪((bw (pv 0) (@aI _ _ _ _ _ _ _ aH (pv 3) ai (λ_ _=>rfl)) rfl)∪((bw (pv 0) (@aI _ _ _ _ _ _ _ aH (pv 3) ai (λ_ _=>rfl)) rfl)∪((bw (pv 0) (@aI _ _ _ _ _ _ _ aH (pv 3) ai (λ_ _=>rfl)) rfl)∪((bw (pv 0) (pv 4) rfl)∪((bw (pv 0) (aJ Qi (hr.mono (by decide)) (by rfl) G.mI G.iq.kp G.mJ .nil av ((pv 5)∣((pv 6)∣aa))) rfl)∪(@ar _ _ _ (bw (pv 0) (dY jw au (pv 6) (by with_unfolding_all rfl)) rfl))))))))),?_⟩;have nf:ft≠q:=iK hf hx (by intro z;cases z);have ft':∀ o,upd H q o ft=dk (.tup (fs.map V.str)):=λo=>by rw[ac nf];exact hf
   refine⟨_,rfl,_,rfl,q,a.cg,dx,[],rfl,hx,G.ay,G.bz,by decide,?_⟩;refine⟨_,rfl,_,rfl,q,a.cg,dx,_,rfl,a8,G.ay,G.bK,by show 1 < 1000;decide,?_⟩;rw[dU];refine⟨_,rfl,wa,_,_,_,rfl,rfl,hw _,rfl,_,rfl,q,a.cg,dx,_,rfl,a8,G.ay,G.nM,by show 2 < 1000;decide,?_⟩;rw[dU];refine⟨_,rfl,wa,_,_,_,rfl,rfl,hw _,rfl,_,rfl,q,a.cg,dx,_,rfl,a8,G.ay,G.fg,by show 3 < 1000;decide,?_⟩;rw[dU];refine⟨_,rfl,wa,_,_,_,rfl,rfl,hw _,rfl,_,rfl,q,a.cg,dx,_,rfl,a8,G.ay,G.dP,by show 4 < 1000;decide,?_⟩;rw[dU];refine⟨_,rfl,_,rfl,q,a.cg,dx,_,rfl,a8,G.ay,G.fc,by show 5 < 1000;decide,?_⟩;rw[dU];refine⟨_,rfl,_,rfl,R,ft,fs,rfl,ft' _,_,rfl,q,a.cg,dx,_,rfl,a8,G.ay,G.gO,by show 6 < 1000;decide,?_⟩;rw[dU];refine⟨_,rfl,ft,_,rfl,.inr (SqT.of (ft' _)),rfl,hU fs,_,rfl,q,a.cg,dx,_,rfl,a8,G.ay,G.bJ,by show 7 < 1000;decide,?_⟩;rw[dU];simp only[Ll,if_false];rw[sy];refine k _ ⟨dx,a8⟩ λc o nc ec=>?_
   rw[ac λz=>nc (JY.mpr z)];exact ec
def m9 (G:Gs K mg a d):FnOk P w K mg base CX0 3 a.dH d.dH ["self"] (B5 w a.cg a.aM):=by
 have Po:FnOk P w K mg base CX0 2 _ _ _ _:=tI G;have PU:FnOk P w K mg base CX0 1 _ _ _ _:=wA G;refine G.rZ.ok gT (λvs H Q E h=>?_) (λcdv A' outer s H vs Q E hr h=>?_)
 . obtain⟨q,z,b,w0,w1,w2,p,M,r,A,T,rfl,_⟩:=h;rfl
 . obtain⟨q,z,b,w0,w1,w2,p,M,r,A,T,rfl,⟨dx,hx⟩,S,hp,o1,o2,hA,hT,k⟩:=h;refine⟨_,((@bi _ _ 1 _ _ _ _ gT.nd rfl (KU rfl) (az (al (pv 0) rfl) G.aF G.cQ Po (hr.mono (by decide)) G.dL .nil av ((al (pv 0) rfl)∣((al (pv 0) rfl)∣aa))) (by rfl) (by first|exact .inl rfl|exact .inr rfl|assumption))∪((@bi _ _ 2 _ _ _ _ gT.nd rfl (KU rfl) (az (al (pv 0) rfl) G.aF G.cQ Po (hr.mono (by decide)) G.dL .nil av ((al (pv 0) rfl)∣((al (pv 0) rfl)∣aa))) (by rfl) (by first|exact .inl rfl|exact .inr rfl|assumption))∪((aJ PU (hr.mono (by decide)) (by rfl) G.r8 G.mO.kp G.rH .nil av ((pv 1)∣((pv 2)∣((al (pv 0) rfl)∣((al (pv 0) rfl)∣aa)))))⁻¹))),?_⟩;obtain⟨dxs,hxs⟩:=S.ob;refine⟨_,rfl,fld hx G.ay G.bz gr ⟨z.x,dxs,_,rfl,hxs,bU (by decide +kernel) (by decide +kernel),_,rfl,fld hx G.ay G.bK k9 ⟨_,rfl,fld hx G.ay G.fg tL ⟨z.x,z.hd,z.rl,z.l,M,r,b,.str w1,.str w1,rfl,S,kS o1,?_⟩⟩⟩⟩;rw[hA];refine⟨_,rfl,fld hx G.ay G.bz gr ⟨z.x,dxs,_,rfl,hxs,bU (by decide +kernel) (by decide +kernel),_,rfl,fld hx G.ay G.bK k9 ⟨_,rfl,fld hx G.ay G.dP nK ⟨z.x,z.hd,z.rl,z.l,M,r,b,.str w2,.str w2,rfl,S,kS o2,?_⟩⟩⟩⟩;rw[hT];exact⟨_,rfl,_,rfl,_,rfl,fld hx G.ay G.fc rQ ⟨_,rfl,fld hx G.ay G.gO uG ⟨A,T,p.s,p.R,rfl,hp.s0,hp.s8,hp.sR,k⟩⟩⟩
def yQ (G:Gs K mg a d):FnOk P w K mg base CX0 4 a.cO d.cO ["self"] (EB w a.cg a.aM):=by
 have Pd:FnOk P w K mg base CX0 3 _ _ _ _:=m9 G;refine G.q9.ok oS (λvs H Q E h=>?_) (λcdv A' outer s H vs Q E hr h=>?_)
 . obtain⟨q,z,b,w0,w1,w2,p,M,r,A,T,rfl,_⟩:=h;rfl
 . obtain⟨q,z,b,w0,w1,w2,p,M,r,A,T,rfl,⟨dx,hx⟩,S,hp,o1,o2,hA,hT,k⟩:=h;refine⟨_,((dY bW (aN (pv 0) G.ay G.eX Pd (hr.mono (by decide)) G.fB .nil av) (al (pv 0) rfl) (ax _))⁻¹),?_⟩;refine⟨_,rfl,q,dx,_,rfl,hx,lT,q,z,b,w0,w1,w2,p,M,r,A,T,rfl,⟨dx,hx⟩,S,hp,o1,o2,hA,hT,_,rfl,fld hx G.ay G.fc rQ ⟨rfl,?_⟩⟩;have e:decide (V.int ((A - T) % (p.s * p.R))=V.int p.s)=decide ((A - T) % (p.s * p.R)=p.s):=by
    rw[decide_eq_decide];exact⟨ky,λz=>by rw[z]⟩
   rw[e];exact k
def qU (G:Gs K mg a d):FnOk P w K mg base CX0 2 a.ce d.ce ["self","counter"] (y3 a.cg):=by
 have Qh:FnOk P w K mg base CX0 1 _ _ _ _:=BE G;refine G.oW.ok o7 (λvs H Q E h=>?_) (λcdv A' outer s H vs Q E hr h=>?_)
 . obtain⟨q,st,b,w0,w1,w2,p,A,rfl,_⟩:=h;rfl
 . obtain⟨q,st,b,w0,w1,w2,p,A,rfl,⟨dx,hx⟩,hp,k⟩:=h;refine⟨_,((@bj _ _ _ _ _ ((al (pv 0) rfl)∣((aJ Qh (hr.mono (by decide)) (by rfl) G.xK G.rC.kp G.xO .nil av ((pv 1)∣((al (pv 0) rfl)∣aa)))∣aa)))⁻¹),?_⟩;exact⟨_,rfl,fld hx G.ay G.nM Ec ⟨_,rfl,_,rfl,fld hx G.ay G.fc rQ ⟨A,p.s,rfl,hp.s0,l2,λt ht=>k t ht⟩⟩⟩
def rE (G:Gs K mg a d):FnOk P w K mg base CX0 2 a.b9 d.b9 ["self","cell","counter"] (xJ w a.cg a.aM):=by
 have Pq:FnOk P w K mg base CX0 1 _ _ _ _:=lI G;have Qe:FnOk P w K mg base CX0 1 _ _ _ _:=Dx G;refine G.kD.ok jA (λvs H Q E h=>?_) (λcdv A' outer s H vs Q E hr h=>?_)
 . obtain⟨q,z,b,w0,w1,w2,p,M,r,A,cv,ke,rfl,_⟩:=h;rfl
 . obtain⟨q,z,b,w0,w1,w2,p,M,r,A,cv,ke,rfl,⟨dx,hx⟩,S,hp,hl,hk,k⟩:=h;refine⟨_,(@ar _ _ _ (@aK _ _ _ _ (az (al (pv 0) rfl) G.aF G.d6 Pq (hr.mono (by decide)) G.dN .nil av ((al (pv 0) rfl)∣((pv 1)∣((aJ Qe (hr.mono (by decide)) (by rfl) G.qe G.kK.kp G.qD .nil av ((pv 2)∣((al (pv 0) rfl)∣((al (pv 0) rfl)∣aa))))∣aa)))) (by rfl))),?_⟩;obtain⟨dxs,hxs⟩:=S.ob;exact⟨_,rfl,fld hx G.ay G.bz gr ⟨z.x,dxs,_,rfl,hxs,bU (by decide +kernel) (by decide +kernel),_,rfl,fld hx G.ay G.bK k9 ⟨_,rfl,_,rfl,_,rfl,fld hx G.ay G.fc rQ ⟨_,rfl,fld hx G.ay G.gO uG
    ⟨A,p.s,p.R,rfl,hp.s0,hp.s8,hp.sR,z.x,z.hd,z.rl,z.l,M,r,b,cv,_,ke,rfl,S,hl,hk,λH' S' kp'=>k H' S' kp'⟩⟩⟩⟩⟩
def CW (G:Gs K mg a d):FnOk P w K mg base CX0 4 a.ig d.ig ["self","name","worth"] (Gj w a.cg a.aM):=by
 have Po:FnOk P w K mg base CX0 2 _ _ _ _:=tI G;have Pq:FnOk P w K mg base CX0 1 _ _ _ _:=lI G;have Ph:FnOk P w K mg base CX0 2 _ _ _ _:=rE G;have Pg:FnOk P w K mg base CX0 2 _ _ _ _:=qU G;refine G.yb.ok pE (λvs H Q E h=>?_) (λcdv A' outer s H vs Q E hr h=>?_)
 . obtain⟨q,z,b,w0,w1,w2,p,M,r,A,nm,wv,rfl,_⟩:=h;rfl
 . obtain⟨q,z,b,w0,w1,w2,p,M,r,A,nm,wv,rfl,⟨dx,hx⟩,S,hp,o0,o1,hl,hA,k⟩:=h;refine⟨_,((@bi _ _ 3 _ _ _ _ pE.nd rfl (KU rfl) (az (al (pv 0) rfl) G.aF G.cQ Po (hr.mono (by decide)) G.dL .nil av ((al (pv 0) rfl)∣((al (pv 0) rfl)∣aa))) (by rfl) (by first|exact .inl rfl|exact .inr rfl|assumption))∪((aO (cJ (al (pv 0) rfl)) (@ar _ _ _ (@aK _ _ _ _ (az (pv 0) G.ay G.cM Ph (hr.mono (by decide)) G.cY .nil av ((al (pv 0) rfl)∣((pv 3)∣aa))) (by rfl))) aq)∪((@aK _ _ _ _ (az (al (pv 0) rfl) G.aF G.d6 Pq (hr.mono (by decide)) G.dN .nil av ((al (pv 0) rfl)∣((az (pv 0) G.ay G.jf Pg (hr.mono (by decide)) G.k8 .nil av ((pv 3)∣aa))∣((@bj _ _ _ _ _ ((pv 1)∣((pv 2)∣aa)))∣aa)))) (by rfl))∪(@ar _ _ _ (aO (i9 (cJ (al (pv 0) rfl))) (@ar _ _ _ (@aK _ _ _ _ (az (pv 0) G.ay G.cM Ph (hr.mono (by decide)) G.cY .nil av ((al (pv 0) rfl)∣((pv 3)∣aa))) (by rfl))) aq))))),?_⟩;obtain⟨dxs,hxs⟩:=S.ob;refine⟨_,rfl,fld hx G.ay G.bz gr ⟨z.x,dxs,_,rfl,hxs,bU (by decide +kernel) (by decide +kernel),_,rfl,fld hx G.ay G.bK k9 ⟨_,rfl,fld hx G.ay G.fg tL ⟨z.x,z.hd,z.rl,z.l,M,r,b,.str w1,.str w1,rfl,S,kS o1,?_⟩⟩⟩⟩;rw[hA];refine⟨_,rfl,fld hx G.ay G.bJ sE ⟨_,rfl,?_⟩⟩;cases he:p.e with
  |true =>
    refine jt ?_;refine⟨_,rfl,q,dx,_,rfl,hx,nI,_,rfl,fld hx G.ay G.fg tL ⟨_,rfl,q,z,b,w0,w1,w2,p,M,r,A,.str w1,.str w1,rfl,⟨dx,hx⟩,S,hp,by omega,kS o1,λH1 S1 kp1=>?_⟩⟩;have hx1:=kp1 _ _ (S.noI hx) hx;obtain⟨dx1,hs1⟩:=S1.ob;refine⟨_,rfl,fld hx1 G.ay G.bz gr ⟨z.x,dx1,_,rfl,hs1,bU (by decide +kernel) (by decide +kernel),_,rfl,fld hx1 G.ay G.bK k9 ⟨_,rfl,q,dx,_,rfl,hx1,tD,_,rfl,q,z.x,b,w0,w1,w2,p,A,rfl,⟨dx,hx1⟩,hp,λt1 ht1=>⟨_,rfl,_,rfl,l2,λt2 ht2=>?_⟩⟩⟩⟩;have e1:=ag (o:=.tup [V.str w0,V.int (A % p.s)]) ht1;have e2:=ag (o:=.tup [nm,wv]) ht2;have e12:=e1.trans e2;have S2:=S1.same e12;have v1:=e2 _ _ (a8 (H:=H1) (a:=t1) (o:=.tup [V.str w0,V.int (A % p.s)]));have v2:=a8 (H:=upd H1 t1 (.tup [V.str w0,V.int (A % p.s)])) (a:=t2) (o:=.tup [nm,wv]);have n2:H t2=JZ:=fZ kp1 (cK e1 ht2) λx hx=>by
     obtain⟨ts,e,_⟩:=S1.rw b;rw[JY.mp hx,e];intro z;cases z
    have hx2:=e12 _ _ hx1;generalize upd (upd H1 t1 (.tup [V.str w0,V.int (A % p.s)])) t2 (.tup [nm,wv])=H2 at e2 e12 S2 v1 v2 hx2 |-;refine⟨z.x,z.hd,z.rl,z.l,M,_,b,.ref t1,.ref t2,.tuple [.str w0,.int (A % p.s)],rfl,S2,by rw[am,JX];show _+1 < _;omega,kT o0 v1,λH3 S3 kp3=>?_⟩;have hx3:=kp3 _ _ (S2.noI hx2) hx2;refine⟨_,rfl,fld hx3 G.ay G.bJ sE ⟨_,rfl,?_⟩⟩;rw[he];refine iE ?_;refine k t2 H3 n2 (kp3 _ _ (S2.noT v2) v2) ?_ λc o n e=>kp3 c o n (e12 _ _ (kp1 c o n e))
    rw[am,qZ,Ku]at S3;unfold oQ;rw[he];exact S3
  |false =>
    refine iE ?_;refine⟨_,rfl,fld hx G.ay G.bz gr ⟨z.x,dxs,_,rfl,hxs,bU (by decide +kernel) (by decide +kernel),_,rfl,fld hx G.ay G.bK k9 ⟨_,rfl,q,dx,_,rfl,hx,tD,_,rfl,q,z.x,b,w0,w1,w2,p,A,rfl,⟨dx,hx⟩,hp,λt1 ht1=>⟨_,rfl,_,rfl,l2,λt2 ht2=>?_⟩⟩⟩⟩;have e1:=ag (o:=.tup [V.str w0,V.int (A % p.s)]) ht1;have e2:=ag (o:=.tup [nm,wv]) ht2;have e12:=e1.trans e2;have S2:=S.same e12;have v1:=e2 _ _ (a8 (H:=H) (a:=t1) (o:=.tup [V.str w0,V.int (A % p.s)]));have v2:=a8 (H:=upd H t1 (.tup [V.str w0,V.int (A % p.s)])) (a:=t2) (o:=.tup [nm,wv]);have n2:H t2=JZ:=cK e1 ht2;have hx2:=e12 _ _ hx;generalize upd (upd H t1 (.tup [V.str w0,V.int (A % p.s)])) t2 (.tup [nm,wv])=H2 at e2 e12 S2 v1 v2 hx2 |-;refine⟨z.x,z.hd,z.rl,z.l,M,r,b,.ref t1,.ref t2,.tuple [.str w0,.int (A % p.s)],rfl,S2,by omega,kT o0 v1,λH3 S3 kp3=>?_⟩;have hx3:=kp3 _ _ (S2.noI hx2) hx2;refine⟨_,rfl,fld hx3 G.ay G.bJ sE ⟨_,rfl,?_⟩⟩;rw[he];refine jt ?_;refine⟨_,rfl,q,dx,_,rfl,hx3,nI,_,rfl,fld hx3 G.ay G.fg tL ⟨_,rfl,q,z,b,w0,w1,w2,p,M,_,A,.str w1,.str w1,rfl,⟨dx,hx3⟩,S3,hp,by rw[am,JX];show _+1 < _;omega,kS o1,λH4 S4 kp4=>?_⟩⟩;have v3:=kp3 _ _ (S2.noT v2) v2;refine k t2 H4 n2 (kp4 _ _ (S3.noT v3) v3) ?_ λc o n e=>kp4 c o n (kp3 c o n (e12 _ _ e))
    rw[am,qZ,Ku]at S4;unfold oQ;rw[he];exact S4
def x6 (G:Gs K mg a d):FnOk P w K mg base CX0 5 a.eU d.eU ["self"] (BV w a.cg a.aM):=by
 have Po:FnOk P w K mg base CX0 2 _ _ _ _:=tI G;have Pd:FnOk P w K mg base CX0 3 _ _ _ _:=m9 G;have Ph:FnOk P w K mg base CX0 2 _ _ _ _:=rE G;have Pg:FnOk P w K mg base CX0 2 _ _ _ _:=qU G;refine G.vh.ok j9 (λvs H Q E h=>?_) (λcdv A' outer s H vs Q E hr h=>?_)
 . obtain⟨q,z,b,w0,w1,w2,p,M,r,A,T,rfl,_⟩:=h;rfl
 . obtain⟨q,z,b,w0,w1,w2,p,M,r,A,T,rfl,⟨dx,hx⟩,S,hp,o0,o1,o2,hl,hA,hT,k⟩:=h;refine⟨_,((aO (ao bW (aN (pv 0) G.ay G.eX Pd (hr.mono (by decide)) G.fB .nil av) ai (ax _)) (ib⁻¹) aq)∪((@bi _ _ 1 _ _ _ _ j9.nd rfl (KU rfl) (az (al (pv 0) rfl) G.aF G.cQ Po (hr.mono (by decide)) G.dL .nil av ((al (pv 0) rfl)∣((al (pv 0) rfl)∣aa))) (by rfl) (by first|exact .inl rfl|exact .inr rfl|assumption))∪((@bi _ _ 2 _ _ _ _ j9.nd rfl (KU rfl) (az (al (pv 0) rfl) G.aF G.cQ Po (hr.mono (by decide)) G.dL .nil av ((al (pv 0) rfl)∣((az (pv 0) G.ay G.jf Pg (hr.mono (by decide)) G.k8 .nil av ((pv 1)∣aa))∣aa))) (by rfl) (by first|exact .inl rfl|exact .inr rfl|assumption))∪((@aK _ _ _ _ (az (pv 0) G.ay G.cM Ph (hr.mono (by decide)) G.cY .nil av ((al (pv 0) rfl)∣((pv 1)∣aa))) (by rfl))∪((ms (cJ (bA fI (by rfl) G.fe ez ((pv 2)∣((oM (v:=.ty "tuple") (by rfl) G.vD rY rfl)∣aa)))) (pv 2) (@bj _ _ _ _ _ (ib∣(ib∣aa))))⁻¹))))),?_⟩;obtain⟨dxs,hxs⟩:=S.ob;refine⟨_,rfl,q,dx,_,rfl,hx,lT,q,z,b,w0,w1,w2,p,M,r,A,T,rfl,⟨dx,hx⟩,S,hp,o1,o2,hA,hT,rfl,_,rfl,?_⟩;by_cases h0:(A - T) % (p.s * p.R)=0
   . rw[Qq h0]at k;rw[h0];exact jO rfl k
   rw[Qr h0]at k;refine cW (λz=>h0 (ky z)) ?_;refine⟨_,rfl,fld hx G.ay G.bz gr ⟨z.x,dxs,_,rfl,hxs,bU (by decide +kernel) (by decide +kernel),_,rfl,fld hx G.ay G.bK k9 ⟨_,rfl,fld hx G.ay G.dP nK ⟨z.x,z.hd,z.rl,z.l,M,r,b,.str w2,.str w2,rfl,S,kS o2,?_⟩⟩⟩⟩;rw[hT];refine⟨_,rfl,fld hx G.ay G.bz gr ⟨z.x,dxs,_,rfl,hxs,bU (by decide +kernel) (by decide +kernel),_,rfl,fld hx G.ay G.bK k9 ⟨_,rfl,q,dx,_,rfl,hx,tD,_,rfl,q,z.x,b,w0,w1,w2,p,T,rfl,⟨dx,hx⟩,hp,λt1 ht1=>?_⟩⟩⟩;have e1:=ag (o:=.tup [V.str w0,V.int (T % p.s)]) ht1;have S1:=S.same e1;have v1:=a8 (H:=H) (a:=t1) (o:=.tup [V.str w0,V.int (T % p.s)]);have hx1:=e1 _ _ hx;generalize upd H t1 (.tup [V.str w0,V.int (T % p.s)])=H1 at e1 S1 v1 hx1 |-;refine⟨z.x,z.hd,z.rl,z.l,M,r,b,.ref t1,.tuple [.str w0,.int (T % p.s)],rfl,S1,kT o0 v1,?_⟩;refine⟨_,rfl,q,dx,_,rfl,hx1,nI,_,rfl,fld hx1 G.ay G.dP nK ⟨_,rfl,q,z,b,w0,w1,w2,p,M,r,T,.str w2,.str w2,rfl,⟨dx,hx1⟩,S1,hp,hl,kS o2,λH2 S2 kp2=>?_⟩⟩;rcases k with⟨c,vs,e,hc,k⟩|⟨i,e,k⟩
   . rw[e];have hc2:=kp2 _ _ (S1.noT (e1 _ _ hc)) (e1 _ _ hc);exact⟨_,rfl,_,_,_,j',rfl,TyOf.tup hc2,FM,_,rfl,jt ⟨_,rfl,k H2 S2 λc o n q=>kp2 c o n (e1 _ _ q)⟩⟩
   . rw[e];refine⟨_,rfl,_,_,_,f',rfl,TyOf.int i,Iw,_,rfl,iE ⟨l2,λt ht=>?_⟩⟩;have e3:=ag (o:=.tup [V.non,V.non]) ht;have n3:H t=JZ:=cK e1 (fZ kp2 ht λx hx=>by
      obtain⟨ts,e,_⟩:=S2.rw b;rw[JY.mp hx,e];intro z;cases z)
     exact k t _ n3 a8 (S2.same e3) λc o n q=>e3 _ _ (kp2 c o n (e1 _ _ q))
def BX (CH CR:D'):Sp:=λvs H Q _=>∃ (h dx st ft:D') (s R n:Int) (fs:List Str),vs=[.ref h,.ref st,.int s,.int R,.int n,.ref ft]/\H h=dk (.ins CH dx [])/\H ft=dk (.tup (fs.map V.str)) /\
 ∀ (z:HA) (H':Hp),z.h=h->H z.ra=JZ->H z.rb=JZ->H z.gd=JZ->Hn CH CR H' z st ⟨s,if fs.contains "round" then 1 else R,fs.contains "counter"⟩ n []->Kp [h] H H'->Q .non H'
def BW (CH CR:D'):Sp:=λvs H Q _=>∃ (z:HA) (st:D') (p:RP) (n:Nat) (aw:List Int),vs=[.ref z.h]/\Hn CH CR H z st p n aw/\n <= 9/\Q (match bO n aw with|some k=>.int k|none=>.non) H
def xF (w:Kk) (CH CR CS F N:D'):Sp:=λvs H Q E=>∃ (z:HA) (sa:SA) (p:RP) (n:Nat) (aw:List Int) (M:List (Ka × V)) (r:Bool->List (Ka × V)) (A T:Int),vs=[.ref z.h]/\Hn CH CR H z sa.x p n aw/\sa.At w CS H M r/\p.Ok/\n <= 9 /\
 cH M (r f') (.str "asked")=.int A/\cH M (r f') (.str "taken")=.int T/\if (A - T) % (p.s * p.R)=p.s then E (.ref F) JZ H else match bO n aw with|none=>E (.ref N) JZ H|some _=>Q .non H
def Df (w:Kk) (CH CR CS F N:D'):Sp:=λvs H Q E=>∃ (z:HA) (sa:SA) (p:RP) (n:Nat) (aw:List Int) (M:List (Ka × V)) (r:Bool->List (Ka × V)) (wv:V) (A T:Int),vs=[.ref z.h,wv]/\Hn CH CR H z sa.x p n aw/\sa.At w CS H M r/\p.Ok/\n <= 9/\aw.length < 1000/\(r f').length < 99999 /\
 cH M (r f') (.str "asked")=.int A/\cH M (r f') (.str "taken")=.int T/\if (A - T) % (p.s * p.R)=p.s then E (.ref F) JZ H else match bO n aw with
 |none=>E (.ref N) JZ H
 |some nm=>∀ t H',H t=JZ->H' t=dk (.tup [.int nm,wv])->Hn CH CR H' z sa.x p n (aw++[nm])->sa.At w CS H' M (aC r f' (r f'++oQ p "ask" "asked" A (.ref t)))->Kp [z.gd,sa.l f'] H H'->Q (.int nm) H'
def rg (w:Kk) (CH CR CS:D'):Sp:=λvs H Q _=>∃ (z:HA) (sa:SA) (p:RP) (n:Int) (aw:List Int) (M:List (Ka × V)) (r:Bool->List (Ka × V)) (A T:Int),vs=[.ref z.h]/\Hn CH CR H z sa.x p n aw/\sa.At w CS H M r/\p.Ok/\(r f').length < 100000 /\
 cH M (r f') (.str "answered")=.int A/\cH M (r f') (.str "handed")=.int T/\(if (A - T) % (p.s * p.R)=0 then Q .non H else
  (∃ c nm wv,cH M (r f') (.tuple [.str "answer",.int (T % p.s)])=.ref c/\H c=dk (.tup [.int nm,wv])/\∀ H',Hn CH CR H' z sa.x p n (aw.filter λk=>decide (k≠nm))->sa.At w CS H' M (aC r f' (r f'++[(.str "handed",.int ((T+1) % (p.s * p.R)))]))->Kp [z.gd,sa.l f'] H H'->Q (.ref c) H') \/
  ∃ i,cH M (r f') (.tuple [.str "answer",.int (T % p.s)])=.int i/\∀ t H',H t=JZ->H' t=dk (.tup [.non,.non])->Hn CH CR H' z sa.x p n aw->sa.At w CS H' M (aC r f' (r f'++[(.str "handed",.int ((T+1) % (p.s * p.R)))]))->Kp [sa.l f'] H H'->Q (.ref t) H')
def BJ (G:Gs K mg a d):FnOk P w K mg base CX0 4 a.eC d.eC ["self","store","size","rounds","names","faults"] (BX a.dI a.cg):=by
 have Pb:FnOk P w K mg base CX0 2 _ _ _ _:=wF G;refine G.vj.ok sj (λvs H Q E h=>?_) (λcdv A outer s H vs Q E hr h=>?_)
 . obtain⟨h,dx,st,ft,s,R,n,fs,rfl,_⟩:=h;rfl
 . obtain⟨h,dx,st,ft,s,R,n,fs,rfl,hx,hf,k⟩:=h;refine⟨_,((bw (pv 0) (kY G.xi Pb (hr.mono (by decide)) (by rfl) G.xm G.gq .nil av ((pv 1)∣(ai∣((fm (v:=.ref a.gD) (by rfl) G.wC rfl)∣((pv 2)∣((pv 3)∣((pv 5)∣aa))))))) rfl)∪((bw (pv 0) (kY G.xi Pb (hr.mono (by decide)) (by rfl) G.xm G.gq .nil av ((pv 1)∣(ai∣((fm (v:=.ref a.bI) (by rfl) G.lM rfl)∣((pv 2)∣((pv 3)∣((pv 5)∣aa))))))) rfl)∪((bw (pv 0) (pv 4) rfl)∪(@ar _ _ _ (bw (pv 0) km rfl))))),?_⟩;refine⟨_,rfl,_,rfl,_,rfl,_,rfl,λra da na nda nea=>?_⟩;refine⟨ra,da,st,a.gD,ft,f',"ask","asked","taken",s,R,fs,rfl,a8,G.xB,?_,λH1 r1 kp1=>?_⟩
   . rw[ac (ae hf na),ac (ae hf nda)];exact hf
   have e1:bL H H1:=λc o e=>kp1 c o (λz=>ae e na (JY.mp z)) (by rw[ac (ae e na),ac (ae e nda)];exact e)
   clear kp1;refine⟨rfl,_,rfl,h,a.dI,dx,[],rfl,e1 _ _ hx,G.c6,G.jR,by decide,?_⟩;have n1:ra≠h:=λz=>by rw[z,hx]at na;cases na
   have hx1:=e1 _ _ hx;have kp2:Kp [h] H (upd H1 h (.ins a.dI dx (bn "asks" (.ref ra) []))):=λc o n e=>by rw[ac λz=>n (JY.mpr z)];exact e1 _ _ e
   have hx2:upd H1 h (.ins a.dI dx (bn "asks" (.ref ra) [])) h=dk (.ins a.dI dx (bn "asks" (.ref ra) [])):=a8;have r2:=r1.keep (H':=upd H1 h (.ins a.dI dx (bn "asks" (.ref ra) []))) λo e=>by rw[ac n1];exact e
   have hf2:upd H1 h (.ins a.dI dx (bn "asks" (.ref ra) [])) ft=dk (.tup (fs.map V.str)):=by
    rw[ac (iK (e1 _ _ hf) hx1 (by intro z;cases z))];exact e1 _ _ hf
   generalize upd H1 h (.ins a.dI dx (bn "asks" (.ref ra) []))=H2 at kp2 hx2 r2 hf2 |-;refine⟨_,rfl,_,rfl,_,rfl,_,rfl,λrb db nb ndb neb=>?_⟩;refine⟨rb,db,st,a.bI,ft,f',"answer","answered","handed",s,R,fs,rfl,a8,G.m8,?_,λH3 r3 kp3=>?_⟩
   . rw[ac (ae hf2 nb),ac (ae hf2 ndb)];exact hf2
   have e3:bL H2 H3:=λc o e=>kp3 c o (λz=>ae e nb (JY.mp z)) (by rw[ac (ae e nb),ac (ae e ndb)];exact e)
   clear kp3;have nbH:H rb=JZ:=fZ kp2 nb λx m=>by rw[JY.mp m,hx2];intro z;cases z
   have n3:rb≠h:=λz=>by rw[z,hx2]at nb;cases nb
   refine⟨rfl,_,rfl,h,a.dI,dx,_,rfl,e3 _ _ hx2,G.c6,G.fP,by show 1 < 1000;decide,?_⟩;refine⟨_,rfl,_,rfl,h,a.dI,dx,_,rfl,a8,G.c6,G.mB,by show 2 < 1000;decide,?_⟩;rw[dU];refine λgd hg=>⟨_,rfl,h,a.dI,dx,_,rfl,(by rw[ac (ae a8 hg)];exact a8),G.c6,G.eA,by show 3 < 1000;decide,?_⟩
   obtain⟨ng,hg3⟩:=up1 hg;have gdH:H gd=JZ:=fZ kp2 (cK e3 hg3) λx m=>by rw[JY.mp m,hx2];intro z;cases z
   refine k ⟨h,ra,rb,gd⟩ _ rfl na nbH gdH ⟨⟨dx,a8⟩,(r2.keep λo e=>e3 _ _ e).keep λo e=>?_,r3.keep λo e=>?_,?_⟩ λc o nc ec=>?_
   . rw[ac n1,ac (ae e hg3),ac n1];exact e
   . rw[ac n3,ac (ae e hg3),ac n3];exact e
   . rw[ac ng,a8];rfl
   . have c1:c≠h:=λz=>nc (JY.mpr z)
     have e4:=e3 _ _ (kp2 c o nc ec);rw[ac c1,ac (ae e4 hg3),ac c1];exact e4
def wS (G:Gs K mg a d):FnOk P w K mg base CX0 1 a.bC d.bC ["self"] (BW a.dI a.cg):=by
 refine G.mW.ok gu (λvs H Q E h=>?_) (λcdv A outer s H vs Q E hr h=>?_)
 . obtain⟨z,st,p,n,aw,rfl,_⟩:=h;rfl
 . obtain⟨z,st,p,n,aw,rfl,hn,hn9,k⟩:=h;have hu:=dR hr;refine⟨_,((kH Lm rfl (uD (by rfl) G.Af ((al (pv 0) rfl)∣aa)) (bV (i:=1) gu.nd rfl (KU rfl)) (@ar _ _ _ (aO (wK (jT hu (pv 1) (al (pv 0) rfl))) ((pv 1)⁻¹) aq)))∪(ib⁻¹)),?_⟩;obtain⟨dx,hx⟩:=hn.ob;refine⟨_,rfl,fld hx G.c6 G.mB BA ⟨n,rfl,by omega,by omega,?_⟩⟩;refine uI (n:=((n:Nat):Int).toNat) (λi σ H'=>(∃ v,σ=[dk (.ref z.h),v])/\H'=H/\∀ j < i,aw.contains (j:Int)=j') ⟨⟨_,rfl⟩,rfl,λj hj=>absurd hj (by omega)⟩ ?_ ?_
   . rintro i σ H' hi ⟨⟨v,rfl⟩,rfl,hno⟩;rw[Int.zero_add];refine⟨_,rfl,_,rfl,fld hx G.c6 G.eA oy ⟨z.gd,_,rfl,qb.k (k:=.inl (i:Int)) hn.go,_,rfl,?_⟩⟩;rw[gm];cases hc:aw.contains (i:Int) with
    |false =>
      rw[yk (by omega) hc hno]at k;exact jt ⟨_,rfl,k⟩
    |true =>
      refine iE ⟨⟨_,rfl⟩,rfl,λj hj=>?_⟩;by_cases hji:j < i
      . exact hno j hji
      . have e:j=i:=by omega
        rw[e];exact hc
   . rintro σ H' ⟨⟨v,rfl⟩,rfl,hno⟩;rw[yu λj hj=>hno j (by omega)]at k;exact k
def xD (G:Gs K mg a d):FnOk P w K mg base (CXv P w) 6 a.bN d.bN ["self"] (xF w a.dI a.cg a.aM a.vn a.gJ):=by
 have Pe:FnOk P w K mg base CX0 4 _ _ _ _:=yQ G;have O2:FnOk P w K mg base CX0 1 _ _ _ _:=wS G;refine G.o4.okX (k:=5) nJ (λvs H Q E h=>?_) (λcdv A' outer s' H vs Q E hr hR h=>?_)
 . obtain⟨z,sa,p,n,aw,M,r,A,T,rfl,_⟩:=h;rfl
 . obtain⟨z,sa,p,n,aw,M,r,A,T,rfl,hn,S,hp,n9,hA,hT,k⟩:=h;refine⟨_,((aO (cJ (aN (al (pv 0) rfl) G.ay G.jD Pe (hr.mono (by decide)) G.kE .nil av)) (@ar _ _ _ (ii hR hr.hd (by rfl) G.Do G.xc_Full (au∣aa))) aq)∪(@ar _ _ _ (aO (ao CV (aN (pv 0) G.c6 G.gI O2 (hr.mono (by decide)) G.i6 .nil av) ib (ax _)) (@ar _ _ _ (ii hR hr.hd (by rfl) G.Bs G.xc_NoName (au∣aa))) aq))),?_⟩;obtain⟨dx,hx⟩:=hn.ob;obtain⟨dr,hra⟩:=hn.ra;refine⟨_,rfl,fld hx G.c6 G.jR Au ⟨z.ra,dr,_,rfl,hra,AN,z.ra,sa,f',"ask","asked","taken",p,M,r,A,T,rfl,⟨dr,hra⟩,S,hp,by decide +kernel,by decide +kernel,hA,hT,_,rfl,?_⟩⟩;by_cases hc:(A - T) % (p.s * p.R)=p.s
   . rw[Qq hc]at k;exact jO hc ⟨by show 1 <= Ki;decide,k⟩
   rw[Qr hc]at k;refine cW hc ?_;refine⟨_,rfl,z.h,dx,_,rfl,hx,xy,z,sa.x,p,n,aw,rfl,hn,n9,rfl,_,rfl,?_⟩;cases hle:bO n aw with
  |none =>
    rw[hle]at k;exact jO rfl ⟨by show 1 <= Ki;decide,k⟩
  |some nm =>
    rw[hle]at k;exact cW (by intro z;cases z) k
def GK (G:Gs K mg a d):FnOk P w K mg base (CXv P w) 8 a.iV d.iV ["self","worth"] (Df w a.dI a.cg a.aM a.vn a.gJ):=by
 have Ql:FnOk P w K mg base (CXv P w) 6 _ _ _ _:=xD G;have O2:FnOk P w K mg base CX0 1 _ _ _ _:=wS G;have Pf:FnOk P w K mg base CX0 4 _ _ _ _:=CW G;refine G.xX.okX (k:=7) oH (λvs H Q E h=>?_) (λcdv A' outer s' H vs Q E hr hR h=>?_)
 . obtain⟨z,sa,p,n,aw,M,r,wv,A,T,rfl,_⟩:=h;rfl
 . obtain⟨z,sa,p,n,aw,M,r,wv,A,T,rfl,hn,S,hp,n9,hal,hrl,hA,hT,k⟩:=h;have hu:=dR hr;refine⟨_,((@aK _ _ _ _ (aN (pv 0) G.c6 G.hG Ql (hr.mono (by decide)) G.jc .nil hR.passes) (by rfl))∪((@bi _ _ 2 _ _ _ _ oH.nd rfl (KU rfl) (aN (pv 0) G.c6 G.gI O2 (hr.mono (by decide)) G.i6 .nil av) (by rfl) (by first|exact .inl rfl|exact .inr rfl|assumption))∪((l5 hu (al (pv 0) rfl) (pv 2) bF rfl)∪((@aK _ _ _ _ (az (al (pv 0) rfl) G.ay G.pG Pf (hr.mono (by decide)) G.rJ .nil av ((pv 2)∣((pv 1)∣aa))) (by rfl))∪((pv 2)⁻¹))))),?_⟩;obtain⟨dx,hx⟩:=hn.ob;refine⟨_,rfl,z.h,dx,_,rfl,hx,wH,z,sa,p,n,aw,M,r,A,T,rfl,hn,S,hp,n9,hA,hT,?_⟩;by_cases hc:(A - T) % (p.s * p.R)=p.s
   . rw[Qq hc]at k |-;exact k
   rw[Qr hc]at k |-;cases hle:bO n aw with
  |none=>rw[hle]at k;exact k
  |some nm =>
    rw[hle]at k;refine⟨_,rfl,z.h,dx,_,rfl,hx,xy,z,sa.x,p,n,aw,rfl,hn,n9,?_⟩;rw[hle];refine⟨_,rfl,fld hx G.c6 G.eA oy ⟨_,rfl,z.gd,_,rfl,z0.k (k:=.inl nm) hn.go (Kg (by rw[qP];exact hal) (by decide)),?_⟩⟩;rw[qT nm aw (mU hle)];have n1:z.h≠z.gd:=iK hx hn.go (by intro z;cases z);have kp1:Kp [z.gd] H (upd H z.gd (.dK (gK (aw++[nm])))):=Kp.one;have S1:=Sto.kp S kp1 (λc hc=>by rw[JY.mp hc];exact S.noD hn.go) (λc hc vs e=>by rw[JY.mp hc,hn.go]at e;cases e);have hn1:Hn a.dI a.cg (upd H z.gd (.dK (gK (aw++[nm])))) z sa.x p n (aw++[nm]):=by
     obtain⟨d1,x1⟩:=hn.ra;obtain⟨d2,x2⟩:=hn.rb;exact⟨⟨dx,by rw[ac n1];exact hx⟩,⟨d1,by rw[ac (iK x1 hn.go (by intro z;cases z))];exact x1⟩,⟨d2,by rw[ac (iK x2 hn.go (by intro z;cases z))];exact x2⟩,a8⟩
    generalize upd H z.gd (.dK (gK (aw++[nm])))=H1 at kp1 S1 hn1 |-;obtain⟨dx1,hx1⟩:=hn1.ob;obtain⟨dr,hra⟩:=hn1.ra;refine⟨_,rfl,fld hx1 G.c6 G.jR Au ⟨z.ra,dr,_,rfl,hra,Dm,_,rfl,_,rfl,z.ra,sa,f',"ask","asked","taken",p,M,r,A,.int nm,wv,rfl,⟨dr,hra⟩,S1,hp,by decide +kernel,by decide +kernel,hrl,hA,λt H2 n2 v2 S2 kp2=>⟨_,rfl,?_⟩⟩⟩;refine k t H2 (fZ kp1 n2 λx m=>by rw[JY.mp m,hn1.go];intro z;cases z) v2 (hn1.lists kp2 λc m=>.inl ?_) S2 λc o nc e=>?_
    . obtain⟨ts,e,_⟩:=S1.rw f';exact⟨ts,by rw[JY.mp m];exact e⟩
    . exact kp2 c o (λm=>nc (Kl _ m)) (kp1 c o (λm=>nc (by rw[JY.mp m];exact Km)) e)
def y7 (G:Gs K mg a d):FnOk P w K mg base CX0 7 a.cL d.cL ["self"] (rg w a.dI a.cg a.aM):=by
 have Pc:FnOk P w K mg base CX0 5 _ _ _ _:=x6 G;refine G.qh.ok jI (λvs H Q E h=>?_) (λcdv A' outer s' H vs Q E hr h=>?_)
 . obtain⟨z,sa,p,n,aw,M,r,A,T,rfl,_⟩:=h;rfl
 . obtain⟨z,sa,p,n,aw,M,r,A,T,rfl,hn,S,hp,hrl,hA,hT,k⟩:=h;refine⟨_,((@bi _ _ 1 _ _ _ _ jI.nd rfl (KU rfl) (aN (al (pv 0) rfl) G.ay G.lE Pc (hr.mono (by decide)) G.nU .nil av) (by rfl) (by first|exact .inl rfl|exact .inr rfl|assumption))∪((aO (ao oR (pv 1) ib (ax _)) (@ar _ _ _ (@aK _ _ _ _ (AJ (al (pv 0) rfl) (@aI _ _ _ _ _ _ _ aH (pv 1) ai (λ_ _=>rfl)) ib ⟨rfl,rfl,rfl,rfl⟩) (by rfl))) aq)∪((pv 1)⁻¹))),?_⟩;obtain⟨dx,hx⟩:=hn.ob;obtain⟨dr,hrb⟩:=hn.rb;refine⟨_,rfl,fld hx G.c6 G.fP rm ⟨z.rb,dr,_,rfl,hrb,wy,z.rb,sa,f',"answer","answered","handed",p,M,r,A,T,rfl,⟨dr,hrb⟩,S,hp,by decide +kernel,by decide +kernel,by decide +kernel,hrl,hA,hT,?_⟩⟩;by_cases h0:(A - T) % (p.s * p.R)=0
   . rw[Qq h0]at k |-;exact⟨_,rfl,rfl,_,rfl,iE ⟨_,rfl,k⟩⟩
   rw[Qr h0]at k |-;rcases k with⟨c,nm,wv,hrd,hc,k⟩|⟨i,hrd,k⟩
   rotate_left
   . refine .inr ⟨i,hrd,λt H1 n1 v1 S1 kp1=>?_⟩;have hn1:=hn.lists kp1 λc m=>.inl (by
      obtain⟨ts,e,_⟩:=S.rw f';exact⟨ts,by rw[JY.mp m];exact e⟩)
     obtain⟨dx1,hx1⟩:=hn1.ob;exact⟨_,rfl,rfl,_,rfl,jt ⟨_,rfl,fld hx1 G.c6 G.eA oy ⟨z.gd,rfl,.inl ⟨_,.inl hn1.go⟩,_,rfl,t,_,_,_,rfl,rfl,SqT.of v1,rfl,_,hn1.go,.inr ⟨rfl,_,rfl,k t H1 n1 v1 hn1 S1 kp1⟩⟩⟩⟩
   refine .inl ⟨c,_,hrd,hc,λH1 S1 kp1=>?_⟩;have hn1:=hn.lists kp1 λc m=>.inl (by
    obtain⟨ts,e,_⟩:=S.rw f';exact⟨ts,by rw[JY.mp m];exact e⟩)
   have hc1:=kp1 _ _ (S.noT hc) hc;obtain⟨dx1,hx1⟩:=hn1.ob;refine⟨_,rfl,rfl,_,rfl,jt ?_⟩;refine⟨_,rfl,fld hx1 G.c6 G.eA oy ⟨z.gd,rfl,.inl ⟨_,.inl hn1.go⟩,_,rfl,c,_,_,_,rfl,rfl,SqT.of hc1,rfl,_,hn1.go,.inl ⟨.inl nm,rfl,λv hv=>⟨_,rfl,?_⟩,λhv=>⟨_,rfl,?_⟩⟩⟩⟩
   . rw[l6];refine k _ ?_ (S1.kp Kp.one (λc hc=>by rw[JY.mp hc];exact S1.noD hn1.go) λc hc vs e=>by rw[JY.mp hc,hn1.go]at e;cases e) λc o nc e=>?_
     . obtain⟨d1,x1⟩:=hn1.ra;obtain⟨d2,x2⟩:=hn1.rb;exact⟨⟨dx1,by rw[ac (iK hx1 hn1.go (by intro z;cases z))];exact hx1⟩,⟨d1,by rw[ac (iK x1 hn1.go (by intro z;cases z))];exact x1⟩,⟨d2,by rw[ac (iK x2 hn1.go (by intro z;cases z))];exact x2⟩,a8⟩
     . rw[ac λz=>nc (by rw[z];exact Km)];exact kp1 c o (λm=>nc (Kl _ m)) e
   . rw[gm]at hv;have hno:aw.contains nm=f':=by
      cases z:aw.contains nm with
     |false=>rfl
     |true=>rw[z]at hv;cases hv
     have ef:aw.filter (λk=>decide (k≠nm))=aw:=by
      rw[List.filter_eq_self];intro x hx;refine Qt λz=>?_
      rw[z]at hx;rw[K5,decide_eq_false_iff_not]at hno;exact hno hx
     rw[ef]at k;exact k H1 hn1 S1 λc o nc e=>kp1 c o (λm=>nc (Kl _ m)) e
def Ck (CT CR:D'):Sp:=λvs H Q _=>∃ (h dx st ft:D') (s R:Int) (fs:List Str),vs=[.ref h,.ref st,.int s,.int R,.ref ft]/\H h=dk (.ins CT dx [])/\H ft=dk (.tup (fs.map V.str)) /\
 ∀ (z:TA') (H':Hp),z.h=h->H z.ra=JZ->H z.rb=JZ->H z.gd=JZ->Tn CT CR H' z st ⟨s,if fs.contains "round" then 1 else R,fs.contains "counter"⟩ []->Kp [h] H H'->Q .non H'
def wI (w:Kk) (CT CR CS:D'):Sp:=λvs H Q _=>∃ (z:TA') (sa:SA) (p:RP) (ts:List Int) (M:List (Ka × V)) (r:Bool->List (Ka × V)) (A T:Int),vs=[.ref z.h]/\Tn CT CR H z sa.x p ts/\sa.At w CS H M r/\p.Ok/\ts.length < 1000/\(r j').length < 100000 /\
 cH M (r j') (.str "asked")=.int A/\cH M (r j') (.str "taken")=.int T/\(if (A - T) % (p.s * p.R)=0 then Q .non H else
  (∃ c nm wv,cH M (r j') (.tuple [.str "ask",.int (T % p.s)])=.ref c/\H c=dk (.tup [.int nm,wv])/\∀ H',Tn CT CR H' z sa.x p (lA ts nm)->sa.At w CS H' M (aC r j' (r j'++[(.str "taken",.int ((T+1) % (p.s * p.R)))]))->Kp [z.gd,sa.l j'] H H'->Q (.ref c) H') \/
  ∃ i,cH M (r j') (.tuple [.str "ask",.int (T % p.s)])=.int i/\∀ t H',H t=JZ->H' t=dk (.tup [.non,.non])->Tn CT CR H' z sa.x p ts->sa.At w CS H' M (aC r j' (r j'++[(.str "taken",.int ((T+1) % (p.s * p.R)))]))->Kp [sa.l j'] H H'->Q (.ref t) H')
def uH (w:Kk) (CT CR CS F N:D'):Sp:=λvs H Q E=>∃ (z:TA') (sa:SA) (p:RP) (ts:List Int) (M:List (Ka × V)) (r:Bool->List (Ka × V)) (A T nm:Int),vs=[.ref z.h,.int nm]/\Tn CT CR H z sa.x p ts/\sa.At w CS H M r/\p.Ok /\
 cH M (r j') (.str "answered")=.int A/\cH M (r j') (.str "handed")=.int T/\if ts.contains nm=f' then E (.ref N) JZ H else if (A - T) % (p.s * p.R)=p.s then E (.ref F) JZ H else Q .non H
def tW (w:Kk) (CT CR CS F N:D'):Sp:=λvs H Q E=>∃ (z:TA') (sa:SA) (p:RP) (ts:List Int) (M:List (Ka × V)) (r:Bool->List (Ka × V)) (A T nm:Int) (wv:V),vs=[.ref z.h,.int nm,wv]/\Tn CT CR H z sa.x p ts/\sa.At w CS H M r/\p.Ok/\(r j').length < 99999 /\
 cH M (r j') (.str "answered")=.int A/\cH M (r j') (.str "handed")=.int T/\if ts.contains nm=f' then E (.ref N) JZ H else if (A - T) % (p.s * p.R)=p.s then E (.ref F) JZ H else
  ∀ t H',H t=JZ->H' t=dk (.tup [.int nm,wv])->Tn CT CR H' z sa.x p (ts.filter λk=>decide (k≠nm))->sa.At w CS H' M (aC r j' (r j'++oQ p "answer" "answered" A (.ref t)))->Kp [z.gd,sa.l j'] H H'->Q .non H'
def Cb (CT CR:D'):Sp:=λvs H Q _=>∃ (z:TA') (st:D') (p:RP) (ts:List Int),vs=[.ref z.h]/\Tn CT CR H z st p ts/\ts.length < 64/\∀ (l:D') (ns:List Int),H l=JZ->ns.Perm ts->ns.Pairwise (· <= ·)->Q (.ref l) (upd H l (.lst (ns.map V.int)))
def Bx (G:Gs K mg a d):FnOk P w K mg base CX0 4 a.de d.de ["self","store","size","rounds","faults"] (Ck a.b8 a.cg):=by
 have Pb:FnOk P w K mg base CX0 2 _ _ _ _:=wF G;refine G.sC.ok qL (λvs H Q E h=>?_) (λcdv A outer s H vs Q E hr h=>?_)
 . obtain⟨h,dx,st,ft,s,R,fs,rfl,_⟩:=h;rfl
 . obtain⟨h,dx,st,ft,s,R,fs,rfl,hx,hf,k⟩:=h;refine⟨_,((bw (pv 0) (kY G.xi Pb (hr.mono (by decide)) (by rfl) G.xm G.gq .nil av ((pv 1)∣(ai∣((fm (v:=.ref a.gD) (by rfl) G.wC rfl)∣((pv 2)∣((pv 3)∣((pv 4)∣aa))))))) rfl)∪((bw (pv 0) (kY G.xi Pb (hr.mono (by decide)) (by rfl) G.xm G.gq .nil av ((pv 1)∣(ai∣((fm (v:=.ref a.bI) (by rfl) G.lM rfl)∣((pv 2)∣((pv 3)∣((pv 4)∣aa))))))) rfl)∪(@ar _ _ _ (bw (pv 0) km rfl)))),?_⟩;refine⟨_,rfl,_,rfl,_,rfl,_,rfl,λra da na nda nea=>?_⟩;refine⟨ra,da,st,a.gD,ft,j',"ask","asked","taken",s,R,fs,rfl,a8,G.xB,?_,λH1 r1 kp1=>?_⟩
   . rw[ac (ae hf na),ac (ae hf nda)];exact hf
   have e1:bL H H1:=λc o e=>kp1 c o (λz=>ae e na (JY.mp z)) (by rw[ac (ae e na),ac (ae e nda)];exact e)
   clear kp1;refine⟨rfl,_,rfl,h,a.b8,dx,[],rfl,e1 _ _ hx,G.bH,G.ix,by decide,?_⟩;have n1:ra≠h:=λz=>by rw[z,hx]at na;cases na
   have hx1:=e1 _ _ hx;have kp2:Kp [h] H (upd H1 h (.ins a.b8 dx (bn "asks" (.ref ra) []))):=λc o n e=>by rw[ac λz=>n (JY.mpr z)];exact e1 _ _ e
   have hx2:upd H1 h (.ins a.b8 dx (bn "asks" (.ref ra) [])) h=dk (.ins a.b8 dx (bn "asks" (.ref ra) [])):=a8;have r2:=r1.keep (H':=upd H1 h (.ins a.b8 dx (bn "asks" (.ref ra) []))) λo e=>by rw[ac n1];exact e
   have hf2:upd H1 h (.ins a.b8 dx (bn "asks" (.ref ra) [])) ft=dk (.tup (fs.map V.str)):=by
    rw[ac (iK (e1 _ _ hf) hx1 (by intro z;cases z))];exact e1 _ _ hf
   generalize upd H1 h (.ins a.b8 dx (bn "asks" (.ref ra) []))=H2 at kp2 hx2 r2 hf2 |-;refine⟨_,rfl,_,rfl,_,rfl,_,rfl,λrb db nb ndb neb=>?_⟩;refine⟨rb,db,st,a.bI,ft,j',"answer","answered","handed",s,R,fs,rfl,a8,G.m8,?_,λH3 r3 kp3=>?_⟩
   . rw[ac (ae hf2 nb),ac (ae hf2 ndb)];exact hf2
   have e3:bL H2 H3:=λc o e=>kp3 c o (λz=>ae e nb (JY.mp z)) (by rw[ac (ae e nb),ac (ae e ndb)];exact e)
   clear kp3;have nbH:H rb=JZ:=fZ kp2 nb λx m=>by rw[JY.mp m,hx2];intro z;cases z
   have n3:rb≠h:=λz=>by rw[z,hx2]at nb;cases nb
   refine⟨rfl,_,rfl,h,a.b8,dx,_,rfl,e3 _ _ hx2,G.bH,G.fh,by show 1 < 1000;decide,?_⟩;refine λgd hg=>⟨_,rfl,h,a.b8,dx,_,rfl,(by rw[ac (ae a8 hg)];exact a8),G.bH,G.d7,by show 2 < 1000;decide,?_⟩
   obtain⟨ng,hg3⟩:=up1 hg;have gdH:H gd=JZ:=fZ kp2 (cK e3 hg3) λx m=>by rw[JY.mp m,hx2];intro z;cases z
   refine k ⟨h,ra,rb,gd⟩ _ rfl na nbH gdH ⟨⟨dx,a8⟩,(r2.keep λo e=>e3 _ _ e).keep λo e=>?_,r3.keep λo e=>?_,?_⟩ λc o nc ec=>?_
   . rw[ac n1,ac (ae e hg3),ac n1];exact e
   . rw[ac n3,ac (ae e hg3),ac n3];exact e
   . rw[ac ng,a8];rfl
   . have c1:c≠h:=λz=>nc (JY.mpr z)
     have e4:=e3 _ _ (kp2 c o nc ec);rw[ac c1,ac (ae e4 hg3),ac c1];exact e4
def Bg (G:Gs K mg a d):FnOk P w K mg base CX0 7 a.eF d.eF ["self"] (wI w a.b8 a.cg a.aM):=by
 have Pc:FnOk P w K mg base CX0 5 _ _ _ _:=x6 G;refine G.vg.ok lU (λvs H Q E h=>?_) (λcdv A' outer s' H vs Q E hr h=>?_)
 . obtain⟨z,sa,p,ts,M,r,A,T,rfl,_⟩:=h;rfl
 . obtain⟨z,sa,p,ts,M,r,A,T,rfl,hn,S,hp,htl,hrl,hA,hT,k⟩:=h;have hu:=dR hr;refine⟨_,((@bi _ _ 1 _ _ _ _ lU.nd rfl (KU rfl) (aN (al (pv 0) rfl) G.ay G.lE Pc (hr.mono (by decide)) G.nU .nil av) (by rfl) (by first|exact .inl rfl|exact .inr rfl|assumption))∪((aO ((rq (ao oR (pv 1) ib (ax _)) (pJ (ao oR (@aI _ _ _ _ _ _ _ aH (pv 1) ai (λ_ _=>rfl)) ib (ax _))))).pt (@ar _ _ _ (l5 hu (al (pv 0) rfl) (@aI _ _ _ _ _ _ _ aH (pv 1) ai (λ_ _=>rfl)) bF rfl)) aq)∪((pv 1)⁻¹))),?_⟩;obtain⟨dx,hx⟩:=hn.ob;obtain⟨dr,hra⟩:=hn.ra;refine⟨_,rfl,fld hx G.bH G.ix Ao ⟨z.ra,dr,_,rfl,hra,wy,z.ra,sa,j',"ask","asked","taken",p,M,r,A,T,rfl,⟨dr,hra⟩,S,hp,by decide +kernel,by decide +kernel,by decide +kernel,hrl,hA,hT,?_⟩⟩;by_cases h0:(A - T) % (p.s * p.R)=0
   . rw[Qq h0]at k |-;exact⟨_,rfl,rfl,_,rfl,iE ⟨_,rfl,k⟩⟩
   rw[Qr h0]at k |-;rcases k with⟨c,nm,wv,hrd,hc,k⟩|⟨i,hrd,k⟩
   . refine .inl ⟨c,_,hrd,hc,λH1 S1 kp1=>?_⟩;have hn1:=hn.lists kp1 λc m=>.inl (by
      obtain⟨ts,e,_⟩:=S.rw j';exact⟨ts,by rw[JY.mp m];exact e⟩)
     have hc1:=kp1 _ _ (S.noT hc) hc;obtain⟨dx1,hx1⟩:=hn1.ob;refine⟨_,rfl,rfl,_,rfl,jt ⟨_,rfl,c,_,_,_,rfl,rfl,SqT.of hc1,rfl,rfl,_,rfl,jt ?_⟩⟩;refine⟨_,rfl,fld hx1 G.bH G.d7 oF ⟨_,rfl,c,_,_,_,rfl,rfl,SqT.of hc1,rfl,z.gd,_,rfl,z0.k (k:=.inl nm) hn1.go (Kg (by rw[qP];exact htl) (by decide)),_,rfl,?_⟩⟩;rw[DF];refine k _ ?_ (S1.kp Kp.one (λc hc=>by rw[JY.mp hc];exact S1.noD hn1.go) λc hc vs e=>by rw[JY.mp hc,hn1.go]at e;cases e) λc o nc e=>?_
     . obtain⟨d1,x1⟩:=hn1.ra;obtain⟨d2,x2⟩:=hn1.rb;exact⟨⟨dx1,by rw[ac (iK hx1 hn1.go (by intro z;cases z))];exact hx1⟩,⟨d1,by rw[ac (iK x1 hn1.go (by intro z;cases z))];exact x1⟩,⟨d2,by rw[ac (iK x2 hn1.go (by intro z;cases z))];exact x2⟩,a8⟩
     . rw[ac λz=>nc (by rw[z];exact Km)];exact kp1 c o (λm=>nc (Kl _ m)) e
   . refine .inr ⟨i,hrd,λt H1 n1 v1 S1 kp1=>?_⟩;have hn1:=hn.lists kp1 λc m=>.inl (by
      obtain⟨ts,e,_⟩:=S.rw j';exact⟨ts,by rw[JY.mp m];exact e⟩)
     exact⟨_,rfl,rfl,_,rfl,jt ⟨_,rfl,t,_,_,_,rfl,rfl,SqT.of v1,rfl,rfl,_,rfl,iE ⟨_,rfl,k t H1 n1 v1 hn1 S1 kp1⟩⟩⟩
def ui (G:Gs K mg a d):FnOk P w K mg base (CXv P w) 6 a.bb d.bb ["self","name"] (uH w a.b8 a.cg a.aM a.vn a.gx):=by
 have Pe:FnOk P w K mg base CX0 4 _ _ _ _:=yQ G;refine G.kB.okX (k:=5) jE (λvs H Q E h=>?_) (λcdv A' outer s' H vs Q E hr hR h=>?_)
 . obtain⟨z,sa,p,ts,M,r,A,T,nm,rfl,_⟩:=h;rfl
 . obtain⟨z,sa,p,ts,M,r,A,T,nm,rfl,hn,S,hp,hA,hT,k⟩:=h;have hu:=dR hr;refine⟨_,((aO (wK (jT hu (pv 1) (al (pv 0) rfl))) (@ar _ _ _ (ii hR hr.hd (by rfl) G.Bj G.xc_NoTask (au∣aa))) aq)∪(@ar _ _ _ (aO (cJ (aN (al (pv 0) rfl) G.ay G.jD Pe (hr.mono (by decide)) G.kE .nil av)) (@ar _ _ _ (ii hR hr.hd (by rfl) G.Do G.xc_Full (au∣aa))) aq))),?_⟩;obtain⟨dx,hx⟩:=hn.ob;obtain⟨dr,hrb⟩:=hn.rb;refine⟨_,rfl,_,rfl,fld hx G.bH G.d7 oF ⟨z.gd,_,rfl,qb.k (k:=.inl nm) hn.go,_,rfl,?_⟩⟩;rw[gm];cases hc:ts.contains nm with
  |false =>
    rw[Qq hc]at k;exact jt ⟨by show 1 <= Ki;decide,k⟩
  |true =>
    rw[Qr (by rw[hc];decide)]at k;refine iE ?_;refine⟨_,rfl,fld hx G.bH G.fh qR ⟨z.rb,dr,_,rfl,hrb,AN,z.rb,sa,j',"answer","answered","handed",p,M,r,A,T,rfl,⟨dr,hrb⟩,S,hp,by decide +kernel,by decide +kernel,hA,hT,_,rfl,?_⟩⟩;by_cases hf:(A - T) % (p.s * p.R)=p.s
    . rw[Qq hf]at k;exact jO hf ⟨by show 1 <= Ki;decide,k⟩
    . rw[Qr hf]at k;exact cW hf k
def zA (G:Gs K mg a d):FnOk P w K mg base (CXv P w) 8 a.cI d.cI ["self","name","worth"] (tW w a.b8 a.cg a.aM a.vn a.gx):=by
 have Qn:FnOk P w K mg base (CXv P w) 6 _ _ _ _:=ui G;have Pf:FnOk P w K mg base CX0 4 _ _ _ _:=CW G;refine G.qy.okX (k:=7) pF (λvs H Q E h=>?_) (λcdv A' outer s' H vs Q E hr hR h=>?_)
 . obtain⟨z,sa,p,ts,M,r,A,T,nm,wv,rfl,_⟩:=h;rfl
 . obtain⟨z,sa,p,ts,M,r,A,T,nm,wv,rfl,hn,S,hp,hrl,hA,hT,k⟩:=h;refine⟨_,((@aK _ _ _ _ (az (pv 0) G.bH G.f9 Qn (hr.mono (by decide)) G.fw .nil hR.passes ((pv 1)∣aa)) (by rfl))∪((@aK _ _ _ _ (az (al (pv 0) rfl) G.ay G.pG Pf (hr.mono (by decide)) G.rJ .nil av ((pv 1)∣((pv 2)∣aa))) (by rfl))∪(@ar _ _ _ (@aK _ _ _ _ (mi (al (pv 0) rfl) (pv 1) ⟨rfl,rfl,rfl,rfl⟩) (by rfl))))),?_⟩;obtain⟨dx,hx⟩:=hn.ob;obtain⟨dr,hrb⟩:=hn.rb;refine⟨_,rfl,z.h,dx,_,rfl,hx,wZ,_,rfl,z,sa,p,ts,M,r,A,T,nm,rfl,hn,S,hp,hA,hT,?_⟩;by_cases hc:ts.contains nm=f'
   . rw[Qq hc]at k |-;exact k
   rw[Qr hc]at k |-;by_cases hf:(A - T) % (p.s * p.R)=p.s
   . rw[Qq hf]at k |-;exact k
   rw[Qr hf]at k |-;refine⟨_,rfl,fld hx G.bH G.fh qR ⟨z.rb,dr,_,rfl,hrb,Dm,_,rfl,_,rfl,z.rb,sa,j',"answer","answered","handed",p,M,r,A,.int nm,wv,rfl,⟨dr,hrb⟩,S,hp,by decide +kernel,by decide +kernel,hrl,hA,λt H1 n1 v1 S1 kp1=>?_⟩⟩;have hn1:=hn.lists kp1 λc m=>.inl (by
    obtain⟨ts,e,_⟩:=S.rw j';exact⟨ts,by rw[JY.mp m];exact e⟩)
   obtain⟨dx1,hx1⟩:=hn1.ob;have hv:mw (gK ts) (.inl nm)=dk (.bl j'):=by
    rw[gm];cases y:ts.contains nm with
   |true=>rfl
   |false=>exact absurd y hc
   refine⟨_,rfl,fld hx1 G.bH G.d7 oF ⟨z.gd,rfl,.inl ⟨_,.inl hn1.go⟩,_,rfl,_,.inl nm,_,hn1.go,rfl,hv,?_⟩⟩;rw[l6];refine k t _ n1 ?_ ?_ (S1.kp Kp.one (λc hc=>by rw[JY.mp hc];exact S1.noD hn1.go) λc hc vs e=>by rw[JY.mp hc,hn1.go]at e;cases e) λc o nc e=>?_
   . rw[ac (iK v1 hn1.go (by intro z;cases z))];exact v1
   . obtain⟨d1,x1⟩:=hn1.ra;obtain⟨d2,x2⟩:=hn1.rb;exact⟨⟨dx1,by rw[ac (iK hx1 hn1.go (by intro z;cases z))];exact hx1⟩,⟨d1,by rw[ac (iK x1 hn1.go (by intro z;cases z))];exact x1⟩,⟨d2,by rw[ac (iK x2 hn1.go (by intro z;cases z))];exact x2⟩,a8⟩
   . rw[ac λz=>nc (by rw[z];exact Km)];exact kp1 c o (λm=>nc (Kl _ m)) e
def Ch (G:Gs K mg a d):FnOk P w K mg base CX0 1 a.dg d.dg ["self"] (Cb a.b8 a.cg):=by
 refine G.rL.ok qi (λvs H Q E h=>?_) (λcdv A outer s H vs Q E hr h=>?_)
 . obtain⟨z,st,p,ts,rfl,_⟩:=h;rfl
 . obtain⟨z,st,p,ts,rfl,hn,hl,k⟩:=h;refine⟨_,((bA (vi rfl) (by rfl) G.Bm zg ((al (pv 0) rfl)∣aa))⁻¹),?_⟩;obtain⟨dx,hx⟩:=hn.ob;exact⟨_,rfl,fld hx G.bH G.d7 oF ⟨z.gd,_,ts,rfl,hn.go,by unfold gK;rw[map_map];rfl,hl,λp ns hp h1 h2=>k p ns hp h1 h2⟩⟩
def BR (w:Kk) (C:D'):Sp:=λvs H Q _=>∃ x dx,vs=[.ref x]/\H x=dk (.ins C dx []) /\
 ∀ (sa:SA) (H':Hp),sa.x=x->(∀ c,sa.own c->c≠x->H c=JZ)->StT w C H' sa Mem.zero (λ_=>[])->Kp [x] H H'->Q .non H'
def yS (w:Kk) (C:D'):Sp:=λvs H Q _=>∃ (sa:SA) (m:Mem) (rs:Bool->List Wr) (b:Bool) (cv wv:V) (x:Wr),vs=[.ref sa.x,.int (sdI b),cv,wv]/\StT w C H sa m rs/\(rs b).length < 99990/\vo H x.key cv/\DV H x.dat wv/\x.Ok /\
 ∀ H',StT w C H' sa m (aC rs b (rs b++[x]))->Kp [sa.l b] H H'->Q .non H'
def yZ (w:Kk) (C:D'):Sp:=λvs H Q _=>∃ (sa:SA) (m:Mem) (rs:Bool->List Wr) (b:Bool) (x:Wr) (rest:List Wr),vs=[.ref sa.x,.int (sdI b)]/\StT w C H sa m rs/\rs b=x :: rest /\
 ∀ H',StT w C H' sa (m.put x) (aC rs b rest)->Kp [sa.l b,sa.hd] H H'->Q .non H'
def wrD (x:Wr):Ka:=.tuple [x.key,x.dat]
def A9 (w:Kk) (C:D'):Sp:=λvs H Q _=>∃ (sa:SA) (m:Mem) (rs:Bool->List Wr) (b:Bool),vs=[.ref sa.x,.int (sdI b)]/\StT w C H sa m rs /\
 ∀ (p:D') (ts:List V),H p=JZ->DVs H ((rs b).map wrD) ts->Q (.ref p) (upd H p (.lst ts))
theorem xg {H:Hp}:∀ {row:List Wr}{es:List (Ka × V)},Kx (WrR H) row es->Kx (RD H) es (row.map wrD)
|_,_,.nil=>.nil
|x :: _,_,.cons ⟨_,hk,hd⟩ t=>.cons ⟨x.dat,by rw[hk];rfl,hd⟩ (xg t)
def Hk {w:Kk}{C:D'}{vs:List V}{H:Hp}{Q:VK}{E:XK}(h:BR w C vs H Q E):zk w C vs H Q E:=by
 obtain⟨x,dx,rfl,hx,k⟩:=h;refine⟨x,dx,rfl,hx,λhd rl l H' f1 f2 f3 S kp=>k ⟨x,hd,rl,l⟩ H' rfl (λc hc n=>?_) ⟨[],_,S,MemR.zero,λ_=>.nil⟩ kp⟩;rcases hc with y|y|y|y|y
 . exact absurd y n
 . rw[y];exact f1
 . rw[y];exact f2
 . rw[y];exact f3 _
 . rw[y];exact f3 _
def yM {w:Kk}{C:D'}{vs:List V}{H:Hp}{Q:VK}{E:XK}(h:yS w C vs H Q E):xA w C vs H Q E:=by
 obtain⟨sa,m,rs,b,cv,wv,x,rfl,⟨M,r,S,R,P⟩,hl,hk,hd,ho,k⟩:=h;have hl':=aL (P b);refine⟨sa.x,sa.hd,sa.rl,sa.l,M,r,b,cv,wv,x.key,rfl,S,by omega,hk,λH' S' kp=>k H' ?_ kp⟩;have ht:∀ c vs,H c=dk (.tup vs)->H' c=dk (.tup vs):=λc vs e=>kp c _ (S.noT e) e
 exact StT.grow R P S' ht (.cons ⟨ho,rfl,DV.keep ht _ _ x.dat_kd hd⟩ .nil)
def drainT {w:Kk}{C:D'}{vs:List V}{H:Hp}{Q:VK}{E:XK}(h:yZ w C vs H Q E):xj w C vs H Q E:=by
 obtain⟨sa,m,rs,b,x,rest,rfl,⟨M,r,S,R,P⟩,hb,k⟩:=h;have pb:=P b;rw[hb]at pb;cases hr:r b with
|nil=>rw[hr]at pb;cases pb
|cons q es =>
  rw[hr]at pb;cases pb with
 |cons hx pt =>
   refine⟨sa.x,sa.hd,sa.rl,sa.l,M,r,b,q.1,q.2,es,rfl,S,hr,Nat.lt_of_le_of_lt (StT.small S R) (by decide),λH' S' kp=>k H' ⟨_,_,S',?_,λc=>?_⟩ kp⟩
   all_goals
    have ht:∀ c vs,H c=dk (.tup vs)->H' c=dk (.tup vs):=λc vs e=>kp c _ (λmm=>by
     rcases KA.mp mm with y|y
     . exact S.noT (b:=b) e (JY.mpr y)
     . obtain⟨ee,e'⟩:=S.me.there;rw[JY.mp y,e']at e;cases e) e
   . exact(R.put hx).keep ht
   . by_cases e:c=b
     . subst e;rw[am,am];exact Paired.mapP pt λ_ _ q=>q.keep ht
     . rw[aA e,aA e];exact Paired.mapP (P c) λ_ _ q=>q.keep ht
def AM {w:Kk}{C:D'}{vs:List V}{H:Hp}{Q:VK}{E:XK}(h:A9 w C vs H Q E):xu w C vs H Q E:=by
 obtain⟨sa,m,rs,b,rfl,⟨M,r,S,R,P⟩,k⟩:=h;exact⟨sa.x,sa.hd,sa.rl,sa.l,M,r,b,rfl,S,λp ts hp pr=>k p ts hp (xk pr (xg (P b)))⟩
def Ek (w:Kk) (CH CR CS F N:D'):Sp:=λvs H Q E=>∃ (z:HA) (sa:SA) (p:RP) (n:Nat) (aw:List Int) (m:Mem) (rs:Bool->List Wr) (wt:Int),vs=[.ref z.h,.int wt]/\Hn CH CR H z sa.x p n aw/\StT w CS H sa m rs/\p.Ok/\n <= 9/\aw.length < 1000/\(rs f').length < 99990 /\
 if aB p m (rs f') .asked .taken=p.s then E (.ref F) JZ H else match bO n aw with
 |none=>E (.ref N) JZ H
 |some nm=>∀ H',Hn CH CR H' z sa.x p n (aw++[nm])->StT w CS H' sa m (aC rs f' (rs f'++kQ p m (rs f') f' .asked nm wt))->Kp [z.gd,sa.l f'] H H'->Q (.int nm) H'
def vX (w:Kk) (CH CR CS:D'):Sp:=λvs H Q _=>∃ (z:HA) (sa:SA) (p:RP) (n:Int) (aw:List Int) (m:Mem) (rs:Bool->List Wr),vs=[.ref z.h]/\Hn CH CR H z sa.x p n aw/\StT w CS H sa m rs/\p.Ok/\(rs f').length < 99990 /\
 (if aB p m (rs f') .answered .handed=0 then Q .non H else match rdP m (rs f') j' (rdC m (rs f') .handed % p.s) with
 |some nw=>∀ c H',H' c=dk (.tup [.int nw.1,.int nw.2])->Hn CH CR H' z sa.x p n (aw.filter λk=>decide (k≠nw.1))->StT w CS H' sa m (aC rs f' (rs f'++[cR p m (rs f') .handed]))->Kp [z.gd,sa.l f'] H H'->Q (.ref c) H'
 |none=>∀ c H',H' c=dk (.tup [.non,.non])->Hn CH CR H' z sa.x p n aw->StT w CS H' sa m (aC rs f' (rs f'++[cR p m (rs f') .handed]))->Kp [z.gd,sa.l f'] H H'->Q (.ref c) H')
def Jb {w:Kk}{CH CR CS F N:D'}{vs:List V}{H:Hp}{Q:VK}{E:XK}(h:Ek w CH CR CS F N vs H Q E):Df w CH CR CS F N vs H Q E:=by
 obtain⟨z,sa,p,n,aw,m,rs,wt,rfl,hn,⟨M,r,S,R,P⟩,hp,n9,hal,hrl,k⟩:=h;have hl:=aL (P f');refine⟨z,sa,p,n,aw,M,r,.int wt,rdC m (rs f') .asked,rdC m (rs f') .taken,rfl,hn,S,hp,n9,hal,by omega,cG R (P f') .asked,cG R (P f') .taken,?_⟩;unfold aB at k;by_cases hc:(rdC m (rs f') .asked - rdC m (rs f') .taken) % (p.s * p.R)=p.s
 . rw[Qq hc]at k |-;exact k
 . rw[Qr hc]at k |-;cases hle:bO n aw with
  |none=>rw[hle]at k;exact k
  |some nm =>
    rw[hle]at k;intro t H' n2 v2 hn2 S2 kp2;have ht:∀ c vs,H c=dk (.tup vs)->H' c=dk (.tup vs):=λc vs e=>kp2 c _ (λmm=>by
     rcases KA.mp mm with y|y
     . rw[y,hn.go]at e;cases e
     . exact S.noT e y) e
    exact k H' hn2 (StT.grow R P S2 ht (x9 hp (by have:=rP hle;omega) v2)) kp2
def Br {w:Kk}{CH CR CS:D'}{vs:List V}{H:Hp}{Q:VK}{E:XK}(h:vX w CH CR CS vs H Q E):rg w CH CR CS vs H Q E:=by
 obtain⟨z,sa,p,n,aw,m,rs,rfl,hn,⟨M,r,S,R,P⟩,hp,hrl,k⟩:=h;have hl:=aL (P f');refine⟨z,sa,p,n,aw,M,r,rdC m (rs f') .answered,rdC m (rs f') .handed,rfl,hn,S,hp,by omega,cG R (P f') .answered,cG R (P f') .handed,?_⟩;unfold aB at k;by_cases hc:(rdC m (rs f') .answered - rdC m (rs f') .handed) % (p.s * p.R)=0
 . rw[Qq hc]at k |-;exact k
 . rw[Qr hc]at k |-;have ht:∀ {H':Hp} {xs:List D'},(∀ x∈xs,x=z.gd\/x=sa.l f')->Kp xs H H'->∀ c vs,H c=dk (.tup vs)->H' c=dk (.tup vs):=λhx kp c vs e=>kp c _ (λmm=>by
    rcases hx c mm with y|y
    . rw[y,hn.go]at e;cases e
    . exact S.noT (b:=f') e (JY.mpr y)) e
   rcases zZ R (P f') j' (rdC m (rs f') .handed % p.s) with⟨e1,e2⟩|⟨nm,wt,c,e1,e2,hc'⟩
   . rw[e1]at k;refine .inr ⟨0,e2,λt H' n1 v1 hn1 S1 kp1=>k t H' v1 hn1 (StT.grow R P S1 (ht (λx mx=>.inr (JY.mp mx)) kp1) (.cons ⟨trivial,rfl,rfl⟩ .nil)) (kp1.mono λc mc=>Kl _ mc)⟩
   . rw[e1]at k;refine .inl ⟨c,nm,.int wt,e2,hc',λH' hn1 S1 kp1=>?_⟩;have ht':=ht (λx mx=>by
      rcases KA.mp mx with y|y
      . exact .inl y
      . exact .inr (JY.mp y)) kp1
     exact k c H' (ht' _ _ hc') hn1 (StT.grow R P S1 ht' (.cons ⟨trivial,rfl,rfl⟩ .nil)) kp1
def BH (w:Kk) (CT CR CS:D'):Sp:=λvs H Q _=>∃ (z:TA') (sa:SA) (p:RP) (ts:List Int) (m:Mem) (rs:Bool->List Wr),vs=[.ref z.h]/\Tn CT CR H z sa.x p ts/\StT w CS H sa m rs/\p.Ok/\ts.length < 1000/\(rs j').length < 99990 /\
 (if aB p m (rs j') .asked .taken=0 then Q .non H else match rdP m (rs j') f' (rdC m (rs j') .taken % p.s) with
 |some nw=>∀ c H',H' c=dk (.tup [.int nw.1,.int nw.2])->Tn CT CR H' z sa.x p (lA ts nw.1)->StT w CS H' sa m (aC rs j' (rs j'++[cR p m (rs j') .taken]))->Kp [z.gd,sa.l j'] H H'->Q (.ref c) H'
 |none=>∀ c H',H' c=dk (.tup [.non,.non])->Tn CT CR H' z sa.x p ts->StT w CS H' sa m (aC rs j' (rs j'++[cR p m (rs j') .taken]))->Kp [z.gd,sa.l j'] H H'->Q (.ref c) H')
def xS (w:Kk) (CT CR CS F N:D'):Sp:=λvs H Q E=>∃ (z:TA') (sa:SA) (p:RP) (ts:List Int) (m:Mem) (rs:Bool->List Wr) (nm wt:Int),vs=[.ref z.h,.int nm,.int wt]/\Tn CT CR H z sa.x p ts/\StT w CS H sa m rs/\p.Ok/\(rs j').length < 99990/\(∀ x∈ts,0 <= x/\x < 9) /\
 if ts.contains nm=f' then E (.ref N) JZ H else if aB p m (rs j') .answered .handed=p.s then E (.ref F) JZ H else
  ∀ H',Tn CT CR H' z sa.x p (ts.filter λk=>decide (k≠nm))->StT w CS H' sa m (aC rs j' (rs j'++kQ p m (rs j') j' .answered nm wt))->Kp [z.gd,sa.l j'] H H'->Q .non H'
def HN {w:Kk}{CT CR CS:D'}{vs:List V}{H:Hp}{Q:VK}{E:XK}(h:BH w CT CR CS vs H Q E):wI w CT CR CS vs H Q E:=by
 obtain⟨z,sa,p,ts,m,rs,rfl,hn,⟨M,r,S,R,P⟩,hp,htl,hrl,k⟩:=h;have hl:=aL (P j');refine⟨z,sa,p,ts,M,r,rdC m (rs j') .asked,rdC m (rs j') .taken,rfl,hn,S,hp,htl,by omega,cG R (P j') .asked,cG R (P j') .taken,?_⟩;unfold aB at k;by_cases hc:(rdC m (rs j') .asked - rdC m (rs j') .taken) % (p.s * p.R)=0
 . rw[Qq hc]at k |-;exact k
 . rw[Qr hc]at k |-;have ht:∀ {H':Hp} {xs:List D'},(∀ x∈xs,x=z.gd\/x=sa.l j')->Kp xs H H'->∀ c vs,H c=dk (.tup vs)->H' c=dk (.tup vs):=λhx kp c vs e=>kp c _ (λmm=>by
    rcases hx c mm with y|y
    . rw[y,hn.go]at e;cases e
    . exact S.noT (b:=j') e (JY.mpr y)) e
   rcases zZ R (P j') f' (rdC m (rs j') .taken % p.s) with⟨e1,e2⟩|⟨nm,wt,c,e1,e2,hc'⟩
   . rw[e1]at k;refine .inr ⟨0,e2,λt H' n1 v1 hn1 S1 kp1=>k t H' v1 hn1 (StT.grow R P S1 (ht (λx mx=>.inr (JY.mp mx)) kp1) (.cons ⟨trivial,rfl,rfl⟩ .nil)) (kp1.mono λc mc=>Kl _ mc)⟩
   . rw[e1]at k;refine .inl ⟨c,nm,.int wt,e2,hc',λH' hn1 S1 kp1=>?_⟩;have ht':=ht (λx mx=>by
      rcases KA.mp mx with y|y
      . exact .inl y
      . exact .inr (JY.mp y)) kp1
     exact k c H' (ht' _ _ hc') hn1 (StT.grow R P S1 ht' (.cons ⟨trivial,rfl,rfl⟩ .nil)) kp1
def Eu {w:Kk}{CT CR CS F N:D'}{vs:List V}{H:Hp}{Q:VK}{E:XK}(h:xS w CT CR CS F N vs H Q E):tW w CT CR CS F N vs H Q E:=by
 obtain⟨z,sa,p,ts,m,rs,nm,wt,rfl,hn,⟨M,r,S,R,P⟩,hp,hrl,hts,k⟩:=h;have hl:=aL (P j');refine⟨z,sa,p,ts,M,r,rdC m (rs j') .answered,rdC m (rs j') .handed,nm,.int wt,rfl,hn,S,hp,by omega,cG R (P j') .answered,cG R (P j') .handed,?_⟩;unfold aB at k;by_cases h0:ts.contains nm=f'
 . rw[Qq h0]at k |-;exact k
 rw[Qr h0]at k |-;by_cases hc:(rdC m (rs j') .answered - rdC m (rs j') .handed) % (p.s * p.R)=p.s
 . rw[Qq hc]at k |-;exact k
 . rw[Qr hc]at k |-;intro t H' n2 v2 hn2 S2 kp2;have ht:∀ c vs,H c=dk (.tup vs)->H' c=dk (.tup vs):=λc vs e=>kp2 c _ (λmm=>by
    rcases KA.mp mm with y|y
    . rw[y,hn.go]at e;cases e
    . exact S.noT e y) e
   exact k H' hn2 (StT.grow R P S2 ht (x9 hp (hts nm (by
    cases y:ts.contains nm with
   |false=>exact absurd y h0
   |true=>rw[K5]at y;exact of_decide_eq_true y)) v2)) kp2
def Cu:Sp:=λvs H Q _=>∃ i:Int,vs=[.int i]/\Q (.bl j') H
def Ab:Sp:=λvs H Q _=>∃ (i:Int) (k:Str),vs=[.int i,.str k]/\∀ H',bL H H'->Q (.bl (gv i k)) H'
def zO:Sp:=λvs H Q _=>∃ (t:D') (x:Dd),vs=[.ref t]/\H t=dk (.tup x.vs)/\x.Ok/\∀ H',bL H H'->Q (.bl j') H'
def EL:Sp:=λvs H Q _=>∃ (t:D') (x:Dd),vs=[.ref t]/\H t=dk (.tup x.vs)/\∀ H',bL H H'->Q (.int (sdI x.side)) H'
def Cj (G:Gs K mg a d):FnOk P w K mg base CX0 1 a.iz d.iz ["value"] Cu:=by
 refine G.qM.ok vM (λvs H Q E h=>?_) (λcdv A' outer s' H vs Q E hr h=>?_)
 . obtain⟨i,rfl,_⟩:=h;rfl
 . obtain⟨i,rfl,k⟩:=h;refine⟨_,((FL (bA fI (by rfl) G.fe ez ((pv 0)∣((oM (v:=.ty "int") (by rfl) G.Hz Gh rfl)∣aa))) (De (FY (bA fI (by rfl) G.fe ez ((pv 0)∣((oM (v:=.ty "bool") (by rfl) G.G0 F6 rfl)∣aa))))))⁻¹),?_⟩;exact⟨_,rfl,_,_,.type "int",j',rfl,.int i,Hu,_,rfl,jt ⟨_,rfl,_,_,.type "int",f',rfl,.int i,Ii,_,rfl,k⟩⟩
def EJ (G:Gs K mg a d):FnOk P w K mg base CX0 2 a.lv d.lv ["value","kind"] Ab:=by
 have P2:FnOk P w K mg base CX0 1 _ _ _ _:=Cj G;refine G.va.ok y8 (λvs H Q E h=>?_) (λcdv A' outer s' H vs Q E hr h=>?_)
 . obtain⟨i,k,rfl,_⟩:=h;rfl
 . obtain⟨i,kd,rfl,k⟩:=h;refine⟨_,((aO (i9 (cJ (aJ P2 (hr.mono (by decide)) (by rfl) G.yD G.qM.kp G.xU .nil av ((pv 0)∣aa)))) (bF⁻¹) aq)∪((aO (ao bW (pv 1) au (ax _)) ((CD GQ GQ (Gd CP (xl (by rfl) G.nQ)) (pv 0) (xl (by rfl) G.nQ))⁻¹) aq)∪((aO (ao bW (pv 1) au (ax _)) ((dY jw (pv 0) (@bj _ _ _ _ _ (ai∣(ai∣aa))) (by with_unfolding_all rfl))⁻¹) aq)∪(bF⁻¹)))),?_⟩;refine⟨_,rfl,i,rfl,_,rfl,iE ?_⟩;refine⟨_,rfl,rfl,_,rfl,?_⟩;by_cases h1:kd="worth"
   . refine jj (Qt (by rw[h1])) ?_;have e:gv i kd=(decide (-1000000000 <= i) && decide (i <= 1000000000)):=by unfold gv;rw[Qq h1]
     refine⟨_,rfl,_,rfl,_,_,rfl,rfl,_,rfl,?_⟩;by_cases hb:-1000000000 <= i
     . refine jj (Qt hb) ⟨_,_,rfl,rfl,?_⟩;rw[Qt hb,Bool.true_and]at e;show Q (.bl (decide (i <= 1000000000))) H;rw[<-e];exact k _ λ_ _ z=>z
     . refine d0 (by rw[Qs];exact hb) ?_;rw[decide_eq_false hb,Bool.false_and]at e;show Q (.bl f') H;rw[<-e];exact k _ λ_ _ z=>z
   . refine d0 (by rw[Qs];exact sne h1) ?_;refine⟨_,rfl,rfl,_,rfl,?_⟩;by_cases h2:kd="side"
     . refine jj (Qt (by rw[h2])) ?_;have e:gv i kd=(decide (i=0) || decide (i=1)):=by unfold gv;rw[Qr h1,Qq h2]
       refine⟨_,rfl,l2,λt ht=>⟨t,_,rfl,.inr (SqT.of a8),rfl,rfl,?_⟩⟩;simp only[Ll,if_false];have e2:inV (.int i) [V.int 0,V.int 1]=gv i kd:=by
        have:=AA i [0,1];show inV (.int i) (([0,1]:List Int).map V.int)=_;rw[this,e,K5,Lz,Qs,Bool.or_eq_true,Qs,Qs];simp
       rw[e2];exact k _ (ag ht)
     . refine d0 (by rw[Qs];exact sne h2) ?_;have e:gv i kd=j':=by unfold gv;rw[Qr h1,Qr h2]
       show Q (.bl j') H;rw[<-e];exact k _ λ_ _ z=>z
def Ca (x:Dd):∃ b,PyProof.Rows.KTD.datumAt x.word [("ask",a.gn),("collect",a.fV),("take",a.fG),("answer",a.ge),("bell",a.fW),("lie",a.fH),("look",a.gg),("drain",a.fX)]=dk b/\(∀ (G:Gs K mg a d) (H:Hp),SqT K H b (x.ks.map V.str)):=by
 cases x
 . exact⟨_,rfl,λG=>G.za⟩
 . exact⟨_,rfl,λG=>G.Aa⟩
 . exact⟨_,rfl,λG=>G.zd⟩
 . exact⟨_,rfl,λG=>G.zl⟩
 . exact⟨_,rfl,λG=>G.zn⟩
 . exact⟨_,rfl,λG=>G.A5⟩
 . exact⟨_,rfl,λG=>G.Ag⟩
 . exact⟨_,rfl,λG=>G.AK⟩
def AZ (G:Gs K mg a d):FnOk P w K mg base CX0 3 a.lp d.lp ["some"] zO:=by
 have P1:FnOk P w K mg base CX0 2 _ _ _ _:=EJ G;refine G.tX.ok qS (λvs H Q E h=>?_) (λcdv A' outer s' H vs Q E hr h=>?_)
 . obtain⟨t,x,rfl,_⟩:=h;rfl
 . obtain⟨t,x,rfl,ht,hx,k⟩:=h;have hu:=dR hr;refine⟨_,((aO ((pH (i9 (cJ (bA fI (by rfl) G.fe ez ((pv 0)∣((oM (v:=.ty "tuple") (by rfl) G.vD rY rfl)∣aa))))) (pH (ao bW (bA be (by rfl) G.oi je ((pv 0)∣aa)) ai (ax _)) (kF (i9 (cJ (bA fI (by rfl) G.fe ez ((@aI _ _ _ _ _ _ _ aH (pv 0) ai (λ_ _=>rfl))∣((oM (v:=.ty "str") (by rfl) G.Iy Gy rfl)∣aa))))))))).pt (bF⁻¹) aq)∪((@bi _ _ 1 _ _ _ _ qS.nd rfl (KU rfl) (Aj (by rfl) G.Et G.Es (@aI _ _ _ _ _ _ _ aH (pv 0) ai (λ_ _=>rfl)) ⟨rfl,rfl,rfl,rfl⟩) (by rfl) (by first|exact .inl rfl|exact .inr rfl|assumption))∪((aO ((pH (ao CV (pv 1) ib (ax _)) (kF (ao sv (bA be (by rfl) G.oi je ((pv 0)∣aa)) (@cy _ _ _ _ _ _ _ _ lS (bA be (by rfl) G.oi je ((pv 1)∣aa)) ai) (ax _))))).pt (bF⁻¹) aq)∪((bA (C5 rfl) (by rfl) G.HB Fs ((by exact C7 (x:="value") (x2:="kind") (g:=HP K 2 (zh (o9 0) (zh (o9 1) Ie))) (tc:=λ_ H Q=>Q j' H) (te:=G7 Ab [] E0 (zW (tO 0) (zW (tO 1) GX))) (caps:=[]) (js:=[]) rfl (mz rfl rfl (by decide +kernel) (by decide +kernel) rfl trivial rfl rfl) (λC s₃ H₃ Mq ex E'=>by exact Gv rfl (show (["value","kind"]:List Str).Nodup from by decide +kernel) rfl rfl (.inl (lookup_relabel_local rfl)) (.inl (lookup_relabel_local rfl)) rfl rfl) trivial (Fw (by rfl) G.Hm ((gG Dh (pv 0) (iX ai) lw)∣((pv 1)∣aa))) (λC s₃ H₃ Mq ex E'=>by exact sL) (λC s₃ H₃ Mq ex E'=>by exact(aJ P1 (hr.mono (by decide)) (by rfl) G.zG G.va.kp G.Ap .nil av ((pv 0)∣((pv 1)∣aa)))))∣aa))⁻¹)))),?_⟩;obtain⟨b,hb,hs⟩:=Ca (K:=K) (mg:=mg) (d:=d) (a:=a) x;have hs:=hs G;obtain⟨l1,l2'⟩:=x.len;have ht':H t=dk (.tup (.str x.word :: x.args.map V.int)):=by rw[<-x.vs_eq];exact ht
   refine⟨_,rfl,_,_,.type "tuple",j',rfl,.tup ht',FM,_,rfl,iE ?_⟩;refine⟨_,rfl,t,_,rfl,.inr (SqT.of ht'),rfl,_,rfl,d0 (by rw[Qs];exact λy=>by have:=ky y;rw[KJ]at this;omega) ?_⟩;refine⟨_,rfl,t,_,_,_,rfl,rfl,SqT.of ht',bS,_,_,.type "str",j',rfl,.str _,Hy,_,rfl,iE ?_⟩;refine⟨_,rfl,t,_,_,_,rfl,rfl,SqT.of ht',bS,x.word,rfl,?_⟩;rw[hb];refine⟨_,rfl,rfl,_,rfl,iE ?_⟩;refine⟨_,rfl,t,_,rfl,.inr (SqT.of ht'),_,rfl,b,_,rfl,.inr (hs H),_,_,rfl,rfl,rfl,_,rfl,d0 ?_ ?_⟩
   . rw[Mf,decide_eq_false_iff_not,Decidable.not_not];refine congrArg V.int ?_;rw[KJ,Kv,Kv,l1];rfl
   refine⟨_,rfl,_,rfl,t,_,rfl,SqT.of ht',?_,λp1 hp1=>⟨_,rfl,j',p1,b,_,_,rfl,SqT.of a8,hs _,?_⟩⟩
   . rintro⟨y,_⟩;rw[show (dk (1:Int))=dk ((1:Nat):Int) from rfl,HT.sIx_nat,KJ]at y;omega
   have e1:=ag (o:=.tup (lP (V.str x.word :: x.args.map V.int) (dk 1) JZ)) hp1;rw[show (dk (1:Int))=dk ((1:Nat):Int) from rfl,rA,show List.drop 1 (V.str x.word :: x.args.map V.int)=x.args.map V.int from rfl]at e1 |-;have v1:upd H p1 (.tup (x.args.map V.int)) p1=dk (.tup (x.args.map V.int)):=a8;intro D hD;generalize upd H p1 (.tup (x.args.map V.int))=H1 at e1 v1 hD |-;refine⟨λi mm ys H'=>i <= x.args.length/\mm=x.args.length - i/\ys=(replicate i j').map V.bl/\H' D=dk (.lst ys)/\∀ c o,c≠D->H1 c=dk o->H' c=dk o,⟨_,LJ _,rfl,rfl,a8,λc o n e=>by rw[ac n];exact e⟩,?_⟩;rintro i mm ys H2 ⟨hi,rfl,rfl,hD2,k2⟩;have e2:bL H1 H2:=λc o e=>k2 c o (λy=>by rw[y,hD]at e;cases e) e
   refine⟨hD2,Kg (show _ < 1000 by rw[Kv,LS];omega) (by decide),?_⟩;by_cases hii:i=x.args.length
   . refine .inl ⟨⟨_,SqT.of (e2 _ _ v1),by rw[Kv];omega⟩,D,replicate i j',rfl,SqL.of hD2,?_⟩;have:(replicate i j').all id=j':=by
      rw[all_eq_true];intro y hy;rw[(List.mem_replicate.mp hy).2];rfl
     rw[this];exact k _ (e1.trans e2)
   . have hlt:i < x.args.length:=by omega
     have hlt2:i < x.ks.length:=by omega
     refine .inr ⟨⟨_,_,_,_,SqT.of (e2 _ _ v1),hs _,by rw[Lo,Kh hlt];rfl,by rw[Lo,Kh hlt2];rfl⟩,?_⟩;rintro v H3 ⟨T,xv,yv,hT,rfl,rfl,hxv,hyv⟩ v0 v1';have hxv:=hxv _ (SqT.of (e2 _ _ v1));have hyv:=hyv _ (hs _);rw[Lo,Kh hlt]at hxv;rw[Lo,Kh hlt2]at hyv;cases hxv;cases hyv;refine⟨T,_,rfl,SqT.of a8,rfl,_,_,rfl,_,_,rfl,rfl,_,_,rfl,?_⟩;refine jt ⟨_,rfl,_,rfl,_,_,rfl,λH4 e4=>?_⟩;have hp:=Dd.part hx i _ _ (Kh hlt) (Kh hlt2);rw[hp];have nD:D≠T:=λy=>by rw[<-y,hD2]at hT;cases hT
     refine⟨e4 _ _ (by rw[ac nD];exact hD2),x.args.length - (i+1),by omega,by omega,rfl,by rw[List.replicate_succ',K8];rfl,a8,λc o n e=>?_⟩;rw[ac n];exact e4 _ _ (ag hT _ _ (k2 c o n e))
def ER (G:Gs K mg a d):FnOk P w K mg base CX0 1 a.ln d.ln ["some"] EL:=by
 refine G.uJ.ok yn (λvs H Q E h=>?_) (λcdv A' outer s' H vs Q E hr h=>?_)
 . obtain⟨t,x,rfl,_⟩:=h;rfl
 . obtain⟨t,x,rfl,ht,k⟩:=h;have hu:=dR hr;refine⟨_,((aO (ao jw (@aI _ _ _ _ _ _ _ aH (pv 0) ai (λ_ _=>rfl)) (@bj _ _ _ _ _ (au∣(au∣aa))) (by with_unfolding_all rfl)) (ai⁻¹) aq)∪((aO (ao jw (@aI _ _ _ _ _ _ _ aH (pv 0) ai (λ_ _=>rfl)) (@bj _ _ _ _ _ (au∣(au∣aa))) (by with_unfolding_all rfl)) (ai⁻¹) aq)∪((@aI _ _ _ _ _ _ _ aH (pv 0) ai (λ_ _=>rfl))⁻¹))),?_⟩;have ht':H t=dk (.tup (.str x.word :: x.args.map V.int)):=by rw[<-x.vs_eq];exact ht
   refine⟨_,rfl,t,_,_,_,rfl,rfl,SqT.of ht',bS,l2,λt1 h1=>⟨t1,_,rfl,.inr (SqT.of a8),rfl,rfl,_,rfl,?_⟩⟩;have e1:=ag (o:=.tup [V.str "ask",V.str "collect"]) h1;generalize upd H t1 (.tup [V.str "ask",V.str "collect"])=H1 at e1 |-;rcases x.grp with⟨c1,hsd⟩|⟨c1,hsd⟩|⟨c1,hsd⟩
   . refine jj ?_ ?_
     . rcases c1 with y|y<;>(rw[y];decide +kernel)
     . rw[hsd]at k;exact k H1 e1
   . refine d0 ?_ ?_
     . rcases c1 with y|y<;>(rw[y];decide +kernel)
     refine⟨_,rfl,t,_,_,_,rfl,rfl,SqT.of (e1 _ _ ht'),bS,l2,λt2 h2=>⟨t2,_,rfl,.inr (SqT.of a8),rfl,rfl,_,rfl,jj ?_ ?_⟩⟩
     . rcases c1 with y|y<;>(rw[y];decide +kernel)
     . rw[hsd]at k;exact k _ (e1.trans (ag h2))
   . refine d0 ?_ ?_
     . rcases c1 with y|y|y|y<;>(rw[y];decide +kernel)
     refine⟨_,rfl,t,_,_,_,rfl,rfl,SqT.of (e1 _ _ ht'),bS,l2,λt2 h2=>⟨t2,_,rfl,.inr (SqT.of a8),rfl,rfl,_,rfl,d0 ?_ ?_⟩⟩
     . rcases c1 with y|y|y|y<;>(rw[y];decide +kernel)
     rw[hsd]at ht';exact⟨_,rfl,t,_,_,_,rfl,rfl,SqT.of ((e1.trans (ag h2)) _ _ ht'),rfl,k _ (e1.trans (ag h2))⟩
def y9 (w:Kk) (CH CR CS F N:D'):Sp:=λvs H Q E=>∃ (z:HA) (sa:SA) (p:RP) (n:Nat) (aw:List Int) (m:Mem) (rs:Bool->List Wr),vs=[.ref z.h]/\Hn CH CR H z sa.x p n aw/\StT w CS H sa m rs/\p.Ok/\n <= 9 /\
 if aB p m (rs f') .asked .taken=p.s then E (.ref F) JZ H else match bO n aw with|none=>E (.ref N) JZ H|some _=>Q .non H
def xY (w:Kk) (CT CR CS F N:D'):Sp:=λvs H Q E=>∃ (z:TA') (sa:SA) (p:RP) (ts:List Int) (m:Mem) (rs:Bool->List Wr) (nm:Int),vs=[.ref z.h,.int nm]/\Tn CT CR H z sa.x p ts/\StT w CS H sa m rs/\p.Ok /\
 if ts.contains nm=f' then E (.ref N) JZ H else if aB p m (rs j') .answered .handed=p.s then E (.ref F) JZ H else Q .non H
def DK {w:Kk}{CH CR CS F N:D'}{vs:List V}{H:Hp}{Q:VK}{E:XK}(h:y9 w CH CR CS F N vs H Q E):xF w CH CR CS F N vs H Q E:=by
 obtain⟨z,sa,p,n,aw,m,rs,rfl,hn,⟨M,r,S,R,P⟩,hp,n9,k⟩:=h;exact⟨z,sa,p,n,aw,M,r,rdC m (rs f') .asked,rdC m (rs f') .taken,rfl,hn,S,hp,n9,cG R (P f') .asked,cG R (P f') .taken,k⟩
def Eb {w:Kk}{CT CR CS F N:D'}{vs:List V}{H:Hp}{Q:VK}{E:XK}(h:xY w CT CR CS F N vs H Q E):uH w CT CR CS F N vs H Q E:=by
 obtain⟨z,sa,p,ts,m,rs,nm,rfl,hn,⟨M,r,S,R,P⟩,hp,k⟩:=h;exact⟨z,sa,p,ts,M,r,rdC m (rs j') .answered,rdC m (rs j') .handed,nm,rfl,hn,S,hp,cG R (P j') .answered,cG R (P j') .handed,k⟩
def rfC (a:Ad):Rf->D'
|.deed=>a.hZ
|.full=>a.vn
|.name=>a.gJ
|.task=>a.gx
def AS (w:Kk) (ad:Ad):Sp:=λvs H Q E=>∃ (a:YA) (q:YP) (S:YS) (x:Dd) (t:D'),vs=[.ref a.y,.ref t]/\Yn w ad.bf ad.dI ad.b8 ad.cg ad.aM H a q S/\q.Ok/\H t=dk (.tup x.vs)/\x.Ok /\
 ∀ H',bL H H'->match x.chk q S with|none=>Q .non H'|some r=>E (.ref (rfC ad r)) JZ H'
def zi (w:Kk) (ad:Ad):Sp:=λvs H Q _=>∃ (a:YA) (q:YP) (S:YS) (x:Dd) (t:D'),vs=[.ref a.y,.ref t]/\Yn w ad.bf ad.dI ad.b8 ad.cg ad.aM H a q S/\q.Ok/\H t=dk (.tup x.vs)/\x.Ok /\
 ∀ H',bL H H'->Q (.bl (x.chk q S).isNone) H'
def DX {f:Bool->Bd}(b:Bool):atI [V.str (f f').key,V.str (f j').key] (sdI b)=dk (.str (f b).key):=by cases b<;>rfl
def Eh {f:Bool->Bool}(b:Bool):atI [V.bl (f f'),V.bl (f j')] (sdI b)=dk (.bl (f b)):=by cases b<;>rfl
def tY (G:Gs K mg a d):FnOk P w K mg base (CXv P w) 8 a.eQ d.eQ ["self","some"] (AS w a):=by
 have P0:FnOk P w K mg base CX0 3 _ _ _ _:=AZ G;have Qj:FnOk P w K mg base CX0 1 _ _ _ _:=ER G;have Pp:FnOk P w K mg base CX0 1 _ _ _ _:=(tz G).imp λvs H Q E=>AM
 have Ql:FnOk P w K mg base (CXv P w) 6 _ _ _ _:=(xD G).imp λvs H Q E=>DK
 have Qn:FnOk P w K mg base (CXv P w) 6 _ _ _ _:=(ui G).imp λvs H Q E=>Eb
 refine G.uE.okX (k:=7) t7 (λvs H Q E h=>?_) (λcdv A' outer s' H vs Q E hr hR h=>?_)
 . obtain⟨y,q,S,x,t,rfl,_⟩:=h;rfl
 . obtain⟨y,q,S,x,t,rfl,Y,qo,ht,hx,k⟩:=h;have hu:=dR hr;refine⟨_,((aO (i9 (cJ (aJ P0 (hr.mono (by decide)) (by rfl) G.yL G.tX.kp G.AT .nil av ((pv 1)∣aa)))) (@ar _ _ _ (ii hR hr.hd (by rfl) G.rX G.xc_NoDeed (au∣aa))) aq)∪((aO (ao bW (@aI _ _ _ _ _ _ _ aH (pv 1) ai (λ_ _=>rfl)) au (ax _)) ((aO (i9 (mF (az (al (pv 0) rfl) G.aF G.d5 Pp (hr.mono (by decide)) G.dW .nil av ((@aI _ _ _ _ _ _ _ aH (pv 1) ai (λ_ _=>rfl))∣aa)) (λ_=>rfl))) (@ar _ _ _ (ii hR hr.hd (by rfl) G.rX G.xc_NoDeed (au∣aa))) aq)∪(@ar _ _ _ E9)) aq)∪((aO (ao sv (@aI _ _ _ _ _ _ _ ba (al (pv 0) rfl) (aJ Qj (hr.mono (by decide)) (by rfl) G.Ay G.uJ.kp G.Ac .nil av ((pv 1)∣aa)) (λ_ _=>rfl)) (ms (ao bW (@aI _ _ _ _ _ _ _ aH (pv 1) ai (λ_ _=>rfl)) au (ax _)) au au) (ax _)) (@ar _ _ _ (ii hR hr.hd (by rfl) G.rX G.xc_NoDeed (au∣aa))) aq)∪((aO (ao bW (@aI _ _ _ _ _ _ _ aH (pv 1) ai (λ_ _=>rfl)) au (ax _)) (@ar _ _ _ (@aK _ _ _ _ (aN (al (pv 0) rfl) G.c6 G.hG Ql (hr.mono (by decide)) G.jc .nil hR.passes) (by rfl))) aq)∪(@ar _ _ _ (aO (ao bW (@aI _ _ _ _ _ _ _ aH (pv 1) ai (λ_ _=>rfl)) au (ax _)) (@ar _ _ _ (@aK _ _ _ _ (az (al (pv 0) rfl) G.bH G.f9 Qn (hr.mono (by decide)) G.fw .nil hR.passes ((@aI _ _ _ _ _ _ _ aH (pv 1) ai (λ_ _=>rfl))∣aa)) (by rfl))) aq)))))),?_⟩;have ht':H t=dk (.tup (.str x.word :: x.args.map V.int)):=by rw[<-x.vs_eq];exact ht
   refine⟨_,rfl,t,x,rfl,ht,hx,λH1 e1=>⟨_,rfl,iE ?_⟩⟩;have Y1:=Y.same e1;have ht1:=e1 _ _ ht';refine⟨_,rfl,t,_,_,_,rfl,rfl,SqT.of ht1,bS,rfl,_,rfl,?_⟩;by_cases hd:∃ b,x=.drain b
   . obtain⟨b,rfl⟩:=hd;refine jj (Qt rfl) ?_;refine⟨_,rfl,i8 Y1.ob G.ak G.aY fE (dM Y1.x.st.ob (bU (by decide +kernel) (by decide +kernel)) ?_)⟩;refine⟨_,rfl,t,_,_,_,rfl,rfl,SqT.of ht1,rfl,y.sa,S.m,S.rs,b,rfl,Y1.x.st,λp2 ts hp2 dv=>?_⟩;have e2:=ag (o:=.lst ts) hp2;have hl:=ic dv;rw[Kv]at hl;refine⟨!ts.isEmpty,.inl ⟨_,SqL.of a8,rfl⟩,?_⟩;have k2:=k _ (e1.trans e2);cases hrs:S.rs b with
    |nil =>
      rw[hrs]at hl;have:ts=[]:=length_eq_zero_iff.mp hl;subst this;rw[show (Dd.drain b).chk q S=dk .deed from Qq hrs]at k2;exact jt ⟨by show 1 <= Ki;decide,k2⟩
    |cons r rest =>
      rw[hrs]at hl;have:ts.isEmpty=f':=by cases ts with|nil=>cases hl|cons=>rfl
      rw[this];rw[show (Dd.drain b).chk q S=JZ from Qr (by rw[hrs];exact λy=>by cases y)]at k2;exact iE k2
   . have hnd:∀ b,x≠.drain b:=λb e=>hd ⟨b,e⟩
     refine d0 (by rw[Qs];exact sne λy=>hd ((x.word_drain).mp y)) ?_;refine⟨_,rfl,i8 Y1.ob G.ak G.aZ cC ?_⟩;refine⟨_,rfl,t,x,rfl,e1 _ _ ht,λH2 e2=>?_⟩;have Y2:=Y1.same e2;have ht2:=e2 _ _ ht1;refine⟨y.sl,_,_,_,rfl,rfl,SqL.of Y2.sl,DX x.side,?_⟩;refine⟨_,rfl,t,_,_,_,rfl,rfl,SqT.of ht2,bS,rfl,_,rfl,?_⟩;have e3:=e1.trans e2;have bad:∀ {X:Prop},S.bd x.side≠x.need->E (.ref a.hZ) JZ H2:=λ{X} hb=>by
      have k2:=k H2 e3;rw[Dd.chk_bed hnd hb]at k2;exact k2
     rcases x.word_look with⟨hw,hn,b,rfl⟩|⟨hw,hn⟩
     . refine jj (Qt (by rw[hw])) ⟨rfl,_,rfl,?_⟩;by_cases hb:S.bd (Dd.look b).side=(Dd.look b).need
       . refine d0 (by rw[hb,hn];decide +kernel) ?_;refine⟨_,rfl,t,_,_,_,rfl,rfl,SqT.of ht2,bS,rfl,_,rfl,d0 (by rw[Qs];exact sne (show ¬ (("look":Str)="ask") by decide +kernel)) ?_⟩;refine⟨_,rfl,t,_,_,_,rfl,rfl,SqT.of ht2,bS,rfl,_,rfl,d0 (by rw[Qs];exact sne (show ¬ (("look":Str)="answer") by decide +kernel)) ?_⟩;have k2:=k H2 e3;rw[show (Dd.look b).chk q S=JZ from Qq hb]at k2;exact k2
       . refine jj ?_ ⟨by show 1 <= Ki;decide,bad (X:=True) hb⟩;have:=zw hb;rw[hn]at this;rw[Mf,decide_eq_false_iff_not];exact this
     . refine d0 (by rw[Qs];exact sne hw) ⟨rfl,_,rfl,?_⟩;by_cases hb:S.bd x.side=x.need
       . refine d0 (by rw[hb,hn];decide +kernel) ?_;rcases x.word_aa with⟨wt,rfl⟩|⟨nm,wt,rfl⟩|⟨h1,h2,h3⟩
         . refine⟨_,rfl,t,_,_,_,rfl,rfl,SqT.of ht2,bS,rfl,_,rfl,jj (Qt rfl) ?_⟩;refine⟨_,rfl,i8 Y2.ob G.ak G.f8 sw (dM Y2.x.hn.ob wH ⟨y.z,y.sa,q.p,q.n,S.un,S.m,S.rs,rfl,Y2.x.hn,Y2.x.st,qo.ok,qo.n9,?_⟩)⟩;have k2:=k H2 e3;rw[show (Dd.ask wt).chk q S=_ from Qq hb]at k2;by_cases hc:aB q.p S.m (S.rs f') .asked .taken=q.p.s
           . rw[Qq hc]at k2 |-;exact k2
           . rw[Qr hc]at k2 |-;cases hl:bO q.n S.un with
            |none=>rw[hl]at k2;exact k2
            |some nm =>
              rw[hl]at k2;exact⟨_,rfl,t,_,_,_,rfl,rfl,SqT.of ht2,bS,rfl,_,rfl,d0 (by rw[Qs];exact sne (show ¬ (("ask":Str)="answer") by decide +kernel)) k2⟩
         . refine⟨_,rfl,t,_,_,_,rfl,rfl,SqT.of ht2,bS,rfl,_,rfl,d0 (by rw[Qs];exact sne (show ¬ (("answer":Str)="ask") by decide +kernel)) ?_⟩;refine⟨_,rfl,t,_,_,_,rfl,rfl,SqT.of ht2,bS,rfl,_,rfl,jj (Qt rfl) ?_⟩;refine⟨_,rfl,i8 Y2.ob G.ak G.cV lF (dM Y2.x.tn.ob wZ ⟨_,rfl,t,_,_,_,rfl,rfl,SqT.of ht2,rfl,y.zt,y.sa,q.p,S.tk,S.m,S.rs,nm,rfl,Y2.x.tn,Y2.x.st,qo.ok,?_⟩)⟩;have k2:=k H2 e3;rw[show (Dd.answer nm wt).chk q S=_ from Qq hb]at k2;by_cases h0:S.tk.contains nm=f'
           . rw[Qq h0]at k2 |-;exact k2
           . rw[Qr h0]at k2 |-;by_cases hc:aB q.p S.m (S.rs j') .answered .handed=q.p.s
             . rw[Qq hc]at k2 |-;exact k2
             . rw[Qr hc]at k2 |-;exact k2
         . refine⟨_,rfl,t,_,_,_,rfl,rfl,SqT.of ht2,bS,rfl,_,rfl,d0 (by rw[Qs];exact sne h1) ?_⟩;refine⟨_,rfl,t,_,_,_,rfl,rfl,SqT.of ht2,bS,rfl,_,rfl,d0 (by rw[Qs];exact sne h2) ?_⟩;have k2:=k H2 e3;rw[h3 q S hnd hb]at k2;exact k2
       . refine jj ?_ ⟨by show 1 <= Ki;decide,bad (X:=True) hb⟩;have:=zw hb;rw[hn]at this;rw[Mf,decide_eq_false_iff_not];exact this
def AU (G:Gs K mg a d):FnOk P w K mg base CX0 10 a.bB d.bB ["self","some"] (zi w a):=by
 have Qo:FnOk P w K mg base (CXv P w) 8 _ _ _ _:=tY G;refine G.mK.ok lY (λvs H Q E h=>?_) (λcdv A' outer s' H vs Q E hr h=>?_)
 . obtain⟨y,q,S,x,t,rfl,_⟩:=h;rfl
 . obtain⟨y,q,S,x,t,rfl,Y,qo,ht,hx,k⟩:=h;have hu:=dR hr;refine⟨_,((Gm ⟨rfl,rfl,rfl⟩ (λMq R=>by exact(@ar _ _ _ (@aK _ _ _ _ (CM rfl (pv 0) G.ak G.mC Qo (hr.mono (by decide)) G.nX .nil ((pv 1)∣aa)) (by rfl)))) (EY ⟨rfl,rfl,rfl⟩ (by rfl) G.vP (λe=>by exact(bF⁻¹)) Fm))∪(bF⁻¹)),?_⟩;refine⟨λσ' cls H'=>bL H H'/\x.chk q S≠JZ/\K' K cls (.ref a.hV)=dk j',?_,?_⟩
   . refine⟨_,rfl,dM Y.ob (dC (by decide +kernel)) ⟨_,rfl,y,q,S,x,t,rfl,Y,qo,ht,hx,λH1 e1=>?_⟩⟩;cases hc:x.chk q S with
    |none =>
      have k1:=k H1 e1;rw[hc]at k1;exact k1
    |some r =>
      refine⟨e1,(λy=>by cases y),?_⟩;cases r
      . exact G.Jp
      . exact G.JL
      . exact G.JN
      . exact G.JJ
   . rintro σ' cls H' ⟨e1,hc,em⟩;have k1:=k H' e1;cases hc':x.chk q S with
    |none=>exact absurd hc' hc
    |some r =>
      rw[hc']at k1;exact⟨j',em,k1⟩
def IP (s R:Int) (n:Nat) (fs:List Str):YP:=⟨⟨s,if fs.contains "round" then 1 else R,fs.contains "counter"⟩,n,!fs.contains "bell",!fs.contains "lie",!fs.contains "look"⟩
def C0 (w:Kk) (ad:Ad):Sp:=λvs H Q _=>∃ (y dx ft:D') (s R:Int) (n:Nat) (fs:List Str),vs=[.ref y,.int s,.int R,.int n,.ref ft]/\H y=dk (.ins ad.bf dx [])/\H ft=dk (.tup (fs.map V.str)) /\
 ∀ (a:YA) (H':Hp),a.y=y->(∀ c,a.own c->c≠y->H c=JZ)->Yn w ad.bf ad.dI ad.b8 ad.cg ad.aM H' a (IP s R n fs) YS.zero->Kp [y] H H'->Q .non H'
def Eo (w:Kk) (ad:Ad):Sp:=λvs H Q _=>∃ (a:YA) (q:YP) (S:YS),vs=[.ref a.y]/\Yn w ad.bf ad.dI ad.b8 ad.cg ad.aM H a q S/\∀ t,H t=JZ->Q (.ref t) (upd H t (.tup [.int q.p.s,.int q.p.R]))
def CN (w:Kk) (ad:Ad):Sp:=λvs H Q _=>∃ (a:YA) (q:YP) (S:YS),vs=[.ref a.y]/\Yn w ad.bf ad.dI ad.b8 ad.cg ad.aM H a q S/\∀ l ts,H l=JZ->DVs H S.hs ts->Q (.ref l) (upd H l (.lst ts))
def yw (w:Kk) (ad:Ad):Sp:=λvs H Q _=>∃ (a:YA) (q:YP) (S:YS) (b:Bool),vs=[.ref a.y,.int (sdI b)]/\Yn w ad.bf ad.dI ad.b8 ad.cg ad.aM H a q S/\Q (.str (S.bd b).key) H
def yE (w:Kk) (ad:Ad):Sp:=λvs H Q _=>∃ (a:YA) (q:YP) (S:YS) (b:Bool),vs=[.ref a.y,.int (sdI b)]/\Yn w ad.bf ad.dI ad.b8 ad.cg ad.aM H a q S/\Q (.bl (S.qt b)) H
def A6 (w:Kk) (ad:Ad):Sp:=λvs H Q _=>∃ (a:YA) (q:YP) (S:YS),vs=[.ref a.y]/\Yn w ad.bf ad.dI ad.b8 ad.cg ad.aM H a q S/\Q (.ref a.sa.x) H
def Ff (G:Gs K mg a d):FnOk P w K mg base CX0 1 a.fN d.fN ["self"] (Eo w a):=by
 refine G.vv.ok uZ (λvs H Q E h=>?_) (λcdv A' outer s' H vs Q E hr h=>?_)
 . obtain⟨y,q,S,rfl,_⟩:=h;rfl
 . obtain⟨y,q,S,rfl,Y,k⟩:=h;refine⟨_,((@bj _ _ _ _ _ ((al (pv 0) rfl)∣((al (pv 0) rfl)∣aa)))⁻¹),?_⟩;exact⟨_,rfl,i8 Y.ob G.ak G.nY EC ⟨_,rfl,i8 Y.ob G.ak G.kN AO ⟨l2,λt ht=>k t ht⟩⟩⟩
def rM (G:Gs K mg a d):FnOk P w K mg base CX0 1 a.eE d.eE ["self"] (CN w a):=by
 refine G.uL.ok tE (λvs H Q E h=>?_) (λcdv A' outer s' H vs Q E hr h=>?_)
 . obtain⟨y,q,S,rfl,_⟩:=h;rfl
 . obtain⟨y,q,S,rfl,Y,k⟩:=h;refine⟨_,((pW nW (by rfl) G.CQ yV ((al (pv 0) rfl)∣aa))⁻¹),?_⟩;obtain⟨ts,h1,h2⟩:=Y.hp;exact⟨_,rfl,i8 Y.ob G.ak G.cj iI ⟨y.hp,ts,rfl,.inl (SqL.of h1),λl hl=>k l ts hl h2⟩⟩
def mT (G:Gs K mg a d):FnOk P w K mg base CX0 1 a.cB d.cB ["self","side"] (yw w a):=by
 refine G.qF.ok pQ (λvs H Q E h=>?_) (λcdv A' outer s' H vs Q E hr h=>?_)
 . obtain⟨y,q,S,b,rfl,_⟩:=h;rfl
 . obtain⟨y,q,S,b,rfl,Y,k⟩:=h;refine⟨_,((@aI _ _ _ _ _ _ _ ba (al (pv 0) rfl) (pv 1) (λ_ _=>rfl))⁻¹),?_⟩;exact⟨_,rfl,i8 Y.ob G.ak G.aZ cC ⟨_,rfl,y.sl,_,_,_,rfl,rfl,SqL.of Y.sl,DX b,k⟩⟩
def yI (G:Gs K mg a d):FnOk P w K mg base CX0 1 a.c8 d.c8 ["self","side"] (yE w a):=by
 refine G.p8.ok oa (λvs H Q E h=>?_) (λcdv A' outer s' H vs Q E hr h=>?_)
 . obtain⟨y,q,S,b,rfl,_⟩:=h;rfl
 . obtain⟨y,q,S,b,rfl,Y,k⟩:=h;refine⟨_,((@aI _ _ _ _ _ _ _ ba (al (pv 0) rfl) (pv 1) (λ_ _=>rfl))⁻¹),?_⟩;exact⟨_,rfl,i8 Y.ob G.ak G.dS oE ⟨_,rfl,y.qu,_,_,_,rfl,rfl,SqL.of Y.qu,Eh b,k⟩⟩
def jC (G:Gs K mg a d):FnOk P w K mg base CX0 1 a.eL d.eL ["self"] (A6 w a):=by
 refine G.uu.ok sr (λvs H Q E h=>?_) (λcdv A' outer s' H vs Q E hr h=>?_)
 . obtain⟨y,q,S,rfl,_⟩:=h;rfl
 . obtain⟨y,q,S,rfl,Y,k⟩:=h;refine⟨_,((al (pv 0) rfl)⁻¹),?_⟩;exact⟨_,rfl,i8 Y.ob G.ak G.aY fE k⟩
def Bb (G:Gs K mg a d):FnOk P w K mg base CX0 6 a.eO d.eO ["self","size","rounds","names","faults"] (C0 w a):=by
 have Qi:FnOk P w K mg base CX0 1 _ _ _ _:=xE G;have Pj:FnOk P w K mg base CX0 1 _ _ _ _:=(EI G).imp λvs H Q E=>Hk
 have O0:FnOk P w K mg base CX0 4 _ _ _ _:=BJ G;have O4:FnOk P w K mg base CX0 4 _ _ _ _:=Bx G;refine G.uA.ok si (λvs H Q E h=>?_) (λcdv A' outer s' H vs Q E hr h=>?_)
 . obtain⟨y,dx,ft,s,R,n,fs,rfl,_⟩:=h;rfl
 . obtain⟨y,dx,ft,s,R,n,fs,rfl,hx,hf,k⟩:=h;have hu:=dR hr;refine⟨_,((bw (pv 0) (pv 1) rfl)∪((bw (pv 0) (aJ Qi (hr.mono (by decide)) (by rfl) G.mI G.iq.kp G.mJ .nil av ((pv 2)∣((pv 4)∣aa))) rfl)∪((bw (pv 0) (pW sQ (by rfl) G.vD rY ((pv 4)∣aa)) rfl)∪((bw (pv 0) (wR G.Ez Pj (hr.mono (by decide)) (by rfl) G.DY G.t9 .nil av) rfl)∪((bw (pv 0) (kY G.Ga O0 (hr.mono (by decide)) (by rfl) G.GU G.vd .nil av ((al (pv 0) rfl)∣((pv 1)∣((pv 2)∣((pv 3)∣((pv 4)∣aa)))))) rfl)∪((bw (pv 0) (kY G.Fj O4 (hr.mono (by decide)) (by rfl) G.Ex G.tK .nil av ((al (pv 0) rfl)∣((pv 1)∣((pv 2)∣((pv 4)∣aa))))) rfl)∪((bw (pv 0) (dY jK au (pv 4) (by with_unfolding_all rfl)) rfl)∪((bw (pv 0) (dY jK au (pv 4) (by with_unfolding_all rfl)) rfl)∪((bw (pv 0) (dY jK au (pv 4) (by with_unfolding_all rfl)) rfl)∪((bw (pv 0) (@bQ _ _ _ _ (au∣(au∣aa))) rfl)∪((bw (pv 0) (@bQ _ _ _ _ (bF∣(bF∣aa))) rfl)∪(@ar _ _ _ (bw (pv 0) (@bQ _ _ _ _ aa) rfl))))))))))))),?_⟩;refine⟨_,rfl,_,rfl,y,a.bf,dx,[],rfl,hx,G.ak,G.nY,by decide,?_⟩;have fy:ft≠y:=λz=>by rw[z,hx]at hf;cases hf
   refine⟨_,rfl,_,rfl,R,ft,fs,rfl,by rw[ac fy];exact hf,_,rfl,y,a.bf,dx,_,rfl,a8,G.ak,G.kN,by show 1 < 1000;decide,?_⟩;rw[dU];refine⟨_,rfl,ft,_,rfl,.inr ⟨SqT.of (by rw[ac fy];exact hf),?_⟩⟩;refine⟨_,rfl,y,a.bf,dx,_,rfl,a8,G.ak,G.q5,by show 2 < 1000;decide,?_⟩;rw[dU];generalize hF3:bn "faults" (.ref ft) (bn "rounds" (.int (if fs.contains "round" then 1 else R)) (bn "size" (.int s) []))=F3;have hl3:F3.length=3:=by rw[<-hF3];rfl
   have kp3:Kp [y] H (upd H y (.ins a.bf dx F3)):=Kp.one;have hx3:upd H y (.ins a.bf dx F3) y=dk (.ins a.bf dx F3):=a8;have hf3:upd H y (.ins a.bf dx F3) ft=dk (.tup (fs.map V.str)):=by rw[ac fy];exact hf
   generalize upd H y (.ins a.bf dx F3)=H3 at kp3 hx3 hf3 |-;have up:∀ {Hi:Hp} {F:List (Str × V)} {c:D'} {o:HO},c≠y->Hi c=dk o->upd Hi y (.ins a.bf dx F) c=dk o:=λn e=>by rw[ac n];exact e
   have nn:∀ {Hi:Hp} {F:List (Str × V)} {c:D'},Hi y=dk (.ins a.bf dx F)->Hi c=JZ->c≠y:=λe h z=>by rw[z,e]at h;cases h
   intro x dxs nx ndx nex;refine⟨x,dxs,rfl,a8,λsa H4 hsx fsa S4 kp4=>⟨rfl,?_⟩⟩;have e4:=lQ nx ndx kp4;have fs4:∀ c,sa.own c->H3 c=JZ:=λc hc=>by
    by_cases z:c=x
    . rw[z];exact nx
    . exact(up1 (up1 (fsa c hc z)).2).2
   subst hsx;refine⟨_,rfl,y,a.bf,dx,F3,rfl,e4 _ _ hx3,G.ak,G.aY,by rw[hl3];decide,?_⟩;clear kp4 nx ndx nex fsa;have S5:StT w a.aM (upd H4 y (.ins a.bf dx (bn "shelf" (.ref sa.x) F3))) sa Mem.zero λ_=>[]:=S4.keep (λc o hc e=>up (nn hx3 (fs4 c hc)) e) λb vs e=>up (λz=>by rw[z,e4 _ _ hx3]at e;cases e) e
   have kp5:Kp [y] H3 (upd H4 y (.ins a.bf dx (bn "shelf" (.ref sa.x) F3))):=λc o n e=>up (λz=>n (JY.mpr z)) (e4 _ _ e)
   have hx5:upd H4 y (.ins a.bf dx (bn "shelf" (.ref sa.x) F3)) y=dk (.ins a.bf dx (bn "shelf" (.ref sa.x) F3)):=a8;have hf5:upd H4 y (.ins a.bf dx (bn "shelf" (.ref sa.x) F3)) ft=dk (.tup (fs.map V.str)):=up fy (e4 _ _ hf3);generalize upd H4 y (.ins a.bf dx (bn "shelf" (.ref sa.x) F3))=H5 at S5 kp5 hx5 hf5 |-;clear S4 e4;refine⟨_,rfl,i8 ⟨dx,hx5⟩ G.ak G.aY (v:=.ref sa.x) (by rw[a9,Qq rfl]) ⟨_,rfl,_,rfl,_,rfl,_,rfl,?_⟩⟩;intro h dh nh ndh neh;refine⟨h,dh,sa.x,ft,s,R,n,fs,rfl,a8,?_,λz H6 hz g1 g2 g3 hn6 kp6=>⟨rfl,?_⟩⟩
   . rw[ac (ae hf5 nh),ac (ae hf5 ndh)];exact hf5
   have e6:=lQ nh ndh kp6;have fz:∀ c,z.own c->H5 c=JZ:=λc h2=>by
    rcases h2 with y|y|y|y
    . rw[y,hz];exact nh
    . rw[y];exact(up1 (up1 g1).2).2
    . rw[y];exact(up1 (up1 g2).2).2
    . rw[y];exact(up1 (up1 g3).2).2
   subst hz;refine⟨_,rfl,y,a.bf,dx,_,rfl,e6 _ _ hx5,G.ak,G.f8,?_,?_⟩
   . rw[<-hF3];show 4 < 1000;decide
   generalize hF7:bn "hand" (.ref z.h) (bn "shelf" (.ref sa.x) F3)=F7;have S7:StT w a.aM (upd H6 y (.ins a.bf dx F7)) sa Mem.zero λ_=>[]:=(S5.same e6).keep (λc o hc e=>up (nn hx3 (fs4 c hc)) e) λb vs e=>up (λz=>by rw[z,e6 _ _ hx5]at e;cases e) e
   have hn7:Hn a.dI a.cg (upd H6 y (.ins a.bf dx F7)) z sa.x ⟨s,if fs.contains "round" then 1 else R,fs.contains "counter"⟩ n []:=hn6.keep λc o hc e=>up (nn hx5 (fz c hc)) e
   have kp7:Kp [y] H5 (upd H6 y (.ins a.bf dx F7)):=λc o n e=>up (λz=>n (JY.mpr z)) (e6 _ _ e)
   have hx7:upd H6 y (.ins a.bf dx F7) y=dk (.ins a.bf dx F7):=a8;have hf7:upd H6 y (.ins a.bf dx F7) ft=dk (.tup (fs.map V.str)):=up fy (e6 _ _ hf5);generalize upd H6 y (.ins a.bf dx F7)=H7 at S7 hn7 kp7 hx7 hf7 |-;clear kp6 nh ndh neh g1 g2 g3 S5 hn6 e6;refine⟨_,rfl,i8 ⟨dx,hx7⟩ G.ak G.aY (v:=.ref sa.x) (by rw[<-hF7,a9,Qr (by decide +kernel),a9,Qq rfl]) ⟨_,rfl,_,rfl,_,rfl,?_⟩⟩;intro h dh nh ndh neh;refine⟨h,dh,sa.x,ft,s,R,fs,rfl,a8,?_,λzt H8 hz g1 g2 g3 tn8 kp8=>⟨rfl,?_⟩⟩
   . rw[ac (ae hf7 nh),ac (ae hf7 ndh)];exact hf7
   have e8:=lQ nh ndh kp8;have fzt:∀ c,zt.own c->H7 c=JZ:=λc h2=>by
    rcases h2 with y|y|y|y
    . rw[y,hz];exact nh
    . rw[y];exact(up1 (up1 g1).2).2
    . rw[y];exact(up1 (up1 g2).2).2
    . rw[y];exact(up1 (up1 g3).2).2
   subst hz;have dz:∀ c,z.own c->¬ zt.own c:=λc h1 h2=>by
    obtain⟨o,e,_⟩:=hn7.there h1;rw[fzt c h2]at e;cases e
   refine⟨_,rfl,y,a.bf,dx,_,rfl,e8 _ _ hx7,G.ak,G.cV,?_,?_⟩
   . rw[<-hF7,<-hF3];show 5 < 1000;decide
   have hf9:∀ F,upd H8 y (.ins a.bf dx F) ft=dk (.tup (fs.map V.str)):=λF=>up fy (e8 _ _ hf7)
   refine⟨_,rfl,ft,_,rfl,.inr (SqT.of (hf9 _)),rfl,hU fs,?_⟩;refine⟨_,rfl,y,a.bf,dx,_,rfl,a8,G.ak,G.gk,?_,?_⟩
   . rw[<-hF7,<-hF3];show 6 < 1000;decide
   rw[dU];refine⟨_,rfl,ft,_,rfl,.inr (SqT.of (hf9 _)),rfl,hU fs,?_⟩;refine⟨_,rfl,y,a.bf,dx,_,rfl,a8,G.ak,G.gy,?_,?_⟩
   . rw[<-hF7,<-hF3];show 7 < 1000;decide
   rw[dU];refine⟨_,rfl,ft,_,rfl,.inr (SqT.of (hf9 _)),rfl,hU fs,?_⟩;refine⟨_,rfl,y,a.bf,dx,_,rfl,a8,G.ak,G.hW,?_,?_⟩
   . rw[<-hF7,<-hF3];show 8 < 1000;decide
   rw[dU];simp only[if_true,sy];generalize hF9:bn "look_sees" (V.bl (!fs.contains "look")) (bn "lie_fences" (V.bl (!fs.contains "lie")) (bn "bell_fences" (V.bl (!fs.contains "bell")) (bn "heart" (V.ref zt.h) F7)))=F9;have hl9:F9.length=9:=by rw[<-hF9,<-hF7,<-hF3];rfl
   have S9:StT w a.aM (upd H8 y (.ins a.bf dx F9)) sa Mem.zero λ_=>[]:=(S7.same e8).keep (λc o hc e=>up (nn hx3 (fs4 c hc)) e) λb vs e=>up (λz=>by rw[z,e8 _ _ hx7]at e;cases e) e
   have hn9:=(hn7.same e8).keep (H':=upd H8 y (.ins a.bf dx F9)) λc o hc e=>up (nn hx5 (fz c hc)) e
   have tn9:=Tn.keep (H':=upd H8 y (.ins a.bf dx F9)) tn8 λc o hc e=>up (nn hx7 (fzt c hc)) e
   have kp9:Kp [y] H7 (upd H8 y (.ins a.bf dx F9)):=λc o n e=>up (λz=>n (JY.mpr z)) (e8 _ _ e)
   have hx9:upd H8 y (.ins a.bf dx F9) y=dk (.ins a.bf dx F9):=a8;generalize upd H8 y (.ins a.bf dx F9)=H9 at S9 hn9 tn9 kp9 hx9 |-;clear kp8 nh ndh neh g1 g2 g3 S7 hn7 e8 tn8 hf9;have X9:X5 w a.dI a.b8 a.cg a.aM H9 z zt sa ⟨s,if fs.contains "round" then 1 else R,fs.contains "counter"⟩ n Mem.zero (λ_=>[]) [] []:=⟨hn9,tn9,S9,dz⟩
   clear S9 hn9 tn9;have kpA:Kp [y] H H9:=kp3.trans (kp5.trans (kp7.trans kp9));have ow:∀ c,ye z zt sa c->H3 c=JZ:=λc hc=>by
    rcases hc with hc|hc|hc
    . exact fZ kp5 (fz c hc) λx mx=>by rw[JY.mp mx,hx5];exact λz=>by cases z
    . exact fZ (kp5.trans kp7) (fzt c hc) λx mx=>by rw[JY.mp mx,hx7];exact λz=>by cases z
    . exact fs4 c hc
   have owH:∀ c,ye z zt sa c->H c=JZ:=λc hc=>fZ kp3 (ow c hc) λx mx=>by rw[JY.mp mx,hx3];exact λz=>by cases z
   have owy:¬ ye z zt sa y:=λhc=>by have:=ow y hc;rw[hx3]at this;cases this
   clear kp3 kp5 kp7 kp9 fs4 fz fzt;have stp:∀ {Hi:Hp} {Fi F':List (Str × V)} {l:D'} {o:HO},Hi y=dk (.ins a.bf dx Fi)->Hi l=JZ->(∀ c u,c≠y->Hi c=dk u->upd (upd Hi l o) y (.ins a.bf dx F') c=dk u)/\upd (upd Hi l o) y (.ins a.bf dx F') l=dk o/\upd (upd Hi l o) y (.ins a.bf dx F') y=dk (.ins a.bf dx F'):=λ{Hi Fi F' l o} hy hl =>
    ⟨λc u n e=>up n (by rw[ac (ae e hl)];exact e),up (nn hy hl) a8,a8⟩
   have kx:∀ {Hi Hj:Hp},(∀ c u,c≠y->Hi c=dk u->Hj c=dk u)->(∃ F,Hi y=dk (.ins a.bf dx F))->X5 w a.dI a.b8 a.cg a.aM Hi z zt sa ⟨s,if fs.contains "round" then 1 else R,fs.contains "counter"⟩ n Mem.zero (λ_=>[]) [] []->X5 w a.dI a.b8 a.cg a.aM Hj z zt sa ⟨s,if fs.contains "round" then 1 else R,fs.contains "counter"⟩ n Mem.zero (λ_=>[]) [] []:=λ{Hi Hj} kk ⟨F,hy⟩ X=>X.keep (λc o hc e=>kk c o (λy'=>owy (by rw[<-y'];exact hc)) e) λb vs e=>kk b _ (λy'=>by rw[y',hy]at e;cases e) e
   refine⟨l2,λsl hsl=>⟨_,rfl,y,a.bf,dx,F9,rfl,(by rw[ac (ae hx9 hsl)];exact hx9),G.ak,G.aZ,by rw[hl9];decide,?_⟩⟩;obtain⟨a1,a2,a3⟩:=stp (F':=bn "sleepers" (.ref sl) F9) (o:=.lst [V.str "up",V.str "up"]) hx9 hsl;generalize upd (upd H9 sl (.lst [V.str "up",V.str "up"])) y (.ins a.bf dx (bn "sleepers" (.ref sl) F9))=H10 at a1 a2 a3 |-;have X10:=kx a1 ⟨_,hx9⟩ X9;refine⟨l2,λqu hqu=>⟨_,rfl,y,a.bf,dx,_,rfl,(by rw[ac (ae a3 hqu)];exact a3),G.ak,G.dS,?_,?_⟩⟩
   . rw[<-hF9,<-hF7,<-hF3];show 10 < 1000;decide
   obtain⟨b1,b2,b3⟩:=stp (F':=bn "quiet" (.ref qu) (bn "sleepers" (.ref sl) F9)) (o:=.lst [V.bl j',V.bl j']) a3 hqu;generalize upd (upd H10 qu (.lst [V.bl j',V.bl j'])) y (.ins a.bf dx (bn "quiet" (.ref qu) (bn "sleepers" (.ref sl) F9)))=H11 at b1 b2 b3 |-;have X11:=kx b1 ⟨_,a3⟩ X10;have b4:=b1 _ _ (nn hx9 hsl) a2;refine⟨pT,λhp hhp=>⟨_,rfl,y,a.bf,dx,_,rfl,(by rw[ac (ae b3 hhp)];exact b3),G.ak,G.cj,?_,?_⟩⟩
   . rw[<-hF9,<-hF7,<-hF3];show 11 < 1000;decide
   obtain⟨c1,c2,c3⟩:=stp (F':=bn "happened" (.ref hp) (bn "quiet" (.ref qu) (bn "sleepers" (.ref sl) F9))) (o:=.lst []) b3 hhp;generalize upd (upd H11 hp (.lst [])) y (.ins a.bf dx (bn "happened" (.ref hp) (bn "quiet" (.ref qu) (bn "sleepers" (.ref sl) F9))))=H12 at c1 c2 c3 |-;have X12:=kx c1 ⟨_,b3⟩ X11;have c4:=c1 _ _ (nn hx9 hsl) b4;have c5:=c1 _ _ (nn a3 hqu) b2;have n1:sl≠qu:=ae a2 hqu;have n2:sl≠hp:=ae b4 hhp;have n3:qu≠hp:=ae b2 hhp;have kpB:Kp [y] H H12:=λc o n e=>c1 c o (λz=>n (JY.mpr z)) (b1 c o (λz=>n (JY.mpr z)) (a1 c o (λz=>n (JY.mpr z)) (kpA c o n e)))
   have nH:∀ {Hi:Hp} {c:D'},Kp [y] H Hi->(∃ F,Hi y=dk (.ins a.bf dx F))->Hi c=JZ->H c=JZ:=λkk ⟨F,e⟩ h=>fZ kk h λx mx=>by rw[JY.mp mx,e];exact λz=>by cases z
   have kp10:Kp [y] H H10:=λc o n e=>a1 c o (λz=>n (JY.mpr z)) (kpA c o n e)
   have kp11:Kp [y] H H11:=λc o n e=>b1 c o (λz=>n (JY.mpr z)) (kp10 c o n e)
   refine k ⟨y,ft,sa,z,zt,sl,qu,hp⟩ H12 rfl (λc hc ny=>?_) ⟨⟨dx,?_⟩,X12,c4,c5,⟨[],c2,rfl⟩,λ_ h=>(by cases h),λc hc h5=>?_,⟨n1,n2,n3⟩,owy⟩ kpB
   . rcases hc with y'|hc|y'|y'|y'
     . exact absurd y' ny
     . exact owH c hc
     . rw[y'];exact nH kpA ⟨_,hx9⟩ hsl
     . rw[y'];exact nH kp10 ⟨_,a3⟩ hqu
     . rw[y'];exact nH kp11 ⟨_,b3⟩ hhp
   . rw[c3,<-hF9,<-hF7,<-hF3];rfl
   . rcases hc with y'|y'|y'
     . obtain⟨o,e,_⟩:=X9.there h5;rw[y',hsl]at e;cases e
     . obtain⟨o,e,_⟩:=X10.there h5;rw[y',hqu]at e;cases e
     . obtain⟨o,e,_⟩:=X11.there h5;rw[y',hhp]at e;cases e
def TD (H:Hp) (x:Dd) (v:V):Prop:=∃ t,v=.ref t/\H t=dk (.tup x.vs)
def TD.keep {H H':Hp}(ht:∀ b vs,H b=dk (.tup vs)->H' b=dk (.tup vs)) {x:Dd}{v:V}(h:TD H x v):TD H' x v:=by
 obtain⟨t,e,h⟩:=h;exact⟨t,e,ht _ _ h⟩
def rK {H H':Hp}(ht:∀ b vs,H b=dk (.tup vs)->H' b=dk (.tup vs)) {xs:List Dd}{vs:List V}(h:Kx (TD H) xs vs):Kx (TD H') xs vs:=Paired.mapP h λ_ _ q=>q.keep ht
def nT (ws:List Int):List Dd:=ws.map Dd.ask++[.collect,.take]
def hX (ws ks:List Int):List Dd:=nT ws++ks.flatMap λnm=>ws.map (Dd.answer nm)
def Fr:List Dd:=[.bell f',.bell j',.lie f',.lie j',.look f',.look j',.drain f',.drain j']
def jg (ws ks:List Int):List Dd:=hX ws ks++Fr
def CL (w:Kk) (ad:Ad) (K:Kc):Sp:=λvs H Q _=>∃ (a:YA) (q:YP) (S:YS) (wl:D') (ws:List Int),vs=[.ref a.y,.ref wl]/\Yn w ad.bf ad.dI ad.b8 ad.cg ad.aM H a q S/\H wl=dk (.lst (ws.map V.int))/\ws.length <= 60/\S.tk.length < 64 /\
 ∀ (l:D') (ks:List Int) (ts:List V) (H':Hp),ks.Perm S.tk->ks.Pairwise (· <= ·)->H l=JZ->bL H H'->H' l=dk (.lst ts)->Kx (TD H') (jg ws ks) ts->Q (.ref l) H'
theorem i5 {α β:Type}{R:α->β->Prop}:∀ {a:List α}{b:List β}{c:List α}{d:List β},Kx R a b->Kx R c d->Kx R (a++c) (b++d)
|_,_,_,_,.nil,h=>h
|_,_,_,_,.cons r t,h=>.cons r (i5 t h)
theorem ml (ws:List Int):∀ ks:List Int,(ks.flatMap λnm=>ws.map (Dd.answer nm)).length=ks.length * ws.length
|[]=>by simp
|k :: ks=>by
  rw[List.flatMap_cons,JX,ml ws ks,Kv,KJ,Nat.succ_mul];omega
def Dq:List V:=[.str "bell",.str "lie",.str "look",.str "drain"]
def GD {j:Nat}{v:V}(h:Dq[j]?=dk v):∃ x0 x1 wd,v=.str wd/\x0.vs=[.str wd,.int 0]/\x1.vs=[.str wd,.int 1]/\Fr.take (2 * (j+1))=Fr.take (2 * j)++[x0,x1]:=by
 match j,h with
|0,h=>cases h;exact⟨.bell f',.bell j',_,rfl,rfl,rfl,rfl⟩
|1,h=>cases h;exact⟨.lie f',.lie j',_,rfl,rfl,rfl,rfl⟩
|2,h=>cases h;exact⟨.look f',.look j',_,rfl,rfl,rfl,rfl⟩
|3,h=>cases h;exact⟨.drain f',.drain j',_,rfl,rfl,rfl,rfl⟩
|_+4,h=>cases h
structure Gr (H H':Hp) (D:D') (xs:List Dd) (ts:List V):Prop where
 kp:∀ c o,c≠D->H c=dk o->H' c=dk o
 at_:H' D=dk (.lst ts)
 td:Kx (TD H') xs ts
 new:H D=JZ
section
variable {H H' H'':Hp}{D:D'}{xs es:List Dd}{ts zs:List V}
def Gr.same (g:Gr H H' D xs ts) (s:bL H' H''):Gr H H'' D xs ts:=⟨λc o n e=>s _ _ (g.kp c o n e),s _ _ g.at_,rK (λb vs=>s b _) g.td,g.new⟩
def Gr.sm (g:Gr H H' D xs ts):bL H H':=λc o e=>g.kp c o (λy=>by rw[y,g.new]at e;cases e) e
def Gr.len (g:Gr H H' D xs ts):ts.length=xs.length:=(aL g.td).symm
def Gr.ext (g:Gr H H' D xs ts) (h:Kx (TD H') es zs):Gr H (upd H' D (.lst (ts++zs))) D (xs++es) (ts++zs):=by
 have tu:∀ b vs,H' b=dk (.tup vs)->upd H' D (.lst (ts++zs)) b=dk (.tup vs):=λb vs e=>by
  rw[ac (λz=>by rw[z,g.at_]at e;cases e)];exact e
 exact⟨λc o n e=>by rw[ac n];exact g.kp c o n e,a8,i5 (rK tu g.td) (rK tu h),g.new⟩
end
def Cg (G:Gs K mg a d):FnOk P w K mg base CX0 2 a.bM d.bM ["self","worths"] (CL w a K):=by
 have O7:FnOk P w K mg base CX0 1 _ _ _ _:=Ch G;refine G.oj.ok cU (λvs H Q E h=>?_) (λcdv A' outer s' H vs Q E hr h=>?_)
 . obtain⟨y,q,S,wl,ws,rfl,_⟩:=h;rfl
 . obtain⟨y,q,S,wl,ws,rfl,Y,hw,wlen,tlen,k⟩:=h;have hu:=dR hr;refine⟨_,((by exact kn (iN:=2) (caps:=[]) (js:=[]) cU.nd rfl (KU rfl) (by rfl) rfl (mz rfl rfl (by decide +kernel) (by decide +kernel) rfl trivial rfl rfl) (by decide +kernel) trivial (fY (pv 1)) (λC s₃ H₃ Mq ex E'=>by exact sL) (λC s₃ H₃ Mq ex E'=>by exact(@bj _ _ _ _ _ (au∣((pv 0)∣aa)))))∪((@aK _ _ _ _ (@lV _ _ _ _ _ _ _ _ _ _ _ _ KG PySem.F.slot_list_extend PySem.F.type_list_extend p7 (pv 2) ((@bQ _ _ _ _ ((@bj _ _ _ _ _ (au∣aa))∣((@bj _ _ _ _ _ (au∣aa))∣aa)))∣aa) (by rfl) (by rfl) (by rfl) (by rfl) (by rfl)) (by rfl))∪((kH Lm rfl (fY (aN (al (pv 0) rfl) G.bH G.qH O7 (hr.mono (by decide)) G.rN .nil av)) (bV (i:=3) cU.nd rfl (Or.inr rfl)) (@ar _ _ _ (@aK _ _ _ _ (@lV _ _ _ _ _ _ _ _ _ _ _ _ KG PySem.F.slot_list_extend PySem.F.type_list_extend p7 (pv 2) ((by exact rR (caps:=["name"]) (js:=[3]) rfl (mz rfl rfl (by decide +kernel) (by decide +kernel) rfl ⟨rfl,trivial⟩ rfl rfl) (by decide +kernel) ⟨⟨⟨_,rfl⟩,rfl,.inl rfl,.inl rfl⟩,trivial⟩ (fY (pv 1)) (λC s₃ H₃ Mq ex E'=>by exact sL) (λC s₃ H₃ Mq ex E'=>by exact(@bj _ _ _ _ _ (au∣((pv 1)∣((pv 0)∣aa))))))∣aa) (by rfl) (by rfl) (by rfl) (by rfl) (by rfl)) (by rfl))))∪((kH Lm rfl (yU (@bj _ _ _ _ _ (au∣(au∣(au∣(au∣aa)))))) (bV (i:=4) cU.nd rfl (KU rfl)) (@ar _ _ _ (@aK _ _ _ _ (@lV _ _ _ _ _ _ _ _ _ _ _ _ KG PySem.F.slot_list_extend PySem.F.type_list_extend p7 (pv 2) ((@bQ _ _ _ _ ((@bj _ _ _ _ _ ((pv 4)∣(ai∣aa)))∣((@bj _ _ _ _ _ ((pv 4)∣(ai∣aa)))∣aa)))∣aa) (by rfl) (by rfl) (by rfl) (by rfl) (by rfl)) (by rfl))))∪((pv 2)⁻¹))))),?_⟩;refine⟨_,rfl,wl,rfl,⟨_,SqL.of hw⟩,λD hD=>?_⟩;refine⟨λi mm ys H'=>i <= ws.length/\mm=ws.length - i/\Gr H H' D ((ws.take i).map Dd.ask) ys,⟨_,LJ _,rfl,λc o n e=>(by rw[ac n];exact e),a8,.nil,hD⟩,?_⟩;rintro i mm ys H1 ⟨hi,rfl,g1⟩;have hyl:=g1.len;rw[Kv,Lu]at hyl;refine⟨g1.at_,Kg (show _ < 1000 by omega) (by decide),?_⟩;by_cases hii:i=ws.length;rotate_left
   . have hlt:i < ws.length:=by omega
     refine .inr ⟨⟨_,_,SqL.of (g1.sm _ _ hw),by rw[Lo,Kh hlt];rfl⟩,?_⟩;rintro v H2 ⟨rfl,hv⟩;have hv:=hv _ (SqL.of (g1.sm _ _ hw));rw[Lo,Kh hlt]at hv;cases hv;refine jt ⟨_,rfl,l2,λt ht=>?_⟩;have g2:=g1.same (ag (o:=.tup [V.str "ask",V.int ws[i]]) ht);refine⟨g2.at_,ws.length - (i+1),by omega,by omega,rfl,?_⟩;rw[take_add_one,Kh hlt,K8];exact g2.ext (.cons ⟨t,rfl,a8⟩ .nil)
   refine .inl ⟨⟨_,SqL.of (g1.sm _ _ hw),by rw[Kv];omega⟩,?_⟩;rw[hii,take_length]at g1;rw[hii,Nat.min_self]at hyl;refine⟨_,rfl,.inl ⟨rfl,_,SqL.of g1.at_⟩,xP,λt1 h1=>⟨xP,λt2 h2=>⟨l2,λlq h3=>?_⟩⟩⟩;have s1:=ag (o:=.tup [V.str "collect"]) h1;have s2:=ag (o:=.tup [V.str "take"]) h2;have s3:=ag (o:=.lst [V.ref t1,V.ref t2]) h3;have g3:=((g1.same s1).same s2).same s3;have p3:Kx (TD (upd (upd (upd H1 t1 (.tup [V.str "collect"])) t2 (.tup [V.str "take"])) lq (.lst [V.ref t1,V.ref t2]))) [Dd.collect,Dd.take] [V.ref t1,V.ref t2]:=.cons ⟨t1,rfl,s3 _ _ (s2 _ _ a8)⟩ (.cons ⟨t2,rfl,s3 _ _ a8⟩ .nil);refine⟨D,lq,ys,_,rfl,rfl,g3.at_,a8,K6 (show _ <= 1000 by show _+2 <= 1000;omega) (by decide),?_⟩;have g4:=g3.ext p3;have gA:Gr H (upd (upd (upd (upd H1 t1 (.tup [V.str "collect"])) t2 (.tup [V.str "take"])) lq (.lst [V.ref t1,V.ref t2])) D (.lst (ys++[V.ref t1,V.ref t2]))) D (nT ws) (ys++[V.ref t1,V.ref t2]):=g4;clear g3 g4 p3 s1 s2 s3 g1 hii;generalize upd (upd (upd (upd H1 t1 (.tup [V.str "collect"])) t2 (.tup [V.str "take"])) lq (.lst [V.ref t1,V.ref t2])) D (.lst (ys++[V.ref t1,V.ref t2]))=H4 at gA |-;have Y4:=Y.same gA.sm;refine⟨_,rfl,i8 Y4.ob G.ak G.cV lF (dM Y4.x.tn.ob CG ⟨y.zt,y.sa.x,q.p,S.tk,rfl,Y4.x.tn,tlen,λlk ks hk pmk pwk=>⟨lk,rfl,⟨_,SqL.of a8⟩,?_⟩⟩)⟩;have gB:=gA.same (ag (o:=.lst (ks.map V.int)) hk);have vk:upd H4 lk (.lst (ks.map V.int)) lk=dk (.lst (ks.map V.int)):=a8;have nkD:lk≠D:=λz=>by rw[z,gA.at_]at hk;cases hk
   generalize upd H4 lk (.lst (ks.map V.int))=H5 at gB vk |-;clear gA Y4 hk;have hks:ks.length < 64:=by rw[pmk.length_eq];exact tlen
   refine sD (K:=K) (a:=lk) (xs:=ks.map V.int) (λj σ H'=>∃ ts,(∃ v3 v4,σ=[dk (.ref y.y),dk (.ref wl),dk (.ref D),v3,v4])/\Gr H H' D (hX ws (ks.take j)) ts/\H' lk=dk (.lst (ks.map V.int)))
    ⟨_,⟨_,_,rfl⟩,by rw[take_zero];show Gr H H5 D (nT ws++[]) _;rw[KC];exact gB,vk⟩ (λ_ _ _ _ uq16=>by(obtain⟨_,_,_,y⟩:=uq16;exact SqL.of y)) ?_ ?_
   . clear gB vk;rintro j v σ H6 hj ⟨ts,⟨v3,v4,rfl⟩,g6,vk⟩;rw[Lo]at hj;obtain⟨nm,hnm,rfl⟩:=map_eq_some_iff.mp hj;have hjl:=(Kw.mp hnm).1;refine⟨_,rfl,.inl ⟨rfl,_,SqL.of g6.at_⟩,?_⟩;refine⟨_,rfl,wl,rfl,⟨_,SqL.of (g6.sm _ _ hw)⟩,λD2 hD2=>?_⟩;refine⟨λi mm ys H'=>i <= ws.length/\mm=ws.length - i/\Gr H6 H' D2 ((ws.take i).map (Dd.answer nm)) ys,⟨_,LJ _,rfl,λc o n e=>(by rw[ac n];exact e),a8,.nil,hD2⟩,?_⟩;rintro i mm ys2 H7 ⟨hi,rfl,g7⟩;have hyl:=g7.len;rw[Kv,Lu]at hyl;refine⟨g7.at_,Kg (show _ < 1000 by omega) (by decide),?_⟩;by_cases hii:i=ws.length;rotate_left
     . have hlt:i < ws.length:=by omega
       refine .inr ⟨⟨_,_,SqL.of (g7.sm _ _ (g6.sm _ _ hw)),by rw[Lo,Kh hlt];rfl⟩,?_⟩;rintro v H8 ⟨rfl,hv⟩;have hv:=hv _ (SqL.of (g7.sm _ _ (g6.sm _ _ hw)));rw[Lo,Kh hlt]at hv;cases hv;refine jt ⟨_,rfl,_,rfl,l3,λt ht=>?_⟩;have g8:=g7.same (ag (o:=.tup [V.str "answer",V.int nm,V.int ws[i]]) ht);refine⟨g8.at_,ws.length - (i+1),by omega,by omega,rfl,?_⟩;rw[take_add_one,Kh hlt,K8];exact g8.ext (.cons ⟨t,rfl,a8⟩ .nil)
     refine .inl ⟨⟨_,SqL.of (g7.sm _ _ (g6.sm _ _ hw)),by rw[Kv];omega⟩,?_⟩;rw[hii,take_length]at g7;have g8:=g6.same g7.sm;have hl8:=g6.len;have hlb:(hX ws (ks.take j)).length <= 10000:=by
      unfold hX nT;rw[JX,JX,Kv,ml,Lu];have h2:min j ks.length * ws.length <= 64 * 60:=Nat.mul_le_mul (by omega) wlen;show ws.length+2+_ <= _;omega
     refine⟨D,D2,ts,ys2,rfl,rfl,g8.at_,g7.at_,K6 (show _ <= 20000 by omega) (by decide),?_⟩;have g9:=g8.ext g7.td;refine⟨ts++ys2,⟨_,_,rfl⟩,?_,by rw[ac nkD];exact g7.sm _ _ vk⟩;have:hX ws (ks.take (j+1))=hX ws (ks.take j)++ws.map (Dd.answer nm):=by
      unfold hX;rw[take_add_one,hnm,Option.toList_some,List.flatMap_append,<-Ku];congr 1;simp
     rw[this];exact g9
   . clear gB vk;rintro σ H6 ⟨ts,⟨v3,v4,rfl⟩,g6,vk⟩;rw[Kv,take_length]at g6;have hlb:(hX ws ks).length <= 10000:=by
      unfold hX nT;rw[JX,JX,Kv,ml];have h2:ks.length * ws.length <= 64 * 60:=Nat.mul_le_mul (by omega) wlen;show ws.length+2+_ <= _;omega
     refine⟨by show 4 <= Ki;decide,λtw htw=>⟨tw,rfl,⟨_,SqT.of a8⟩,?_⟩⟩;have g7:=g6.same (ag (o:=.tup Dq) htw);have vw:upd H6 tw (.tup Dq) tw=dk (.tup Dq):=a8;change ∃ W:Nat->Nat->St->Hp->Prop,(∃ m,W 0 m [dk (V.ref y.y),dk (V.ref wl),dk (V.ref D),v3,v4] (upd H6 tw (.tup Dq)))/\_;generalize upd H6 tw (.tup Dq)=H7 at g7 vw |-;refine we (K:=K) (a:=tw) (xs:=Dq) (λj σ H'=>∃ ts,(∃ v3 v4,σ=[dk (.ref y.y),dk (.ref wl),dk (.ref D),v3,v4])/\Gr H H' D (hX ws ks++Fr.take (2 * j)) ts/\H' tw=dk (.tup Dq))
      ⟨_,⟨_,_,rfl⟩,by rw[Nat.mul_zero,take_zero,KC];exact g7,vw⟩ (λ_ _ _ _ uq17=>by(obtain⟨_,_,_,y⟩:=uq17;exact SqT.of y)) ?_ ?_
     . clear g7 vw g6;rintro j v σ H8 hj ⟨ts,⟨v3,v4,rfl⟩,g8,vw⟩;obtain⟨x0,x1,wd,rfl,h0,h1,ht⟩:=GD hj;have hj4:j < 4:=(Kw.mp hj).1;refine⟨_,rfl,.inl ⟨rfl,_,SqL.of g8.at_⟩,_,rfl,l2,λt1 h1'=>⟨_,rfl,l2,λt2 h2=>⟨l2,λlq h3=>?_⟩⟩⟩;have s1:=ag (o:=.tup [V.str wd,V.int 0]) h1';have s2:=ag (o:=.tup [V.str wd,V.int 1]) h2;have s3:=ag (o:=.lst [V.ref t1,V.ref t2]) h3;have g9:=((g8.same s1).same s2).same s3;have p3:Kx (TD (upd (upd (upd H8 t1 (.tup [V.str wd,V.int 0])) t2 (.tup [V.str wd,V.int 1])) lq (.lst [V.ref t1,V.ref t2]))) [x0,x1] [V.ref t1,V.ref t2]:=.cons ⟨t1,rfl,by rw[h0];exact s3 _ _ (s2 _ _ a8)⟩ (.cons ⟨t2,rfl,by rw[h1];exact s3 _ _ a8⟩ .nil);have hl8:=g8.len;rw[JX,Lu]at hl8;refine⟨D,lq,ts,_,rfl,rfl,g9.at_,a8,K6 (show _ <= 20000 by show _+2 <= _;omega) (by decide),?_⟩;have nwD:tw≠D:=λz=>by rw[z,g8.at_]at vw;cases vw
       refine⟨ts++[V.ref t1,V.ref t2],⟨_,_,rfl⟩,?_,by rw[ac nwD];exact s3 _ _ (s2 _ _ (s1 _ _ vw))⟩;rw[ht,<-Ku];exact g9.ext p3
     . rintro σ H8 ⟨ts,⟨v3,v4,rfl⟩,g8,vw⟩;exact⟨_,rfl,k D ks ts H8 pmk pwk g8.new g8.sm g8.at_ g8.td⟩
def Gi (w:Kk) (ad:Ad) (K:Kc):Sp:=λvs H Q _=>∃ (a:YA) (q:YP) (S:YS) (wl:D') (ws:List Int),vs=[.ref a.y,.ref wl]/\Yn w ad.bf ad.dI ad.b8 ad.cg ad.aM H a q S/\q.Ok/\H wl=dk (.lst (ws.map V.int))/\ws.length <= 60/\(∀ x∈ws,-1000000000 <= x/\x <= 1000000000)/\S.tk.length < 64 /\
 ∀ (l:D') (ks:List Int) (ts:List V) (H':Hp),ks.Perm S.tk->ks.Pairwise (· <= ·)->H l=JZ->bL H H'->H' l=dk (.lst ts)->Kx (TD H') ((jg ws ks).filter λx=>(x.chk q S).isNone) ts->Q (.ref l) H'
def xr {ws ks:List Int}(h:∀ x∈ws,-1000000000 <= x/\x <= 1000000000):∀ x∈jg ws ks,x.Ok:=by
 intro x hx;unfold jg hX nT at hx;rcases KS.mp hx with hx|hx
 . rcases KS.mp hx with hx|hx
   . rcases KS.mp hx with hx|hx
     . obtain⟨wt,hw,rfl⟩:=Me.mp hx;exact h wt hw
     . simp only[KA,KL,or_false]at hx;rcases hx with rfl|rfl<;>exact trivial
   . obtain⟨nm,_,hx⟩:=List.mem_flatMap.mp hx;obtain⟨wt,hw,rfl⟩:=Me.mp hx;exact h wt hw
 . simp only[Fr,KA,KL,or_false]at hx;rcases hx with rfl|rfl|rfl|rfl|rfl|rfl|rfl|rfl<;>exact trivial
def FI (G:Gs K mg a d):FnOk P w K mg base CX0 12 a.bq d.bq ["self","worths"] (Gi w a K):=by
 have PR:FnOk P w K mg base CX0 2 _ _ _ _:=Cg G;have PD:FnOk P w K mg base CX0 10 _ _ _ _:=AU G;refine G.mv.ok lg (λvs H Q E h=>?_) (λcdv A' outer s' H vs Q E hr h=>?_)
 . obtain⟨y,q,S,wl,ws,rfl,_⟩:=h;rfl
 . obtain⟨y,q,S,wl,ws,rfl,Y,qo,hw,wlen,wok,tlen,k⟩:=h;have hu:=dR hr;refine⟨_,((by exact rR (caps:=["self"]) (js:=[0]) rfl (mz rfl rfl (by decide +kernel) (by decide +kernel) rfl ⟨rfl,trivial⟩ rfl rfl) (by decide +kernel) ⟨⟨⟨_,rfl⟩,rfl,.inl rfl,.inl rfl⟩,trivial⟩ (fY (az (pv 0) G.ak G.n8 PR (hr.mono (by decide)) G.o8 .nil av ((pv 1)∣aa))) (λC s₃ H₃ Mq ex E'=>by exact nL (cJ (az (pv 1) G.ak G.mD PD (hr.mono (by decide)) G.mQ .nil av ((pv 0)∣aa)))) (λC s₃ H₃ Mq ex E'=>by exact(pv 0)))⁻¹),?_⟩;refine⟨_,rfl,dM Y.ob (dC (by decide +kernel)) ⟨_,rfl,y,q,S,wl,ws,rfl,Y,hw,wlen,tlen,λl ks ts H1 pmk pwk hl e1 h1 td=>⟨l,rfl,⟨_,SqL.of h1⟩,λD hD=>?_⟩⟩⟩;have Y1:=Y.same e1;have tl:=aL td;have okx:=xr (ks:=ks) wok;have tlen2:(jg ws ks).length <= 20000:=by
    unfold jg hX nT;rw[JX,JX,JX,Kv,ml];have hk:=pmk.length_eq;have h2:ks.length * ws.length <= 64 * 60:=Nat.mul_le_mul (by omega) wlen;show ws.length+2+_+8 <= _;omega
   refine⟨λi mm ys H'=>i <= ts.length/\mm=ts.length - i/\Gr H1 H' D (((jg ws ks).take i).filter λx=>(x.chk q S).isNone) ys,⟨_,LJ _,rfl,λc o n e=>(by rw[ac n];exact e),a8,.nil,hD⟩,?_⟩;rintro i mm ys H2 ⟨hi,rfl,g2⟩;have hyl:=g2.len;have hfl:=Mg (λx:Dd=>(x.chk q S).isNone) ((jg ws ks).take i);rw[Lu]at hfl;refine⟨g2.at_,Kg (show _ < 100000 by omega) (by decide),?_⟩;by_cases hii:i=ts.length;rotate_left
   . have hlt:i < ts.length:=by omega
     refine .inr ⟨⟨_,_,SqL.of (g2.sm _ _ h1),Kh hlt⟩,?_⟩;rintro v H3 ⟨rfl,hv⟩;have hv:=hv _ (SqL.of (g2.sm _ _ h1));obtain⟨x,hx,t,rfl,ht⟩:=uQ td hv;refine⟨_,rfl,dM (Y1.same g2.sm).ob (dC (by decide +kernel)) ⟨_,rfl,y,q,S,x,t,rfl,Y1.same g2.sm,qo,g2.sm _ _ ht,okx x (KZ hx),λH4 e4=>⟨_,rfl,?_⟩⟩⟩;have g4:=g2.same e4;have et:(jg ws ks).take (i+1)=(jg ws ks).take i++[x]:=by rw[take_add_one,hx];rfl
     cases hc:(x.chk q S).isNone with
    |true =>
      refine jt ⟨_,rfl,g4.at_,ts.length - (i+1),by omega,by omega,rfl,?_⟩;rw[et,Lb,K4,hc];exact g4.ext (.cons ⟨t,rfl,e4 _ _ (g2.sm _ _ ht)⟩ .nil)
    |false =>
      refine iE ⟨ts.length - (i+1),by omega,by omega,rfl,?_⟩;rw[et,Lb,K4,hc];simp only[Ll,if_false,List.filter_nil,KC];exact g4
   refine .inl ⟨⟨_,SqL.of (g2.sm _ _ h1),by omega⟩,?_⟩;rw[hii,Li (by omega)]at g2;exact k D ks ys H2 pmk pwk (cK e1 hD) (e1.trans g2.sm) g2.at_ g2.td
def Ai (w:Kk) (CH CR CS:D'):Sp:=λvs H Q _=>∃ (z:HA) (sa:SA) (p:RP) (n:Int) (aw:List Int) (m:Mem) (rs:Bool->List Wr),vs=[.ref z.h]/\Hn CH CR H z sa.x p n aw/\StT w CS H sa m rs/\p.Ok/\Q (.bl (decide (aB p m (rs f') .answered .handed≠0))) H
def zy (w:Kk) (CT CR CS:D'):Sp:=λvs H Q _=>∃ (z:TA') (sa:SA) (p:RP) (ts:List Int) (m:Mem) (rs:Bool->List Wr),vs=[.ref z.h]/\Tn CT CR H z sa.x p ts/\StT w CS H sa m rs/\p.Ok/\Q (.bl (decide (aB p m (rs j') .asked .taken≠0))) H
def zo (w:Kk) (ad:Ad):Sp:=λvs H Q _=>∃ (a:YA) (q:YP) (S:YS) (b:Bool),vs=[.ref a.y,.int (sdI b)]/\Yn w ad.bf ad.dI ad.b8 ad.cg ad.aM H a q S/\q.Ok/\Q (.bl (swT q S b)) H
def Bh (w:Kk) (ad:Ad) (a:YA) (q:YP) (S':YS) (L:Nat) (dd:Ka) (H:Hp) (Q:VK):Prop:=∀ (v:V) (H':Hp),Yn w ad.bf ad.dI ad.b8 ad.cg ad.aM H' a q S'->YI q S' (L+2)->DV H' dd v->KO a.own H H'->Q v H'
structure Rdy (w:Kk) (ad:Ad) (H:Hp) (a:YA) (q:YP) (S:YS) (L:Nat):Prop where
 y:Yn w ad.bf ad.dI ad.b8 ad.cg ad.aM H a q S
 ok:q.Ok
 i:YI q S L
 l:L < 90000
def Be (w:Kk) (ad:Ad):Sp:=λvs H Q _=>∃ (a:YA) (q:YP) (S:YS) (L:Nat) (wt:Int),vs=[.ref a.y,.int wt]/\Rdy w ad H a q S L/\aB q.p S.m (S.rs f') .asked .taken≠q.p.s/\bO q.n S.un≠JZ/\Bh w ad a q ((Dd.ask wt).run q S).2 L ((Dd.ask wt).run q S).1 H Q
def Cy (w:Kk) (ad:Ad):Sp:=λvs H Q _=>∃ (a:YA) (q:YP) (S:YS) (L:Nat) (nm wt:Int),vs=[.ref a.y,.int nm,.int wt]/\Rdy w ad H a q S L/\S.tk.contains nm≠f'/\aB q.p S.m (S.rs j') .answered .handed≠q.p.s/\Bh w ad a q ((Dd.answer nm wt).run q S).2 L ((Dd.answer nm wt).run q S).1 H Q
def tQ {own:D'->Prop}{H1 H2 H3:Hp}(h1:KO own H1 H2) (h2:KO own H2 H3):KO own H1 H3:=h1.trans h2 λ_ hc=>.inl hc
def qq {own:D'->Prop}{H:Hp}{c:D'}{o:HO}(h:own c):KO own H (upd H c o):=KO.of_kp Kp.one λx hx=>by rw[JY.mp hx];exact h
def xp {p:RP}{m:Mem}{row:List Wr}{g:Bool}{a:Cn}{nm wt:Int}:(kQ p m row g a nm wt).length=2:=by
 unfold kQ;cases p.e<;>rfl
def jV {rs:Bool->List Wr}{L n:Nat}(h:∀ b,(rs b).length <= L) (b:Bool) {row:List Wr}(hr:row.length <= L+n):∀ c,(aC rs b row c).length <= L+n:=λc=>by
 by_cases e:c=b
 . subst e;rw[am];exact hr
 . rw[aA e];have:=h c;omega
def AV (G:Gs K mg a d):FnOk P w K mg base CX0 6 a.aU d.aU ["self"] (Ai w a.dI a.cg a.aM):=by
 have Pd:FnOk P w K mg base CX0 3 _ _ _ _:=m9 G;refine G.jk.ok iY (λvs H Q E h=>?_) (λcdv A' outer s' H vs Q E hr h=>?_)
 . obtain⟨z,sa,p,n,aw,m,rs,rfl,_⟩:=h;rfl
 . obtain⟨z,sa,p,n,aw,m,rs,rfl,hn,⟨M,r,S,R,Pr⟩,hp,k⟩:=h;refine⟨_,((dY sv (aN (al (pv 0) rfl) G.ay G.eX Pd (hr.mono (by decide)) G.fB .nil av) ai (ax _))⁻¹),?_⟩;obtain⟨dx,hx⟩:=hn.ob;obtain⟨dr,hrb⟩:=hn.rb;refine⟨_,rfl,fld hx G.c6 G.fP rm ⟨z.rb,dr,_,rfl,hrb,lT,z.rb,sa,f',"answer","answered","handed",p,M,r,rdC m (rs f') .answered,rdC m (rs f') .handed,rfl,⟨dr,hrb⟩,S,hp,by decide +kernel,by decide +kernel,cG R (Pr f') .answered,cG R (Pr f') .handed,rfl,?_⟩⟩;have e:(!decide (V.int ((rdC m (rs f') .answered - rdC m (rs f') .handed) % (p.s * p.R))=V.int 0))=decide (aB p m (rs f') .answered .handed≠0):=by
    rw[Lz,Mf,decide_eq_false_iff_not,Qs];exact not_congr ⟨λh=>by injection h,λh=>congrArg V.int h⟩
   rw[e];exact k
def yP (G:Gs K mg a d):FnOk P w K mg base CX0 6 a.aR d.aR ["self"] (zy w a.b8 a.cg a.aM):=by
 have Pd:FnOk P w K mg base CX0 3 _ _ _ _:=m9 G;refine G.im.ok gZ (λvs H Q E h=>?_) (λcdv A' outer s' H vs Q E hr h=>?_)
 . obtain⟨z,sa,p,ts,m,rs,rfl,_⟩:=h;rfl
 . obtain⟨z,sa,p,ts,m,rs,rfl,hn,⟨M,r,S,R,Pr⟩,hp,k⟩:=h;refine⟨_,((dY sv (aN (al (pv 0) rfl) G.ay G.eX Pd (hr.mono (by decide)) G.fB .nil av) ai (ax _))⁻¹),?_⟩;obtain⟨dx,hx⟩:=hn.ob;obtain⟨dr,hra⟩:=hn.ra;refine⟨_,rfl,fld hx G.bH G.ix Ao ⟨z.ra,dr,_,rfl,hra,lT,z.ra,sa,j',"ask","asked","taken",p,M,r,rdC m (rs j') .asked,rdC m (rs j') .taken,rfl,⟨dr,hra⟩,S,hp,by decide +kernel,by decide +kernel,cG R (Pr j') .asked,cG R (Pr j') .taken,rfl,?_⟩⟩;have e:(!decide (V.int ((rdC m (rs j') .asked - rdC m (rs j') .taken) % (p.s * p.R))=V.int 0))=decide (aB p m (rs j') .asked .taken≠0):=by
    rw[Lz,Mf,decide_eq_false_iff_not,Qs];exact not_congr ⟨λh=>by injection h,λh=>congrArg V.int h⟩
   rw[e];exact k
def B7 (G:Gs K mg a d):FnOk P w K mg base CX0 7 a.aV d.aV ["self","side"] (zo w a):=by
 have O3:FnOk P w K mg base CX0 6 _ _ _ _:=AV G;have O5:FnOk P w K mg base CX0 6 _ _ _ _:=yP G;refine G.jn.ok ik (λvs H Q E h=>?_) (λcdv A' outer s' H vs Q E hr h=>?_)
 . obtain⟨y,q,S,b,rfl,_⟩:=h;rfl
 . obtain⟨y,q,S,b,rfl,Y,qo,k⟩:=h;refine⟨_,((ms (ao bW (pv 1) ai (ax _)) (aN (al (pv 0) rfl) G.c6 G.ip O3 (hr.mono (by decide)) G.jm .nil av) (aN (al (pv 0) rfl) G.bH G.i0 O5 (hr.mono (by decide)) G.iQ .nil av))⁻¹),?_⟩;refine⟨_,rfl,rfl,_,rfl,?_⟩;cases b with
  |false =>
    refine jj (by decide +kernel) ?_;exact⟨_,rfl,i8 Y.ob G.ak G.f8 sw (dM Y.x.hn.ob Bp ⟨y.z,y.sa,q.p,_,S.un,S.m,S.rs,rfl,Y.x.hn,Y.x.st,qo.ok,k⟩)⟩
  |true =>
    refine d0 (by decide +kernel) ?_;exact⟨_,rfl,i8 Y.ob G.ak G.cV lF (dM Y.x.tn.ob Cl ⟨y.zt,y.sa,q.p,S.tk,S.m,S.rs,rfl,Y.x.tn,Y.x.st,qo.ok,k⟩)⟩
def Bq (G:Gs K mg a d):FnOk P w K mg base CX0 9 a.d9 d.d9 ["self","worth"] (Be w a):=by
 have Qk:FnOk P w K mg base (CXv P w) 8 _ _ _ _:=(GK G).imp λvs H Q E=>Jb
 refine G.ss.ok kG (λvs H Q E h=>?_) (λcdv A' outer s' H vs Q E hr h=>?_)
 . obtain⟨y,q,S,L,wt,rfl,_⟩:=h;rfl
 . obtain⟨y,q,S,L,wt,rfl,Rd,hc,hl,k⟩:=h;have Y:=Rd.y;have ll:=Rd.l;have ul:=Rd.i.und.len (by have:=Rd.ok.n9;omega);have rl:=Rd.i.len;have hsl:=Rd.i.hl;refine⟨_,((@bi _ _ 2 _ _ _ _ kG.nd rfl (KU rfl) (az (al (pv 0) rfl) G.c6 G.vW Qk (hr.mono (by decide)) G.yB .nil DJ ((pv 1)∣aa)) (by rfl) (by first|exact .inl rfl|exact .inr rfl|assumption))∪((@aK _ _ _ _ (@lV _ _ _ _ _ _ _ _ _ _ _ _ KG K9 PySem.F.type_list_append dX (al (pv 0) rfl) ((@bj _ _ _ _ _ (au∣((pv 2)∣((pv 1)∣aa))))∣aa) (by rfl) (by rfl) (by rfl) (by rfl) (by rfl)) (by rfl))∪((@gE _ _ _ _ _ _ bF (jd (al (pv 0) rfl) ai d8) (by rfl) (by rfl) (by rfl))∪((pv 2)⁻¹)))),?_⟩;cases hle:bO q.n S.un with
  |none=>exact absurd hle hl
  |some nm =>
    refine⟨_,rfl,i8 Y.ob G.ak G.f8 sw (dM Y.x.hn.ob GH ⟨_,rfl,y.z,y.sa,q.p,q.n,S.un,S.m,S.rs,wt,rfl,Y.x.hn,Y.x.st,Rd.ok.ok,Rd.ok.n9,by omega,by have:=rl f';omega,?_⟩)⟩;rw[Qr hc,hle];intro H1 hn1 st1 kp1;have Y1:=Y.parts (Y.x.hand hn1 st1 kp1) kp1 qW;obtain⟨ts,h1,h2⟩:=Y1.hp;have tl:=ic h2;refine⟨_,rfl,i8 Y1.ob G.ak G.cj iI ⟨.inl ⟨rfl,_,SqL.of h1⟩,_,rfl,_,rfl,l3,λt ht=>?_⟩⟩;have e2:=ag (o:=.tup [V.str "asked",V.int nm,V.int wt]) ht;have v2:upd H1 t (.tup [V.str "asked",V.int nm,V.int wt]) t=dk (.tup [V.str "asked",V.int nm,V.int wt]):=a8;generalize upd H1 t (.tup [V.str "asked",V.int nm,V.int wt])=H2 at e2 v2 |-;have Y2:=Y1.same e2;refine⟨y.hp,ts,_,rfl,rfl,e2 _ _ h1,Kg (show _ < 100000 by rw[tl];show S.hs.length < _;omega) (by decide),?_⟩;have Y3:=Y2.setHp (e2 _ _ h1) (x:=mV "asked" (.int nm) (.int wt)) (v:=.ref t) ⟨t,_,rfl,v2,_,_,rfl,rfl,_,_,rfl,rfl,_,_,rfl,rfl,rfl⟩ rfl;refine⟨_,rfl,i8 Y3.ob G.ak G.dS oE ⟨y.qu,_,_,_,rfl,rfl,Y3.qu,rfl,?_⟩⟩;have Y4:=Y3.setQu f' f' (ys:=[.bl f',.bl (S.qt j')]) rfl;have hrun:(Dd.ask wt).run q S=(.int nm,{ S with rs:=aC S.rs f' (S.rs f'++kQ q.p S.m (S.rs f') f' .asked nm wt),un:=S.un++[nm],qt:=aC S.qt f' f',hs:=S.hs++[mV "asked" (.int nm) (.int wt)] }):=by
     show (match bO q.n S.un with|some nm=>_|none=>_)=_;rw[hle]
    rw[hrun]at k;refine⟨_,rfl,k (.int nm) _ Y4 ⟨Rd.i.und.snoc (mU hle) (rP hle),Rd.i.tkd,jV rl f' (by rw[JX,xp];have:=rl f';omega),by show (S.hs++[_]).length <= _;rw[JX];show _+1 <= _;omega⟩ rfl ?_⟩;exact tQ (KO.of_kp kp1 λc hc=>.inr (.inl (qW c hc))) (tQ (KO.of_same e2) (tQ (qq (.inr (.inr (.inr (.inr rfl))))) (qq (.inr (.inr (.inr (.inl rfl)))))))
def BL (G:Gs K mg a d):FnOk P w K mg base CX0 9 a.bP d.bP ["self","name","worth"] (Cy w a):=by
 have Qm:FnOk P w K mg base (CXv P w) 8 _ _ _ _:=(zA G).imp λvs H Q E=>Eu
 refine G.nZ.ok mZ (λvs H Q E h=>?_) (λcdv A' outer s' H vs Q E hr h=>?_)
 . obtain⟨y,q,S,L,nm,wt,rfl,_⟩:=h;rfl
 . obtain⟨y,q,S,L,nm,wt,rfl,Rd,h0,hc,k⟩:=h;have Y:=Rd.y;have ll:=Rd.l;have rl:=Rd.i.len;have hsl:=Rd.i.hl;refine⟨_,((@aK _ _ _ _ (az (al (pv 0) rfl) G.bH G.oU Qm (hr.mono (by decide)) G.qk .nil DJ ((pv 1)∣((pv 2)∣aa))) (by rfl))∪((@aK _ _ _ _ (@lV _ _ _ _ _ _ _ _ _ _ _ _ KG K9 PySem.F.type_list_append dX (al (pv 0) rfl) ((@bj _ _ _ _ _ (au∣((pv 1)∣((pv 2)∣aa))))∣aa) (by rfl) (by rfl) (by rfl) (by rfl) (by rfl)) (by rfl))∪(@ar _ _ _ (@gE _ _ _ _ _ _ bF (jd (al (pv 0) rfl) ai d8) (by rfl) (by rfl) (by rfl))))),?_⟩;refine⟨_,rfl,i8 Y.ob G.ak G.cV lF (dM Y.x.tn.ob yK ⟨_,rfl,_,rfl,y.zt,y.sa,q.p,S.tk,S.m,S.rs,nm,wt,rfl,Y.x.tn,Y.x.st,Rd.ok.ok,by have:=rl j';omega,λx hx=>Rd.i.tkd.2 x hx,?_⟩)⟩;rw[Qr h0,Qr hc];intro H1 tn1 st1 kp1;have Y1:=Y.parts (Y.x.heart tn1 st1 kp1) kp1 r6;obtain⟨ts,h1,h2⟩:=Y1.hp;have tl:=ic h2;refine⟨_,rfl,i8 Y1.ob G.ak G.cj iI ⟨.inl ⟨rfl,_,SqL.of h1⟩,_,rfl,_,rfl,l3,λt ht=>?_⟩⟩;have e2:=ag (o:=.tup [V.str "answered",V.int nm,V.int wt]) ht;have v2:upd H1 t (.tup [V.str "answered",V.int nm,V.int wt]) t=dk (.tup [V.str "answered",V.int nm,V.int wt]):=a8;generalize upd H1 t (.tup [V.str "answered",V.int nm,V.int wt])=H2 at e2 v2 |-;have Y2:=Y1.same e2;refine⟨y.hp,ts,_,rfl,rfl,e2 _ _ h1,Kg (show _ < 100000 by rw[tl];show S.hs.length < _;omega) (by decide),?_⟩;have Y3:=Y2.setHp (e2 _ _ h1) (x:=mV "answered" (.int nm) (.int wt)) (v:=.ref t) ⟨t,_,rfl,v2,_,_,rfl,rfl,_,_,rfl,rfl,_,_,rfl,rfl,rfl⟩ rfl;refine⟨_,rfl,i8 Y3.ob G.ak G.dS oE ⟨y.qu,_,_,_,rfl,rfl,Y3.qu,rfl,?_⟩⟩;have Y4:=Y3.setQu j' f' (ys:=[.bl (S.qt f'),.bl f']) rfl;refine k .non _ Y4 ⟨Rd.i.und,Rd.i.tkd.filter,jV rl j' (by rw[JX,xp];have:=rl j';omega),by show (S.hs++[_]).length <= _;rw[JX];show _+1 <= _;omega⟩ rfl ?_;exact tQ (KO.of_kp kp1 λc hc=>.inr (.inl (r6 c hc))) (tQ (KO.of_same e2) (tQ (qq (.inr (.inr (.inr (.inr rfl))))) (qq (.inr (.inr (.inr (.inl rfl)))))))
def Dz (w:Kk) (ad:Ad):Sp:=λvs H Q _=>∃ (a:YA) (q:YP) (S:YS) (wd:Str) (tv:V),vs=[.ref a.y,.str wd,tv]/\Yn w ad.bf ad.dI ad.b8 ad.cg ad.aM H a q S/\S.hs.length < 99000 /\
 ((tv=.non/\Q .non H)\/∃ (t:D') (v1 v2:V) (d1 d2:Ka),tv=.ref t/\H t=dk (.tup [v1,v2])/\DV H d1 v1/\DV H d2 v2/\scD d1=j'/\scD d2=j'/\∀ H',Yn w ad.bf ad.dI ad.b8 ad.cg ad.aM H' a q { S with hs:=S.hs++[mV wd d1 d2] }->KO a.own H H'->H' t=dk (.tup [v1,v2])->Q (.ref t) H')
def DN (G:Gs K mg a d):FnOk P w K mg base CX0 1 a.bh d.bh ["self","word","told"] (Dz w a):=by
 refine G.kX.ok kC (λvs H Q E h=>?_) (λcdv A' outer s' H vs Q E hr h=>?_)
 . obtain⟨y,q,S,wd,tv,rfl,_⟩:=h;rfl
 . obtain⟨y,q,S,wd,tv,rfl,Y,hsl,k⟩:=h;refine⟨_,(@nB _ _ _ _ _ (aO (ao oR (pv 2) ib (ax _)) (@ar _ _ _ (@aK _ _ _ _ (@lV _ _ _ _ _ _ _ _ _ _ _ _ KG K9 PySem.F.type_list_append dX (al (pv 0) rfl) ((@bj _ _ _ _ _ ((pv 1)∣((@aI _ _ _ _ _ _ _ aH (pv 2) ai (λ_ _=>rfl))∣((@aI _ _ _ _ _ _ _ aH (pv 2) ai (λ_ _=>rfl))∣aa))))∣aa) (by rfl) (by rfl) (by rfl) (by rfl) (by rfl)) (by rfl))) aq)
    ((pv 2)⁻¹)),?_⟩
   rcases k with⟨rfl,k⟩|⟨t,v1,v2,d1,d2,rfl,ht,dv1,dv2,s1,s2,k⟩
   . refine⟨λσ' H'=>H'=H/\σ'=[dk (.ref y.y),dk (.str wd),dk .non],?_,?_⟩
     . exact⟨_,rfl,rfl,_,rfl,iE ⟨rfl,rfl⟩⟩
     . rintro σ' H' ⟨rfl,rfl⟩;exact⟨_,rfl,k⟩
   . refine⟨λσ' H'=>σ'=[dk (.ref y.y),dk (.str wd),dk (.ref t)]/\Yn w a.bf a.dI a.b8 a.cg a.aM H' y q { S with hs:=S.hs++[mV wd d1 d2] }/\KO y.own H H'/\H' t=dk (.tup [v1,v2]),?_,?_⟩
     . refine⟨_,rfl,rfl,_,rfl,jt ?_⟩;obtain⟨ts,h1,h2⟩:=Y.hp;have tl:=ic h2;refine⟨_,rfl,i8 Y.ob G.ak G.cj iI ⟨.inl ⟨rfl,_,SqL.of h1⟩,_,rfl,_,rfl,t,_,_,_,rfl,rfl,SqT.of ht,rfl,_,rfl,t,_,_,_,rfl,rfl,SqT.of ht,rfl,l3,λt2 ht2=>?_⟩⟩;have e2:=ag (o:=.tup [V.str wd,v1,v2]) ht2;have w2:upd H t2 (.tup [V.str wd,v1,v2]) t2=dk (.tup [V.str wd,v1,v2]):=a8;generalize upd H t2 (.tup [V.str wd,v1,v2])=H2 at e2 w2 |-;have Y2:=Y.same e2;refine⟨y.hp,ts,_,rfl,rfl,e2 _ _ h1,Kg (show _ < 100000 by rw[tl];omega) (by decide),rfl,?_,?_,?_⟩
       . exact Y2.setHp (e2 _ _ h1) (x:=mV wd d1 d2) (v:=.ref t2) ⟨t2,_,rfl,w2,_,_,rfl,rfl,_,_,rfl,DV.sc s1 dv1,_,_,rfl,DV.sc s2 dv2,rfl⟩ (by show (j' && (scD d1 && (scD d2 && j')))=j';rw[s1,s2];rfl)
       . exact tQ (KO.of_same e2) (qq (.inr (.inr (.inr (.inr rfl)))))
       . rw[ac (λz=>by rw[z,h1]at ht;cases ht)];exact e2 _ _ ht
     . rintro σ' H' ⟨rfl,Y',ko,ht'⟩;exact⟨_,rfl,k H' Y' ko ht'⟩
theorem MemR.putAllY {H:Hp}:∀ {row:List Wr}{es M:List (Ka × V)}{m:Mem},MemR H M m->Kx (WrR H) row es->MemR H (mH M es) (m.putAllY row)
|_,_,_,_,R,.nil=>R
|_,_,_,_,R,.cons hx t=>by
  have h:=MemR.putAllY (R.put hx) t;exact h
def A7 (w:Kk) (C:D'):Sp:=λvs H Q _=>∃ (sa:SA) (m:Mem) (rs:Bool->List Wr) (b:Bool),vs=[.ref sa.x,.int (sdI b)]/\StT w C H sa m rs/\(rs b).length < 99000 /\
 ∀ H',StT w C H' sa (m.putAllY (rs b)) (aC rs b [])->Kp [sa.l b,sa.hd] H H'->Q .non H'
def D4 {w:Kk}{C:D'}{vs:List V}{H:Hp}{Q:VK}{E:XK}(h:A7 w C vs H Q E):wL w C vs H Q E:=by
 obtain⟨sa,m,rs,b,rfl,⟨M,r,S,R,P⟩,hl,k⟩:=h;have hl':=aL (P b);have hM:=StT.small S R;refine⟨sa.x,sa.hd,sa.rl,sa.l,M,r,b,rfl,S,by omega,λH' S' kp=>k H' ?_ kp⟩;have ht:∀ c vs,H c=dk (.tup vs)->H' c=dk (.tup vs):=λc vs e=>kp c _ (λmm=>by
  rcases KA.mp mm with y|y
  . exact S.noT (b:=b) e (JY.mpr y)
  . obtain⟨ee,e'⟩:=S.me.there;rw[JY.mp y,e']at e;cases e) e
 refine⟨_,_,S',(MemR.putAllY R (P b)).keep ht,λc=>?_⟩;by_cases e:c=b
 . subst e;rw[am,am];exact .nil
 . rw[aA e,aA e];exact Paired.mapP (P c) λ_ _ q=>q.keep ht
def Bw (w:Kk) (C:D'):Sp:=λvs H Q _=>∃ (sa:SA) (m:Mem) (rs:Bool->List Wr) (b:Bool) (k:Cn),vs=[.ref sa.x,.int (sdI b),.str k.key]/\StT w C H sa m rs/\Q (.int (rdC m (rs b) k)) H
def Hq {w:Kk}{C:D'}{vs:List V}{H:Hp}{Q:VK}{E:XK}(h:Bw w C vs H Q E):Ar w C vs H Q E:=by
 obtain⟨sa,m,rs,b,k,rfl,⟨M,r,S,R,P⟩,q⟩:=h;refine⟨sa.x,sa.hd,sa.rl,sa.l,M,r,b,.str k.key,.str k.key,rfl,S,kS (yG k),?_⟩;rw[cG R (P b) k];exact q
def jN (b:Bool):Nat:=if b then 1 else 0
def w6 {b:Bool}:ixN 2 (sdI b)=dk (jN b):=by cases b<;>rfl
def uC {f:Bool->Bd}{b:Bool}{x:Bd}:[V.str (f f').key,V.str (f j').key].set (jN b) (.str x.key)=[V.str (aC f b x f').key,V.str (aC f b x j').key]:=by cases b<;>rfl
def Di {f:Bool->Bool}{b x:Bool}:[V.bl (f f'),V.bl (f j')].set (jN b) (.bl x)=[V.bl (aC f b x f'),V.bl (aC f b x j')]:=by cases b<;>rfl
def uf {b:Bool}:atI [V.str "hand sleeps",V.str "heart sleeps"] (sdI b)=dk (.str (bE b).key):=by cases b<;>rfl
def lC (b:Bool):(1:Int) - sdI b=sdI (!b):=by cases b<;>rfl
def zX (w:Kk) (ad:Ad):Sp:=λvs H Q _=>∃ (a:YA) (q:YP) (S:YS) (L:Nat) (b:Bool),vs=[.ref a.y,.int (sdI b)]/\Rdy w ad H a q S L/\Bh w ad a q ((Dd.bell b).run q S).2 L ((Dd.bell b).run q S).1 H Q
def BT (w:Kk) (ad:Ad):Sp:=λvs H Q _=>∃ (a:YA) (q:YP) (S:YS) (L:Nat) (b:Bool),vs=[.ref a.y,.int (sdI b)]/\Rdy w ad H a q S L/\Bh w ad a q ((Dd.lie b).run q S).2 L ((Dd.lie b).run q S).1 H Q
def zf (w:Kk) (ad:Ad):Sp:=λvs H Q _=>∃ (a:YA) (q:YP) (S:YS) (L:Nat) (b:Bool),vs=[.ref a.y,.int (sdI b)]/\Rdy w ad H a q S L/\Bh w ad a q ((Dd.look b).run q S).2 L ((Dd.look b).run q S).1 H Q
def Dp {ad:Ad}{H H':Hp}{y:YA}{q:YP}{S:YS}{b:Bool}(Y:Yn w ad.bf ad.dI ad.b8 ad.cg ad.aM H y q S) (st:StT w ad.aM H' y.sa (S.m.putAllY (S.rs b)) (aC S.rs b [])) (kp:Kp [y.sa.l b,y.sa.hd] H H'):Yn w ad.bf ad.dI ad.b8 ad.cg ad.aM H' y q (S.fence b):=Y.parts (Y.x.store st kp) kp tU
def zD {ad:Ad}{H H':Hp}{y:YA}{q:YP}{S:YS}{b:Bool}{x:Wr}(Y:Yn w ad.bf ad.dI ad.b8 ad.cg ad.aM H y q S) (st:StT w ad.aM H' y.sa S.m (aC S.rs b (S.rs b++[x]))) (kp:Kp [y.sa.l b] H H'):Yn w ad.bf ad.dI ad.b8 ad.cg ad.aM H' y q (S.wr b x):=Y.parts (Y.x.store (b:=b) st (kp.mono λc hc=>by rw[JY.mp hc];exact Km)) kp λc hc=>tU (b:=b) c (by rw[JY.mp hc];exact Km)
def HZ {y:YA}{H H':Hp}{b:Bool}(kp:Kp [y.sa.l b,y.sa.hd] H H'):KO y.own H H':=KO.of_kp kp λc hc=>.inr (.inl (tU c hc))
def Hb {y:YA}{H H':Hp}{b:Bool}(kp:Kp [y.sa.l b] H H'):KO y.own H H':=KO.of_kp kp λc hc=>.inr (.inl (tU (b:=b) c (by rw[JY.mp hc];exact Km)))
def A3 (G:Gs K mg a d):FnOk P w K mg base CX0 8 a.cN d.cN ["self","side"] (zf w a):=by
 have PL:FnOk P w K mg base CX0 7 _ _ _ _:=B7 G;have Pq:FnOk P w K mg base CX0 1 _ _ _ _:=(lI G).imp λvs H Q E=>yM
 refine G.qr.ok pI (λvs H Q E h=>?_) (λcdv A' outer s' H vs Q E hr h=>?_)
 . obtain⟨y,q,S,L,b,rfl,_⟩:=h;rfl
 . obtain⟨y,q,S,L,b,rfl,Rd,k⟩:=h;have Y:=Rd.y;have ll:=Rd.l;have rl:=Rd.i.len;have hu:=dR hr;refine⟨_,((aO ((pH (i9 (cJ (al (pv 0) rfl))) (kF (i9 (cJ (az (pv 0) G.ak G.iT PL (hr.mono (by decide)) G.jl .nil av ((pv 1)∣aa))))))).pt ((@gE _ _ _ _ _ _ au (jd (al (pv 0) rfl) (pv 1) d8) (by rfl) (by rfl) (by rfl))∪(bF⁻¹)) aq)∪((@aK _ _ _ _ (az (al (pv 0) rfl) G.aF G.d6 Pq (hr.mono (by decide)) G.dN .nil av ((pv 1)∣((@aI _ _ _ _ _ _ _ aH (fm (v:=.ref a.aP) (by rfl) G.fA rfl) (pv 1) (λ_ _=>rfl))∣(ai∣aa)))) (by rfl))∪((@gE _ _ _ _ _ _ au (jd (al (pv 0) rfl) (pv 1) d8) (by rfl) (by rfl) (by rfl))∪(bF⁻¹)))),?_⟩;have bad:¬ (q.fk=j'/\swT q S b=j')->Q (.bl f') (upd H y.sl (.lst [.str (aC S.bd b .asleep f').key,.str (aC S.bd b .asleep j').key])):=λhn=>by
    have k2:=k;rw[show (Dd.look b).run q S=_ from Qr hn]at k2;exact k2 (.bl f') _ (Y.setSl b .asleep rfl) ⟨Rd.i.und,Rd.i.tkd,λc=>by have:=rl c;show (S.rs c).length <= _;omega,by have:=Rd.i.hl;show S.hs.length <= _;omega⟩ rfl (qq (.inr (.inr (.inl rfl))))
   refine⟨_,rfl,i8 Y.ob G.ak G.hW Ej ⟨_,rfl,?_⟩⟩;cases hfk:q.fk with
  |false =>
    refine jt ?_;exact⟨_,rfl,i8 Y.ob G.ak G.aZ cC ⟨_,rfl,y.sl,_,_,_,rfl,rfl,Y.sl,w6,by rw[show (V.str "asleep":V)=.str (Bd.key .asleep) from rfl,uC];exact bad (by rw[hfk];exact λz=>by cases z.1)⟩⟩
  |true =>
    refine iE ?_;refine⟨_,rfl,dM Y.ob (dC (by decide +kernel)) ⟨_,rfl,y,q,S,b,rfl,Y,Rd.ok,_,rfl,?_⟩⟩;cases hw:swT q S b with
   |false =>
     refine jt ?_;exact⟨_,rfl,i8 Y.ob G.ak G.aZ cC ⟨_,rfl,y.sl,_,_,_,rfl,rfl,Y.sl,w6,by rw[show (V.str "asleep":V)=.str (Bd.key .asleep) from rfl,uC];exact bad (by rw[hw];exact λz=>by cases z.2)⟩⟩
   |true =>
     refine iE ?_;refine⟨_,rfl,i8 Y.ob G.ak G.aY fE (dM Y.x.st.ob (bU (by decide +kernel) (by decide +kernel)) ⟨_,rfl,_,rfl,a.aP,_,sdI b,.str (bE b).key,rfl,rfl,G.fD _,uf,y.sa,S.m,S.rs,b,.str (bE b).key,.int 0,.c (bE b) 0,rfl,Y.x.st,by have:=rl b;omega,kS (yG _),rfl,trivial,λH1 st1 kp1=>?_⟩)⟩;have Y1:=zD Y st1 kp1;refine⟨_,rfl,i8 Y1.ob G.ak G.aZ cC ⟨_,rfl,y.sl,_,_,_,rfl,rfl,Y1.sl,w6,?_⟩⟩;rw[show (V.str "up":V)=.str (Bd.key .up) from rfl,uC];have Y2:=Y1.setSl b .up rfl;have k2:=k;rw[show (Dd.look b).run q S=_ from Qq ⟨hfk,hw⟩]at k2;exact k2 (.bl j') _ Y2 ⟨Rd.i.und,Rd.i.tkd,jV rl b (by rw[JX];have:=rl b;show _+1 <= _;omega),by have:=Rd.i.hl;show S.hs.length <= _;omega⟩ rfl (tQ (Hb kp1) (qq (.inr (.inr (.inl rfl)))))
def Bl (G:Gs K mg a d):FnOk P w K mg base CX0 8 a.dn d.dn ["self","side"] (BT w a):=by
 have Pq:FnOk P w K mg base CX0 1 _ _ _ _:=(lI G).imp λvs H Q E=>yM
 have Pm:FnOk P w K mg base CX0 2 _ _ _ _:=(wO G).imp λvs H Q E=>D4
 refine G.rS.ok qI (λvs H Q E h=>?_) (λcdv A' outer s' H vs Q E hr h=>?_)
 . obtain⟨y,q,S,L,b,rfl,_⟩:=h;rfl
 . obtain⟨y,q,S,L,b,rfl,Rd,k⟩:=h;have Y:=Rd.y;have ll:=Rd.l;have rl:=Rd.i.len;have hu:=dR hr;refine⟨_,((@aK _ _ _ _ (az (al (pv 0) rfl) G.aF G.d6 Pq (hr.mono (by decide)) G.dN .nil av ((pv 1)∣((@aI _ _ _ _ _ _ _ aH (fm (v:=.ref a.aP) (by rfl) G.fA rfl) (pv 1) (λ_ _=>rfl))∣(ai∣aa)))) (by rfl))∪(@nB _ _ _ _ _ (aO (cJ (al (pv 0) rfl)) (@ar _ _ _ (@aK _ _ _ _ (az (al (pv 0) rfl) G.aF G.kJ Pm (hr.mono (by decide)) G.mr .nil av ((pv 1)∣aa)) (by rfl))) aq)
    (@ar _ _ _ (@gE _ _ _ _ _ _ au (jd (al (pv 0) rfl) (pv 1) d8) (by rfl) (by rfl) (by rfl))))),?_⟩
   refine⟨_,rfl,i8 Y.ob G.ak G.aY fE (dM Y.x.st.ob (bU (by decide +kernel) (by decide +kernel)) ⟨_,rfl,_,rfl,a.aP,_,sdI b,.str (bE b).key,rfl,rfl,G.fD _,uf,y.sa,S.m,S.rs,b,.str (bE b).key,.int 1,.c (bE b) 1,rfl,Y.x.st,by have:=rl b;omega,kS (yG _),rfl,trivial,λH1 st1 kp1=>?_⟩)⟩;have Y1:=zD Y st1 kp1;have rl1:∀ c,((S.wr b (.c (bE b) 1)).rs c).length <= L+2:=jV rl b (by rw[JX];have:=rl b;show _+1 <= _;omega);refine⟨λσ' H'=>σ'=[dk (.ref y.y),dk (.int (sdI b))]/\KO y.own H H'/\∃ S2:YS,S2=(if q.fl then (S.wr b (.c (bE b) 1)).fence b else S.wr b (.c (bE b) 1))/\Yn w a.bf a.dI a.b8 a.cg a.aM H' y q S2,?_,?_⟩
   . refine⟨_,rfl,i8 Y1.ob G.ak G.gy Gw ⟨_,rfl,?_⟩⟩;cases hfl:q.fl with
    |true =>
      refine jt ?_;refine⟨_,rfl,i8 Y1.ob G.ak G.aY fE (dM Y1.x.st.ob (bU (by decide +kernel) (by decide +kernel)) ⟨_,rfl,y.sa,_,_,b,rfl,Y1.x.st,by have:=rl1 b;omega,λH2 st2 kp2=>⟨rfl,tQ (Hb kp1) (HZ kp2),_,rfl,Dp Y1 st2 kp2⟩⟩)⟩
    |false=>exact iE ⟨rfl,Hb kp1,_,rfl,Y1⟩
   . rintro σ' H2 ⟨rfl,ko,S2,hS2,Y2⟩;refine⟨_,rfl,i8 Y2.ob G.ak G.aZ cC ⟨_,rfl,y.sl,_,_,_,rfl,rfl,Y2.sl,w6,?_⟩⟩;rw[show (V.str "lies":V)=.str (Bd.key .lies) from rfl,uC];have Y3:=Y2.setSl b .lies rfl;have k2:Bh w a y q { S2 with bd:=aC S2.bd b .lies } L .none H Q:=by rw[hS2];exact k
     have hun:S2.un=S.un/\S2.tk=S.tk/\S2.hs=S.hs/\∀ c,(S2.rs c).length <= L+2:=by
      rw[hS2];cases q.fl with
     |true =>
       refine⟨rfl,rfl,rfl,λc=>?_⟩;show (aC _ b [] c).length <= _;by_cases e:c=b
       . subst e;rw[am];exact LJ _
       . rw[aA e];exact rl1 c
     |false=>exact⟨rfl,rfl,rfl,rl1⟩
     exact k2 .non _ Y3 ⟨by show Nms _ S2.un;rw[hun.1];exact Rd.i.und,by show Nms _ S2.tk;rw[hun.2.1];exact Rd.i.tkd,hun.2.2.2,by have:=Rd.i.hl;show S2.hs.length <= _;rw[hun.2.2.1];omega⟩ rfl (tQ ko (qq (.inr (.inr (.inl rfl)))))
def AG (G:Gs K mg a d):FnOk P w K mg base CX0 8 a.cD d.cD ["self","side"] (zX w a):=by
 have Pq:FnOk P w K mg base CX0 1 _ _ _ _:=(lI G).imp λvs H Q E=>yM
 have Pm:FnOk P w K mg base CX0 2 _ _ _ _:=(wO G).imp λvs H Q E=>D4
 have Po:FnOk P w K mg base CX0 2 _ _ _ _:=(tI G).imp λvs H Q E=>Hq
 refine G.qA.ok jW (λvs H Q E h=>?_) (λcdv A' outer s' H vs Q E hr h=>?_)
 . obtain⟨y,q,S,L,b,rfl,_⟩:=h;rfl
 . obtain⟨y,q,S,L,b,rfl,Rd,k⟩:=h;have Y:=Rd.y;have ll:=Rd.l;have rl:=Rd.i.len;have hu:=dR hr;refine⟨_,((@bi _ _ 2 _ _ _ _ jW.nd rfl (KU rfl) (@cy _ _ _ _ _ _ _ _ my ai (pv 1)) (by rfl) (by first|exact .inl rfl|exact .inr rfl|assumption))∪(@nB _ _ _ _ _ (aO (cJ (al (pv 0) rfl)) (@ar _ _ _ (@aK _ _ _ _ (az (al (pv 0) rfl) G.aF G.kJ Pm (hr.mono (by decide)) G.mr .nil av ((pv 1)∣aa)) (by rfl))) aq)
    ((@gE _ _ _ _ _ _ bF (jd (al (pv 0) rfl) (pv 1) d8) (by rfl) (by rfl) (by rfl))∪((aO (ao (AH hr.units) (az (al (pv 0) rfl) G.aF G.cQ Po (hr.mono (by decide)) G.dL .nil av ((pv 1)∣((@aI _ _ _ _ _ _ _ aH (fm (v:=.ref a.aP) (by rfl) G.fA rfl) (pv 2) (λ_ _=>rfl))∣aa))) ai (ax _)) (bF⁻¹) aq)∪(@nB _ _ _ _ _ (aO (ao bW (@aI _ _ _ _ _ _ _ ba (al (pv 0) rfl) (pv 2) (λ_ _=>rfl)) au (ax _)) ((@gE _ _ _ _ _ _ au (jd (al (pv 0) rfl) (pv 2) d8) (by rfl) (by rfl) (by rfl))∪(@ar _ _ _ (@aK _ _ _ _ (az (al (pv 0) rfl) G.aF G.d6 Pq (hr.mono (by decide)) G.dN .nil av ((pv 2)∣((@aI _ _ _ _ _ _ _ aH (fm (v:=.ref a.aP) (by rfl) G.fA rfl) (pv 2) (λ_ _=>rfl))∣(ai∣aa)))) (by rfl)))) aq)
    (bF⁻¹)))))),?_⟩
   refine⟨_,rfl,_,_,rfl,rfl,?_⟩;refine⟨λσ' H'=>σ'=[dk (.ref y.y),dk (.int (sdI b)),dk (.int (sdI (!b)))]/\KO y.own H H'/\∃ S1:YS,S1=(if q.fb then S.fence b else S)/\Yn w a.bf a.dI a.b8 a.cg a.aM H' y q S1,?_,?_⟩
   . refine⟨_,rfl,i8 Y.ob G.ak G.gk Ey ⟨_,rfl,?_⟩⟩;cases hfb:q.fb with
    |true =>
      refine jt ?_;refine⟨_,rfl,i8 Y.ob G.ak G.aY fE (dM Y.x.st.ob (bU (by decide +kernel) (by decide +kernel)) ⟨_,rfl,y.sa,_,_,b,rfl,Y.x.st,by have:=rl b;omega,λH2 st2 kp2=>⟨by rw[<-lC];rfl,HZ kp2,_,rfl,Dp Y st2 kp2⟩⟩)⟩
    |false=>exact iE ⟨by rw[<-lC];rfl,KO.refl _ _,_,rfl,Y⟩
   . rintro σ' H1 ⟨rfl,ko1,S1,hS1,Y1⟩;refine⟨_,rfl,i8 Y1.ob G.ak G.dS oE ⟨_,rfl,y.qu,_,_,jN b,rfl,rfl,Y1.qu,w6,?_⟩⟩;rw[Di];have Y2:=Y1.setQu b j' rfl;have ko2:KO y.own H (upd H1 y.qu (.lst [V.bl (aC S1.qt b j' f'),V.bl (aC S1.qt b j' j')])):=tQ ko1 (qq (.inr (.inr (.inr (.inl rfl)))));generalize upd H1 y.qu (.lst [V.bl (aC S1.qt b j' f'),V.bl (aC S1.qt b j' j')])=H2 at Y2 ko2 |-;obtain⟨S2,hS2⟩:∃ S2:YS,S2={ S1 with qt:=aC S1.qt b j' }:=⟨_,rfl⟩
     rw[<-hS2]at Y2;have fS:S2.un=S.un/\S2.tk=S.tk/\S2.hs=S.hs/\(∀ c,(S2.rs c).length <= L):=by
      rw[hS2,hS1];cases q.fb with
     |true =>
       refine⟨rfl,rfl,rfl,λc=>?_⟩;show (aC S.rs b [] c).length <= _;by_cases e:c=b
       . subst e;rw[am];exact LJ _
       . rw[aA e];exact rl c
     |false=>exact⟨rfl,rfl,rfl,rl⟩
     have yi:YI q S2 (L+2):=⟨by rw[fS.1];exact Rd.i.und,by rw[fS.2.1];exact Rd.i.tkd,λc=>by have:=fS.2.2.2 c;omega,by rw[fS.2.2.1];have:=Rd.i.hl;omega⟩
     have hrun:(Dd.bell b).run q S=(if rdC S2.m (S2.rs b) (bE (!b))≠1 then (.bool f',S2) else if S2.bd (!b)=.asleep then (.bool j',({ S2 with bd:=aC S2.bd (!b) .up }:YS).wr (!b) (.c (bE (!b)) 0)) else (.bool j',S2)):=by rw[hS2,hS1];rfl
     rw[hrun]at k;clear hrun hS2 hS1 Y1 ko1;refine⟨_,rfl,i8 Y2.ob G.ak G.aY fE (dM Y2.x.st.ob (bU (by decide +kernel) (by decide +kernel)) ⟨_,rfl,_,rfl,a.aP,_,sdI (!b),.str (bE (!b)).key,rfl,rfl,G.fD _,uf,y.sa,_,_,b,bE (!b),rfl,Y2.x.st,?_⟩)⟩;refine⟨.int (rdC S2.m (S2.rs b) (bE (!b))),.int 1,rfl,rfl,sF.int _,sF.int _,_,rfl,?_⟩;simp only[if_true];by_cases h1:rdC S2.m (S2.rs b) (bE (!b))=1
     . rw[Qr (by rw[h1];exact λz=>z rfl)]at k;refine d0 ?_ ?_
       . rw[h1];decide +kernel
       refine⟨λσ' H'=>σ'=[dk (.ref y.y),dk (.int (sdI b)),dk (.int (sdI (!b)))]/\Q (.bl j') H',?_,?_⟩
       . refine⟨_,rfl,i8 Y2.ob G.ak G.aZ cC ⟨_,rfl,y.sl,_,_,_,rfl,rfl,SqL.of Y2.sl,DX (!b),rfl,_,rfl,?_⟩⟩;by_cases h2:S2.bd (!b)=.asleep
         . rw[Qq h2]at k;refine jj (Qt (by rw[h2];rfl)) ?_;refine⟨_,rfl,i8 Y2.ob G.ak G.aZ cC ⟨_,rfl,y.sl,_,_,jN (!b),rfl,rfl,Y2.sl,w6,?_⟩⟩;rw[show (V.str "up":V)=.str (Bd.key .up) from rfl,uC];have Y3:=Y2.setSl (!b) .up rfl;have ko3:KO y.own H (upd H2 y.sl (.lst [V.str (aC S2.bd (!b) .up f').key,V.str (aC S2.bd (!b) .up j').key])):=tQ ko2 (qq (.inr (.inr (.inl rfl))));generalize upd H2 y.sl (.lst [V.str (aC S2.bd (!b) .up f').key,V.str (aC S2.bd (!b) .up j').key])=H3 at Y3 ko3 |-;refine⟨_,rfl,i8 Y3.ob G.ak G.aY fE (dM Y3.x.st.ob (bU (by decide +kernel) (by decide +kernel)) ⟨_,rfl,_,rfl,a.aP,_,sdI (!b),.str (bE (!b)).key,rfl,rfl,G.fD _,uf,y.sa,_,_,!b,.str (bE (!b)).key,.int 0,.c (bE (!b)) 0,rfl,Y3.x.st,by have:=fS.2.2.2 (!b);show (S2.rs (!b)).length < _;omega,kS (yG _),rfl,trivial,λH4 st4 kp4=>⟨rfl,?_⟩⟩)⟩;have Y4:=zD Y3 st4 kp4;exact k (.bl j') H4 Y4 ⟨yi.und,yi.tkd,jV fS.2.2.2 (!b) (by show (S2.rs (!b)++[_]).length <= _;rw[JX];have:=fS.2.2.2 (!b);show _+1 <= _;omega),yi.hl⟩ rfl (tQ ko3 (Hb kp4))
         . rw[Qr h2]at k;refine d0 (by rw[Qs];exact zw h2) ⟨rfl,?_⟩;exact k (.bl j') H2 Y2 yi rfl ko2
       . rintro σ' H' ⟨rfl,k'⟩;exact k'
     . rw[Qq h1]at k;refine jj ?_ (k (.bl f') H2 Y2 yi rfl ko2);rw[Mf];cases z:Kn (.int (rdC S2.m (S2.rs b) (bE (!b)))) (.int 1) with
      |false=>rfl
      |true=>exact absurd (by have:=(MX.eqv_iff _ _ rfl rfl).mp z;injection this) h1
def DW {q:YP}{S:YS}{wt:Int}(h:(Dd.ask wt).chk q S=JZ):aB q.p S.m (S.rs f') .asked .taken≠q.p.s/\bO q.n S.un≠JZ:=by
 have h':(if S.bd f'=.up then (if aB q.p S.m (S.rs f') .asked .taken=q.p.s then dk Rf.full else match bO q.n S.un with|none=>dk Rf.name|some _=>JZ) else dk Rf.deed)=JZ:=h;split at h'
 . split at h'
   . cases h'
   . rename_i z;refine⟨z,λy=>?_⟩;rw[y]at h';cases h'
 . cases h'
def EK {q:YP}{S:YS}{nm wt:Int}(h:(Dd.answer nm wt).chk q S=JZ):S.tk.contains nm≠f'/\aB q.p S.m (S.rs j') .answered .handed≠q.p.s:=by
 have h':(if S.bd j'=.up then (if S.tk.contains nm=f' then dk Rf.task else if aB q.p S.m (S.rs j') .answered .handed=q.p.s then dk Rf.full else JZ) else dk Rf.deed)=JZ:=h;split at h'
 . split at h'
   . cases h'
   . split at h'
     . cases h'
     . rename_i z1 z2;exact⟨z1,z2⟩
 . cases h'
def yX {q:YP}{S:YS}{b:Bool}(h:(Dd.drain b).chk q S=JZ):∃ x rest,S.rs b=x :: rest:=by
 cases e:S.rs b with
|cons x rest=>exact⟨x,rest,rfl⟩
|nil =>
  have h':(if S.rs b=[] then dk Rf.deed else JZ)=JZ:=h;rw[e]at h';cases h'
def EM (w:Kk) (ad:Ad):Sp:=λvs H Q E=>∃ (a:YA) (q:YP) (S:YS) (L:Nat) (x:Dd) (t:D'),vs=[.ref a.y,.ref t]/\Rdy w ad H a q S L/\H t=dk (.tup x.vs)/\x.Ok /\
 match x.chk q S with
|none=>Bh w ad a q (x.run q S).2 L (x.run q S).1 H Q
|some r=>∀ H',bL H H'->E (.ref (rfC ad r)) JZ H'
def ET (G:Gs K mg a d):FnOk P w K mg base (CXv P w) 10 a.fT d.fT ["self","some"] (EM w a):=by
 have Qo:FnOk P w K mg base (CXv P w) 8 _ _ _ _:=tY G;have Px:FnOk P w K mg base CX0 9 _ _ _ _:=Bq G;have Pw:FnOk P w K mg base CX0 9 _ _ _ _:=BL G;have Py:FnOk P w K mg base CX0 8 _ _ _ _:=AG G;have Pz:FnOk P w K mg base CX0 8 _ _ _ _:=Bl G;have PB:FnOk P w K mg base CX0 8 _ _ _ _:=A3 G;have PQ:FnOk P w K mg base CX0 1 _ _ _ _:=DN G;have O1:FnOk P w K mg base CX0 7 _ _ _ _:=(y7 G).imp λvs H Q E=>Br
 have O6:FnOk P w K mg base CX0 7 _ _ _ _:=(Bg G).imp λvs H Q E=>HN
 have Pl:FnOk P w K mg base CX0 1 _ _ _ _:=(wV G).imp λvs H Q E=>drainT
 refine G.wf.okX (k:=9) nO (λvs H Q E h=>?_) (λcdv A' outer s' H vs Q E hr hR h=>?_)
 . obtain⟨y,q,S,L,x,t,rfl,_⟩:=h;rfl
 . obtain⟨y,q,S,L,x,t,rfl,Rd,ht,hx,k⟩:=h;have hu:=dR hr;refine⟨_,((@aK _ _ _ _ (az (pv 0) G.ak G.mC Qo (hr.mono (by decide)) G.nX .nil hR.passes ((pv 1)∣aa)) (by rfl))∪((@bi _ _ 2 _ _ _ _ nO.nd rfl (KU rfl) (@aI _ _ _ _ _ _ _ aH (pv 1) ai (λ_ _=>rfl)) (by rfl) (by first|exact .inl rfl|exact .inr rfl|assumption))∪((aO (ao bW (pv 2) au (ax _)) ((az (pv 0) G.ak G.qG Px (hr.mono (by decide)) G.tf .nil av ((@aI _ _ _ _ _ _ _ aH (pv 1) ai (λ_ _=>rfl))∣aa))⁻¹) aq)∪((aO (ao bW (pv 2) au (ax _)) ((az (pv 0) G.ak G.fu PQ (hr.mono (by decide)) G.fM .nil av (au∣((aN (al (pv 0) rfl) G.c6 G.pe O1 (hr.mono (by decide)) G.qm .nil av)∣aa)))⁻¹) aq)∪((aO (ao bW (pv 2) au (ax _)) ((az (pv 0) G.ak G.fu PQ (hr.mono (by decide)) G.fM .nil av (au∣((aN (al (pv 0) rfl) G.bH G.sJ O6 (hr.mono (by decide)) G.u7 .nil av)∣aa)))⁻¹) aq)∪((aO (ao bW (pv 2) au (ax _)) ((az (pv 0) G.ak G.nz Pw (hr.mono (by decide)) G.om .nil av ((@aI _ _ _ _ _ _ _ aH (pv 1) ai (λ_ _=>rfl))∣((@aI _ _ _ _ _ _ _ aH (pv 1) ai (λ_ _=>rfl))∣aa)))⁻¹) aq)∪((aO (ao bW (pv 2) au (ax _)) ((az (pv 0) G.ak G.pK Py (hr.mono (by decide)) G.qg .nil av ((@aI _ _ _ _ _ _ _ aH (pv 1) ai (λ_ _=>rfl))∣aa))⁻¹) aq)∪((aO (ao bW (pv 2) au (ax _)) ((az (pv 0) G.ak G.qK Pz (hr.mono (by decide)) G.tH .nil av ((@aI _ _ _ _ _ _ _ aH (pv 1) ai (λ_ _=>rfl))∣aa))⁻¹) aq)∪((aO (ao bW (pv 2) au (ax _)) ((az (pv 0) G.ak G.pC PB (hr.mono (by decide)) G.qa .nil av ((@aI _ _ _ _ _ _ _ aH (pv 1) ai (λ_ _=>rfl))∣aa))⁻¹) aq)∪((az (al (pv 0) rfl) G.aF G.kM Pl (hr.mono (by decide)) G.lG .nil av ((@aI _ _ _ _ _ _ _ aH (pv 1) ai (λ_ _=>rfl))∣aa))⁻¹)))))))))),?_⟩;refine⟨_,rfl,dM Rd.y.ob (dC (by decide +kernel)) ⟨_,rfl,y,q,S,x,t,rfl,Rd.y,Rd.ok,ht,hx,λH1 e1=>?_⟩⟩;cases hc:x.chk q S with
  |some r =>
    rw[hc]at k;exact k H1 e1
  |none =>
    rw[hc]at k;have Rd1:Rdy w a H1 y q S L:=⟨Rd.y.same e1,Rd.ok,Rd.i,Rd.l⟩
    have k1:Bh w a y q (x.run q S).2 L (x.run q S).1 H1 Q:=λv H' Y' i' dv ko=>k v H' Y' i' dv (tQ (KO.of_same e1) ko)
    have ht1:=e1 _ _ ht;clear k ht Rd e1;refine⟨_,rfl,t,_,_,_,rfl,rfl,SqT.of ht1,by rw[x.vs_eq];exact bS,?_⟩;cases x with
   |ask wt =>
     refine⟨_,rfl,rfl,_,rfl,jj (Qt rfl) ?_⟩;obtain⟨c1,c2⟩:=DW hc;exact⟨_,rfl,dM Rd1.y.ob (dC (by decide +kernel)) ⟨_,rfl,t,_,_,_,rfl,rfl,SqT.of ht1,rfl,y,q,S,L,wt,rfl,Rd1,c1,c2,k1⟩⟩
   |collect =>
     refine⟨_,rfl,rfl,_,rfl,d0 (by rw[Qs];exact sne (show ¬ (("collect":Str)="ask") by decide +kernel)) ?_⟩;refine⟨_,rfl,rfl,_,rfl,jj (Qt rfl) ?_⟩;refine⟨_,rfl,dM Rd1.y.ob (dC (by decide +kernel)) ⟨_,rfl,i8 Rd1.y.ob G.ak G.f8 sw (dM Rd1.y.x.hn.ob yo ⟨y.z,y.sa,q.p,_,S.un,S.m,S.rs,rfl,Rd1.y.x.hn,Rd1.y.x.st,Rd1.ok.ok,by have:=Rd1.i.len f';have:=Rd1.l;omega,?_⟩)⟩⟩;have rl:=Rd1.i.len;have hsl:=Rd1.i.hl;have ll:=Rd1.l;unfold Dd.run at k1;by_cases h0:aB q.p S.m (S.rs f') .answered .handed=0
     . rw[Qq h0]at k1 |-;exact⟨y,q,S,"handed",.non,rfl,Rd1.y,by omega,.inl ⟨rfl,k1 .non H1 Rd1.y (Rd1.i.mono (by omega)) rfl (KO.refl _ _)⟩⟩
     . rw[Qr h0]at k1 |-;have rl2:∀ c,(aC S.rs f' (S.rs f'++[cR q.p S.m (S.rs f') .handed]) c).length <= L+2:=jV rl f' (by rw[JX];have:=rl f';show _+1 <= _;omega);cases hrd:rdP S.m (S.rs f') j' (rdC S.m (S.rs f') .handed % q.p.s) with
      |none =>
        rw[hrd]at k1;intro c H2 hc2 hn2 st2 kp2;have Y2:=Rd1.y.parts (Rd1.y.x.hand hn2 st2 kp2) kp2 qW;refine⟨y,q,_,"handed",.ref c,rfl,Y2,by show S.hs.length < _;omega,.inr ⟨c,.non,.non,.none,.none,rfl,hc2,rfl,rfl,rfl,rfl,λH3 Y3 ko3 hc3=>k1 (.ref c) H3 Y3 ⟨Rd1.i.und,Rd1.i.tkd,rl2,?_⟩ ⟨c,_,rfl,hc3,_,_,rfl,rfl,_,_,rfl,rfl,rfl⟩ (tQ (KO.of_kp kp2 λc hc=>.inr (.inl (qW c hc))) ko3)⟩⟩;show (S.hs++[_]).length <= _;rw[JX];show _+1 <= _;omega
      |some nw =>
        rw[hrd]at k1;intro c H2 hc2 hn2 st2 kp2;have Y2:=Rd1.y.parts (Rd1.y.x.hand hn2 st2 kp2) kp2 qW;refine⟨y,q,_,"handed",.ref c,rfl,Y2,by show S.hs.length < _;omega,.inr ⟨c,.int nw.1,.int nw.2,.int nw.1,.int nw.2,rfl,hc2,rfl,rfl,rfl,rfl,λH3 Y3 ko3 hc3=>k1 (.ref c) H3 Y3 ⟨Rd1.i.und.filter,Rd1.i.tkd,rl2,?_⟩ (DV2 hc3) (tQ (KO.of_kp kp2 λc hc=>.inr (.inl (qW c hc))) ko3)⟩⟩;show (S.hs++[_]).length <= _;rw[JX];show _+1 <= _;omega
   |take =>
     refine⟨_,rfl,rfl,_,rfl,d0 (by rw[Qs];exact sne (show ¬ (("take":Str)="ask") by decide +kernel)) ?_⟩;refine⟨_,rfl,rfl,_,rfl,d0 (by rw[Qs];exact sne (show ¬ (("take":Str)="collect") by decide +kernel)) ?_⟩;refine⟨_,rfl,rfl,_,rfl,jj (Qt rfl) ?_⟩;refine⟨_,rfl,dM Rd1.y.ob (dC (by decide +kernel)) ⟨_,rfl,i8 Rd1.y.ob G.ak G.cV lF (dM Rd1.y.x.tn.ob Fe ⟨y.zt,y.sa,q.p,S.tk,S.m,S.rs,rfl,Rd1.y.x.tn,Rd1.y.x.st,Rd1.ok.ok,by have:=Rd1.i.tkd.len (by omega);omega,by have:=Rd1.i.len j';have:=Rd1.l;omega,?_⟩)⟩⟩;have rl:=Rd1.i.len;have hsl:=Rd1.i.hl;have ll:=Rd1.l;unfold Dd.run at k1;by_cases h0:aB q.p S.m (S.rs j') .asked .taken=0
     . rw[Qq h0]at k1 |-;exact⟨y,q,S,"taken",.non,rfl,Rd1.y,by omega,.inl ⟨rfl,k1 .non H1 Rd1.y (Rd1.i.mono (by omega)) rfl (KO.refl _ _)⟩⟩
     . rw[Qr h0]at k1 |-;have rl2:∀ c,(aC S.rs j' (S.rs j'++[cR q.p S.m (S.rs j') .taken]) c).length <= L+2:=jV rl j' (by rw[JX];have:=rl j';show _+1 <= _;omega);cases hrd:rdP S.m (S.rs j') f' (rdC S.m (S.rs j') .taken % q.p.s) with
      |none =>
        rw[hrd]at k1;intro c H2 hc2 tn2 st2 kp2;have Y2:=Rd1.y.parts (Rd1.y.x.heart tn2 st2 kp2) kp2 r6;refine⟨y,q,_,"taken",.ref c,rfl,Y2,by show S.hs.length < _;omega,.inr ⟨c,.non,.non,.none,.none,rfl,hc2,rfl,rfl,rfl,rfl,λH3 Y3 ko3 hc3=>k1 (.ref c) H3 Y3 ⟨Rd1.i.und,Rd1.i.tkd,rl2,?_⟩ ⟨c,_,rfl,hc3,_,_,rfl,rfl,_,_,rfl,rfl,rfl⟩ (tQ (KO.of_kp kp2 λc hc=>.inr (.inl (r6 c hc))) ko3)⟩⟩;show (S.hs++[_]).length <= _;rw[JX];show _+1 <= _;omega
      |some nw =>
        rw[hrd]at k1;intro c H2 hc2 tn2 st2 kp2;have Y2:=Rd1.y.parts (Rd1.y.x.heart tn2 st2 kp2) kp2 r6;have nok:0 <= nw.1/\nw.1 < 9:=Rd1.y.x.st.names hrd;refine⟨y,q,_,"taken",.ref c,rfl,Y2,by show S.hs.length < _;omega,.inr ⟨c,.int nw.1,.int nw.2,.int nw.1,.int nw.2,rfl,hc2,rfl,rfl,rfl,rfl,λH3 Y3 ko3 hc3=>k1 (.ref c) H3 Y3 ⟨Rd1.i.und,Rd1.i.tkd.next nok,rl2,?_⟩ (DV2 hc3) (tQ (KO.of_kp kp2 λc hc=>.inr (.inl (r6 c hc))) ko3)⟩⟩;show (S.hs++[_]).length <= _;rw[JX];show _+1 <= _;omega
   |answer nm wt =>
     refine⟨_,rfl,rfl,_,rfl,d0 (by rw[Qs];exact sne (show ¬ (("answer":Str)="ask") by decide +kernel)) ?_⟩;refine⟨_,rfl,rfl,_,rfl,d0 (by rw[Qs];exact sne (show ¬ (("answer":Str)="collect") by decide +kernel)) ?_⟩;refine⟨_,rfl,rfl,_,rfl,d0 (by rw[Qs];exact sne (show ¬ (("answer":Str)="take") by decide +kernel)) ?_⟩;refine⟨_,rfl,rfl,_,rfl,jj (Qt rfl) ?_⟩;obtain⟨c1,c2⟩:=EK hc;exact⟨_,rfl,dM Rd1.y.ob (dC (by decide +kernel)) ⟨_,rfl,t,_,_,_,rfl,rfl,SqT.of ht1,rfl,_,rfl,t,_,_,_,rfl,rfl,SqT.of ht1,rfl,y,q,S,L,nm,wt,rfl,Rd1,c1,c2,k1⟩⟩
   |bell b =>
     refine⟨_,rfl,rfl,_,rfl,d0 (by rw[Qs];exact sne (show ¬ (("bell":Str)="ask") by decide +kernel)) ?_⟩;refine⟨_,rfl,rfl,_,rfl,d0 (by rw[Qs];exact sne (show ¬ (("bell":Str)="collect") by decide +kernel)) ?_⟩;refine⟨_,rfl,rfl,_,rfl,d0 (by rw[Qs];exact sne (show ¬ (("bell":Str)="take") by decide +kernel)) ?_⟩;refine⟨_,rfl,rfl,_,rfl,d0 (by rw[Qs];exact sne (show ¬ (("bell":Str)="answer") by decide +kernel)) ?_⟩;refine⟨_,rfl,rfl,_,rfl,jj (Qt rfl) ?_⟩;exact⟨_,rfl,dM Rd1.y.ob (dC (by decide +kernel)) ⟨_,rfl,t,_,_,_,rfl,rfl,SqT.of ht1,rfl,y,q,S,L,b,rfl,Rd1,k1⟩⟩
   |lie b =>
     refine⟨_,rfl,rfl,_,rfl,d0 (by rw[Qs];exact sne (show ¬ (("lie":Str)="ask") by decide +kernel)) ?_⟩;refine⟨_,rfl,rfl,_,rfl,d0 (by rw[Qs];exact sne (show ¬ (("lie":Str)="collect") by decide +kernel)) ?_⟩;refine⟨_,rfl,rfl,_,rfl,d0 (by rw[Qs];exact sne (show ¬ (("lie":Str)="take") by decide +kernel)) ?_⟩;refine⟨_,rfl,rfl,_,rfl,d0 (by rw[Qs];exact sne (show ¬ (("lie":Str)="answer") by decide +kernel)) ?_⟩;refine⟨_,rfl,rfl,_,rfl,d0 (by rw[Qs];exact sne (show ¬ (("lie":Str)="bell") by decide +kernel)) ?_⟩;refine⟨_,rfl,rfl,_,rfl,jj (Qt rfl) ?_⟩;exact⟨_,rfl,dM Rd1.y.ob (dC (by decide +kernel)) ⟨_,rfl,t,_,_,_,rfl,rfl,SqT.of ht1,rfl,y,q,S,L,b,rfl,Rd1,k1⟩⟩
   |look b =>
     refine⟨_,rfl,rfl,_,rfl,d0 (by rw[Qs];exact sne (show ¬ (("look":Str)="ask") by decide +kernel)) ?_⟩;refine⟨_,rfl,rfl,_,rfl,d0 (by rw[Qs];exact sne (show ¬ (("look":Str)="collect") by decide +kernel)) ?_⟩;refine⟨_,rfl,rfl,_,rfl,d0 (by rw[Qs];exact sne (show ¬ (("look":Str)="take") by decide +kernel)) ?_⟩;refine⟨_,rfl,rfl,_,rfl,d0 (by rw[Qs];exact sne (show ¬ (("look":Str)="answer") by decide +kernel)) ?_⟩;refine⟨_,rfl,rfl,_,rfl,d0 (by rw[Qs];exact sne (show ¬ (("look":Str)="bell") by decide +kernel)) ?_⟩;refine⟨_,rfl,rfl,_,rfl,d0 (by rw[Qs];exact sne (show ¬ (("look":Str)="lie") by decide +kernel)) ?_⟩;refine⟨_,rfl,rfl,_,rfl,jj (Qt rfl) ?_⟩;exact⟨_,rfl,dM Rd1.y.ob (dC (by decide +kernel)) ⟨_,rfl,t,_,_,_,rfl,rfl,SqT.of ht1,rfl,y,q,S,L,b,rfl,Rd1,k1⟩⟩
   |drain b =>
     refine⟨_,rfl,rfl,_,rfl,d0 (by rw[Qs];exact sne (show ¬ (("drain":Str)="ask") by decide +kernel)) ?_⟩;refine⟨_,rfl,rfl,_,rfl,d0 (by rw[Qs];exact sne (show ¬ (("drain":Str)="collect") by decide +kernel)) ?_⟩;refine⟨_,rfl,rfl,_,rfl,d0 (by rw[Qs];exact sne (show ¬ (("drain":Str)="take") by decide +kernel)) ?_⟩;refine⟨_,rfl,rfl,_,rfl,d0 (by rw[Qs];exact sne (show ¬ (("drain":Str)="answer") by decide +kernel)) ?_⟩;refine⟨_,rfl,rfl,_,rfl,d0 (by rw[Qs];exact sne (show ¬ (("drain":Str)="bell") by decide +kernel)) ?_⟩;refine⟨_,rfl,rfl,_,rfl,d0 (by rw[Qs];exact sne (show ¬ (("drain":Str)="lie") by decide +kernel)) ?_⟩;refine⟨_,rfl,rfl,_,rfl,d0 (by rw[Qs];exact sne (show ¬ (("drain":Str)="look") by decide +kernel)) ?_⟩;obtain⟨x,rest,hb⟩:=yX hc;have rl:=Rd1.i.len;have k2:Bh w a y q { S with m:=S.m.put x,rs:=aC S.rs b rest } L .none H1 Q:=by
      have e:(Dd.drain b).run q S=(.none,{ S with m:=S.m.put x,rs:=aC S.rs b rest }):=by
       show (match S.rs b with|x :: rest=>_|[]=>_)=_;rw[hb]
      rw[e]at k1;exact k1
     refine⟨_,rfl,i8 Rd1.y.ob G.ak G.aY fE (dM Rd1.y.x.st.ob (bU (by decide +kernel) (by decide +kernel)) ⟨_,rfl,t,_,_,_,rfl,rfl,SqT.of ht1,rfl,y.sa,S.m,S.rs,b,x,rest,rfl,Rd1.y.x.st,hb,λH2 st2 kp2=>?_⟩)⟩;refine k2 .non H2 (Rd1.y.parts (Rd1.y.x.store st2 kp2) kp2 tU) ⟨Rd1.i.und,Rd1.i.tkd,jV rl b (by have:=rl b;rw[hb,KJ]at this;omega),by have:=Rd1.i.hl;show S.hs.length <= _;omega⟩ rfl (HZ kp2)
def Bf (CJ:D'):Sp:=λvs H Q _=>∃ (j dx:D'),vs=[.ref j]/\H j=dk (.ins CJ dx []) /\
 ∀ (z:JA) (H':Hp),z.j=j->H z.u=JZ->H z.h=JZ->H z.g=JZ->H z.d=JZ->Jn CJ H' z [] [] [] []->Kp [j] H H'->Q .non H'
def Dy (CJ:D'):Sp:=λvs H Q _=>∃ (z:JA) (un uh:List (Int × Int)) (go do':List Int) (h:Hap),vs=[.ref z.j,.str h.w.key,.int h.n,.int h.o]/\Jn CJ H z un uh go do'/\un.length < 1000/\uh.length < 1000/\∀ H',bL H H'->Q (.bl (El un uh go do' h)) H'
def F5 (CJ:D'):Sp:=λvs H Q _=>∃ (z:JA) (ah:List Hap) (un uh:List (Int × Int)) (go do':List Int) (h:Hap),vs=[.ref z.j,.str h.w.key,.int h.n,.int h.o]/\Jn CJ H z un uh go do'/\JI ah un uh go do'/\eB ah h=j'/\ah.length < 1000 /\
 ∀ H' un' uh' go' do2,Jn CJ H' z un' uh' go' do2->JI (ah++[h]) un' uh' go' do2->KO z.own H H'->Kt H H'->Q .non H'
def Cv (G:Gs K mg a d):FnOk P w K mg base CX0 1 a.dq d.dq ["self"] (Bf a.gp):=by
 refine G.sx.ok qf (λvs H Q E h=>?_) (λcdv A outer s H vs Q E hr h=>?_)
 . obtain⟨j,dx,rfl,_⟩:=h;rfl
 . obtain⟨j,dx,rfl,hj,k⟩:=h;refine⟨_,((bw (pv 0) (@bQ _ _ _ _ aa) rfl)∪((bw (pv 0) (@bQ _ _ _ _ aa) rfl)∪((bw (pv 0) km rfl)∪(@ar _ _ _ (bw (pv 0) km rfl))))),?_⟩;refine⟨pT,λu hu=>?_⟩;obtain⟨a1,a2,a3,a4⟩:=tj (o:=.lst []) (f:="untaken") hj hu;refine⟨_,rfl,j,a.gp,dx,[],rfl,a3,G.bo,G.ci,by decide,?_⟩;generalize upd (upd H u (.lst [])) j (.ins a.gp dx (bn "untaken" (.ref u) []))=H1 at a1 a2 a4 |-;refine⟨pT,λh hh=>?_⟩;obtain⟨b1,b2,b3,b4⟩:=tj (o:=.lst []) (f:="unhanded") a1 hh;refine⟨_,rfl,j,a.gp,dx,_,rfl,b3,G.bo,G.bY,by show 1 < 1000;decide,?_⟩;generalize upd (upd H1 h (.lst [])) j (.ins a.gp dx (bn "unhanded" (.ref h) (bn "untaken" (.ref u) [])))=H2 at b1 b2 b4 |-;intro g hg;obtain⟨c1,c2,c3,c4⟩:=tj (o:=.dK []) (f:="going") b1 hg;refine⟨_,rfl,j,a.gp,dx,_,rfl,c3,G.bo,G.eZ,by show 2 < 1000;decide,?_⟩;generalize upd (upd H2 g (.dK [])) j (.ins a.gp dx (bn "going" (.ref g) (bn "unhanded" (.ref h) (bn "untaken" (.ref u) []))))=H3 at c1 c2 c4 |-;intro d' hd;obtain⟨d1,d2,d3,d4⟩:=tj (o:=.dK []) (f:="doing") c1 hd;refine⟨_,rfl,j,a.gp,dx,_,rfl,d3,G.bo,G.f7,by show 3 < 1000;decide,?_⟩;generalize upd (upd H3 d' (.dK [])) j (.ins a.gp dx (bn "doing" (.ref d') (bn "going" (.ref g) (bn "unhanded" (.ref h) (bn "untaken" (.ref u) [])))))=H4 at d1 d2 d4 |-;have nb:∀ {H' H'':Hp} {c:D'} {C fs},H' j=dk (.ins C dx fs)->(∀ c u,c≠j->H' c=dk u->H'' c=dk u)->H'' c=JZ->H'' j≠JZ->H' c=JZ:=λ{H' H'' c C fs} q1 q2 q3 q4=>by
    cases y:H' c with
   |none=>rfl
   |some o =>
     by_cases e:c=j
     . rw[e]at q3;exact absurd q3 q4
     . rw[q2 c o e y]at q3;cases q3
   have nn:∀ {H':Hp} {o:HO},H' j=dk o->H' j≠JZ:=λe z=>by rw[e]at z;cases z
   have uj:u≠j:=λy=>by rw[y,hj]at hu;cases hu
   have hj':h≠j:=λy=>by rw[y,a1]at hh;cases hh
   have gj:g≠j:=λy=>by rw[y,b1]at hg;cases hg
   have u2:=b4 _ _ uj a2;have u4:=d4 _ _ uj (c4 _ _ uj u2);have h4:=d4 _ _ hj' (c4 _ _ hj' b2);have g4:=d4 _ _ gj c2;have hhH:=nb hj a4 hh (nn a1);have hgH:=nb hj a4 (nb a1 b4 hg (nn b1)) (nn a1);have hdH:=nb hj a4 (nb a1 b4 (nb b1 c4 hd (nn c1)) (nn b1)) (nn a1);refine k ⟨j,u,h,g,d'⟩ H4 rfl hu hhH hgH hdH ⟨⟨dx,d1⟩,⟨[],u4,.nil⟩,⟨[],h4,.nil⟩,g4,d2,ae a2 hh,ae c2 hd⟩ λc o nc e=>?_
   have nc':c≠j:=λy=>nc (JY.mpr y)
   exact d4 _ _ nc' (c4 _ _ nc' (b4 _ _ nc' (a4 _ _ nc' e)))
def DO (G:Gs K mg a d):FnOk P w K mg base CX0 1 a.cS d.cS ["self","word","name","worth"] (Dy a.gp):=by
 refine G.nN.ok mo (λvs H Q E h=>?_) (λcdv A outer s H vs Q E hr h=>?_)
 . obtain⟨z,un,uh,go,do',h,rfl,_⟩:=h;rfl
 . obtain⟨z,un,uh,go,do',⟨wd,n,o⟩,rfl,J,lu,lh,k⟩:=h;have hu:=dR hr;refine⟨_,((aO (ao bW (pv 1) au (ax _)) ((xz (jT hu (pv 2) (al (pv 0) rfl)))⁻¹) aq)∪((aO (ao bW (pv 1) au (ax _)) ((dY (qX hr.units) (gG nE (al (pv 0) rfl) lw (iX ai)) (@bQ _ _ _ _ ((@bj _ _ _ _ _ ((pv 2)∣((pv 3)∣aa)))∣aa)) (ax _))⁻¹) aq)∪((aO (ao bW (pv 1) au (ax _)) ((xz (zM hu (pv 2) (al (pv 0) rfl)))⁻¹) aq)∪((dY (qX hr.units) (gG nE (al (pv 0) rfl) lw (iX ai)) (@bQ _ _ _ _ ((@bj _ _ _ _ _ ((pv 2)∣((pv 3)∣aa)))∣aa)) (ax _))⁻¹)))),?_⟩;obtain⟨dx,hx⟩:=J.ob;cases wd with
  |asked =>
    refine⟨_,rfl,rfl,_,rfl,jO rfl ?_⟩;refine⟨_,rfl,_,rfl,fld hx G.bo G.eZ Hv ⟨z.g,_,rfl,qb.k (k:=.inl n) J.g,?_⟩⟩;have q:=k H (bL.refl _);rw[gm];show Q (.bl (!(if go.contains n=j' then dk (V.bl j') else JZ).isSome)) H;have e:(if go.contains n=j' then dk (V.bl j') else JZ).isSome=go.contains n:=by cases go.contains n<;>rfl
    rw[e];exact q
  |taken =>
    refine⟨_,rfl,rfl,_,rfl,cW (sne (show Wd.key .taken≠"asked" by decide +kernel)) ⟨_,rfl,rfl,_,rfl,jO rfl ?_⟩⟩;obtain⟨ts,e0,pr⟩:=J.u;refine⟨_,rfl,fld hx G.bo G.ci Hg ⟨_,rfl,z.u,ts,rfl,SqL.of e0,λq hq=>⟨_,rfl,_,rfl,l2,λt ht=>⟨xP,λc hc=>?_⟩⟩⟩⟩;have s1:=ag (o:=.lst (lP ts JZ (dk 1))) hq;have s2:=ag (o:=.tup [V.int n,V.int o]) ht;have s3:=ag (o:=.lst [V.ref t]) hc;have cq:lP ts JZ (dk 1)=ts.take 1:=su ts 1;have pr1:Kx (PV H) (un.take 1) (lP ts JZ (dk 1)):=by rw[cq];exact fO 1 pr
    refine⟨.list ((un.take 1).map pvD),.list ([(n,o)].map pvD),⟨q,_,rfl,s3 _ _ (s2 _ _ a8),?_⟩,⟨c,_,rfl,a8,pU (.cons ⟨t,rfl,s3 _ _ a8⟩ .nil)⟩,rG _,rG _,?_⟩
    . exact pU (Paired.mapP pr1 λ_ _ h=>h.keep (s1.trans (s2.trans s3)).kt)
    . rw[zH];exact k _ (s1.trans (s2.trans s3))
  |answered =>
    refine⟨_,rfl,rfl,_,rfl,cW (sne (show Wd.key .answered≠"asked" by decide +kernel)) ⟨_,rfl,rfl,_,rfl,cW (sne (show Wd.key .answered≠"taken" by decide +kernel)) ⟨_,rfl,rfl,_,rfl,jO rfl ?_⟩⟩⟩;refine⟨_,rfl,_,rfl,fld hx G.bo G.f7 HQ ⟨z.d,_,rfl,qb.k (k:=.inl n) J.d,?_⟩⟩;have q:=k H (bL.refl _);rw[gm];show Q (.bl ((if do'.contains n=j' then dk (V.bl j') else JZ).isSome)) H;have e:(if do'.contains n=j' then dk (V.bl j') else JZ).isSome=do'.contains n:=by cases do'.contains n<;>rfl
    rw[e];exact q
  |handed =>
    refine⟨_,rfl,rfl,_,rfl,cW (sne (show Wd.key .handed≠"asked" by decide +kernel)) ⟨_,rfl,rfl,_,rfl,cW (sne (show Wd.key .handed≠"taken" by decide +kernel)) ⟨_,rfl,rfl,_,rfl,cW (sne (show Wd.key .handed≠"answered" by decide +kernel)) ?_⟩⟩⟩;obtain⟨ts,e0,pr⟩:=J.h;refine⟨_,rfl,fld hx G.bo G.bY He ⟨_,rfl,z.h,ts,rfl,SqL.of e0,λq hq=>⟨_,rfl,_,rfl,l2,λt ht=>⟨xP,λc hc=>?_⟩⟩⟩⟩;have s1:=ag (o:=.lst (lP ts JZ (dk 1))) hq;have s2:=ag (o:=.tup [V.int n,V.int o]) ht;have s3:=ag (o:=.lst [V.ref t]) hc;have cq:lP ts JZ (dk 1)=ts.take 1:=su ts 1;have pr1:Kx (PV H) (uh.take 1) (lP ts JZ (dk 1)):=by rw[cq];exact fO 1 pr
    refine⟨.list ((uh.take 1).map pvD),.list ([(n,o)].map pvD),⟨q,_,rfl,s3 _ _ (s2 _ _ a8),?_⟩,⟨c,_,rfl,a8,pU (.cons ⟨t,rfl,s3 _ _ a8⟩ .nil)⟩,rG _,rG _,?_⟩
    . exact pU (Paired.mapP pr1 λ_ _ h=>h.keep (s1.trans (s2.trans s3)).kt)
    . rw[zH];exact k _ (s1.trans (s2.trans s3))
def DZ (G:Gs K mg a d):FnOk P w K mg base CX0 1 a.dD d.dD ["self","word","name","worth"] (F5 a.gp):=by
 refine G.sU.ok ql (λvs H Q E h=>?_) (λcdv A outer s H vs Q E hr h=>?_)
 . obtain⟨z,ah,un,uh,go,do',h,rfl,_⟩:=h;rfl
 . obtain⟨z,ah,un,uh,go,do',⟨wd,n,o⟩,rfl,J,I,hf,hl,k⟩:=h;have hu:=dR hr;refine⟨_,(@ar _ _ _ (aO (ao bW (pv 1) au (ax _)) ((l5 hu (al (pv 0) rfl) (pv 2) bF rfl)∪(@ar _ _ _ (@aK _ _ _ _ (@lV _ _ _ _ _ _ _ _ _ _ _ _ KG K9 PySem.F.type_list_append dX (al (pv 0) rfl) ((@bj _ _ _ _ _ ((pv 2)∣((pv 3)∣aa)))∣aa) (by rfl) (by rfl) (by rfl) (by rfl) (by rfl)) (by rfl)))) (@ar _ _ _ (aO (ao bW (pv 1) au (ax _)) ((@aK _ _ _ _ (@lV _ _ _ _ _ _ _ _ _ _ _ _ KG PySem.F.slot_list_pop PySem.F.type_list_pop sg (al (pv 0) rfl) (ai∣aa) (by rfl) (by rfl) (by rfl) (by rfl) (by rfl)) (by rfl))∪(@ar _ _ _ (l5 hu (al (pv 0) rfl) (pv 2) bF rfl))) (@ar _ _ _ (aO (ao bW (pv 1) au (ax _)) ((@aK _ _ _ _ (mi (al (pv 0) rfl) (pv 2) ⟨rfl,rfl,rfl,rfl⟩) (by rfl))∪(@ar _ _ _ (@aK _ _ _ _ (@lV _ _ _ _ _ _ _ _ _ _ _ _ KG K9 PySem.F.type_list_append dX (al (pv 0) rfl) ((@bj _ _ _ _ _ ((pv 2)∣((pv 3)∣aa)))∣aa) (by rfl) (by rfl) (by rfl) (by rfl) (by rfl)) (by rfl)))) ((@aK _ _ _ _ (@lV _ _ _ _ _ _ _ _ _ _ _ _ KG PySem.F.slot_list_pop PySem.F.type_list_pop sg (al (pv 0) rfl) (ai∣aa) (by rfl) (by rfl) (by rfl) (by rfl) (by rfl)) (by rfl))∪(@ar _ _ _ (@aK _ _ _ _ (mi (al (pv 0) rfl) (pv 2) ⟨rfl,rfl,rfl,rfl⟩) (by rfl)))))))))),?_⟩;obtain⟨dx,hx⟩:=J.ob;rw[<-I.fits]at hf;obtain⟨l1,l2',l3,l4⟩:=I.lens;have ko1:∀ {H:Hp} {x:D'} {o:HO},z.own x->KO z.own H (upd H x o):=λhx=>KO.of_kp Kp.one λc hc=>by rw[JY.mp hc];exact hx
   have ou:z.own z.u:=.inr (.inl rfl);have oh:z.own z.h:=.inr (.inr (.inl rfl));have og:z.own z.g:=.inr (.inr (.inr (.inl rfl)));have od:z.own z.d:=.inr (.inr (.inr (.inr rfl)));have kot:∀ {H1 H2 H3:Hp},KO z.own H1 H2->KO z.own H2 H3->KO z.own H1 H3:=λh1 h2=>h1.trans h2 λ_ hc=>.inl hc
   cases wd with
  |asked =>
    have hn:go.contains n=f':=by
     have:(!go.contains n)=j':=hf;simpa using this
    have hn':n ∉ go:=by rw[K5]at hn;exact of_decide_eq_false hn
    refine⟨_,rfl,rfl,_,rfl,jO rfl ?_⟩;refine⟨_,rfl,fld hx G.bo G.eZ Hv ⟨_,rfl,z.g,_,rfl,z0.k (k:=.inl n) J.g (by rw[qP];exact Kg (show _ < 10000 by omega) (by decide)),?_⟩⟩;have J1:=J.setG (qT n go hn);generalize hH1:upd H z.g (.dK (lB (gK go) (Lc n) (.bl j')))=H1 at J1;have k1:KO z.own H H1:=by rw[<-hH1];exact ko1 og
    have t1:Kt H H1:=by rw[<-hH1];exact gH J.g (λ_ z=>by cases z) _
    obtain⟨ts,e0,pr⟩:=J1.u;obtain⟨dx1,hx1⟩:=J1.ob;have lt:=aL pr;refine⟨_,rfl,fld hx1 G.bo G.ci Hg ⟨.inl ⟨rfl,_,SqL.of e0⟩,_,rfl,_,rfl,l2,λt ht=>⟨z.u,ts,_,rfl,rfl,ag ht _ _ e0,Kg (show _ < 10000 by omega) (by decide),?_⟩⟩⟩;have s2:=ag (o:=.tup [V.int n,V.int o]) ht;have J2:=(J1.same s2).setU (un':=un++[(n,o)]) (ts:=ts++[.ref t]) (Kx.snoc (Paired.mapP pr λ_ _ h=>h.keep s2.kt) ⟨t,rfl,a8⟩);exact k _ _ _ _ _ J2 (I.asked hn') (kot k1 (kot (KO.of_same s2) (ko1 ou))) λb vs e=>gH (s2 _ _ e0) (λ_ z=>by cases z) _ _ _ (s2 _ _ (t1 _ _ e))
  |taken =>
    have hn:un.take 1=[(n,o)]:=of_decide_eq_true hf;obtain⟨I2,hnd⟩:=I.taken hn;have e1:=Ba hn;refine⟨_,rfl,rfl,_,rfl,cW (sne (show Wd.key .taken≠"asked" by decide +kernel)) ⟨_,rfl,rfl,_,rfl,jO rfl ?_⟩⟩;obtain⟨ts,e0,pr⟩:=J.u;have lt:=aL pr;have hl0:0 < ts.length:=by rw[<-lt,e1];exact Nat.succ_pos _
    refine⟨_,rfl,fld hx G.bo G.ci Hg ⟨.inl ⟨rfl,_,SqL.of e0⟩,z.u,ts,0,0,ts[0],rfl,rfl,e0,by decide,by decide,IG hl0,Kh hl0,?_⟩⟩;rw[Dj];have J1:=J.setU (j8 1 pr);have k1:KO z.own H (upd H z.u (.lst (ts.drop 1))):=ko1 ou;have t1:Kt H (upd H z.u (.lst (ts.drop 1))):=gH e0 (λ_ z=>by cases z) _;generalize upd H z.u (.lst (ts.drop 1))=H1 at J1 k1 t1 |-;obtain⟨dx1,hx1⟩:=J1.ob;refine⟨_,rfl,fld hx1 G.bo G.f7 HQ ⟨_,rfl,z.d,_,rfl,z0.k (k:=.inl n) J1.d (by rw[qP];exact Kg (show _ < 10000 by omega) (by decide)),?_⟩⟩;exact k _ _ _ _ _ (J1.setD (qT n do' (by rw[K5];exact decide_eq_false hnd))) I2 (kot k1 (ko1 od)) λb vs e=>gH J1.d (λ_ z=>by cases z) _ _ _ (t1 _ _ e)
  |answered =>
    have hn:do'.contains n=j':=hf;have hn':n∈do':=by rw[K5]at hn;exact of_decide_eq_true hn
    refine⟨_,rfl,rfl,_,rfl,cW (sne (show Wd.key .answered≠"asked" by decide +kernel)) ⟨_,rfl,rfl,_,rfl,cW (sne (show Wd.key .answered≠"taken" by decide +kernel)) ⟨_,rfl,rfl,_,rfl,jO rfl ?_⟩⟩⟩;have hv:mw (gK do') (.inl n)=dk (.bl j'):=by rw[gm,hn];rfl
    refine⟨_,rfl,fld hx G.bo G.f7 HQ ⟨z.d,rfl,.inl ⟨_,.inl J.d⟩,_,rfl,_,.inl n,_,J.d,rfl,hv,?_⟩⟩;have I2:=I.answered (o:=o) hn';have ee:kA (gK do') (Lc n)=gK (do'.erase n):=by
     rw[l6,I.ndo.erase_eq_filter];congr 1;refine filter_congr λy _=>?_
     by_cases e:y=n
     . subst e;simp
     . simp[e]
    have J1:=J.setD ee;have k1:KO z.own H (upd H z.d (.dK (kA (gK do') (Lc n)))):=ko1 od;have t1:Kt H (upd H z.d (.dK (kA (gK do') (Lc n)))):=gH J.d (λ_ z=>by cases z) _;generalize upd H z.d (.dK (kA (gK do') (Lc n)))=H1 at J1 k1 t1 |-;obtain⟨ts,e0,pr⟩:=J1.h;obtain⟨dx1,hx1⟩:=J1.ob;have lt:=aL pr;refine⟨_,rfl,fld hx1 G.bo G.bY He ⟨.inl ⟨rfl,_,SqL.of e0⟩,_,rfl,_,rfl,l2,λt ht=>⟨z.h,ts,_,rfl,rfl,ag ht _ _ e0,Kg (show _ < 10000 by omega) (by decide),?_⟩⟩⟩;have s2:=ag (o:=.tup [V.int n,V.int o]) ht;have J2:=(J1.same s2).setH (uh':=uh++[(n,o)]) (ts:=ts++[.ref t]) (Kx.snoc (Paired.mapP pr λ_ _ h=>h.keep s2.kt) ⟨t,rfl,a8⟩);exact k _ _ _ _ _ J2 I2 (kot k1 (kot (KO.of_same s2) (ko1 oh))) λb vs e=>gH (s2 _ _ e0) (λ_ z=>by cases z) _ _ _ (s2 _ _ (t1 _ _ e))
  |handed =>
    have hn:uh.take 1=[(n,o)]:=of_decide_eq_true hf;obtain⟨I2,hng⟩:=I.handed hn;have e1:=Ba hn;refine⟨_,rfl,rfl,_,rfl,cW (sne (show Wd.key .handed≠"asked" by decide +kernel)) ⟨_,rfl,rfl,_,rfl,cW (sne (show Wd.key .handed≠"taken" by decide +kernel)) ⟨_,rfl,rfl,_,rfl,cW (sne (show Wd.key .handed≠"answered" by decide +kernel)) ?_⟩⟩⟩;obtain⟨ts,e0,pr⟩:=J.h;have lt:=aL pr;have hl0:0 < ts.length:=by rw[<-lt,e1];exact Nat.succ_pos _
    refine⟨_,rfl,fld hx G.bo G.bY He ⟨.inl ⟨rfl,_,SqL.of e0⟩,z.h,ts,0,0,ts[0],rfl,rfl,e0,by decide,by decide,IG hl0,Kh hl0,?_⟩⟩;rw[Dj];have J1:=J.setH (j8 1 pr);have k1:KO z.own H (upd H z.h (.lst (ts.drop 1))):=ko1 oh;have t1:Kt H (upd H z.h (.lst (ts.drop 1))):=gH e0 (λ_ z=>by cases z) _;generalize upd H z.h (.lst (ts.drop 1))=H1 at J1 k1 t1 |-;obtain⟨dx1,hx1⟩:=J1.ob;have hv:mw (gK go) (.inl n)=dk (.bl j'):=by rw[gm,K5,Qt hng];rfl
    have ee:kA (gK go) (Lc n)=gK (go.erase n):=by
     rw[l6,I.nd.erase_eq_filter];congr 1;refine filter_congr λy _=>?_
     by_cases e:y=n
     . subst e;simp
     . simp[e]
    refine⟨_,rfl,fld hx1 G.bo G.eZ Hv ⟨z.g,rfl,.inl ⟨_,.inl J1.g⟩,_,rfl,_,.inl n,_,J1.g,rfl,hv,?_⟩⟩;exact k _ _ _ _ _ (J1.setG ee) I2 (kot k1 (ko1 og)) λb vs e=>gH J1.g (λ_ z=>by cases z) _ _ _ (t1 _ _ e)
def uW (ns:List Int) (k:Nat):Int:=ns.getD k 0
def AW (K:Kc):Sp:=λvs H Q _=>∃ (b:D') (ns:List Int) (k:Nat),vs=[.ref b,.int k]/\SqL K H b (ns.map V.int)/\Q (.int (uW ns k)) H
def Go (xs:List V):Prop:=∃ c l:Int,xs=[.int c,.int l]/\0 <= l/\l < 2147483587
def GA:Sp:=λvs H Q _=>∃ c:Int,vs=[.int c]/\∀ (p:D') (rw:List V),H p=JZ->Go rw->Q (.ref p) (upd H p (.lst rw))
def Rw (H:Hp) (r:D'):Prop:=∃ rw,H r=dk (.lst rw)/\Go rw
structure Stp (r:D') (H H':Hp):Prop where
 row:Rw H' r
 keep:∀ b o,b≠r->H b=dk o->H' b=dk o
def Stp.trans {r:D'}{H H1 H2:Hp}(a:Stp r H H1) (b:Stp r H1 H2):Stp r H H2:=⟨b.row,λc o n e=>b.keep c o n (a.keep c o n e)⟩
def Rw.new {r p:D'}{H:Hp}{o:HO}(h:Rw H r) (hp:H p=JZ):Rw (upd H p o) r:=by
 obtain⟨rw,e,q⟩:=h;exact⟨rw,by rw[ac (ae e hp)];exact e,q⟩
def Rw.ne {r p:D'}{H:Hp}(h:Rw H r) (hp:H p=JZ):p≠r:=by
 obtain⟨rw,e,_⟩:=h;exact λz=>by rw[z,e]at hp;cases hp
def EA:Sp:=λvs H Q _=>∃ (r:D') (m:Int),vs=[.ref r,.int m]/\Rw H r/\0 < m/\m < 2 ^ 40 /\
 ∀ (g:Int) (H':Hp),0 <= g->g < m->Stp r H H'->Q (.int g) H'
def pP:(0:Int) < 2147483587:=by decide
def Ae (G:Gs K mg a d):FnOk P w K mg base CX0 1 a.di d.di ["script","k"] (AW K):=by
 refine G.lX.ok qj (λvs H Q E h=>?_) (λcdv A' outer s' H vs Q E hr h=>?_)
 . obtain⟨b,ns,k,rfl,_⟩:=h;rfl
 . obtain⟨b,ns,k,rfl,hS,q⟩:=h;refine⟨_,((aO (ao Gk (pv 1) (bA be (by rfl) G.oi je ((pv 0)∣aa)) (ax _)) ((@aI _ _ _ _ _ _ _ ba (pv 0) (pv 1) (λ_ _=>rfl))⁻¹) aq)∪(ai⁻¹)),?_⟩;refine⟨_,rfl,_,rfl,b,_,rfl,.inl hS,_,_,rfl,rfl,_,rfl,?_⟩;by_cases h:k < ns.length
   . refine jj (Qt (by rw[Kv];omega)) ?_;refine⟨_,rfl,_,rfl,b,_,_,_,rfl,rfl,hS,zK (j:=k) (v:=.int (uW ns k)) ?_,q⟩;unfold uW;rw[Lo,Kh h,LY,Kh h];rfl
   . refine d0 (by rw[Qs,Kv];omega) ?_;have:uW ns k=0:=by unfold uW;rw[LY,List.getElem?_eq_none (by omega)];rfl
     rw[this]at q;exact q
def Fq (G:Gs K mg a d):FnOk P w K mg base CX0 1 a.lj d.lj ["cell"] GA:=by
 refine G.pS.ok yH (λvs H Q E h=>?_) (λcdv A outer s H vs Q E hr h=>?_)
 . obtain⟨c,rfl,_⟩:=h;rfl
 . obtain⟨c,rfl,k⟩:=h;refine⟨_,((@bQ _ _ _ _ ((pv 0)∣((@cy _ _ _ _ _ _ _ _ nV (pv 0) ai)∣aa)))⁻¹),?_⟩;refine⟨_,rfl,_,rfl,_,_,rfl,rfl,pP,?_⟩;refine⟨by show 2 <= Ki;decide,λp hp=>k p _ hp ⟨_,_,rfl,Mj _ (by decide),Mc _ pP⟩⟩
def zT (G:Gs K mg a d):FnOk P w K mg base CX0 1 a.iH d.iH ["row","many"] EA:=by
 refine G.bX.ok pq (λvs H Q E h=>?_) (λcdv A outer s H vs Q E hr h=>?_)
 . obtain⟨r,m,rfl,_⟩:=h;rfl
 . obtain⟨r,m,rfl,⟨rw,hl,c,l,rfl,hl0,hl1⟩,hm0,hm1,k⟩:=h;have stp:∀ (c' l':Int),0 <= l'->l' < 2147483587->Stp r H (upd H r (.lst [.int c',.int l'])):=λc' l' g0 g1 =>
    ⟨⟨_,a8,c',l',rfl,g0,g1⟩,λx o n e=>by rw[ac n];exact e⟩
   refine⟨_,((aO (ao E7 (@aI _ _ _ _ _ _ _ ba (pv 0) ai (λ_ _=>rfl)) (@cy _ _ _ _ _ _ _ _ zv ai ai) (ax _)) ((@bi _ _ 2 _ _ _ _ pq.nd rfl (KU rfl) (@cy _ _ _ _ _ _ _ _ nV (@aI _ _ _ _ _ _ _ ba (pv 0) ai (λ_ _=>rfl)) (pv 1)) (by rfl) (by first|exact .inl rfl|exact .inr rfl|assumption))∪((@gE _ _ _ _ _ _ (@cy _ _ _ _ _ _ _ _ wJ (@aI _ _ _ _ _ _ _ ba (pv 0) ai (λ_ _=>rfl)) (pv 1)) (jd (pv 0) ai d8) (by rfl) (by rfl) (by rfl))∪((pv 2)⁻¹))) aq)∪((@gE _ _ _ _ _ _ (@cy _ _ _ _ _ _ _ _ nV (@cy _ _ _ _ _ _ _ _ lS (@cy _ _ _ _ _ _ _ _ lS (@cy _ _ _ _ _ _ _ _ ur (@aI _ _ _ _ _ _ _ ba (pv 0) ai (λ_ _=>rfl)) (@aI _ _ _ _ _ _ _ ba (pv 0) ai (λ_ _=>rfl))) (@cy _ _ _ _ _ _ _ _ ur ai (@aI _ _ _ _ _ _ _ ba (pv 0) ai (λ_ _=>rfl)))) ai) ai) (jd (pv 0) ai d8) (by rfl) (by rfl) (by rfl))∪((@cy _ _ _ _ _ _ _ _ nV (@cy _ _ _ _ _ _ _ _ wJ (@aI _ _ _ _ _ _ _ ba (pv 0) ai (λ_ _=>rfl)) ai) (pv 1))⁻¹))),?_⟩;refine⟨_,rfl,r,_,_,_,rfl,rfl,SqL.of hl,rfl,?_⟩;refine⟨_,_,rfl,rfl,⟨by decide,by decide,by decide⟩,_,_,rfl,rfl,_,rfl,?_⟩;refine Bi (λ_=>?_) (λ_=>?_)
   . refine⟨_,rfl,r,_,_,_,rfl,rfl,SqL.of hl,rfl,_,rfl,_,_,rfl,rfl,hm0,?_⟩;refine⟨_,rfl,r,_,_,_,rfl,rfl,SqL.of hl,rfl,_,rfl,_,_,rfl,rfl,⟨hm0,hm1⟩,_,rfl,r,_,_,_,rfl,rfl,hl,rfl,?_⟩;refine⟨_,rfl,?_⟩;exact k _ _ (Mj _ (by omega)) (Mc _ hm0) (stp _ _ hl0 hl1)
   . refine⟨_,rfl,r,_,_,_,rfl,rfl,SqL.of hl,rfl,_,rfl,r,_,_,_,rfl,rfl,SqL.of hl,rfl,_,_,rfl,rfl,pV hl0 (by omega),?_⟩;refine⟨_,rfl,r,_,_,_,rfl,rfl,SqL.of hl,rfl,_,_,rfl,rfl,pV (by decide) (by decide),_,_,rfl,rfl,_,_,rfl,rfl,_,_,rfl,rfl,pP,?_⟩;have g0:=Mj (l * l+69621 * l+12345) (show (2147483587:Int)≠0 by decide);have g1:=Mc (l * l+69621 * l+12345) pP;refine⟨_,rfl,r,_,_,_,rfl,rfl,hl,rfl,?_⟩;refine⟨_,rfl,r,_,_,_,rfl,rfl,SqL.of a8,rfl,_,_,rfl,rfl,⟨by decide,by decide⟩,_,rfl,_,_,rfl,rfl,hm0,?_⟩;exact k _ _ (Mj _ (by omega)) (Mc _ hm0) (stp _ _ g0 g1)
def BK:Ka:=.tuple [.none,.none]
def wY (ps:List (Int × Int)):Kn (.list (ps.map pvD)) (.list [BK])=f':=by
 cases ps with
|nil=>rfl
|cons p ps =>
  show (Ka.eqvAll [.int p.1,.int p.2] [.none,.none] && Ka.eqvAll (ps.map pvD) [])=f';have:Ka.eqvAll [.int p.1,.int p.2] [.none,.none]=f':=by simp[Ka.eqvAll,Kn]
  rw[this];rfl
def wG:sF (.list [BK]):=⟨rfl,by show 2 <= 16;decide⟩
def CI (CJ:D'):Sp:=λvs H Q _=>∃ (z:JA) (un uh:List (Int × Int)) (go do':List Int) (b:Bool),vs=[.ref z.j,.str (Hx.n b).w.key,.non,.non]/\Jn CJ H z un uh go do'/\un.length < 1000/\uh.length < 1000/\∀ H',bL H H'->Q (.bl f') H'
def FX:Sp:=λvs H Q _=>∃ (l:D') (hs:List Hx),vs=[.ref l]/\SX H l hs/\hs.length < 900/\∀ H',bL H H'->Q (vO (c7 [] hs)) H'
def C4 (G:Gs K mg a d):FnOk P w K mg base CX0 1 a.cS d.cS ["self","word","name","worth"] (CI a.gp):=by
 refine G.nN.ok mo (λvs H Q E h=>?_) (λcdv A outer s H vs Q E hr h=>?_)
 . obtain⟨z,un,uh,go,do',h,rfl,_⟩:=h;rfl
 . obtain⟨z,un,uh,go,do',b,rfl,J,lu,lh,k⟩:=h;have hu:=dR hr;refine⟨_,((aO (ao bW (pv 1) au (ax _)) ((xz (jT hu (pv 2) (al (pv 0) rfl)))⁻¹) aq)∪((aO (ao bW (pv 1) au (ax _)) ((dY (qX hr.units) (gG nE (al (pv 0) rfl) lw (iX ai)) (@bQ _ _ _ _ ((@bj _ _ _ _ _ ((pv 2)∣((pv 3)∣aa)))∣aa)) (ax _))⁻¹) aq)∪((aO (ao bW (pv 1) au (ax _)) ((xz (zM hu (pv 2) (al (pv 0) rfl)))⁻¹) aq)∪((dY (qX hr.units) (gG nE (al (pv 0) rfl) lw (iX ai)) (@bQ _ _ _ _ ((@bj _ _ _ _ _ ((pv 2)∣((pv 3)∣aa)))∣aa)) (ax _))⁻¹)))),?_⟩;obtain⟨dx,hx⟩:=J.ob;cases b with
  |true =>
    refine⟨_,rfl,rfl,_,rfl,cW (sne (show Wd.key .taken≠"asked" by decide +kernel)) ⟨_,rfl,rfl,_,rfl,jO rfl ?_⟩⟩;obtain⟨ts,e0,pr⟩:=J.u;refine⟨_,rfl,fld hx G.bo G.ci Hg ⟨_,rfl,z.u,ts,rfl,SqL.of e0,λq hq=>⟨_,rfl,_,rfl,l2,λt ht=>⟨xP,λc hc=>?_⟩⟩⟩⟩;have s1:=ag (o:=.lst (lP ts JZ (dk 1))) hq;have s2:=ag (o:=.tup [V.non,V.non]) ht;have s3:=ag (o:=.lst [V.ref t]) hc;have cq:lP ts JZ (dk 1)=ts.take 1:=su ts 1;have pr1:Kx (PV H) (un.take 1) (lP ts JZ (dk 1)):=by rw[cq];exact fO 1 pr
    refine⟨.list ((un.take 1).map pvD),.list [BK],⟨q,_,rfl,s3 _ _ (s2 _ _ a8),?_⟩,⟨c,_,rfl,a8,_,_,rfl,⟨t,_,rfl,s3 _ _ a8,_,_,rfl,rfl,_,_,rfl,rfl,rfl⟩,rfl⟩,rG _,wG,?_⟩
    . exact pU (Paired.mapP pr1 λ_ _ h=>h.keep (s1.trans (s2.trans s3)).kt)
    . rw[wY];exact k _ (s1.trans (s2.trans s3))
  |false =>
    refine⟨_,rfl,rfl,_,rfl,cW (sne (show Wd.key .handed≠"asked" by decide +kernel)) ⟨_,rfl,rfl,_,rfl,cW (sne (show Wd.key .handed≠"taken" by decide +kernel)) ⟨_,rfl,rfl,_,rfl,cW (sne (show Wd.key .handed≠"answered" by decide +kernel)) ?_⟩⟩⟩;obtain⟨ts,e0,pr⟩:=J.h;refine⟨_,rfl,fld hx G.bo G.bY He ⟨_,rfl,z.h,ts,rfl,SqL.of e0,λq hq=>⟨_,rfl,_,rfl,l2,λt ht=>⟨xP,λc hc=>?_⟩⟩⟩⟩;have s1:=ag (o:=.lst (lP ts JZ (dk 1))) hq;have s2:=ag (o:=.tup [V.non,V.non]) ht;have s3:=ag (o:=.lst [V.ref t]) hc;have cq:lP ts JZ (dk 1)=ts.take 1:=su ts 1;have pr1:Kx (PV H) (uh.take 1) (lP ts JZ (dk 1)):=by rw[cq];exact fO 1 pr
    refine⟨.list ((uh.take 1).map pvD),.list [BK],⟨q,_,rfl,s3 _ _ (s2 _ _ a8),?_⟩,⟨c,_,rfl,a8,_,_,rfl,⟨t,_,rfl,s3 _ _ a8,_,_,rfl,rfl,_,_,rfl,rfl,rfl⟩,rfl⟩,rG _,wG,?_⟩
    . exact pU (Paired.mapP pr1 λ_ _ h=>h.keep (s1.trans (s2.trans s3)).kt)
    . rw[wY];exact k _ (s1.trans (s2.trans s3))
def FV (G:Gs K mg a d):FnOk P w K mg base CX0 3 a.dw d.dw ["story"] FX:=by
 have O8:FnOk P w K mg base CX0 1 _ _ _ _:=Cv G;have O9:FnOk P w K mg base CX0 1 _ _ _ _:=(DO G).or (C4 G);have Pa:FnOk P w K mg base CX0 1 _ _ _ _:=DZ G;refine G.lW.ok eY (λvs H Q E h=>?_) (λcdv A outer s H vs Q E hr h=>?_)
 . obtain⟨l,hs,rfl,_⟩:=h;rfl
 . obtain⟨l,hs,rfl,S,hl,k⟩:=h;have hu:=dR hr;refine⟨_,((@bi _ _ 1 _ _ _ _ eY.nd rfl (KU rfl) (wR G.F4 O8 (hr.mono (by decide)) (by rfl) G.DL G.tM .nil av) (by rfl) (by first|exact .inl rfl|exact .inr rfl|assumption))∪((kH Lm rfl (EU (by rfl) G.vq ((pv 0)∣aa)) (uk rfl (eg (bV (i:=2) eY.nd rfl (KU rfl)) (eg (bV (i:=3) eY.nd rfl (KU rfl)) pL))) ((aO (i9 (cJ (az (pv 1) G.bo G.sG O9 (hr.mono (by decide)) G.tZ .nil av ((@aI _ _ _ _ _ _ _ aH (pv 3) ai (λ_ _=>rfl))∣((@aI _ _ _ _ _ _ _ aH (pv 3) ai (λ_ _=>rfl))∣((@aI _ _ _ _ _ _ _ aH (pv 3) ai (λ_ _=>rfl))∣aa)))))) ((pv 2)⁻¹) aq)∪(@ar _ _ _ (@aK _ _ _ _ (az (pv 1) G.bo G.qc Pa (hr.mono (by decide)) G.tN .nil av ((@aI _ _ _ _ _ _ _ aH (pv 3) ai (λ_ _=>rfl))∣((@aI _ _ _ _ _ _ _ aH (pv 3) ai (λ_ _=>rfl))∣((@aI _ _ _ _ _ _ _ aH (pv 3) ai (λ_ _=>rfl))∣aa)))) (by rfl)))))∪(ib⁻¹))),?_⟩;intro j dx nj ndx nex;refine⟨j,dx,rfl,a8,λz H1 hz g1 g2 g3 g4 J1 kp1=>⟨rfl,?_⟩⟩;have e1:bL H H1:=lQ nj ndx kp1;have fz:∀ c,z.own c->H c=JZ:=λc hc=>by
    rcases hc with y|y|y|y|y
    . rw[y,hz];exact nj
    . rw[y];exact(up1 (up1 g1).2).2
    . rw[y];exact(up1 (up1 g2).2).2
    . rw[y];exact(up1 (up1 g3).2).2
    . rw[y];exact(up1 (up1 g4).2).2
   subst hz;clear kp1 g1 g2 g3 g4 nj ndx nex;obtain⟨ts,e0,pr⟩:=S;have lt:=aL pr;refine⟨_,rfl,l,ts,rfl,SqL.of (e1 _ _ e0),?_⟩;refine CA (K:=K) (a:=l) (xs:=ts) (λi σ H'=>∃ ah un uh go do',(∃ v2 v3,σ=[dk (.ref l),dk (.ref z.j),v2,v3])/\Jn a.gp H' z un uh go do'/\hs.take i=ah.map Hx.h/\JI ah un uh go do'/\bL H H'/\c7 ah (hs.drop i)=c7 [] hs)
    ⟨[],[],[],[],[],⟨_,_,rfl⟩,J1,rfl,JI.zero,e1,rfl⟩ (λ_ _ _ _ uq18=>by(obtain⟨_,_,_,_,_,_,_,_,_,y,_⟩:=uq18;exact SqL.of (y _ _ e0))) ?_ ?_
   . rintro i y T σ H2 hi hT ⟨ah,un,uh,go,do',⟨v2,v3,rfl⟩,J,hta,I,e2,hf⟩;obtain⟨h,c,hh,rfl,vc⟩:=EG pr hi;have hil:i < hs.length:=(Kw.mp hh).1;have hal:=IB (Nat.le_of_lt hil) hta;have e3:=ag (o:=.tup [V.int (i:Int),V.ref c]) hT;have vT:upd H2 T (.tup [V.int (i:Int),V.ref c]) T=dk (.tup [V.int (i:Int),V.ref c]):=a8;have J3:=J.same e3;have E3:=e2.trans e3;generalize upd H2 T (.tup [V.int (i:Int),V.ref c])=H3 at J3 E3 vT |-;have v3:=E3 _ _ vc;refine⟨T,_,rfl,SqT.of vT,rfl,_,_,rfl,_,_,rfl,rfl,?_⟩;obtain⟨l1,l2',l3',l4⟩:=I.lens;cases h with
    |n b =>
      rw[qQ hh]at hf;refine⟨_,rfl,dM J3.ob zI ⟨_,rfl,c,_,_,_,rfl,rfl,SqT.of v3,rfl,_,rfl,c,_,_,_,rfl,rfl,SqT.of v3,rfl,_,rfl,c,_,_,_,rfl,rfl,SqT.of v3,rfl,.inr ⟨z,un,uh,go,do',b,rfl,J3,by omega,by omega,λH4 e4=>⟨_,rfl,?_⟩⟩⟩⟩;have q:=k H4 (E3.trans e4);rw[<-hf,hal]at q;exact jt ⟨_,rfl,q⟩
    |h h =>
      refine⟨_,rfl,dM J3.ob zI ⟨_,rfl,c,_,_,_,rfl,rfl,SqT.of v3,rfl,_,rfl,c,_,_,_,rfl,rfl,SqT.of v3,rfl,_,rfl,c,_,_,_,rfl,rfl,SqT.of v3,rfl,.inl ⟨z,un,uh,go,do',h,rfl,J3,by omega,by omega,λH4 e4=>⟨_,rfl,?_⟩⟩⟩⟩;rw[I.fits];rw[oG hh]at hf;have J4:=J3.same e4;have E4:=E3.trans e4;have v4:=e4 _ _ v3;cases hb:eB ah h with
     |false =>
       rw[hb]at hf;have q:=k H4 E4;rw[<-hf,Qr (by decide),hal]at q;exact jt ⟨_,rfl,q⟩
     |true =>
       rw[hb,Qq rfl]at hf;refine iE ⟨_,rfl,dM J4.ob HG ⟨_,rfl,c,_,_,_,rfl,rfl,SqT.of v4,rfl,_,rfl,c,_,_,_,rfl,rfl,SqT.of v4,rfl,_,rfl,c,_,_,_,rfl,rfl,SqT.of v4,rfl,z,ah,un,uh,go,do',h,rfl,J4,I,hb,by omega,λH5 un5 uh5 go5 do5 J5 I5 ko5 t5=>?_⟩⟩;refine⟨_,un5,uh5,go5,do5,⟨_,_,rfl⟩,J5,GP hh hta,I5,λb o e=>?_,hf⟩;exact ko5 b o (λy=>by rw[fz b y]at e;cases e) (E4 b o e)
   . rintro σ H2 ⟨ah,un,uh,go,do',⟨v2,v3,rfl⟩,J,hta,I,e2,hf⟩;rw[drop_of_length_le (by omega)]at hf;have q:=k H2 e2;rw[<-hf]at q;exact q
def En (w:Kk) (C:D'):Sp:=λvs H Q _=>∃ (sa:SA) (m:Mem) (rs:Bool->List Wr) (k:Cn),vs=[.ref sa.x,.str k.key]/\StT w C H sa m rs/\Q (.int (m.c k)) H
def HL {w:Kk}{C:D'}{vs:List V}{H:Hp}{Q:VK}{E:XK}(h:En w C vs H Q E):vb w C vs H Q E:=by
 obtain⟨sa,m,rs,k,rfl,⟨M,r,S,R,P⟩,q⟩:=h;refine⟨sa.x,sa.hd,sa.rl,sa.l,M,r,.str k.key,.str k.key,rfl,S,kS (yG k),?_⟩;rw[R.c k];exact q
def FZ (w:Kk) (ad:Ad) (K:Kc):Sp:=λvs H Q _=>∃ (a:YA) (q:YP) (S:YS) (wt:D') (w0:Str) (b:Bool),vs=[.ref a.y,.ref wt]/\Yn w ad.bf ad.dI ad.b8 ad.cg ad.aM H a q S/\q.Ok /\
 (∀ H,SqT K H wt [.str w0,.str (lkA b).key,.str (lkB b).key])/\∀ H',bL H H'->Q (.int (wN q S b)) H'
def Ed (w:Kk) (ad:Ad):Sp:=λvs H Q _=>∃ (a:YA) (q:YP) (S:YS) (b:Bool),vs=[.ref a.y,.int (sdI b)]/\Yn w ad.bf ad.dI ad.b8 ad.cg ad.aM H a q S/\q.Ok /\
 ∀ H',bL H H'->Q (.bl (ovB q S b)) H'
def D0 (G:Gs K mg a d):FnOk P w K mg base CX0 2 a.bp d.bp ["yard","words"] (FZ w a K):=by
 have PJ:FnOk P w K mg base CX0 1 _ _ _ _:=Ff G;have PM:FnOk P w K mg base CX0 1 _ _ _ _:=jC G;have PU:FnOk P w K mg base CX0 1 _ _ _ _:=wA G;have Pn:FnOk P w K mg base CX0 1 _ _ _ _:=(lR G).imp λvs H Q E=>HL
 refine G.dQ.ok cf (λvs H Q E h=>?_) (λcdv A' outer s' H vs Q E hr h=>?_)
 . obtain⟨y,q,S,wt,w0,b,rfl,_⟩:=h;rfl
 . obtain⟨y,q,S,wt,w0,b,rfl,Y,ok,ht,k⟩:=h;have hu:=dR hr;refine⟨_,((@bi _ _ 2 _ _ _ _ cf.nd rfl (KU rfl) (aN (pv 0) G.ak G.uM PJ (hr.mono (by decide)) G.wj .nil av) (by rfl) (by first|exact .inl rfl|exact .inr rfl|assumption))∪((@bi _ _ 3 _ _ _ _ cf.nd rfl (KU rfl) (az (aN (pv 0) G.ak G.bx PM (hr.mono (by decide)) G.bG .nil av) G.aF G.bT Pn (hr.mono (by decide)) G.cr .nil av ((@aI _ _ _ _ _ _ _ aH (pv 1) ai (λ_ _=>rfl))∣aa)) (by rfl) (by first|exact .inl rfl|exact .inr rfl|assumption))∪((@bi _ _ 4 _ _ _ _ cf.nd rfl (KU rfl) (az (aN (pv 0) G.ak G.bx PM (hr.mono (by decide)) G.bG .nil av) G.aF G.bT Pn (hr.mono (by decide)) G.cr .nil av ((@aI _ _ _ _ _ _ _ aH (pv 1) ai (λ_ _=>rfl))∣aa)) (by rfl) (by first|exact .inl rfl|exact .inr rfl|assumption))∪((aJ PU (hr.mono (by decide)) (by rfl) G.r8 G.mO.kp G.rH .nil av ((pv 3)∣((pv 4)∣((@aI _ _ _ _ _ _ _ aH (pv 2) ai (λ_ _=>rfl))∣((@aI _ _ _ _ _ _ _ aH (pv 2) ai (λ_ _=>rfl))∣aa)))))⁻¹)))),?_⟩;refine⟨_,rfl,dM Y.ob (dC (by decide +kernel)) ⟨y,_,S,rfl,Y,λt nt=>?_⟩⟩;have e1:=ag (o:=.tup [V.int q.p.s,V.int q.p.R]) nt;have g1:=a8 (H:=H) (a:=t) (o:=.tup [V.int q.p.s,V.int q.p.R]);generalize upd H t _=H1 at e1 g1 |-;have Y1:=Y.same e1;refine⟨_,rfl,dM Y1.ob (dC (by decide +kernel)) ⟨y,_,S,rfl,Y1,?_⟩⟩;refine dM Y1.x.st.ob (bU (by decide +kernel) (by decide +kernel)) ⟨_,rfl,wt,_,_,_,rfl,rfl,ht _,rfl,⟨_,_,_,_,rfl,Y1.x.st,?_⟩⟩;refine⟨_,rfl,dM Y1.ob (dC (by decide +kernel)) ⟨y,_,S,rfl,Y1,?_⟩⟩;refine dM Y1.x.st.ob (bU (by decide +kernel) (by decide +kernel)) ⟨_,rfl,wt,_,_,_,rfl,rfl,ht _,rfl,⟨_,_,_,_,rfl,Y1.x.st,?_⟩⟩;refine⟨_,rfl,_,rfl,_,rfl,t,_,_,_,rfl,rfl,SqT.of g1,rfl,_,rfl,t,_,_,_,rfl,rfl,SqT.of g1,rfl,?_⟩;exact⟨_,_,_,_,rfl,ok.ok.s0,ok.ok.s8,ok.ok.sR,k _ e1⟩
def EQ (G:Gs K mg a d):FnOk P w K mg base CX0 3 a.eM d.eM ["yard","side"] (Ed w a):=by
 have PK:FnOk P w K mg base CX0 1 _ _ _ _:=mT G;have PF:FnOk P w K mg base CX0 1 _ _ _ _:=yI G;have PY:FnOk P w K mg base CX0 2 _ _ _ _:=D0 G;refine G.jJ.ok sh (λvs H Q E h=>?_) (λcdv A' outer s' H vs Q E hr h=>?_)
 . obtain⟨y,q,S,b,rfl,_⟩:=h;rfl
 . obtain⟨y,q,S,b,rfl,Y,ok,k⟩:=h;have hu:=dR hr;refine⟨_,((aO ((pH (ao sv (az (pv 0) G.ak G.fL PK (hr.mono (by decide)) G.gS .nil av ((pv 1)∣aa)) au (ax _)) (kF (i9 (cJ (az (pv 0) G.ak G.oo PF (hr.mono (by decide)) G.pN .nil av ((@cy _ _ _ _ _ _ _ _ my ai (pv 1))∣aa))))))).pt (bF⁻¹) aq)∪((dY sv (aJ PY (hr.mono (by decide)) (by rfl) G.gL G.dQ.kp G.gw .nil av ((pv 0)∣((ms (ao bW (pv 1) ai (ax _)) (fm (v:=.ref a.bI) (by rfl) G.lM rfl) (fm (v:=.ref a.gD) (by rfl) G.wC rfl))∣aa))) ai (ax _))⁻¹)),?_⟩;refine⟨_,rfl,dM Y.ob (dC (by decide +kernel)) ⟨_,rfl,y,_,S,b,rfl,Y,?_⟩⟩;refine⟨rfl,_,rfl,?_⟩;unfold ovB at k;by_cases ha:S.bd b=.asleep
   . have e1:¬ (!decide (V.str (S.bd b).key=V.str "asleep"))=j':=by rw[ha];decide +kernel
     rw[Qt ha,Bool.true_and]at k;refine d0 e1 ?_;refine⟨_,rfl,dM Y.ob (dC (by decide +kernel)) ⟨_,rfl,_,_,rfl,rfl,⟨y,_,S,!b,by cases b<;>rfl,Y,_,rfl,?_⟩⟩⟩;cases hq:S.qt (!b) with
    |false =>
      rw[hq]at k;exact jj rfl (k H (bL.refl _))
    |true =>
      rw[hq,Bool.true_and]at k;refine d0 (λz=>by cases z) ?_;have fin:∀ H',bL H H'->Q (.bl (!decide (V.int (wN q S b)=V.int 0))) H':=λH' e=>by
       have:=k H' e;by_cases z:wN q S b=0
       . rw[z]at this |-;exact this
       . rw[Qt z]at this;rw[decide_eq_false λy=>z (ky y)];exact this
      cases b with
     |false =>
       exact⟨_,rfl,_,rfl,rfl,_,rfl,jj rfl ⟨y,_,S,a.bI,"answer",f',rfl,Y,ok,G.m8,λH' e=>⟨rfl,fin H' e⟩⟩⟩
     |true =>
       exact⟨_,rfl,_,rfl,rfl,_,rfl,d0 (by decide) ⟨y,_,S,a.gD,"ask",j',rfl,Y,ok,G.xB,λH' e=>⟨rfl,fin H' e⟩⟩⟩
   . have e1:(!decide (V.str (S.bd b).key=V.str "asleep"))=j':=by cases hb:S.bd b<;>first|(rw[hb]at ha;exact absurd rfl ha)|decide +kernel
     rw[decide_eq_false ha,Bool.false_and]at k;refine jj e1 (jj rfl (k H (bL.refl _)))
def pw (k:Wd) (es:List Hap):(thH k es).length <= es.length:=by unfold thH;rw[Kv];exact Mg ..
def tm {k:Wd}{es:List Hap}{i:Nat}(h:i < es.length):thH k (es.take (i+1))=if es[i].w=k then thH k (es.take i)++[(es[i].n,es[i].o)] else thH k (es.take i):=by
 rw[take_add_one,Kh h];exact sP k _ _
def vy {a b:Wd}(h:V.str a.key=V.str b.key):a=b:=by
 cases a<;>cases b<;>first|rfl|exact absurd h (by decide +kernel)
def Ib:Sp:=λvs H Q _=>∃ (st:D') (es:List Hap) (k j:Wd),vs=[.ref st,.str k.key,.str j.key]/\SV H st es/\es.length < 1000 /\
 ∀ (p:D') (H':Hp),bL H H'->TL H' p ((thH k es).drop (thH j es).length)->Q (.ref p) H'
def Gg (w:Kk) (ad:Ad) (K:Kc):Sp:=λvs H Q _=>∃ (a:YA) (q:YP) (S:YS) (st wt:D') (w0:Str) (b:Bool) (es:List Hap),vs=[.ref a.y,.ref st,.ref wt]/\Yn w ad.bf ad.dI ad.b8 ad.cg ad.aM H a q S/\q.Ok /\
 (∀ H,SqT K H wt [.str w0,.str (lkA b).key,.str (lkB b).key])/\SV H st es/\es.length < 1000/\∀ H',bL H H'->Q (.bl (sO q S es b)) H'
def Im (b:Bool):(lkA b).key=(lkW b).key:=by cases b<;>rfl
def HU (b:Bool):(lkB b).key=(lkX b).key:=by cases b<;>rfl
def Ig (G:Gs K mg a d):FnOk P w K mg base CX0 1 a.dA d.dA ["story","laid","fetched"] Ib:=by
 refine G.mE.ok gN (λvs H Q E h=>?_) (λcdv A' outer s' H vs Q E hr h=>?_)
 . obtain⟨st,es,k,j,rfl,_⟩:=h;rfl
 . obtain⟨st,es,k,j,rfl,⟨zs,hst,pr⟩,hl,kk⟩:=h;have hu:=dR hr;refine⟨_,((by exact kn (iN:=3) (tc:=yA (tOp rEq (tOp (Dg K) (tO 0) (tC (.int 0))) (tO 1))) (te:=IT (zW (tOp (Dg K) (tO 0) (tC (.int 1))) (zW (tOp (Dg K) (tO 0) (tC (.int 2))) GX))) (caps:=["laid"]) (js:=[1]) gN.nd rfl (KU rfl) (by rfl) rfl (mz rfl rfl (by decide +kernel) (by decide +kernel) rfl ⟨rfl,trivial⟩ rfl rfl) (by decide +kernel) ⟨⟨⟨_,rfl⟩,rfl,.inl rfl,.inl rfl⟩,trivial⟩ (fY (pv 0)) (λC s₃ H₃ Mq ex E'=>by exact nL (ao bW (@aI _ _ _ _ _ _ _ aH (pv 0) ai (λ_ _=>rfl)) (pv 1) (ax _))) (λC s₃ H₃ Mq ex E'=>by exact(@bj _ _ _ _ _ ((@aI _ _ _ _ _ _ _ aH (pv 0) ai (λ_ _=>rfl))∣((@aI _ _ _ _ _ _ _ aH (pv 0) ai (λ_ _=>rfl))∣aa)))))∪((@bi _ _ 4 _ _ _ _ gN.nd rfl (KU rfl) (bA be (by rfl) G.oi je ((by exact rR (tc:=yA (tOp rEq (tOp (Dg K) (tO 0) (tC (.int 0))) (tO 1))) (te:=tO 0) (caps:=["fetched"]) (js:=[2]) rfl (mz rfl rfl (by decide +kernel) (by decide +kernel) rfl ⟨rfl,trivial⟩ rfl rfl) (by decide +kernel) ⟨⟨⟨_,rfl⟩,rfl,.inl rfl,.inl rfl⟩,trivial⟩ (fY (pv 0)) (λC s₃ H₃ Mq ex E'=>by exact nL (ao bW (@aI _ _ _ _ _ _ _ aH (pv 0) ai (λ_ _=>rfl)) (pv 1) (ax _))) (λC s₃ H₃ Mq ex E'=>by exact(pv 0)))∣aa)) (by rfl) (by first|exact .inl rfl|exact .inr rfl|assumption))∪((gG nE (pv 3) (iX (pv 4)) lw)⁻¹))),?_⟩;refine⟨_,rfl,st,rfl,⟨_,SqL.of hst⟩,λD hD=>?_⟩;have pl:=aL pr;refine⟨λi mm ys H'=>i <= es.length/\mm=es.length - i/\Kx (PV H') (thH k (es.take i)) ys/\H' D=dk (.lst ys)/\∀ c o,c≠D->H c=dk o->H' c=dk o,⟨_,LJ _,rfl,.nil,a8,λc o n e=>by rw[ac n];exact e⟩,?_⟩;rintro i mm ys H2 ⟨hi,rfl,py,hD2,k2⟩;have e2:bL H H2:=λc o e=>k2 c o (λy=>by rw[y,hD]at e;cases e) e
   have yl:ys.length <= i:=by
    have h2:=pw k (es.take i);rw[Lu]at h2;have h3:=aL py;omega
   refine⟨hD2,Kg (show _ < 1000 by omega) (by decide),?_⟩;by_cases hii:i=es.length
   . refine .inl ⟨⟨_,SqL.of (e2 _ _ hst),by omega⟩,?_⟩;rw[hii,take_length]at py;clear hii yl k2 hi;refine⟨_,rfl,st,rfl,⟨_,SqL.of (e2 _ _ hst)⟩,λD2 hD3=>?_⟩;refine⟨λi mm zs' H'=>i <= es.length/\mm=es.length - i/\zs'.length=(thH j (es.take i)).length/\H' D2=dk (.lst zs')/\∀ c o,c≠D2->H2 c=dk o->H' c=dk o,⟨_,LJ _,rfl,rfl,a8,λc o n e=>by rw[ac n];exact e⟩,?_⟩;rintro i mm zs' H3 ⟨hi,rfl,pz,hD4,k3⟩;have e3:bL H2 H3:=λc o e=>k3 c o (λy=>by rw[y,hD3]at e;cases e) e
     have yl:zs'.length <= i:=by
      have h2:=pw j (es.take i);rw[Lu]at h2;omega
     refine⟨hD4,Kg (show _ < 1000 by omega) (by decide),?_⟩;by_cases hii:i=es.length
     . refine .inl ⟨⟨_,SqL.of (e3 _ _ (e2 _ _ hst)),by omega⟩,?_⟩;rw[hii,take_length]at pz;refine⟨D2,_,rfl,.inl (SqL.of hD4),?_⟩;refine⟨_,rfl,_,rfl,_,rfl,D,ys,rfl,SqL.of (e3 _ _ hD2),λp hp=>?_⟩;rw[rA];have e4:=e3.trans (ag (o:=.lst (ys.drop zs'.length)) hp);refine kk p _ (e2.trans e4) ⟨_,a8,?_⟩;rw[<-pz];exact j8 _ (Paired.mapP py λ_ _ h=>h.keep e4.kt)
     . have hlt:i < es.length:=by omega
       obtain⟨z,hz,t,rfl,ht⟩:=Paired.at' pr (Kh hlt);refine .inr ⟨⟨_,_,SqL.of (e3 _ _ (e2 _ _ hst)),hz⟩,?_⟩;rintro v H4 ⟨rfl,hv⟩;have hv:=hv _ (SqL.of (e3 _ _ (e2 _ _ hst)));rw[hz]at hv;cases hv;refine⟨_,rfl,t,_,_,_,rfl,rfl,SqT.of (e3 _ _ (e2 _ _ ht)),rfl,_,rfl,rfl,_,rfl,?_⟩;have hth:=tm (k:=j) hlt;by_cases hk:es[i].w=j
       . refine jj (Qt (by rw[hk])) ?_;rw[Qq hk]at hth;refine⟨_,rfl,hD4,_,?_,?_,rfl,?_,a8,λc o n e=>?_⟩
         . omega
         . omega
         . rw[hth,JX,JX,pz];rfl
         . rw[ac n];exact k3 c o n e
       . refine d0 (by rw[Qs];exact λz=>hk (vy z)) ?_;rw[Qr hk]at hth;exact⟨_,by omega,by omega,rfl,by rw[hth];exact pz,hD4,k3⟩
   . have hlt:i < es.length:=by omega
     obtain⟨z,hz,t,rfl,ht⟩:=Paired.at' pr (Kh hlt);refine .inr ⟨⟨_,_,SqL.of (e2 _ _ hst),hz⟩,?_⟩;rintro v H3 ⟨e3',hv⟩;have hv:=hv _ (SqL.of (e2 _ _ hst));subst H3;rw[hz]at hv;cases hv;refine⟨_,rfl,t,_,_,_,rfl,rfl,SqT.of (e2 _ _ ht),rfl,_,rfl,rfl,_,rfl,?_⟩;have hth:=tm (k:=k) hlt;by_cases hk:es[i].w=k
     . refine jj (Qt (by rw[hk])) ?_;rw[Qq hk]at hth;refine⟨_,rfl,t,_,_,_,rfl,rfl,SqT.of (e2 _ _ ht),rfl,_,rfl,t,_,_,_,rfl,rfl,SqT.of (e2 _ _ ht),rfl,l2,λt2 ht2=>?_⟩;have e3:=ag (o:=.tup [V.int es[i].n,V.int es[i].o]) ht2;have kt:Kt H2 (upd (upd H2 t2 (.tup [V.int es[i].n,V.int es[i].o])) D (.lst (ys++[.ref t2]))):=λb vs e=>gH (e3 _ _ hD2) (λ_ z=>by cases z) _ _ _ (e3 _ _ e)
       refine⟨e3 _ _ hD2,_,?_,?_,rfl,?_,a8,λc o n e=>?_⟩
       . omega
       . omega
       . rw[hth];exact Kx.snoc (Paired.mapP py λ_ _ h=>h.keep kt) ⟨t2,rfl,gH (e3 _ _ hD2) (λ_ z=>by cases z) _ _ _ a8⟩
       . rw[ac n];exact e3 _ _ (k2 c o n e)
     . refine d0 (by rw[Qs];exact λz=>hk (vy z)) ?_;rw[Qr hk]at hth;exact⟨_,by omega,by omega,rfl,by rw[hth];exact py,hD2,k2⟩
def H0 (G:Gs K mg a d):FnOk P w K mg base CX0 3 a.gi d.gi ["yard","story","words"] (Gg w a K):=by
 have PY:FnOk P w K mg base CX0 2 _ _ _ _:=D0 G;have Qf:FnOk P w K mg base CX0 1 _ _ _ _:=Ig G;refine G.l7.ok ue (λvs H Q E h=>?_) (λcdv A' outer s' H vs Q E hr h=>?_)
 . obtain⟨y,q,S,st,wt,w0,b,es,rfl,_⟩:=h;rfl
 . obtain⟨y,q,S,st,wt,w0,b,es,rfl,Y,ok,ht,hst,hl,k⟩:=h;have hu:=dR hr;refine⟨_,((dY sv (aJ PY (hr.mono (by decide)) (by rfl) G.gL G.dQ.kp G.gw .nil av ((pv 0)∣((pv 2)∣aa))) (bA be (by rfl) G.oi je ((aJ Qf (hr.mono (by decide)) (by rfl) G.sA G.mE.kp G.sK .nil av ((pv 1)∣((@aI _ _ _ _ _ _ _ aH (pv 2) ai (λ_ _=>rfl))∣((@aI _ _ _ _ _ _ _ aH (pv 2) ai (λ_ _=>rfl))∣aa))))∣aa)) (ax _))⁻¹),?_⟩;refine⟨_,rfl,_,rfl,y,_,S,wt,w0,b,rfl,Y,ok,ht,λH1 e1=>?_⟩;refine⟨_,rfl,_,rfl,wt,_,_,_,rfl,rfl,ht _,rfl,_,rfl,wt,_,_,_,rfl,rfl,ht _,rfl,st,es,lkW b,lkX b,by rw[<-Im,<-HU];rfl,hst.same e1,hl,λp H2 e2 hp=>?_⟩;obtain⟨ys,hp,pr⟩:=hp;refine⟨p,ys,rfl,.inl (SqL.of hp),rfl,?_⟩;have z:=k H2 (e1.trans e2);have le:=aL pr;rw[length_drop]at le;unfold sO at z;by_cases y:wN q S b=(((thH (lkW b) es).length - (thH (lkX b) es).length:Nat):Int)
   . rw[decide_eq_false λw=>w y]at z;rw[Qt (by rw[y,<-le])];exact z
   . rw[Qt y]at z;rw[decide_eq_false λw=>y (by rw[le];exact ky w)];exact z
def Ee (w:Kk) (ad:Ad):Sp:=λvs H Q _=>∃ (a:YA) (q:YP) (S:YS) (hs:List Hx),vs=[.ref a.y]/\Yn w ad.bf ad.dI ad.b8 ad.cg ad.aM H a q S/\q.Ok/\S.hs=hs.map Hx.d/\hs.length < 900/\∀ H',bL H H'->Q (.bl (B9 q S hs)) H'
def DA (G:Gs K mg a d):FnOk P w K mg base CX0 4 a.Fb d.Fb ["yard"] (Ee w a):=by
 have PN:FnOk P w K mg base CX0 1 _ _ _ _:=rM G;have PM:FnOk P w K mg base CX0 1 _ _ _ _:=jC G;have Pp:FnOk P w K mg base CX0 1 _ _ _ _:=(tz G).imp λvs H Q E=>AM
 have PZ:FnOk P w K mg base CX0 3 _ _ _ _:=FV G;have Qd:FnOk P w K mg base CX0 3 _ _ _ _:=H0 G;have Qg:FnOk P w K mg base CX0 3 _ _ _ _:=EQ G;refine G.D9.ok zj (λvs H Q E h=>?_) (λcdv A' outer s' H vs Q E hr h=>?_)
 . obtain⟨y,q,S,hs,rfl,_⟩:=h;rfl
 . obtain⟨y,q,S,hs,rfl,Y,ok,hh,hl,k⟩:=h;have hu:=dR hr;refine⟨_,((@bi _ _ 1 _ _ _ _ zj.nd rfl (KU rfl) (aN (pv 0) G.ak G.iw PN (hr.mono (by decide)) G.jM .nil av) (by rfl) (by first|exact .inl rfl|exact .inr rfl|assumption))∪((aO (ao oR (aJ PZ (hr.mono (by decide)) (by rfl) G.rV G.lW.kp G.sZ .nil av ((pv 1)∣aa)) ib (ax _)) (bF⁻¹) aq)∪((aO (kI ((pH (mF (az (aN (pv 0) G.ak G.bx PM (hr.mono (by decide)) G.bG .nil av) G.aF G.d5 Pp (hr.mono (by decide)) G.dW .nil av (ai∣aa)) (λ_=>rfl)) (kF (mF (az (aN (pv 0) G.ak G.bx PM (hr.mono (by decide)) G.bG .nil av) G.aF G.d5 Pp (hr.mono (by decide)) G.dW .nil av (ai∣aa)) (λ_=>rfl))))).pt) (bF⁻¹) aq)∪((aO (kI ((pH (cJ (aJ Qd (hr.mono (by decide)) (by rfl) G.oN G.l7.kp G.oZ .nil av ((pv 0)∣((pv 1)∣((fm (v:=.ref a.gD) (by rfl) G.wC rfl)∣aa))))) (kF (cJ (aJ Qd (hr.mono (by decide)) (by rfl) G.oN G.l7.kp G.oZ .nil av ((pv 0)∣((pv 1)∣((fm (v:=.ref a.bI) (by rfl) G.lM rfl)∣aa)))))))).pt) (bF⁻¹) aq)∪((Hw (aJ Qg (hr.mono (by decide)) (by rfl) G.nR G.jJ.kp G.nS .nil av ((pv 0)∣(ai∣aa))) (De (aJ Qg (hr.mono (by decide)) (by rfl) G.nR G.jJ.kp G.nS .nil av ((pv 0)∣(ai∣aa)))))⁻¹))))),?_⟩;refine⟨_,rfl,dM Y.ob (dC (by decide +kernel)) ⟨y,_,S,rfl,Y,λl ts nl dv=>?_⟩⟩;have e1:=ag (o:=.lst ts) nl;have dv':=DVs.fl (λb vs e=>e1 b _ e) Y.fl dv;have hl1:upd H l (.lst ts) l=dk (.lst ts):=a8;generalize upd H l (.lst ts)=H1 at e1 dv' hl1 |-;have Y1:=Y.same e1;rw[hh]at dv';have SX1:SX H1 l hs:=⟨ts,hl1,CK dv'⟩
   clear dv dv' nl;refine⟨_,rfl,l,hs,rfl,SX1,hl,λH2 e2=>?_⟩;have Y2:=Y1.same e2;have SX2:=SX1.same e2;have E2:=e1.trans e2;clear SX1 Y1 e1 e2 hl1;unfold B9 at k;cases hf:c7 [] hs with
  |some n =>
    rw[hf,Qr (by intro z;cases z)]at k;exact⟨rfl,_,rfl,jt (k _ E2)⟩
  |none =>
    rw[hf,Qq rfl]at k;refine⟨rfl,_,rfl,iE ?_⟩;have hr:=jQ hf;generalize rls hs=rs at k hr;subst hr;rw[Kv]at hl;have S2:SV H2 l rs:=by
     obtain⟨ts,h1,h2⟩:=SX2;exact⟨ts,h1,Du h2⟩
    clear SX2;refine⟨λb H'=>(b=j' ↔ ¬ (S.rs f'=[]/\S.rs j'=[]))/\bL H2 H',?_,?_⟩
    . refine⟨_,rfl,dM Y2.ob (dC (by decide +kernel)) ⟨y,_,S,rfl,Y2,dM Y2.x.st.ob (bU (by decide +kernel) (by decide +kernel)) ⟨y.sa,S.m,S.rs,f',rfl,Y2.x.st,λp1 t1 hp1 dv1=>⟨_,.inl ⟨_,SqL.of a8,rfl⟩,?_⟩⟩⟩⟩;have l1:=ic dv1;rw[Kv]at l1;have e3:=ag (o:=.lst t1) hp1;generalize upd H2 p1 (.lst t1)=H3 at e3 |-;cases hr1:S.rs f' with
     |cons z zs =>
       rw[hr1]at l1;cases t1 with
      |nil=>cases l1
      |cons u us=>exact jt ⟨⟨λ_ w=>(by cases w.1),λ_=>rfl⟩,e3⟩
     |nil =>
       rw[hr1]at l1;cases t1 with
      |cons u us=>cases l1
      |nil =>
        refine iE ?_;have Y3:=Y2.same e3;refine⟨_,rfl,dM Y3.ob (dC (by decide +kernel)) ⟨y,_,S,rfl,Y3,dM Y3.x.st.ob (bU (by decide +kernel) (by decide +kernel)) ⟨y.sa,S.m,S.rs,j',rfl,Y3.x.st,λp2 t2 hp2 dv2=>⟨_,.inl ⟨_,SqL.of a8,rfl⟩,?_,e3.trans (ag hp2)⟩⟩⟩⟩;have l2':=ic dv2;rw[Kv]at l2';cases hr2:S.rs j' with
       |cons z zs =>
         rw[hr2]at l2';cases t2 with
        |nil=>cases l2'
        |cons u us=>exact⟨λ_ w=>(by cases w.2),λ_=>rfl⟩
       |nil =>
         rw[hr2]at l2';cases t2 with
        |cons u us=>cases l2'
        |nil=>exact⟨λz=>(by cases z),λz=>absurd ⟨rfl,rfl⟩ z⟩
    rintro b H3 ⟨hb,e3⟩;by_cases hz:S.rs f'=[]/\S.rs j'=[]
    rotate_left
    . rw[Qr hz]at k;rw[hb.mpr hz];exact jt (k _ (E2.trans e3))
    . rw[Qq hz]at k;have hbf:b=f':=by
       cases b with
      |false=>rfl
      |true=>exact absurd hz (hb.mp rfl)
      subst hbf;refine iE ?_;have Y3:=Y2.same e3;have S3:=S2.same e3;have E3:=E2.trans e3;clear Y2 S2 E2 e3 hb;refine⟨λb H'=>b=(sO q S rs j' || sO q S rs f')/\bL H H',?_,?_⟩
      . refine⟨_,rfl,_,rfl,y,q,S,l,a.gD,"ask",j',rs,rfl,Y3,ok,G.xB,S3,by omega,λH4 e4=>⟨_,rfl,?_⟩⟩;cases sO q S rs j' with
       |true=>exact jt ⟨rfl,E3.trans e4⟩
       |false =>
         refine iE ⟨_,rfl,_,rfl,y,q,S,l,a.bI,"answer",f',rs,rfl,Y3.same e4,ok,G.m8,S3.same e4,by omega,λH5 e5=>⟨_,rfl,?_⟩⟩;exact⟨rfl,E3.trans (e4.trans e5)⟩
      rintro b H4 ⟨rfl,E4⟩;rw[<-Bool.or_assoc]at k;cases hm:(sO q S rs j' || sO q S rs f') with
     |true =>
       rw[hm]at k;exact jt (k _ E4)
     |false =>
       rw[hm,Bool.false_or]at k;refine iE ?_;refine⟨_,rfl,y,q,S,f',rfl,Y.same E4,ok,λH5 e5=>⟨_,rfl,?_⟩⟩;cases ho:ovB q S f' with
      |true =>
        rw[ho]at k;exact jt (k _ (E4.trans e5))
      |false =>
        rw[ho,Bool.false_or]at k;exact iE ⟨_,rfl,y,q,S,j',rfl,Y.same (E4.trans e5),ok,λH6 e6=>k _ (E4.trans (e5.trans e6))⟩
def Bz:Sp:=λvs H Q _=>∃ (st:D') (es:List Hap) (k:Wd),vs=[.ref st,.str k.key]/\SV H st es/\es.length < 1000 /\
 ∀ (p:D') (ys:List V) (H':Hp),bL H H'->H' p=dk (.lst ys)->ys.length=(thH k es).length->Q (.ref p) H'
def Cs (w:Kk) (ad:Ad):Sp:=λvs H Q _=>∃ (a:YA) (q:YP) (S:YS) (b:Bool),vs=[.ref a.y,.int (sdI b),.int q.p.s,.int q.p.R]/\Yn w ad.bf ad.dI ad.b8 ad.cg ad.aM H a q S/\q.Ok/\∀ H',bL H H'->Q (.int (wN q S b)) H'
def Cq (G:Gs K mg a d):FnOk P w K mg base CX0 1 a.dF d.dF ["story","word"] Bz:=by
 refine G.ij.ok qp (λvs H Q E h=>?_) (λcdv A' outer s' H vs Q E hr h=>?_)
 . obtain⟨st,es,k,rfl,_⟩:=h;rfl
 . obtain⟨st,es,k,rfl,⟨zs,hst,pr⟩,hl,kk⟩:=h;have hu:=dR hr;refine⟨_,((by exact rR (tc:=yA (tOp rEq (tOp (Dg K) (tO 0) (tC (.int 0))) (tO 1))) (te:=tSl (IH K) (tO 0) (GR (tC (.int 1))) zJ) (caps:=["word"]) (js:=[1]) rfl (mz rfl rfl (by decide +kernel) (by decide +kernel) rfl ⟨rfl,trivial⟩ rfl rfl) (by decide +kernel) ⟨⟨⟨_,rfl⟩,rfl,.inl rfl,.inl rfl⟩,trivial⟩ (fY (pv 0)) (λC s₃ H₃ Mq ex E'=>by exact nL (ao bW (@aI _ _ _ _ _ _ _ aH (pv 0) ai (λ_ _=>rfl)) (pv 1) (ax _))) (λC s₃ H₃ Mq ex E'=>by exact(gG Dh (pv 0) (iX ai) lw)))⁻¹),?_⟩;refine⟨_,rfl,st,rfl,⟨_,SqL.of hst⟩,λD hD=>?_⟩;have pl:=aL pr;refine⟨λi mm zs' H'=>i <= es.length/\mm=es.length - i/\zs'.length=(thH k (es.take i)).length/\H' D=dk (.lst zs')/\∀ c o,c≠D->H c=dk o->H' c=dk o,⟨_,LJ _,rfl,rfl,a8,λc o n e=>by rw[ac n];exact e⟩,?_⟩;rintro i mm zs' H3 ⟨hi,rfl,pz,hD4,k3⟩;have e3:bL H H3:=λc o e=>k3 c o (λy=>by rw[y,hD]at e;cases e) e
   have yl:zs'.length <= i:=by
    have h2:=pw k (es.take i);rw[Lu]at h2;omega
   refine⟨hD4,Kg (show _ < 1000 by omega) (by decide),?_⟩;by_cases hii:i=es.length
   . refine .inl ⟨⟨_,SqL.of (e3 _ _ hst),by omega⟩,?_⟩;rw[hii,take_length]at pz;exact kk D _ _ e3 hD4 pz
   . have hlt:i < es.length:=by omega
     obtain⟨z,hz,t,rfl,ht⟩:=Paired.at' pr (Kh hlt);refine .inr ⟨⟨_,_,SqL.of (e3 _ _ hst),hz⟩,?_⟩;rintro v H4 ⟨e4',hv⟩;have hv:=hv _ (SqL.of (e3 _ _ hst));subst H4;rw[hz]at hv;cases hv;refine⟨_,rfl,t,_,_,_,rfl,rfl,SqT.of (e3 _ _ ht),rfl,_,rfl,rfl,_,rfl,?_⟩;have hth:=tm (k:=k) hlt;by_cases hk:es[i].w=k
     . refine jj (Qt (by rw[hk])) ?_;rw[Qq hk]at hth;refine⟨_,rfl,_,rfl,t,_,rfl,SqT.of (e3 _ _ ht),(by show ¬ (HT.sIx 3 0 (dk 1)=0/\HT.sIx 3 3 JZ=3);decide),λpp npp=>?_⟩;have e4:=ag (o:=.tup (lP [V.str es[i].w.key,V.int es[i].n,V.int es[i].o] (dk 1) JZ)) npp;refine⟨e4 _ _ hD4,_,?_,?_,rfl,?_,a8,λc o n e=>?_⟩
       . omega
       . omega
       . rw[hth,JX,JX,pz];rfl
       . rw[ac n];exact e4 _ _ (k3 c o n e)
     . refine d0 (by rw[Qs];exact λz=>hk (vy z)) ?_;rw[Qr hk]at hth;exact⟨_,by omega,by omega,rfl,by rw[hth];exact pz,hD4,k3⟩
def um (G:Gs K mg a d):FnOk P w K mg base CX0 2 a.fQ d.fQ ["yard","side","size","rounds"] (Cs w a):=by
 have PM:FnOk P w K mg base CX0 1 _ _ _ _:=jC G;have Pn:FnOk P w K mg base CX0 1 _ _ _ _:=(lR G).imp λvs H Q E=>HL
 refine G.kU.ok jo (λvs H Q E h=>?_) (λcdv A' outer s' H vs Q E hr h=>?_)
 . obtain⟨y,q,S,b,rfl,_⟩:=h;rfl
 . obtain⟨y,q,S,b,rfl,Y,ok,k⟩:=h;have hu:=dR hr;refine⟨_,((@gE _ _ _ _ _ _ (@aI _ _ _ _ _ _ _ ba (@bQ _ _ _ _ ((@bj _ _ _ _ _ (au∣(au∣aa)))∣((@bj _ _ _ _ _ (au∣(au∣aa)))∣aa))) (pv 1) (λ_ _=>rfl)) (uk rfl (eg (bV (i:=4) jo.nd rfl (KU rfl)) (eg (bV (i:=5) jo.nd rfl (KU rfl)) pL))) (by rfl) (by rfl) (by rfl))∪((@cy _ _ _ _ _ _ _ _ nV (@cy _ _ _ _ _ _ _ _ my (az (aN (pv 0) G.ak G.bx PM (hr.mono (by decide)) G.bG .nil av) G.aF G.bT Pn (hr.mono (by decide)) G.cr .nil av ((pv 4)∣aa)) (az (aN (pv 0) G.ak G.bx PM (hr.mono (by decide)) G.bG .nil av) G.aF G.bT Pn (hr.mono (by decide)) G.cr .nil av ((pv 5)∣aa))) (@cy _ _ _ _ _ _ _ _ ur (pv 2) (pv 3)))⁻¹)),?_⟩;refine⟨l2,λt1 n1=>⟨l2,λt2 n2=>⟨l2,λp np=>?_⟩⟩⟩;have e1:=ag (o:=.tup [V.str "answered",V.str "handed"]) n1;have v1:=a8 (H:=H) (a:=t1) (o:=.tup [V.str "answered",V.str "handed"]);generalize upd H t1 (.tup [V.str "answered",V.str "handed"])=H1 at e1 v1 n2 np |-;have e2:=ag (o:=.tup [V.str "asked",V.str "taken"]) n2;have v2:=a8 (H:=H1) (a:=t2) (o:=.tup [V.str "asked",V.str "taken"]);generalize upd H1 t2 (.tup [V.str "asked",V.str "taken"])=H2 at e2 v2 np |-;have e3:=ag (o:=.lst [V.ref t1,V.ref t2]) np;have v3:=a8 (H:=H2) (a:=p) (o:=.lst [V.ref t1,V.ref t2]);generalize upd H2 p (.lst [V.ref t1,V.ref t2])=H3 at e3 v3 |-;have Y3:=Y.same (e1.trans (e2.trans e3));have tt:∃ t,atI [V.ref t1,V.ref t2] (sdI b)=dk (.ref t)/\H3 t=dk (.tup [V.str (lkA b).key,V.str (lkB b).key]):=by
    cases b
    . exact⟨t1,rfl,e3 _ _ (e2 _ _ v1)⟩
    . exact⟨t2,rfl,e3 _ _ v2⟩
   obtain⟨t,ht,vt⟩:=tt;refine⟨_,rfl,p,_,_,_,rfl,rfl,SqL.of v3,ht,?_⟩;refine⟨t,_,rfl,SqT.of vt,rfl,_,_,rfl,_,_,rfl,rfl,?_⟩;refine⟨_,rfl,dM Y3.ob (dC (by decide +kernel)) ⟨y,_,S,rfl,Y3,dM Y3.x.st.ob (bU (by decide +kernel) (by decide +kernel)) ⟨_,rfl,y.sa,S.m,S.rs,lkA b,rfl,Y3.x.st,?_⟩⟩⟩;refine⟨_,rfl,dM Y3.ob (dC (by decide +kernel)) ⟨y,_,S,rfl,Y3,dM Y3.x.st.ob (bU (by decide +kernel) (by decide +kernel)) ⟨_,rfl,y.sa,S.m,S.rs,lkB b,rfl,Y3.x.st,?_⟩⟩⟩;have s0:=ok.ok.s0;have s8:=ok.ok.s8;exact⟨_,_,rfl,rfl,_,rfl,_,rfl,_,_,rfl,rfl,pV (by omega) (by omega),_,_,rfl,rfl,ok.ok.sR,k _ (e1.trans (e2.trans e3))⟩
def AQ:Sp:=λvs H Q _=>∃ (l:D') (hs:List Hx),vs=[.ref l]/\SX H l hs/\hs.length < 900/\∀ H',bL H H'->Q (.bl (decide (c7 [] hs=JZ))) H'
def uB (G:Gs K mg a d):FnOk P w K mg base CX0 1 a.bD d.bD ["story"] AQ:=by
 refine G.eV.ok aW (λvs H Q E h=>?_) (λcdv A outer s H vs Q E hr h=>?_)
 . obtain⟨l,hs,rfl,_⟩:=h;rfl
 . obtain⟨l,hs,rfl,S,hl,k⟩:=h;have hu:=dR hr;refine⟨_,((@bi _ _ 1 _ _ _ _ aW.nd rfl (KU rfl) (@zb _ _ _ _ _ (@oC _ _ _ _ _ _ _ _ _ au (@bQ _ _ _ _ aa) (@oC _ _ _ _ _ _ _ _ _ au (@bQ _ _ _ _ aa) zN)) rfl rfl (by simp) (by decide)) (by rfl) (by first|exact .inl rfl|exact .inr rfl|assumption))∪((@bi _ _ 2 _ _ _ _ aW.nd rfl (KU rfl) (@zb _ _ _ _ _ (@oC _ _ _ _ _ _ _ _ _ au ai (@oC _ _ _ _ _ _ _ _ _ au ai zN)) rfl rfl (by simp) (by decide)) (by rfl) (by first|exact .inl rfl|exact .inr rfl|assumption))∪((@bi _ _ 3 _ _ _ _ aW.nd rfl (KU rfl) km (by rfl) (by first|exact .inl rfl|exact .inr rfl|assumption))∪((@bi _ _ 4 _ _ _ _ aW.nd rfl (KU rfl) km (by rfl) (by first|exact .inl rfl|exact .inr rfl|assumption))∪((@kH _ _ _ _ _ _ _ _ Lm rfl (@fY _ _ _ _ (pv 0)) (@uk _ _ _ _ _ _ rfl (@eg _ _ _ _ _ (bV (i:=5) aW.nd rfl (KU rfl)) (@eg _ _ _ _ _ (bV (i:=6) aW.nd rfl (KU rfl)) (@eg _ _ _ _ _ (bV (i:=7) aW.nd rfl (KU rfl)) pL (by rfl)) (by rfl)) (by rfl)) (by rfl) (by rfl)) (@ar _ _ _ (@aO _ _ _ _ _ _ _ _ (ao bW (pv 5) au (ax _)) ((@aO _ _ _ _ _ _ _ _ (wK (zM hu (pv 6) (pv 3))) (bF⁻¹) aq)∪((@l5 _ _ _ _ _ _ _ _ _ hu (pv 3) (pv 6) bF rfl)∪(@ar _ _ _ (@aK _ _ _ _ (@lV _ _ _ _ _ _ _ _ _ _ _ _ KG K9 PySem.F.type_list_append dX (kW hu (pv 1) au (λ_ _=>rfl)) ((@bj _ _ _ _ _ ((pv 6)∣((pv 7)∣aa)))∣aa) (by rfl) (by rfl) (by rfl) (by rfl) (by rfl)) (by rfl))))) (@ar _ _ _ (@aO _ _ _ _ _ _ _ _ (ao bW (pv 5) au (ax _)) ((@aO _ _ _ _ _ _ _ _ (wK (jT hu (pv 6) (pv 4))) (bF⁻¹) aq)∪((@aK _ _ _ _ (mi (pv 4) (pv 6) ⟨rfl,rfl,rfl,rfl⟩) (by rfl))∪(@ar _ _ _ (@aK _ _ _ _ (@lV _ _ _ _ _ _ _ _ _ _ _ _ KG K9 PySem.F.type_list_append dX (kW hu (pv 1) au (λ_ _=>rfl)) ((@bj _ _ _ _ _ ((pv 6)∣((pv 7)∣aa)))∣aa) (by rfl) (by rfl) (by rfl) (by rfl) (by rfl)) (by rfl))))) ((@aO _ _ _ _ _ _ _ _ (kI ((pH (ao HW (kW hu (pv 2) (pv 5) (λ_ _=>rfl)) (bA be (by rfl) G.oi je ((kW hu (pv 1) (pv 5) (λ_ _=>rfl))∣aa)) (ax _)) (kF (ao (AH hr.units) (@aI _ _ _ _ _ _ _ ba (kW hu (pv 1) (pv 5) (λ_ _=>rfl)) (kW hu (pv 2) (pv 5) (λ_ _=>rfl)) (λ_ _=>rfl)) (@bj _ _ _ _ _ ((pv 6)∣((pv 7)∣aa))) (ax _))))).pt) (bF⁻¹) aq)∪((@l5 _ _ _ _ _ _ _ _ _ hu (pv 2) (pv 5) (@cy _ _ _ _ _ _ _ _ lS (kW hu (pv 2) (pv 5) (λ_ _=>rfl)) ai) rfl)∪(@ar _ _ _ (@aO _ _ _ _ _ _ _ _ (ao bW (pv 5) au (ax _)) (@ar _ _ _ (@l5 _ _ _ _ _ _ _ _ _ hu (pv 4) (pv 6) bF rfl)) (@ar _ _ _ (@aK _ _ _ _ (mi (pv 3) (pv 6) ⟨rfl,rfl,rfl,rfl⟩) (by rfl))))))))))) (by intro _;rfl))∪(bF⁻¹)))))),?_⟩;intro ld nld;refine⟨pT,λq1 nl1=>⟨pT,λq2 nl2=>?_⟩⟩;have a0:=ag (o:=.dK []) nld;have a1:=ag (o:=.lst []) nl1;have a2:=ag (o:=.lst []) nl2;have b0:=a2 _ _ (a1 _ _ (a8 (H:=H) (a:=ld) (o:=.dK [])));have b1:=a2 _ _ (a8 (a:=q1) (o:=.lst []));have b2:=a8 (H:=upd (upd H ld (.dK [])) q1 (.lst [])) (a:=q2) (o:=.lst []);have n12:q1≠q2:=ae (a8 (H:=upd H ld (.dK []))) nl2;have f1:=cK a0 nl1;have f2:=cK (a0.trans a1) nl2;have a3:=a0.trans (a1.trans a2);clear a0 a1 a2;generalize upd (upd (upd H ld (.dK [])) q1 (.lst [])) q2 (.lst [])=H1 at b0 b1 b2 a3 |-;refine⟨b0,[(.inr "taken",.ref q1),(.inr "handed",.ref q2)],rfl,by show 2 <= 15;decide,?_⟩;rw[D3 (mY (by decide +kernel))];have c1:upd H1 ld (.dK [(.inr "taken",.ref q1),(.inr "handed",.ref q2)]) q1=dk (.lst []):=by rw[ac (λy=>by rw[y,b0]at b1;cases b1)];exact b1
   have c2:upd H1 ld (.dK [(.inr "taken",.ref q1),(.inr "handed",.ref q2)]) q2=dk (.lst []):=by rw[ac (λy=>by rw[y,b0]at b2;cases b2)];exact b2
   have c0:=a8 (H:=H1) (a:=ld) (o:=.dK [(.inr "taken",.ref q1),(.inr "handed",.ref q2)]);have a4:bL H (upd H1 ld (.dK [(.inr "taken",.ref q1),(.inr "handed",.ref q2)])):=λc o e=>by rw[ac (ae e nld)];exact a3 c o e
   generalize upd H1 ld (.dK [(.inr "taken",.ref q1),(.inr "handed",.ref q2)])=H2 at c0 c1 c2 a4 |-;clear b0 b1 b2 a3 nl1 nl2;intro sn nsn;refine⟨a8,[(.inr "taken",.int 0),(.inr "handed",.int 0)],rfl,by show 2 <= 15;decide,?_⟩;rw[D3 (mY (by decide +kernel)),dU];intro ud nud tk ntk;have s1:=ag (o:=.dK [(.inr "taken",.int 0),(.inr "handed",.int 0)]) nsn;have s2:=ag (o:=.dK []) nud;have s3:=ag (o:=.dK []) ntk;have v1:=s3 _ _ (s2 _ _ (a8 (H:=H2) (a:=sn) (o:=.dK [(.inr "taken",.int 0),(.inr "handed",.int 0)])));have v2:=s3 _ _ (a8 (a:=ud) (o:=.dK []));have v3:=a8 (H:=upd (upd H2 sn (.dK [(.inr "taken",.int 0),(.inr "handed",.int 0)])) ud (.dK [])) (a:=tk) (o:=.dK []);have m1:ld≠sn:=ae c0 nsn;have m2:ld≠ud:=ae (s1 _ _ c0) nud;have m3:ld≠tk:=ae (s2 _ _ (s1 _ _ c0)) ntk;have m4:sn≠ud:=ae a8 nud;have m5:sn≠tk:=ae (s2 _ _ a8) ntk;have m6:ud≠tk:=ae a8 ntk;have fsn:=cK a4 nsn;have fud:=cK (a4.trans s1) nud;have ftk:=cK (a4.trans (s1.trans s2)) ntk;have s4:=s1.trans (s2.trans s3);clear s1 s2 s3 nsn nud ntk;generalize upd (upd (upd H2 sn (.dK [(.inr "taken",.int 0),(.inr "handed",.int 0)])) ud (.dK [])) tk (.dK [])=H3 at v1 v2 v3 s4 |-;obtain⟨z,hz⟩:∃ z:RA,z=⟨ld,sn,λb=>if b then q1 else q2,ud,tk⟩:=⟨_,rfl⟩
   have R3:RS H3 z [] [] []:=by
    rw[hz];exact⟨s4 _ _ c0,v1,λb=>⟨[],by cases b;exact s4 _ _ c2;exact s4 _ _ c1,by cases b<;>exact .nil⟩,v2,v3,n12,m1,m2,m3,m4,m5,m6⟩
   have fz:∀ c,z.own c->H c=JZ:=λc hc=>by
    rw[hz]at hc;rcases hc with y|y|y|y|y|y<;>(rw[y];first|exact nld|exact fsn|exact f1|exact f2|exact fud|exact ftk)
   have E3:=a4.trans s4;rw[show ld=z.ld by rw[hz],show sn=z.sn by rw[hz],show ud=z.ud by rw[hz],show tk=z.tk by rw[hz]];clear hz c0 c1 c2 a4 s4 v1 v2 v3 m1 m2 m3 m4 m5 m6 n12 fsn fud ftk nld f1 f2;have up:∀ {H':Hp} {c:D'} {o:HO},z.own c->bL H H'->bL H (upd H' c o):=λ{H' c o} hc E b u e=>by
    rw[ac (ae e (fz c hc))];exact E b u e
   obtain⟨ts,e0,pr⟩:=S;have lt:=aL pr;refine⟨_,rfl,l,rfl,⟨_,SqL.of (E3 _ _ e0)⟩,?_⟩;refine sD (K:=K) (a:=l) (xs:=ts) (λi σ H'=>∃ ah un uh go do',(∃ v5 v6 v7,σ=[dk (.ref l),dk (.ref z.ld),dk (.ref z.sn),dk (.ref z.ud),dk (.ref z.tk),v5,v6,v7])/\RS H' z ah go do'/\hs.take i=ah.map Hx.h/\JI ah un uh go do'/\bL H H'/\c7 ah (hs.drop i)=c7 [] hs)
    ⟨[],[],[],[],[],⟨_,_,_,rfl⟩,R3,rfl,JI.zero,E3,rfl⟩ (λ_ _ _ _ uq19=>by(obtain⟨_,_,_,_,_,_,_,_,_,y,_⟩:=uq19;exact SqL.of (y _ _ e0))) ?_ ?_
   . clear R3 E3;rintro i y σ H4 hi ⟨ah,un,uh,go,do',⟨v5,v6,v7,rfl⟩,R,hta,I,E4,hf⟩;obtain⟨h,c,hh,rfl,vc⟩:=EG pr hi;have hil:i < hs.length:=(Kw.mp hh).1;have hal:=IB (Nat.le_of_lt hil) hta;obtain⟨i1,i2,i3,i4⟩:=I.lens;have v4:=E4 _ _ vc;refine⟨c,_,rfl,SqT.of v4,rfl,_,_,rfl,_,_,rfl,_,_,rfl,rfl,?_⟩;have bad:∀ {H':Hp},Gu ah h=f'->bL H H'->Q (.bl f') H':=λ{H'} hfx E=>by
      have q:=k H' E;have:c7 [] hs=dk ah.length:=by
       rw[<-hf];cases h with
      |n b=>exact qQ hh
      |h x =>
        have hfx':eB ah x=f':=hfx;rw[oG hh,hfx'];rfl
      rw[this]at q;exact q
     have good:∀ x,h=.h x->eB ah x=j'->hs.take (i+1)=(ah++[x]).map Hx.h/\c7 (ah++[x]) (hs.drop (i+1))=c7 [] hs:=λx hx hb=>by
      subst hx;rw[oG hh,Qq hb]at hf;exact⟨GP hh hta,hf⟩
     obtain⟨b,hb⟩|⟨b,n,o,rfl⟩:(∃ b,h.w=lkX b)\/∃ b n o,h=.h ⟨lkW b,n,o⟩:=by
      cases h with
     |n b=>exact .inl ⟨b,Ic b⟩
     |h x =>
       obtain⟨w,n,o⟩:=x;cases w with
      |asked=>exact .inr ⟨j',n,o,rfl⟩
      |taken=>exact .inl ⟨j',rfl⟩
      |answered=>exact .inr ⟨f',n,o,rfl⟩
      |handed=>exact .inl ⟨f',rfl⟩
     . -- fetched
       rw[hb]at v4 |-;refine⟨_,rfl,rfl,_,rfl,cW (sne (HK b)) ⟨_,rfl,rfl,_,rfl,cW (sne (HM b)) ?_⟩⟩;have gs:∀ {H':Hp},RS H' z ah go do'->qb H' z.sn (.str (lkX b).key) (dk (.int ((thH (lkX b) ah).length:Nat))):=λR=>by
        have:=zE (λc=>(thH (lkX c) ah).length) b;rw[<-this];exact qb.k (k:=.inr (lkX b).key) R.sn
       have gl:∀ {H':Hp},RS H' z ah go do'->qb H' z.ld (.str (lkX b).key) (dk (.ref (z.l b))):=λR=>by
        rw[<-zF z.l b];exact qb.k (k:=.inr (lkX b).key) R.ld
       obtain⟨tl,hl4,pl⟩:=R.l b;have ll:=aL pl;refine⟨λc H'=>c=(!Gu ah h)/\bL H4 H',?_,?_⟩
       . refine⟨_,rfl,_,rfl,z.sn,_,rfl,gs R,_,rfl,_,rfl,z.ld,_,rfl,gl R,z.l b,tl,rfl,.inl (SqL.of hl4),_,_,rfl,rfl,_,rfl,?_⟩;by_cases hlt:(thH (lkX b) ah).length < (thH (lkW b) ah).length
         . refine d0 (by rw[Qs];omega) ?_;obtain⟨v,hv,t,rfl,ht⟩:=Paired.at' pl (Kh hlt);refine⟨_,rfl,_,rfl,z.ld,_,rfl,gl R,_,rfl,_,rfl,z.sn,_,rfl,gs R,z.l b,tl,_,_,rfl,rfl,SqL.of hl4,zK hv,_,rfl,_,rfl,l2,λt2 nt2=>?_⟩;have s1:=ag (o:=.tup [h.v1,h.v2]) nt2;refine⟨pvD (thH (lkW b) ah)[(thH (lkX b) ah).length],pvX h,⟨t,_,rfl,s1 _ _ ht,_,_,rfl,rfl,_,_,rfl,rfl,rfl⟩,⟨t2,_,rfl,a8,_,_,rfl,by cases h<;>rfl,_,_,rfl,by cases h<;>rfl,rfl⟩,sF.key (xR _) (by show 1 <= 8;decide),EW h,_,rfl,?_,s1⟩;rw[Qq rfl,Dw hb hlt]
         . refine jj (Qt (by omega)) ⟨?_,bL.refl _⟩;rw[C9 hb (by omega)];rfl
       rintro c' H5 ⟨rfl,e5⟩;have E5:=E4.trans e5;have R5:=R.same e5;cases hfx:Gu ah h with
      |false=>exact jt (bad hfx E5)
      |true =>
        refine iE ?_;cases h with
       |n b=>cases hfx
       |h x =>
         obtain⟨w,n,o⟩:=x;have hw:w=lkX b:=hb;subst hw;obtain⟨g1,g2⟩:=good _ rfl hfx;have hfj:eB ah ⟨lkX b,n,o⟩=j':=hfx;rw[<-I.fits]at hfj;refine⟨_,rfl,_,rfl,z.sn,_,rfl,gs R5,_,_,rfl,rfl,_,rfl,_,rfl,z.sn,_,rfl,z0.k (k:=.inr (lkX b).key) R5.sn (by show 2 < Ki;decide),?_⟩;have R6:=R5.fetch (b:=b) (n:=n) (o:=o) (kv:=lB (snK λc=>(thH (lkX c) ah).length) (.inr (lkX b).key) (.int (((thH (lkX b) ah).length:Nat)+1))) (DQ _ _ b (by rw[cn,Qq rfl,JX];rfl) (by rw[cn,Qr (by cases b<;>decide)]));have E6:=up (o:=.dK (lB (snK λc=>(thH (lkX c) ah).length) (.inr (lkX b).key) (.int (((thH (lkX b) ah).length:Nat)+1)))) (.inr (.inl rfl)) E5;generalize upd H5 z.sn _=H6 at R6 E6 |-;cases b with
        |true =>
          obtain⟨I2,hnd⟩:=I.taken (of_decide_eq_true hfj);refine⟨_,rfl,rfl,_,rfl,jO rfl ?_⟩;refine⟨_,rfl,_,rfl,z.tk,_,rfl,z0.k (k:=.inl n) R6.tk (by rw[qP];exact Kg (show _ < 10000 by omega) (by decide)),?_⟩;exact⟨_,_,_,_,_,⟨_,_,_,rfl⟩,R6.setTk (qT n do' (by rw[K5];exact decide_eq_false hnd)),g1,I2,up (.inr (.inr (.inr (.inr (.inr rfl))))) E6,g2⟩
        |false =>
          obtain⟨I2,hng⟩:=I.handed (of_decide_eq_true hfj);refine⟨_,rfl,rfl,_,rfl,cW (sne (show Wd.key .handed≠"taken" by decide +kernel)) ?_⟩;have hv:mw (gK go) (.inl n)=dk (.bl j'):=by rw[gm,K5,Qt hng];rfl
          have ee:kA (gK go) (Lc n)=gK (go.erase n):=by
           rw[l6,I.nd.erase_eq_filter];congr 1;refine filter_congr λy _=>?_
           by_cases e:y=n
           . subst e;simp
           . simp[e]
          refine⟨_,rfl,z.ud,rfl,.inl ⟨_,.inl R6.ud⟩,_,rfl,_,.inl n,_,R6.ud,rfl,hv,?_⟩;exact⟨_,_,_,_,_,⟨_,_,_,rfl⟩,R6.setUd ee,g1,I2,up (.inr (.inr (.inr (.inr (.inl rfl))))) E6,g2⟩
     . -- laid
       have gl:∀ {H':Hp} {go do'},RS H' z ah go do'->qb H' z.ld (.str (lkX b).key) (dk (.ref (z.l b))):=λR=>by
        rw[<-zF z.l b];exact qb.k (k:=.inr (lkX b).key) R.ld
       cases b with
      |true =>
        have hj:eB ah ⟨lkW j',n,o⟩=!go.contains n:=(I.fits _).symm;refine⟨_,rfl,rfl,_,rfl,jO rfl ?_⟩;refine⟨_,rfl,_,rfl,z.ud,_,rfl,qb.k (k:=.inl n) R.ud,_,rfl,?_⟩;rw[gm];cases hc:go.contains n with
       |true =>
         rw[hc]at hj;exact jj rfl (bad hj E4)
       |false =>
         rw[hc]at hj;obtain⟨g1,g2⟩:=good _ rfl hj;have hn':n ∉ go:=by rw[K5]at hc;exact of_decide_eq_false hc
         refine d0 (by decide) ?_;refine⟨_,rfl,_,rfl,z.ud,_,rfl,z0.k (k:=.inl n) R.ud (by rw[qP];exact Kg (show _ < 10000 by omega) (by decide)),?_⟩;have R5:=R.setUd (qT n go hc);have E5:=up (o:=.dK (lB (gK go) (Lc n) (.bl j'))) (.inr (.inr (.inr (.inr (.inl rfl))))) E4;generalize upd H4 z.ud _=H5 at R5 E5 |-;obtain⟨tl,hl5,pl⟩:=R5.l j';have ll:=aL pl;have tl':=pw (lkW j') ah;refine⟨_,rfl,z.ld,_,rfl,gl R5,.inl ⟨rfl,_,SqL.of hl5⟩,_,rfl,_,rfl,l2,λt nt=>⟨z.l j',tl,_,rfl,rfl,ag nt _ _ hl5,Kg (show _ < 10000 by omega) (by decide),?_⟩⟩;have s2:=ag (o:=.tup [V.int n,V.int o]) nt;have R6:=(R5.same s2).lay (b:=j') (n:=n) (o:=o) (ts:=tl++[.ref t]) (Kx.snoc (Paired.mapP pl λ_ _ h=>h.keep s2.kt) ⟨t,rfl,a8⟩);exact⟨_,_,_,_,_,⟨_,_,_,rfl⟩,R6,g1,I.asked hn',up (.inr (.inr (.inl rfl))) (E5.trans s2),g2⟩
      |false =>
        have hj:eB ah ⟨lkW f',n,o⟩=do'.contains n:=(I.fits _).symm;refine⟨_,rfl,rfl,_,rfl,cW (sne (show Wd.key .answered≠"asked" by decide +kernel)) ⟨_,rfl,rfl,_,rfl,jO rfl ?_⟩⟩;refine⟨_,rfl,_,rfl,z.tk,_,rfl,qb.k (k:=.inl n) R.tk,_,rfl,?_⟩;rw[gm];cases hc:do'.contains n with
       |false =>
         rw[hc]at hj;exact jj rfl (bad hj E4)
       |true =>
         rw[hc]at hj;obtain⟨g1,g2⟩:=good _ rfl hj;have hn':n∈do':=by rw[K5]at hc;exact of_decide_eq_true hc
         refine d0 (by decide) ?_;have hv:mw (gK do') (.inl n)=dk (.bl j'):=by rw[gm,hc];rfl
         have ee:kA (gK do') (Lc n)=gK (do'.erase n):=by
          rw[l6,I.ndo.erase_eq_filter];congr 1;refine filter_congr λy _=>?_
          by_cases e:y=n
          . subst e;simp
          . simp[e]
         refine⟨_,rfl,z.tk,rfl,.inl ⟨_,.inl R.tk⟩,_,rfl,_,.inl n,_,R.tk,rfl,hv,?_⟩;have R5:=R.setTk ee;have E5:=up (o:=.dK (kA (gK do') (Lc n))) (.inr (.inr (.inr (.inr (.inr rfl))))) E4;generalize upd H4 z.tk _=H5 at R5 E5 |-;obtain⟨tl,hl5,pl⟩:=R5.l f';have ll:=aL pl;have tl':=pw (lkW f') ah;refine⟨_,rfl,z.ld,_,rfl,gl R5,.inl ⟨rfl,_,SqL.of hl5⟩,_,rfl,_,rfl,l2,λt nt=>⟨z.l f',tl,_,rfl,rfl,ag nt _ _ hl5,Kg (show _ < 10000 by omega) (by decide),?_⟩⟩;have s2:=ag (o:=.tup [V.int n,V.int o]) nt;have R6:=(R5.same s2).lay (b:=f') (n:=n) (o:=o) (ts:=tl++[.ref t]) (Kx.snoc (Paired.mapP pl λ_ _ h=>h.keep s2.kt) ⟨t,rfl,a8⟩);exact⟨_,_,_,_,_,⟨_,_,_,rfl⟩,R6,g1,I.answered hn',up (.inr (.inr (.inr (.inl rfl)))) (E5.trans s2),g2⟩
   . rintro σ H4 ⟨ah,un,uh,go,do',⟨v5,v6,v7,rfl⟩,R,hta,I,E4,hf⟩;rw[drop_of_length_le (by omega)]at hf;have q:=k H4 E4;rw[<-hf]at q;exact q
def CC (w:Kk) (ad:Ad):Sp:=λvs H Q _=>∃ (a:YA) (q:YP) (S:YS) (hs:List Hx) (qd:D'),vs=[.ref a.y,.int q.p.s,.int q.p.R,.ref qd]/\Yn w ad.bf ad.dI ad.b8 ad.cg ad.aM H a q S/\q.Ok/\S.hs=hs.map Hx.d/\hs.length < 900/\H qd=dk (.lst [.bl (S.qt f'),.bl (S.qt j')])/\∀ H',bL H H'->Q (.bl (B9 q S hs)) H'
def zm:Sp:=λvs H Q _=>∃ (qd t:D') (f:Bool->Bool) (x:Dd),vs=[.ref qd,.ref t]/\H qd=dk (.lst [.bl (f f'),.bl (f j')])/\H t=dk (.tup x.vs)/\Q .non (upd H qd (.lst [.bl (x.trn f f'),.bl (x.trn f j')]))
def BB (G:Gs K mg a d):FnOk P w K mg base CX0 3 a.iG d.iG ["yard","size","rounds","quiet"] (CC w a):=by
 have PN:FnOk P w K mg base CX0 1 _ _ _ _:=rM G;have PM:FnOk P w K mg base CX0 1 _ _ _ _:=jC G;have PK:FnOk P w K mg base CX0 1 _ _ _ _:=mT G;have Pp:FnOk P w K mg base CX0 1 _ _ _ _:=(tz G).imp λvs H Q E=>AM
 have Qa:FnOk P w K mg base CX0 1 _ _ _ _:=uB G;have P4:FnOk P w K mg base CX0 2 _ _ _ _:=um G;have P':FnOk P w K mg base CX0 1 _ _ _ _:=Cq G;refine G.qV.ok eK (λvs H Q E h=>?_) (λcdv A' outer s' H vs Q E hr h=>?_)
 . obtain⟨y,q,S,hs,qd,rfl,_⟩:=h;rfl
 . obtain⟨y,q,S,hs,qd,rfl,Y,ok,hh,hl,hqd,k⟩:=h;have hu:=dR hr;refine⟨_,((@bi _ _ 4 _ _ _ _ eK.nd rfl (KU rfl) (aN (pv 0) G.ak G.iw PN (hr.mono (by decide)) G.jM .nil av) (by rfl) (by first|exact .inl rfl|exact .inr rfl|assumption))∪((@aO _ _ _ _ _ _ _ _ (i9 (cJ (aJ Qa (hr.mono (by decide)) (by rfl) G.i7 G.eV.kp G.ia .nil av ((pv 4)∣aa)))) (bF⁻¹) aq)∪((@aO _ _ _ _ _ _ _ _ (kI ((pH (ao (ot hr.units) (az (aN (pv 0) G.ak G.bx PM (hr.mono (by decide)) G.bG .nil av) G.aF G.d5 Pp (hr.mono (by decide)) G.dW .nil av (ai∣aa)) (@bQ _ _ _ _ aa) (ax _)) (kF (ao (ot hr.units) (az (aN (pv 0) G.ak G.bx PM (hr.mono (by decide)) G.bG .nil av) G.aF G.d5 Pp (hr.mono (by decide)) G.dW .nil av (ai∣aa)) (@bQ _ _ _ _ aa) (ax _))))).pt) (bF⁻¹) aq)∪((@kH _ _ _ _ _ _ _ _ Lm rfl (yU (@bj _ _ _ _ _ (ai∣(ai∣aa)))) (bV (i:=5) eK.nd rfl (KU rfl)) ((@gE _ _ _ _ _ _ (@aI _ _ _ _ _ _ _ ba (@bQ _ _ _ _ ((@bj _ _ _ _ _ (au∣(au∣aa)))∣((@bj _ _ _ _ _ (au∣(au∣aa)))∣aa))) (pv 5) (λ_ _=>rfl)) (@uk _ _ _ _ _ _ rfl (@eg _ _ _ _ _ (bV (i:=6) eK.nd rfl (KU rfl)) (@eg _ _ _ _ _ (bV (i:=7) eK.nd rfl (KU rfl)) pL (by rfl)) (by rfl)) (by rfl) (by rfl)) (by rfl) (by rfl) (by rfl))∪((@bi _ _ 8 _ _ _ _ eK.nd rfl (KU rfl) (aJ P4 (hr.mono (by decide)) (by rfl) G.oK G.kU.kp G.oV .nil av ((pv 0)∣((pv 5)∣((pv 1)∣((pv 2)∣aa))))) (by rfl) (by first|exact .inl rfl|exact .inr rfl|assumption))∪((@aO _ _ _ _ _ _ _ _ (ao sv (pv 8) (@cy _ _ _ _ _ _ _ _ my (bA be (by rfl) G.oi je ((aJ P' (hr.mono (by decide)) (by rfl) G.lZ G.ij.kp G.mj .nil av ((pv 4)∣((pv 6)∣aa)))∣aa)) (bA be (by rfl) G.oi je ((aJ P' (hr.mono (by decide)) (by rfl) G.lZ G.ij.kp G.mj .nil av ((pv 4)∣((pv 7)∣aa)))∣aa))) (ax _)) (bF⁻¹) aq)∪(@ar _ _ _ (@aO _ _ _ _ _ _ _ _ (kI ((rq (ao bW (az (pv 0) G.ak G.fL PK (hr.mono (by decide)) G.gS .nil av ((pv 5)∣aa)) au (ax _)) (rq (ao E7 (pv 8) ai (ax _)) (pJ (cJ (@aI _ _ _ _ _ _ _ ba (pv 3) (@cy _ _ _ _ _ _ _ _ my ai (pv 5)) (λ_ _=>rfl))))))).pt) (bF⁻¹) aq))))) (by intro _;rfl))∪(bF⁻¹))))),?_⟩;refine⟨_,rfl,dM Y.ob (dC (by decide +kernel)) ⟨y,_,S,rfl,Y,λl ts nl dv=>?_⟩⟩;have e1:=ag (o:=.lst ts) nl;have dv':=DVs.fl (λb vs e=>e1 b _ e) Y.fl dv;have hl1:upd H l (.lst ts) l=dk (.lst ts):=a8;generalize upd H l (.lst ts)=H1 at e1 dv' hl1 |-;have Y1:=Y.same e1;rw[hh]at dv';have SX1:SX H1 l hs:=⟨ts,hl1,CK dv'⟩
   clear dv dv' nl;refine⟨_,rfl,l,hs,rfl,SX1,hl,λH2 e2=>⟨_,rfl,?_⟩⟩;have Y2:=Y1.same e2;have SX2:=SX1.same e2;have E2:=e1.trans e2;clear SX1 Y1 e1 e2 hl1;by_cases hf:c7 [] hs=JZ;rotate_left
   . rw[B6 hf]at k;rw[decide_eq_false hf];exact jt (k _ E2)
   . rw[Qt hf];refine iE ?_;refine⟨λb H'=>(b=j' ↔ ¬ (S.rs f'=[]/\S.rs j'=[]))/\bL H2 H',?_,?_⟩
     . refine⟨_,rfl,dM Y2.ob (dC (by decide +kernel)) ⟨y,_,S,rfl,Y2,dM Y2.x.st.ob (bU (by decide +kernel) (by decide +kernel)) ⟨y.sa,S.m,S.rs,f',rfl,Y2.x.st,λp1 t1 hp1 dv1=>⟨pT,λq2 nq2=>⟨p1,q2,t1,rfl,rfl,SqL.of (ag nq2 _ _ a8),SqL.of a8,_,rfl,?_⟩⟩⟩⟩⟩;have l1:=ic dv1;rw[Kv]at l1;have e3:=(ag (o:=.lst t1) hp1).trans (ag (o:=.lst []) nq2);generalize upd (upd H2 p1 (.lst t1)) q2 (.lst [])=H3 at e3 |-;rw[Qq rfl];cases hr1:S.rs f' with
      |cons z zs =>
        rw[hr1]at l1;cases t1 with
       |nil=>cases l1
       |cons u us=>exact jt ⟨⟨λ_ w=>(by cases w.1),λ_=>rfl⟩,e3⟩
      |nil =>
        rw[hr1]at l1;cases t1 with
       |cons u us=>cases l1
       |nil =>
         refine iE ?_;have Y3:=Y2.same e3;refine⟨_,rfl,dM Y3.ob (dC (by decide +kernel)) ⟨y,_,S,rfl,Y3,dM Y3.x.st.ob (bU (by decide +kernel) (by decide +kernel)) ⟨y.sa,S.m,S.rs,j',rfl,Y3.x.st,λp2 t2 hp2 dv2=>⟨pT,λq3 nq3=>⟨p2,q3,t2,rfl,rfl,SqL.of (ag nq3 _ _ a8),SqL.of a8,_,rfl,?_,e3.trans ((ag hp2).trans (ag nq3))⟩⟩⟩⟩⟩;have l2':=ic dv2;rw[Kv]at l2';rw[Qq rfl];cases hr2:S.rs j' with
        |cons z zs =>
          rw[hr2]at l2';cases t2 with
         |nil=>cases l2'
         |cons u us=>exact⟨λ_ w=>(by cases w.2),λ_=>rfl⟩
        |nil =>
          rw[hr2]at l2';cases t2 with
         |cons u us=>cases l2'
         |nil=>exact⟨λz=>(by cases z),λz=>absurd ⟨rfl,rfl⟩ z⟩
     rintro b H3 ⟨hb,e3⟩;by_cases hz:S.rs f'=[]/\S.rs j'=[]
     rotate_left
     . rw[zQ hf hz]at k;rw[hb.mpr hz];exact jt (k _ (E2.trans e3))
     . have hbf:b=f':=by
        cases b with
       |false=>rfl
       |true=>exact absurd hz (hb.mp rfl)
       subst hbf;refine iE ?_;have E3:=E2.trans e3;have S3:SV H3 l (rls hs):=by
        obtain⟨ts,h1,h2⟩:=SX2.same e3;rw[jQ hf]at h2;exact⟨ts,h1,Du h2⟩
       have hl':(rls hs).length < 900:=by
        have:=congrArg LN (jQ hf);rw[Kv]at this;omega
       clear Y2 SX2 E2 e3 hb;refine⟨l2,λtq nq=>⟨tq,rfl,⟨_,SqT.of a8⟩,?_⟩⟩;have e4:=ag (o:=.tup [V.int 0,V.int 1]) nq;have v4:=a8 (H:=H3) (a:=tq) (o:=.tup [V.int 0,V.int 1]);have E4:=E3.trans e4;have S4:=S3.same e4;generalize upd H3 tq (.tup [V.int 0,V.int 1])=H4 at e4 v4 E4 S4 |-;refine we (K:=K) (a:=tq) (xs:=[V.int 0,V.int 1]) (λi σ H'=>(∃ v5 v6 v7 v8,σ=[dk (.ref y.y),dk (.int q.p.s),dk (.int q.p.R),dk (.ref qd),dk (.ref l),v5,v6,v7,v8])/\bL H4 H'/\(0 < i->sO q S (rls hs) f'=f'/\ovB q S f'=f')/\(1 < i->sO q S (rls hs) j'=f'/\ovB q S j'=f'))
        ⟨⟨_,_,_,_,rfl⟩,bL.refl _,λh=>by omega,λh=>by omega⟩ (λ_ _ _ _ uq20=>by(obtain⟨_,z,_⟩:=uq20;exact SqT.of (z _ _ v4))) ?_ ?_
       . rintro i x σ H5 hi ⟨⟨v5,v6,v7,v8,rfl⟩,e5,g0,g1⟩;obtain⟨b,rfl,hb0,hb1⟩:∃ b:Bool,x=.int (sdI b)/\(b=f'->i=0)/\(b=j'->i=1):=by
          match i,hi with
         |0,hi=>cases hi;exact⟨f',rfl,λ_=>rfl,(λz=>by cases z)⟩
         |1,hi=>cases hi;exact⟨j',rfl,(λz=>by cases z),λ_=>rfl⟩
         |_+2,hi=>cases hi
         refine⟨l2,λt1 n1=>⟨l2,λt2 n2=>⟨l2,λp np=>?_⟩⟩⟩;have f1:=ag (o:=.tup [V.str "answered",V.str "handed"]) n1;have w1:=a8 (H:=H5) (a:=t1) (o:=.tup [V.str "answered",V.str "handed"]);generalize upd H5 t1 (.tup [V.str "answered",V.str "handed"])=H6 at f1 w1 n2 np |-;have f2:=ag (o:=.tup [V.str "asked",V.str "taken"]) n2;have w2:=a8 (H:=H6) (a:=t2) (o:=.tup [V.str "asked",V.str "taken"]);generalize upd H6 t2 (.tup [V.str "asked",V.str "taken"])=H7 at f2 w2 np |-;have f3:=ag (o:=.lst [V.ref t1,V.ref t2]) np;have w3:=a8 (H:=H7) (a:=p) (o:=.lst [V.ref t1,V.ref t2]);generalize upd H7 p (.lst [V.ref t1,V.ref t2])=H8 at f3 w3 |-;have tt:∃ t,atI [V.ref t1,V.ref t2] (sdI b)=dk (.ref t)/\H8 t=dk (.tup [V.str (lkW b).key,V.str (lkX b).key]):=by
          cases b
          . exact⟨t1,rfl,f3 _ _ (f2 _ _ w1)⟩
          . exact⟨t2,rfl,f3 _ _ w2⟩
         obtain⟨t,ht,vt⟩:=tt;have e8:=e5.trans (f1.trans (f2.trans f3));refine⟨_,rfl,p,_,_,_,rfl,rfl,SqL.of w3,ht,t,_,rfl,SqT.of vt,rfl,_,_,rfl,_,_,rfl,rfl,?_⟩;clear f1 f2 f3 w1 w2 w3 n1 n2 np e5 vt ht;have E8:=E4.trans e8;refine⟨_,rfl,_,rfl,_,rfl,_,rfl,y,q,S,b,rfl,Y.same E8,ok,λH9 e9=>?_⟩;have e49:=e8.trans e9;refine⟨_,rfl,_,rfl,_,rfl,l,rls hs,lkW b,rfl,S4.same e49,by omega,λp1 y1 H10 e10 hp1 hy1=>⟨p1,y1,rfl,.inl (SqL.of hp1),?_⟩⟩;refine⟨_,rfl,_,rfl,l,rls hs,lkX b,rfl,S4.same (e49.trans e10),by omega,λp2 y2 H11 e11 hp2 hy2=>⟨p2,y2,rfl,.inl (SqL.of hp2),?_⟩⟩;refine⟨_,_,rfl,rfl,rfl,_,rfl,?_⟩;rw[hy1,hy2];have e411:=e49.trans (e10.trans e11);have E11:=E4.trans e411;clear e8 e9 e10 e11 e49 E8 hp1 hp2;have hm:=ES (q:=q) (S:=S) hf b;by_cases hmm:wN q S b=((thH (lkW b) (rls hs)).length:Int) - (thH (lkX b) (rls hs)).length;rotate_left
         . rw[Qt hmm]at hm;rw[A8 hf hz b (.inl hm)]at k;exact jj (by rw[decide_eq_false λz=>hmm (ky z)];rfl) (k _ E11)
         . rw[decide_eq_false λz=>z hmm]at hm;refine d0 (by rw[Qt (by rw[hmm])];decide) ?_;have Y11:=Y.same E11;refine⟨λc H'=>c=ovB q S b/\H'=H11,?_,?_⟩
           . unfold ovB;refine⟨_,rfl,dM Y11.ob (dC (by decide +kernel)) ⟨_,rfl,y,_,S,b,rfl,Y11,rfl,_,rfl,?_⟩⟩;by_cases ha:S.bd b=.asleep
             . rw[Qt ha,Bool.true_and];refine jj (Qt (by rw[ha];rfl)) ?_;refine⟨_,rfl,_,_,rfl,rfl,_,rfl,?_⟩;have nn:=yW (S:=S) ok b;by_cases h0:wN q S b=0
               . rw[h0];refine d0 (by decide) ⟨?_,rfl⟩;cases S.qt (!b)<;>rfl
               . refine jj (Qt (by omega)) ?_;rw[Qt h0,Bool.and_true];exact⟨_,rfl,_,rfl,_,_,rfl,rfl,qd,_,_,_,rfl,rfl,SqL.of (E11 _ _ hqd),by rw[lC];exact Eh (!b),_,rfl,rfl,rfl⟩
             . rw[decide_eq_false ha,Bool.false_and];refine d0 ?_ ⟨rfl,rfl⟩;rw[Qs];exact zw ha
           rintro c H12 ⟨rfl,rfl⟩;cases ho:ovB q S b with
          |true =>
            rw[A8 hf hz b (.inr ho)]at k;exact jt (k _ E11)
          |false =>
            refine iE ⟨⟨_,_,_,_,rfl⟩,e411,λh=>?_,λh=>?_⟩
            . cases b with
             |false=>exact⟨hm,ho⟩
             |true=>exact g0 (by have:=hb1 rfl;omega)
            . cases b with
             |false=>have:=hb0 rfl;omega
             |true=>exact⟨hm,ho⟩
       . rintro σ H5 ⟨⟨v5,v6,v7,v8,rfl⟩,e5,g0,g1⟩;have:=k H5 (E4.trans e5);rw[FB hf hz λb=>by cases b;exact g0 (by decide);exact g1 (by decide)]at this;exact this
def zS (G:Gs K mg a d):FnOk P w K mg base CX0 1 a.br d.br ["quiet","some"] zm:=by
 refine G.gF.ok lz (λvs H Q E h=>?_) (λcdv A' outer s' H vs Q E hr h=>?_)
 . obtain⟨qd,t,f,x,rfl,_⟩:=h;rfl
 . obtain⟨qd,t,f,x,rfl,hqd,ht,k⟩:=h;refine⟨_,((aO (ao bW (@aI _ _ _ _ _ _ _ aH (pv 1) ai (λ_ _=>rfl)) au (ax _)) (@ar _ _ _ (@gE _ _ _ _ _ _ bF (jd (pv 0) ai d8) (by rfl) (by rfl) (by rfl))) aq)∪((aO (ao bW (@aI _ _ _ _ _ _ _ aH (pv 1) ai (λ_ _=>rfl)) au (ax _)) (@ar _ _ _ (@gE _ _ _ _ _ _ bF (jd (pv 0) ai d8) (by rfl) (by rfl) (by rfl))) aq)∪(@ar _ _ _ (aO (ao bW (@aI _ _ _ _ _ _ _ aH (pv 1) ai (λ_ _=>rfl)) au (ax _)) (@ar _ _ _ (@gE _ _ _ _ _ _ bF (jd (pv 0) (@aI _ _ _ _ _ _ _ aH (pv 1) ai (λ_ _=>rfl)) d8) (by rfl) (by rfl) (by rfl))) aq)))),?_⟩;have tq:∀ o,upd H qd o t=dk (.tup x.vs):=λo=>by rw[ac λz=>by rw[z,hqd]at ht;cases ht];exact ht
   have id1:∀ g:Bool->Bool,g=f->upd H qd (.lst [.bl (g f'),.bl (g j')])=H:=λg hg=>by
    rw[hg];funext c;by_cases z:c=qd
    . rw[z,a8,hqd]
    . rw[ac z]
   cases x with
  |ask wt =>
    refine⟨_,rfl,t,_,_,_,rfl,rfl,SqT.of ht,rfl,rfl,_,rfl,jO rfl ?_⟩;refine⟨_,rfl,qd,_,_,_,rfl,rfl,hqd,rfl,?_⟩;refine⟨_,rfl,t,_,_,_,rfl,rfl,SqT.of (tq _),rfl,rfl,_,rfl,cW (sne (by decide +kernel)) ?_⟩;exact⟨_,rfl,t,_,_,_,rfl,rfl,SqT.of (tq _),rfl,rfl,_,rfl,cW (sne (by decide +kernel)) k⟩
  |answer nm wt =>
    refine⟨_,rfl,t,_,_,_,rfl,rfl,SqT.of ht,rfl,rfl,_,rfl,cW (sne (by decide +kernel)) ?_⟩;refine⟨_,rfl,t,_,_,_,rfl,rfl,SqT.of ht,rfl,rfl,_,rfl,jO rfl ?_⟩;refine⟨_,rfl,qd,_,_,_,rfl,rfl,hqd,rfl,?_⟩;exact⟨_,rfl,t,_,_,_,rfl,rfl,SqT.of (tq _),rfl,rfl,_,rfl,cW (sne (by decide +kernel)) k⟩
  |bell b =>
    refine⟨_,rfl,t,_,_,_,rfl,rfl,SqT.of ht,rfl,rfl,_,rfl,cW (sne (by decide +kernel)) ?_⟩;refine⟨_,rfl,t,_,_,_,rfl,rfl,SqT.of ht,rfl,rfl,_,rfl,cW (sne (by decide +kernel)) ?_⟩;refine⟨_,rfl,t,_,_,_,rfl,rfl,SqT.of ht,rfl,rfl,_,rfl,jO rfl ?_⟩;refine⟨_,rfl,_,rfl,t,_,_,_,rfl,rfl,SqT.of ht,rfl,qd,_,_,jN b,rfl,rfl,hqd,w6,?_⟩;rw[Di];exact k
  |_ =>
    have k:Q .non (upd H qd (.lst [.bl (f f'),.bl (f j')])):=k;rw[id1 f rfl]at k;refine⟨_,rfl,t,_,_,_,rfl,rfl,SqT.of ht,rfl,rfl,_,rfl,cW (sne (by decide +kernel)) ?_⟩;refine⟨_,rfl,t,_,_,_,rfl,rfl,SqT.of ht,rfl,rfl,_,rfl,cW (sne (by decide +kernel)) ?_⟩;exact⟨_,rfl,t,_,_,_,rfl,rfl,SqT.of ht,rfl,rfl,_,rfl,cW (sne (by decide +kernel)) k⟩
def AL:Sp:=λvs H Q _=>∃ (r l:D') (xs:List Dd) (ts:List V),vs=[.ref r,.ref l]/\Rw H r/\H l=dk (.lst ts)/\Kx (TD H) xs ts/\xs≠[]/\xs.length <= 20000/\r≠l /\
 ∀ (x:Dd) (t:D') (H':Hp),x∈xs->H' t=dk (.tup x.vs)->Stp r H H'->Q (.ref t) H'
def dat_kd (x:Dd):MX.kd x.dat=j':=by
 cases x with
|ask wt=>exact(show (MX.kd (.str "ask") && (j' && j'))=j' by decide +kernel)
|collect=>exact(show (MX.kd (.str "collect") && j')=j' by decide +kernel)
|take=>exact(show (MX.kd (.str "take") && j')=j' by decide +kernel)
|answer nm wt=>exact(show (MX.kd (.str "answer") && (j' && (j' && j')))=j' by decide +kernel)
|bell b=>exact(show (MX.kd (.str "bell") && (j' && j'))=j' by decide +kernel)
|lie b=>exact(show (MX.kd (.str "lie") && (j' && j'))=j' by decide +kernel)
|look b=>exact(show (MX.kd (.str "look") && (j' && j'))=j' by decide +kernel)
|drain b=>exact(show (MX.kd (.str "drain") && (j' && j'))=j' by decide +kernel)
def Bu {x:Dd}{b:Bool}(h:x≠.bell b):Kn x.dat (Dd.bell b).dat=f':=by
 cases z:Kn x.dat (Dd.bell b).dat with
|false=>rfl
|true =>
  have e:=(MX.eqv_iff x.dat (Dd.bell b).dat (dat_kd _) (dat_kd _)).mp z;cases x with
 |bell c =>
   injection e with e
   injection e with _ e
   injection e with e _
   injection e with e
   have:c=b:=by cases b<;>cases c<;>first|rfl|exact absurd e (by decide)
   exact absurd (by rw[this]) h
 |_ =>
   injection e with e
   injection e with e _
   injection e with e
   exact absurd e (by decide +kernel)
def yJ (w:Kk) (ad:Ad):Sp:=λvs H Q _=>∃ (a:YA) (q:YP) (S:YS) (qd t:D') (x:Dd),vs=[.ref a.y,.int q.p.s,.int q.p.R,.ref qd,.ref t]/\Yn w ad.bf ad.dI ad.b8 ad.cg ad.aM H a q S/\q.Ok/\H qd=dk (.lst [.bl (S.qt f'),.bl (S.qt j')])/\H t=dk (.tup x.vs) /\
 (∀ b,S.bd b=.asleep->S.m.c (bE b)=1/\x≠.bell (!b)/\(S.qt (!b)=j'->wN q S b=0))/\∀ H',bL H H'->Q (.bl j') H'
def Av (G:Gs K mg a d):FnOk P w K mg base CX0 2 a.eP d.eP ["row","some"] AL:=by
 have Qb:FnOk P w K mg base CX0 1 _ _ _ _:=zT G;refine G.nP.ok fC (λvs H Q E h=>?_) (λcdv A' outer s' H vs Q E hr h=>?_)
 . obtain⟨r,l,xs,ts,rfl,_⟩:=h;rfl
 . obtain⟨r,l,xs,ts,rfl,hrw,hl,td,hne,hlen,nrl,k⟩:=h;refine⟨_,((by exact kn (iN:=2) (tc:=yA (tOp rEq (tOp (Dg K) (tO 0) (tC (.int 0))) (tC (.str "drain")))) (te:=tO 0) (caps:=[]) (js:=[]) fC.nd rfl (KU rfl) (by rfl) rfl (mz rfl rfl (by decide +kernel) (by decide +kernel) rfl trivial rfl rfl) (by decide +kernel) trivial (@fY _ _ _ _ (pv 1)) (λC s₃ H₃ Mq ex E'=>by exact nL (ao bW (@aI _ _ _ _ _ _ _ aH (pv 0) ai (λ_ _=>rfl)) au (ax _))) (λC s₃ H₃ Mq ex E'=>by exact(pv 0)))∪((by exact kn (iN:=3) (tc:=yA (tOp rNe (tOp (Dg K) (tO 0) (tC (.int 0))) (tC (.str "drain")))) (te:=tO 0) (caps:=[]) (js:=[]) fC.nd rfl (KU rfl) (by rfl) rfl (mz rfl rfl (by decide +kernel) (by decide +kernel) rfl trivial rfl rfl) (by decide +kernel) trivial (@fY _ _ _ _ (pv 1)) (λC s₃ H₃ Mq ex E'=>by exact nL (ao sv (@aI _ _ _ _ _ _ _ aH (pv 0) ai (λ_ _=>rfl)) au (ax _))) (λC s₃ H₃ Mq ex E'=>by exact(pv 0)))∪((@bi _ _ 4 _ _ _ _ fC.nd rfl (KU rfl) (aJ Qb (hr.mono (by decide)) (by rfl) G.cp G.bX.kp G.cu .nil av ((pv 0)∣(ai∣aa))) (by rfl) (by first|exact .inl rfl|exact .inr rfl|assumption))∪((@aO _ _ _ _ _ _ _ _ (kI ((rq (ao Gk (pv 4) ai (ax _)) (pJ (ao (ot hr.units) (pv 2) (@bQ _ _ _ _ aa) (ax _))))).pt) ((@aI _ _ _ _ _ _ _ ba (pv 2) (aJ Qb (hr.mono (by decide)) (by rfl) G.cp G.bX.kp G.cu .nil av ((pv 0)∣((bA be (by rfl) G.oi je ((pv 2)∣aa))∣aa))) (λ_ _=>rfl))⁻¹) aq)∪((@aO _ _ _ _ _ _ _ _ (kI ((rq (ao bW (pv 4) ai (ax _)) (pJ (ao (ot hr.units) (pv 3) (@bQ _ _ _ _ aa) (ax _))))).pt) ((@aI _ _ _ _ _ _ _ ba (pv 3) (aJ Qb (hr.mono (by decide)) (by rfl) G.cp G.bX.kp G.cu .nil av ((pv 0)∣((bA be (by rfl) G.oi je ((pv 3)∣aa))∣aa))) (λ_ _=>rfl))⁻¹) aq)∪((@aI _ _ _ _ _ _ _ ba (pv 1) (aJ Qb (hr.mono (by decide)) (by rfl) G.cp G.bX.kp G.cu .nil av ((pv 0)∣((bA be (by rfl) G.oi je ((pv 1)∣aa))∣aa))) (λ_ _=>rfl))⁻¹)))))),?_⟩;have pl:=aL td;have fin:∀ {H2:Hp} {ys:List V},Stp r H H2->(∀ v∈ys,v∈ts)->∀ g:Int,0 <= g->g < (ys.length:Nat)->∃ v,atI ys g=dk v/\Q v H2:=λ{H2 ys} st sub g g0 g1=>by
    obtain⟨j,rfl⟩:=Int.eq_ofNat_of_zero_le g0;have hj:j < ys.length:=by omega
    obtain⟨i,hi,he⟩:=List.mem_iff_getElem.mp (sub _ (List.getElem_mem hj));have hx:xs[i]?=dk xs[i]:=Kh (by omega);obtain⟨v,hv,t,hvt,ht⟩:=Paired.at' td hx;rw[Kh hi,he]at hv;refine⟨ys[j],zK (Kh hj),?_⟩;rw[KH hv,hvt];refine k _ t _ (KZ hx) (st.keep _ _ (λz=>?_) ht) st;obtain⟨rw,hr,_⟩:=hrw;rw[z,hr]at ht;cases ht
   refine⟨_,rfl,l,rfl,⟨_,SqL.of hl⟩,λD nD=>?_⟩;refine⟨λi mm ys H'=>i <= ts.length/\mm=ts.length - i/\(∀ v∈ys,v∈ts)/\ys.length <= i/\H' D=dk (.lst ys)/\∀ c o,c≠D->H c=dk o->H' c=dk o,⟨_,LJ _,rfl,λv hv=>absurd hv KL,Kf _,a8,λc o n e=>by rw[ac n];exact e⟩,?_⟩;rintro i mm ys H2 ⟨hi,rfl,subD,ysl,hD,k2⟩;have eD:bL H H2:=λc o e=>k2 c o (λy=>by rw[y,nD]at e;cases e) e
   refine⟨hD,Kg (show _ < 100000 by omega) (by decide),?_⟩;by_cases hii:i=ts.length;rotate_left
   . have hlt:i < ts.length:=by omega
     have hx:xs[i]?=dk xs[i]:=Kh (by omega);obtain⟨v,hv,t,rfl,ht⟩:=Paired.at' td hx;refine .inr ⟨⟨_,_,SqL.of (eD _ _ hl),hv⟩,?_⟩;rintro v H3 ⟨eH,hv'⟩;have hv2:=hv' _ (SqL.of (eD _ _ hl));subst eH;rw[hv]at hv2;cases hv2;refine⟨_,rfl,t,_,_,_,rfl,rfl,SqT.of (eD _ _ ht),Dd.at0 _,rfl,_,rfl,Bi (λ_=>?_) (λ_=>?_)⟩
     . refine⟨_,rfl,hD,ts.length - (i+1),by omega,by omega,rfl,λv hv'=>?_,?_,a8,λc o n e=>by rw[ac n];exact k2 c o n e⟩
       . rcases KS.mp hv' with w|w
         . exact subD v w
         . rw[JY.mp w];exact KZ hv
       . rw[JX];show _+1 <= _;omega
     . exact⟨ts.length - (i+1),by omega,by omega,rfl,subD,by omega,hD,k2⟩
   refine .inl ⟨⟨_,SqL.of (eD _ _ hl),by omega⟩,?_⟩;clear k2 hii;refine⟨_,rfl,l,rfl,⟨_,SqL.of (eD _ _ hl)⟩,λD2 nD2=>?_⟩;refine⟨λi mm ys H'=>i <= ts.length/\mm=ts.length - i/\(∀ v∈ys,v∈ts)/\ys.length <= i/\H' D2=dk (.lst ys)/\∀ c o,c≠D2->H2 c=dk o->H' c=dk o,⟨_,LJ _,rfl,λv hv=>absurd hv KL,Kf _,a8,λc o n e=>by rw[ac n];exact e⟩,?_⟩;rintro i mm zs H3 ⟨hi,rfl,subD2,zsl,hD2,k2⟩;have eD2:bL H2 H3:=λc o e=>k2 c o (λy=>by rw[y,nD2]at e;cases e) e
   refine⟨hD2,Kg (show _ < 100000 by omega) (by decide),?_⟩;by_cases hii:i=ts.length;rotate_left
   . have hlt:i < ts.length:=by omega
     have hx:xs[i]?=dk xs[i]:=Kh (by omega);obtain⟨v,hv,t,rfl,ht⟩:=Paired.at' td hx;refine .inr ⟨⟨_,_,SqL.of (eD2 _ _ (eD _ _ hl)),hv⟩,?_⟩;rintro v H4 ⟨eH,hv'⟩;have hv2:=hv' _ (SqL.of (eD2 _ _ (eD _ _ hl)));subst eH;rw[hv]at hv2;cases hv2;refine⟨_,rfl,t,_,_,_,rfl,rfl,SqT.of (eD2 _ _ (eD _ _ ht)),Dd.at0 _,rfl,_,rfl,Bi (λ_=>?_) (λ_=>?_)⟩
     . refine⟨_,rfl,hD2,ts.length - (i+1),by omega,by omega,rfl,λv hv'=>?_,?_,a8,λc o n e=>by rw[ac n];exact k2 c o n e⟩
       . rcases KS.mp hv' with w|w
         . exact subD2 v w
         . rw[JY.mp w];exact KZ hv
       . rw[JX];show _+1 <= _;omega
     . exact⟨ts.length - (i+1),by omega,by omega,rfl,subD2,by omega,hD2,k2⟩
   refine .inl ⟨⟨_,SqL.of (eD2 _ _ (eD _ _ hl)),by omega⟩,?_⟩;clear k2 hii;have hrw3:Rw H3 r:=by
    obtain⟨rw,hr,ir⟩:=hrw;exact⟨rw,eD2 _ _ (eD _ _ hr),ir⟩
   have E3:=eD.trans eD2;have nDr:D≠r:=λz=>by obtain⟨rw,hr,_⟩:=hrw;rw[z,hr]at nD;cases nD
   have nDr2:D2≠r:=λz=>by obtain⟨rw,hr,_⟩:=hrw;rw[z,eD _ _ hr]at nD2;cases nD2
   refine⟨_,rfl,r,5,rfl,hrw3,by decide,by decide,λg H4 g0 g1 st=>?_⟩;have hl4:=st.keep _ _ nrl.symm (E3 _ _ hl);have hD4:=st.keep _ _ nDr (eD2 _ _ hD);have hE4:=st.keep _ _ nDr2 hD2;have S4:Stp r H H4:=⟨st.row,λb o n e=>st.keep b o n (E3 b o e)⟩
   have tk:∀ {Hx:Hp},bL H4 Hx->Stp r H Hx:=λ{Hx} s=>⟨by obtain⟨rw,hr,ir⟩:=S4.row;exact⟨rw,s _ _ hr,ir⟩,λb o n e=>s b o (S4.keep b o n e)⟩
   clear hrw3 st;refine⟨λb H'=>(b=j'->ys≠[])/\bL H4 H',?_,?_⟩
   . refine⟨_,rfl,_,_,rfl,rfl,_,rfl,Bi (λ_=>?_) (λ_=>⟨λz=>(by cases z),bL.refl _⟩)⟩;refine⟨_,rfl,pT,λq nq=>⟨D,q,ys,rfl,rfl,SqL.of (ag nq _ _ hD4),SqL.of a8,_,rfl,λh z=>?_,ag nq⟩⟩;rw[z]at h;cases h
   rintro b H5 ⟨hb,e5⟩;refine Bi (λh1=>?_) (λ_=>?_)
   . have hp:=List.length_pos_iff.mpr (hb h1);refine⟨_,rfl,_,rfl,_,rfl,D,ys,rfl,.inl (SqL.of (e5 _ _ hD4)),r,_,rfl,(tk e5).row,by omega,by omega,λg H6 g0 g1 st=>?_⟩;obtain⟨v,hv,qv⟩:=fin ((tk e5).trans st) subD g g0 g1;exact⟨D,ys,_,v,rfl,rfl,SqL.of (st.keep _ _ nDr (e5 _ _ hD4)),hv,qv⟩
   refine⟨λb H'=>(b=j'->zs≠[])/\bL H5 H',?_,?_⟩
   . refine⟨_,rfl,rfl,_,rfl,Bi (λ_=>?_) (λ_=>⟨λz=>(by cases z),bL.refl _⟩)⟩;refine⟨_,rfl,pT,λq nq=>⟨D2,q,zs,rfl,rfl,SqL.of (ag nq _ _ (e5 _ _ hE4)),SqL.of a8,_,rfl,λh z=>?_,ag nq⟩⟩;rw[z]at h;cases h
   rintro b H6 ⟨hb2,e6⟩;have e46:=e5.trans e6;refine Bi (λh1=>?_) (λ_=>?_)
   . have hp:=List.length_pos_iff.mpr (hb2 h1);refine⟨_,rfl,_,rfl,_,rfl,D2,zs,rfl,.inl (SqL.of (e46 _ _ hE4)),r,_,rfl,(tk e46).row,by omega,by omega,λg H6 g0 g1 st=>?_⟩;obtain⟨v,hv,qv⟩:=fin ((tk e46).trans st) subD2 g g0 g1;exact⟨D2,zs,_,v,rfl,rfl,SqL.of (st.keep _ _ nDr2 (e46 _ _ hE4)),hv,qv⟩
   have hp:=List.length_pos_iff.mpr hne;refine⟨_,rfl,_,rfl,_,rfl,l,ts,rfl,.inl (SqL.of (e46 _ _ hl4)),r,_,rfl,(tk e46).row,by omega,by omega,λg H6 g0 g1 st=>?_⟩;obtain⟨v,hv,qv⟩:=fin ((tk e46).trans st) (λ_ h=>h) g g0 g1;exact⟨l,ts,_,v,rfl,rfl,SqL.of (st.keep _ _ nrl.symm (e46 _ _ hl4)),hv,qv⟩
def B1 (G:Gs K mg a d):FnOk P w K mg base CX0 3 a.bu d.bu ["yard","size","rounds","quiet","deed"] (yJ w a):=by
 have PM:FnOk P w K mg base CX0 1 _ _ _ _:=jC G;have PK:FnOk P w K mg base CX0 1 _ _ _ _:=mT G;have Pn:FnOk P w K mg base CX0 1 _ _ _ _:=(lR G).imp λvs H Q E=>HL
 have P4:FnOk P w K mg base CX0 2 _ _ _ _:=um G;refine G.gC.ok gc (λvs H Q E h=>?_) (λcdv A' outer s' H vs Q E hr h=>?_)
 . obtain⟨y,q,S,qd,t,x,rfl,_⟩:=h;rfl
 . obtain⟨y,q,S,qd,t,x,rfl,Y,ok,hqd,ht,hm,k⟩:=h;refine⟨_,((@kH _ _ _ _ _ _ _ _ Lm rfl (yU (@bj _ _ _ _ _ (ai∣(ai∣aa)))) (bV (i:=5) gc.nd rfl (KU rfl)) (@ar _ _ _ (@aO _ _ _ _ _ _ _ _ (ao bW (az (pv 0) G.ak G.fL PK (hr.mono (by decide)) G.gS .nil av ((pv 5)∣aa)) au (ax _)) ((@aO _ _ _ _ _ _ _ _ (kI ((pH (ao (AH hr.units) (az (aN (pv 0) G.ak G.bx PM (hr.mono (by decide)) G.bG .nil av) G.aF G.bT Pn (hr.mono (by decide)) G.cr .nil av ((@aI _ _ _ _ _ _ _ ba (@bQ _ _ _ _ (au∣(au∣aa))) (pv 5) (λ_ _=>rfl))∣aa)) ai (ax _)) (kF (ao (qX hr.units) (pv 4) (@bj _ _ _ _ _ (au∣((@cy _ _ _ _ _ _ _ _ my ai (pv 5))∣aa))) (ax _))))).pt) (bF⁻¹) aq)∪(@ar _ _ _ (@aO _ _ _ _ _ _ _ _ (kI ((rq (ao E7 (aJ P4 (hr.mono (by decide)) (by rfl) G.oK G.kU.kp G.oV .nil av ((pv 0)∣((pv 5)∣((pv 1)∣((pv 2)∣aa))))) ai (ax _)) (pJ (cJ (@aI _ _ _ _ _ _ _ ba (pv 3) (@cy _ _ _ _ _ _ _ _ my ai (pv 5)) (λ_ _=>rfl)))))).pt) (bF⁻¹) aq))) aq)) (by intro _;rfl))∪(bF⁻¹)),?_⟩;refine⟨l2,λtq nq=>⟨tq,rfl,⟨_,SqT.of a8⟩,?_⟩⟩;have e4:=ag (o:=.tup [V.int 0,V.int 1]) nq;have v4:=a8 (H:=H) (a:=tq) (o:=.tup [V.int 0,V.int 1]);generalize upd H tq (.tup [V.int 0,V.int 1])=H4 at e4 v4 |-;refine we (K:=K) (a:=tq) (xs:=[V.int 0,V.int 1]) (λi σ H'=>(∃ v5,σ=[dk (.ref y.y),dk (.int q.p.s),dk (.int q.p.R),dk (.ref qd),dk (.ref t),v5])/\bL H4 H')
    ⟨⟨_,rfl⟩,bL.refl _⟩ (λ_ _ _ _ uq21=>by(obtain⟨_,z⟩:=uq21;exact SqT.of (z _ _ v4))) ?_ ?_
   . rintro i z σ H5 hi ⟨⟨v5,rfl⟩,e5⟩;obtain⟨b,rfl⟩:∃ b:Bool,z=.int (sdI b):=by
      match i,hi with
     |0,hi=>cases hi;exact⟨f',rfl⟩
     |1,hi=>cases hi;exact⟨j',rfl⟩
     |_+2,hi=>cases hi
     have E5:=e4.trans e5;have Y5:=Y.same E5;refine⟨_,rfl,dM Y5.ob (dC (by decide +kernel)) ⟨_,rfl,y,_,S,b,rfl,Y5,rfl,_,rfl,?_⟩⟩;by_cases ha:S.bd b=.asleep;rotate_left
     . refine d0 ?_ ⟨⟨_,rfl⟩,e5⟩;rw[Qs];exact zw ha
     refine jj (Qt (by rw[ha];rfl)) ?_;obtain⟨h1,h2,h3⟩:=hm b ha;refine⟨λc H'=>c=f'/\bL H5 H',?_,?_⟩
     . refine⟨_,rfl,dM Y5.ob (dC (by decide +kernel)) ⟨y,_,S,rfl,Y5,dM Y5.x.st.ob (bU (by decide +kernel) (by decide +kernel)) ⟨l2,λp np=>?_⟩⟩⟩;have e6:=ag (o:=.lst [V.str "hand sleeps",V.str "heart sleeps"]) np;have v6:=a8 (H:=H5) (a:=p) (o:=.lst [V.str "hand sleeps",V.str "heart sleeps"]);generalize upd H5 p (.lst [V.str "hand sleeps",V.str "heart sleeps"])=H6 at e6 v6 |-;refine⟨_,rfl,p,_,_,_,rfl,rfl,SqL.of v6,uf,y.sa,S.m,S.rs,bE b,rfl,(Y5.same e6).x.st,?_⟩;refine⟨.int (S.m.c (bE b)),.int 1,rfl,rfl,sF.int _,sF.int _,_,rfl,?_⟩;rw[h1];refine d0 (by decide +kernel) ?_;refine⟨_,rfl,_,rfl,_,_,rfl,rfl,l2,λt2 nt2=>?_⟩;have e7:=ag (o:=.tup [V.str "bell",V.int (1 - sdI b)]) nt2;have v7:upd H6 t2 (.tup [V.str "bell",V.int (1 - sdI b)]) t2=dk (.tup (Dd.bell (!b)).vs):=by rw[a8,lC];rfl
       refine⟨x.dat,(Dd.bell (!b)).dat,x.dv (e7 _ _ (e6 _ _ (E5 _ _ ht))),Dd.dv _ v7,sF.key (dat_kd _) (by cases x<;>(show 1 <= 8;decide)),sF.key (dat_kd _) (by show 1 <= 8;decide),_,rfl,?_,e6.trans e7⟩;rw[Qr (by decide),Bu h2]
     rintro c H6 ⟨rfl,e6⟩;refine iE ?_;have E6:=E5.trans e6;refine⟨λc H'=>c=f'/\bL H5 H',?_,?_⟩
     . refine⟨_,rfl,_,rfl,_,rfl,_,rfl,y,q,S,b,rfl,Y.same E6,ok,λH7 e7=>⟨_,_,rfl,rfl,_,rfl,?_⟩⟩;by_cases h0:wN q S b=0
       . exact d0 (by rw[h0];decide) ⟨rfl,e6.trans e7⟩
       . have nn:=yW (S:=S) ok b;refine jj (Qt (by omega)) ?_;have hq:S.qt (!b)=f':=by
          cases hq:S.qt (!b) with
         |false=>rfl
         |true=>exact absurd (h3 hq) h0
         exact⟨_,rfl,_,rfl,_,_,rfl,rfl,qd,_,_,_,rfl,rfl,SqL.of (e7 _ _ (E6 _ _ hqd)),by rw[lC];exact Eh (!b),_,rfl,hq,e6.trans e7⟩
     rintro c H7 ⟨rfl,e7⟩;exact iE ⟨⟨_,rfl⟩,e5.trans e7⟩
   . rintro σ H5 ⟨⟨v5,rfl⟩,e5⟩;exact k _ (e4.trans e5)
structure Y35 (w:Kk) (ad:Ad) (H:Hp) (a:YA) (s R:Int) (n:Nat) (S:YS) (es:List Ev) (L:Nat) (qd:D'):Prop where
 y:Yn w ad.bf ad.dI ad.b8 ad.cg ad.aM H a (yp0 s R n) S
 i:YI (yp0 s R n) S L
 k:K35 s R n S es
 q:H qd=dk (.lst [.bl (S.qt f'),.bl (S.qt j')])
section
variable {w:Kk}{ad:Ad}{H H':Hp}{a:YA}{s R:Int}{n:Nat}{S:YS}{es:List Ev}{L L':Nat}{qd:D'}
theorem Y35.same (Y:Y35 w ad H a s R n S es L qd) (e:bL H H'):Y35 w ad H' a s R n S es L qd:=⟨Y.y.same e,Y.i,Y.k,e _ _ Y.q⟩
theorem Y35.mono (Y:Y35 w ad H a s R n S es L qd) (h:L <= L'):Y35 w ad H a s R n S es L' qd:=⟨Y.y,Y.i.mono h,Y.k,Y.q⟩
def Y35.stp (Y:Y35 w ad H a s R n S es L qd) {r:D'}(st:Stp r H H') (n1:¬ a.own r) (n2:qd≠r) (hr:Rw H r):Y35 w ad H' a s R n S es L qd:=by
 have ko:KO (·=r) H H':=λc o n e=>st.keep c o n e
 refine⟨Y.y.ko ko (λc z=>by rw[z];exact n1) (λc z vs e=>?_),Y.i,Y.k,st.keep _ _ n2 Y.q⟩;obtain⟨rw,h,_⟩:=hr;rw[z,h]at e;cases e
def Y35.len (Y:Y35 w ad H a s R n S es L qd):((es.map o3).map Hx.h).length <= L:=by
 have h:=Y.i.hl;rw[Y.k.q.q.hs,Kv]at h;rw[Kv,Kv];exact h
end
def x5 (K:Kc):Sp:=λvs H Q _=>∃ (b:D') (ns:List Int),vs=[.ref b]/\SqL K H b (ns.map V.int)/\ns.length <= 63/\∀ H',Q (.bl j') H'
def G8 (G:Gs K mg a d):FnOk P w K mg base CX0 17 a.law d.law ["script"] (x5 K):=by
 have P5:FnOk P w K mg base CX0 1 _ _ _ _:=Ae G;have P9:FnOk P w K mg base CX0 1 _ _ _ _:=Fq G;have Qb:FnOk P w K mg base CX0 1 _ _ _ _:=zT G;have Pt:FnOk P w K mg base CX0 6 _ _ _ _:=Bb G;have Pu:FnOk P w K mg base CX0 12 _ _ _ _:=FI G;have PN:FnOk P w K mg base CX0 1 _ _ _ _:=rM G;have Qp:FnOk P w K mg base (CXv P w) 10 _ _ _ _:=ET G;have P6:FnOk P w K mg base CX0 2 _ _ _ _:=Av G;have Qc:FnOk P w K mg base CX0 1 _ _ _ _:=zS G;have P8:FnOk P w K mg base CX0 3 _ _ _ _:=B1 G;have PX:FnOk P w K mg base CX0 4 _ _ _ _:=DA G;have P7:FnOk P w K mg base CX0 3 _ _ _ _:=BB G;have Qa:FnOk P w K mg base CX0 1 _ _ _ _:=uB G;refine G.HC.ok jh (λvs H Q E h=>?_) (λcdv A' outer s' H vs Q E hr h=>?_)
 . obtain⟨l,ns,rfl,_⟩:=h;rfl
 . obtain⟨l,ns,rfl,hS,hlen,k⟩:=h;have hu:=dR hr;refine⟨_,((@bi _ _ 1 _ _ _ _ jh.nd rfl (KU rfl) (aJ P9 (hr.mono (by decide)) (by rfl) G.uN G.pS.kp G.ut .nil av ((aJ P5 (hr.mono (by decide)) (by rfl) G.sB G.lX.kp G.sM .nil av ((pv 0)∣(ai∣aa)))∣aa)) (by rfl) (by first|exact .inl rfl|exact .inr rfl|assumption))∪((@bi _ _ 2 _ _ _ _ jh.nd rfl (KU rfl) (@cy _ _ _ _ _ _ _ _ lS ai (aJ Qb (hr.mono (by decide)) (by rfl) G.cp G.bX.kp G.cu .nil av ((pv 1)∣(ai∣aa)))) (by rfl) (by first|exact .inl rfl|exact .inr rfl|assumption))∪((@bi _ _ 3 _ _ _ _ jh.nd rfl (KU rfl) (@cy _ _ _ _ _ _ _ _ lS ai (aJ Qb (hr.mono (by decide)) (by rfl) G.cp G.bX.kp G.cu .nil av ((pv 1)∣(ai∣aa)))) (by rfl) (by first|exact .inl rfl|exact .inr rfl|assumption))∪((@bi _ _ 4 _ _ _ _ jh.nd rfl (KU rfl) (kY G.G5 Pt (hr.mono (by decide)) (by rfl) G.GM G.uS .nil av ((pv 2)∣((pv 3)∣((@cy _ _ _ _ _ _ _ _ lS ai (aJ Qb (hr.mono (by decide)) (by rfl) G.cp G.bX.kp G.cu .nil av ((pv 1)∣(ai∣aa))))∣((@bj _ _ _ _ _ aa)∣aa))))) (by rfl) (by first|exact .inl rfl|exact .inr rfl|assumption))∪((@bi _ _ 5 _ _ _ _ jh.nd rfl (KU rfl) (@bQ _ _ _ _ (bF∣(bF∣aa))) (by rfl) (by first|exact .inl rfl|exact .inr rfl|assumption))∪(@nB _ _ _ _ _ (@kH _ _ _ _ _ _ _ _ Lm rfl (@fY _ _ _ _ (gG nE (pv 0) (iX ai) (iX ai))) (bV (i:=6) jh.nd rfl (KU rfl)) ((@bi _ _ 1 _ _ _ _ jh.nd rfl (KU rfl) (aJ P9 (hr.mono (by decide)) (by rfl) G.uN G.pS.kp G.ut .nil av ((pv 6)∣aa)) (by rfl) (by first|exact .inl rfl|exact .inr rfl|assumption))∪((@bi _ _ 7 _ _ _ _ jh.nd rfl (KU rfl) (@bQ _ _ _ _ ((@cy _ _ _ _ _ _ _ _ my (aJ Qb (hr.mono (by decide)) (by rfl) G.cp G.bX.kp G.cu .nil av ((pv 1)∣(ai∣aa))) ai)∣((@aI _ _ _ _ _ _ _ ba (@bQ _ _ _ _ ((@cy _ _ _ _ _ _ _ _ zv ai ai)∣((Gd CP (@cy _ _ _ _ _ _ _ _ zv ai ai))∣(ai∣aa)))) (aJ Qb (hr.mono (by decide)) (by rfl) G.cp G.bX.kp G.cu .nil av ((pv 1)∣(ai∣aa))) (λ_ _=>rfl))∣aa))) (by rfl) (by first|exact .inl rfl|exact .inr rfl|assumption))∪(@nB _ _ _ _ _ (@kH _ _ _ _ _ _ _ _ Lm rfl (uD (by rfl) G.Af ((@cy _ _ _ _ _ _ _ _ lS ai (aJ Qb (hr.mono (by decide)) (by rfl) G.cp G.bX.kp G.cu .nil av ((pv 1)∣(ai∣aa))))∣aa)) (bV (i:=8) jh.nd rfl (KU rfl)) ((@bi _ _ 9 _ _ _ _ jh.nd rfl (KU rfl) (az (pv 4) G.ak G.lx Pu (hr.mono (by decide)) G.mf .nil av ((pv 7)∣aa)) (by rfl) (by first|exact .inl rfl|exact .inr rfl|assumption))∪((@aO _ _ _ _ _ _ _ _ (ao (Bt hr.units) (pv 9) (@bQ _ _ _ _ aa) (ax _)) (@ar _ _ _ Cz) aq)∪((@bi _ _ 10 _ _ _ _ jh.nd rfl (KU rfl) (aJ P6 (hr.mono (by decide)) (by rfl) G.uY G.nP.kp G.uT .nil av ((pv 1)∣((pv 9)∣aa))) (by rfl) (by first|exact .inl rfl|exact .inr rfl|assumption))∪((@aK _ _ _ _ (az (pv 4) G.ak G.uo Qp (hr.mono (by decide)) G.wc .nil DJ ((pv 10)∣aa)) (by rfl))∪((@aK _ _ _ _ (aJ Qc (hr.mono (by decide)) (by rfl) G.lH G.gF.kp G.lJ .nil av ((pv 5)∣((pv 10)∣aa))) (by rfl))∪(@ar _ _ _ (@aO _ _ _ _ _ _ _ _ (i9 (cJ (aJ P8 (hr.mono (by decide)) (by rfl) G.m7 G.gC.kp G.lD .nil av ((pv 4)∣((pv 2)∣((pv 3)∣((pv 5)∣((pv 10)∣aa)))))))) (bF⁻¹) aq))))))) (by intro _;rfl))
    (@ar _ _ _ (@aO _ _ _ _ _ _ _ _ (kI ((pH (ao DG (aJ PX (hr.mono (by decide)) (by rfl) G.FK G.D9.kp G.FT .nil av ((pv 4)∣aa)) bF (ax _)) (kF (cJ (aJ P7 (hr.mono (by decide)) (by rfl) G.yy G.qV.kp G.yq .nil av ((pv 4)∣((pv 2)∣((pv 3)∣((pv 5)∣aa))))))))).pt) (bF⁻¹) aq))))) (by intro _;rfl))
    ((aJ Qa (hr.mono (by decide)) (by rfl) G.i7 G.eV.kp G.ia .nil av ((aN (pv 4) G.ak G.iw PN (hr.mono (by decide)) G.jM .nil av)∣aa))⁻¹))))))),?_⟩
   refine⟨_,rfl,l,ns,0,rfl,hS,_,rfl,λr rw hr0 ir=>?_⟩;have e1:=ag (o:=.lst rw) hr0;have R1:Rw (upd H r (.lst rw)) r:=⟨rw,a8,ir⟩
   generalize upd H r (.lst rw)=H1 at e1 R1 |-;refine⟨_,rfl,r,8,rfl,R1,by decide,by decide,λg1 H2 a1 b1 st2=>⟨_,_,rfl,rfl,?_⟩⟩;refine⟨_,rfl,r,3,rfl,st2.row,by decide,by decide,λg2 H3 a2 b2 st3=>⟨_,_,rfl,rfl,?_⟩⟩;refine⟨_,rfl,_,rfl,_,rfl,r,9,rfl,st3.row,by decide,by decide,λg3 H4 a3 b3 st4=>⟨_,_,rfl,rfl,?_⟩⟩;have st14:=(st2.trans st3).trans st4;have E4:bL H H4:=λc o e=>st14.keep c o (ae e hr0) (e1 c o e)
   have S4:=E4.seq hS;clear e1 R1 st2 st3 st4 st14 E4 ir hr0 hS;refine⟨pT,λf0 hf0=>?_⟩;have e5:=ag (o:=.tup []) hf0;have w5:upd H4 f0 (.tup []) f0=dk (.tup []):=a8;have S5:=e5.seq S4;generalize upd H4 f0 (.tup [])=H5 at w5 S5 |-;clear e5 S4 hf0;intro y dy ny ndy nedy;obtain⟨n,hn⟩:∃ n:Nat,1+g3=(n:Int):=⟨(1+g3).toNat,by omega⟩
   refine⟨y,dy,f0,1+g1,2+g2,n,[],(by show [V.ref y,V.int (1+g1),V.int (2+g2),V.int (1+g3),V.ref f0]=_;rw[hn]),a8,by rw[ac (ae w5 ny),ac (ae w5 ndy)];exact w5,λa1 H6 ha fa Y6 kp6=>⟨rfl,?_⟩⟩;have S6:=(lQ ny ndy kp6).seq S5;subst ha;have hyp:IP (1+g1) (2+g2) n []=yp0 (1+g1) (2+g2) n:=rfl;rw[hyp]at Y6;clear fa kp6 ny ndy nedy hyp S5 w5;refine⟨l2,λqd nqd=>?_⟩;have e7:=ag (o:=.lst [V.bl j',V.bl j']) nqd;have W:Y35 w a (upd H6 qd (.lst [V.bl j',V.bl j'])) a1 (1+g1) (2+g2) n YS.zero [] 0 qd:=⟨Y6.same e7,YI.zero _,K35.zero (by omega) (by omega) (by omega) (by omega),a8⟩
   have nq_:¬ a1.own qd:=Y6.fresh nqd;have S7:=e7.seq S6;generalize upd H6 qd (.lst [V.bl j',V.bl j'])=H7 at W S7 |-;clear Y6 e7 nqd S6;refine⟨λσ H'=>∃ S es,(∃ v1 v6 v7 v8 v9 v10,σ=[dk (.ref l),v1,dk (.int (1+g1)),dk (.int (2+g2)),dk (.ref a1.y),dk (.ref qd),v6,v7,v8,v9,v10])/\Y35 w a H' a1 (1+g1) (2+g2) n S es 744 qd,?_,?_⟩
   . refine⟨_,rfl,_,rfl,_,rfl,l,_,rfl,S7,λp hp=>⟨p,rfl,⟨_,SqL.of a8⟩,?_⟩⟩;have e8:=ag (o:=.lst (lP (ns.map V.int) (dk 1) (dk 63))) hp;have v8:upd H7 p (.lst (lP (ns.map V.int) (dk 1) (dk 63))) p=dk (.lst (((ns.drop 1).take 62).map V.int)):=by
      rw[a8,show (dk (1:Int))=dk ((1:Nat):Int) from rfl,show (dk (63:Int))=dk ((63:Nat):Int) from rfl,Cr,List.map_take,List.map_drop]
     have W8:=W.same e8;have np:¬ a1.own p:=W.y.fresh hp;have npq:p≠qd:=λz=>by rw[z,W.q]at hp;cases hp
     generalize upd H7 p (.lst (lP (ns.map V.int) (dk 1) (dk 63)))=H8 at v8 W8 |-;have cl:((ns.drop 1).take 62).length <= 62:=by rw[Lu];omega
     generalize (ns.drop 1).take 62=cs at v8 cl |-;clear W S7 e8 hp;refine sD (K:=K) (a:=p) (xs:=cs.map V.int) (λi σ H'=>∃ S es,(∃ v1 v6 v7 v8 v9 v10,σ=[dk (.ref l),v1,dk (.int (1+g1)),dk (.int (2+g2)),dk (.ref a1.y),dk (.ref qd),v6,v7,v8,v9,v10])/\Y35 w a H' a1 (1+g1) (2+g2) n S es (12 * i) qd/\H' p=dk (.lst (cs.map V.int)))
      ⟨_,_,⟨_,_,_,_,_,_,rfl⟩,W8,v8⟩ (λ_ _ _ _ uq22=>by(obtain⟨_,_,_,_,z⟩:=uq22;exact SqL.of z)) ?_ ?_
     . clear W8 v8;rintro i x σ H9 hi ⟨S,es,⟨v1,v6,v7,v8,v9,v10,rfl⟩,Y,hp9⟩;obtain⟨c,rfl⟩:∃ c,x=.int c:=by
        rw[Lo]at hi;cases e:cs[i]? with
       |none=>rw[e]at hi;cases hi
       |some c=>rw[e]at hi;cases hi;exact⟨c,rfl⟩
       have hi62:i < 62:=by have:=(Kw.mp hi).1;rw[Kv]at this;omega
       clear hi;refine⟨_,rfl,c,rfl,λr rw hr ir=>?_⟩;have e10:=ag (o:=.lst rw) hr;have R10:Rw (upd H9 r (.lst rw)) r:=⟨rw,a8,ir⟩
       have Y10:=Y.same e10;have hp10:=e10 _ _ hp9;have nr:¬ a1.own r:=Y.y.fresh hr;have nrq:qd≠r:=ae Y.q hr;have nrp:p≠r:=ae hp9 hr;generalize upd H9 r (.lst rw)=H10 at R10 Y10 hp10 |-;clear Y e10 hp9 hr ir;refine⟨_,rfl,r,19,rfl,R10,by decide,by decide,λg4 H11 a4 b4 st11=>⟨_,_,rfl,rfl,?_⟩⟩;have Y11:=Y10.stp st11 nr nrq R10;have hp11:=st11.keep _ _ nrp hp10;have R11:=st11.row;clear st11 Y10 hp10 R10;refine⟨_,_,rfl,rfl,⟨by decide,by decide,by decide⟩,_,_,rfl,rfl,⟨by decide,by decide,by decide⟩,_,rfl,JT,λq3 nq3=>?_⟩;have e12:=ag (o:=.lst [V.int (10 ^ (9:Int).toNat),V.int (-10 ^ (9:Int).toNat),V.int 0]) nq3;have v12:=a8 (H:=H11) (a:=q3) (o:=.lst [V.int (10 ^ (9:Int).toNat),V.int (-10 ^ (9:Int).toNat),V.int 0]);have Y12:=Y11.same e12;have hp12:=e12 _ _ hp11;have R12:Rw (upd H11 q3 (.lst [V.int (10 ^ (9:Int).toNat),V.int (-10 ^ (9:Int).toNat),V.int 0])) r:=R11.new nq3;have nqr:q3≠r:=R11.ne nq3;generalize upd H11 q3 (.lst [V.int (10 ^ (9:Int).toNat),V.int (-10 ^ (9:Int).toNat),V.int 0])=H12 at v12 Y12 hp12 R12 |-;clear e12 nq3 Y11 hp11 R11;refine⟨_,rfl,r,3,rfl,R12,by decide,by decide,λg5 H13 a5 b5 st13=>?_⟩;obtain⟨wv,hwv,hw3⟩:=at3 (x:=V.int (10 ^ (9:Int).toNat)) (y:=V.int (-10 ^ (9:Int).toNat)) (z:=V.int 0) a5 b5;obtain⟨wt,rfl,w0,w1⟩:∃ wt:Int,wv=.int wt/\-1000000000 <= wt/\wt <= 1000000000:=by rcases hw3 with h|h|h<;>exact⟨_,h,by decide,by decide⟩
       refine⟨q3,_,_,_,rfl,rfl,SqL.of (st13.keep _ _ nqr v12),hwv,l2,λwl nwl=>?_⟩;have Y13:=Y12.stp st13 nr nrq R12;have hp13:=st13.keep _ _ nrp hp12;have e14:=ag (o:=.lst [V.int (g4 - 9),V.int wt]) nwl;have Y14:=Y13.same e14;have hp14:=e14 _ _ hp13;have R14:Rw (upd H13 wl (.lst [V.int (g4 - 9),V.int wt])) r:=st13.row.new nwl;have w14:upd H13 wl (.lst [V.int (g4 - 9),V.int wt]) wl=dk (.lst ([g4 - 9,wt].map V.int)):=a8;have nwr:wl≠r:=st13.row.ne nwl;have nwo:¬ a1.own wl:=Y13.y.fresh nwl;have nwq:wl≠qd:=λz=>by rw[z,Y13.q]at nwl;cases nwl
       have wok:∀ x∈[g4 - 9,wt],-1000000000 <= x/\x <= 1000000000:=λx hx=>by
        simp only[KA,KL,or_false]at hx;rcases hx with rfl|rfl<;>omega
       have wl2:[g4 - 9,wt].length=2:=rfl;generalize upd H13 wl (.lst [V.int (g4 - 9),V.int wt])=H14 at Y14 hp14 R14 w14 |-;generalize [g4 - 9,wt]=ws at w14 wok wl2;clear e14 Y13 hp13 st13 Y12 hp12 R12 v12 hwv hw3 nwl nqr;refine⟨λσ H'=>∃ S es,(∃ v1 v6 v7 v8 v9 v10,σ=[dk (.ref l),v1,dk (.int (1+g1)),dk (.int (2+g2)),dk (.ref a1.y),dk (.ref qd),v6,v7,v8,v9,v10])/\Y35 w a H' a1 (1+g1) (2+g2) n S es (12 * i+12) qd/\H' p=dk (.lst (cs.map V.int)),?_,?_⟩
       . refine⟨_,rfl,r,6,rfl,R14,by decide,by decide,λg6 H15 a6 b6 st15=>⟨_,_,rfl,rfl,1+g6,rfl,by omega,by omega,?_⟩⟩;have Y15:=Y14.stp st15 nr nrq R14;have hp15:=st15.keep _ _ nrp hp14;have w15:=st15.keep _ _ nwr w14;have R15:=st15.row;clear st15 Y14 hp14 R14 w14;have hn6:(1+g6).toNat <= 6:=by omega
         generalize (1+g6).toNat=n6 at hn6 |-;refine uI (λj σ H'=>∃ S es,(∃ v8 v9 v10,σ=[dk (.ref l),dk (.ref r),dk (.int (1+g1)),dk (.int (2+g2)),dk (.ref a1.y),dk (.ref qd),dk (.int c),dk (.ref wl),v8,v9,v10])/\Y35 w a H' a1 (1+g1) (2+g2) n S es (12 * i+2 * j) qd/\H' p=dk (.lst (cs.map V.int))/\H' wl=dk (.lst (ws.map V.int))/\Rw H' r)
          ⟨S,es,⟨_,_,_,rfl⟩,Y15,hp15,w15,R15⟩ ?_ ?_
         . clear Y15 hp15 w15 R15;clear S es;rintro j σ H16 hj ⟨S,es,⟨v8,v9,v10,rfl⟩,Y,hpY,hwY,hrY⟩;have qok:(yp0 (1+g1) (2+g2) n).Ok:=Y.k.q.ok;have tkl:=Y.i.tkd.len (by decide);refine⟨_,rfl,dM Y.y.ob (dC (by decide +kernel)) ⟨_,rfl,a1,_,S,wl,ws,rfl,Y.y,qok,hwY,by omega,wok,by omega,λlc ks ts H17 pk _ nlc e17 hlc td=>?_⟩⟩;have Y17:=Y.same e17;have hp17:=e17 _ _ hpY;have hw17:=e17 _ _ hwY;have R17:Rw H17 r:=by obtain⟨rw,h,ir⟩:=hrY;exact⟨rw,e17 _ _ h,ir⟩
           have nlr:r≠lc:=λz=>by obtain⟨rw,h,ir⟩:=hrY;rw[z,nlc]at h;cases h
           have kl:=pk.length_eq;have xlen:((jg ws ks).filter λx=>(x.chk (yp0 (1+g1) (2+g2) n) S).isNone).length <= 20000:=by
            refine K6 (Mg ..) ?_;unfold jg hX nT;rw[JX,JX,JX,Kv,ml,wl2];show 2+2+_+8 <= _;omega
           have tl:=aL td;clear e17 Y hpY hwY hrY;refine⟨_,rfl,pT,λq nq=>⟨lc,q,ts,rfl,rfl,SqL.of (ag nq _ _ hlc),SqL.of a8,_,rfl,?_⟩⟩;have e18:=ag (o:=.lst []) nq;have Y18:=Y17.same e18;have hp18:=e18 _ _ hp17;have hw18:=e18 _ _ hw17;have R18:Rw (upd H17 q (.lst [])) r:=R17.new nq;have hl18:=e18 _ _ hlc;have td18:=rK (λb vs e=>e18 b _ e) td;generalize upd H17 q (.lst [])=H18 at Y18 hp18 hw18 R18 hl18 td18 |-;clear e18 Y17 hp17 hw17 R17 hlc td nq;rw[Qr (by decide)];cases ts with
          |nil=>exact jj rfl ⟨S,es,⟨_,_,_,_,_,_,rfl⟩,Y18.mono (by omega),hp18⟩
          |cons t0 ts =>
            refine d0 (λz=>by cases z) ?_;refine⟨_,rfl,_,rfl,r,lc,_,_,rfl,R18,hl18,td18,(λz=>by rw[z]at tl;cases tl),xlen,nlr,λx t H19 hx ht st=>?_⟩;have Y19:=Y18.stp st nr nrq R18;have hp19:=st.keep _ _ nrp hp18;have hw19:=st.keep _ _ nwr hw18;have R19:=st.row;clear st Y18 hp18 hw18 R18 hl18 td18;obtain⟨hx1,hx2⟩:=Mn.mp hx;have hc:x.chk (yp0 (1+g1) (2+g2) n) S=JZ:=by
             cases h:x.chk (yp0 (1+g1) (2+g2) n) S with
            |none=>rfl
            |some r=>rw[h]at hx2;cases hx2
            have xo:=xr (ks:=ks) wok x hx1;obtain⟨fs,_,hfs,K20⟩:=Y19.k.out x;have hrg:∀ b,x=.bell b->(x.run (yp0 (1+g1) (2+g2) n) S).2.bd (!b)≠.asleep:=λb hb=>by
             subst hb;have:=Y19.k.z.rung hc;rw[Dd.out_none hc]at this;exact this
            rw[Dd.out_none hc]at K20;refine⟨_,rfl,dM Y19.y.ob (dC (by decide +kernel)) ⟨_,rfl,a1,_,S,12 * i+2 * j,x,t,rfl,⟨Y19.y,qok,Y19.i,by omega⟩,ht,xo,?_⟩⟩;rw[hc];intro v H20 Y20 i20 _ ko20;have ht20:=vN ko20 Y19.y.noT _ _ ht;have hq20:=ko20 _ _ nq_ Y19.q;refine⟨_,rfl,_,rfl,qd,t,S.qt,x,rfl,hq20,ht20,?_⟩;have eqt:(x.run (yp0 (1+g1) (2+g2) n) S).2.qt=x.trn S.qt:=EV hc;have ko21:KO (·=qd) H20 (upd H20 qd (.lst [V.bl (x.trn S.qt f'),V.bl (x.trn S.qt j')])):=λc o n e=>by rw[ac n];exact e
            have nt21:∀ c,c=qd->∀ vs,H20 c≠dk (.tup vs):=λc z vs e=>by rw[z,hq20]at e;cases e
            have Y21:Y35 w a (upd H20 qd (.lst [V.bl (x.trn S.qt f'),V.bl (x.trn S.qt j')])) a1 (1+g1) (2+g2) n (x.run (yp0 (1+g1) (2+g2) n) S).2 (es++fs) (12 * i+2 * j+2) qd:=⟨Y20.ko ko21 (λc z=>by rw[z];exact nq_) nt21,i20,K20,by rw[eqt];exact a8⟩
            have hp21:=ko21 _ _ npq (ko20 _ _ np hp19);have hw21:=ko21 _ _ nwq (ko20 _ _ nwo hw19);have ht21:=vN ko21 nt21 _ _ ht20;have R21:Rw (upd H20 qd (.lst [V.bl (x.trn S.qt f'),V.bl (x.trn S.qt j')])) r:=by
             obtain⟨rw,h,ir⟩:=R19;exact⟨rw,ko21 _ _ nrq.symm (ko20 _ _ nr h),ir⟩
            generalize upd H20 qd (.lst [V.bl (x.trn S.qt f'),V.bl (x.trn S.qt j')])=H21 at Y21 hp21 hw21 ht21 R21 |-;clear Y20 i20 ko20 ht20 hq20 ko21 nt21 Y19 hp19 hw19 R19 ht;refine⟨_,rfl,_,rfl,_,rfl,_,rfl,_,rfl,a1,yp0 (1+g1) (2+g2) n,_,qd,t,x,rfl,Y21.y,qok,Y21.q,ht21,λb hb=>?_,λH22 e22=>⟨_,rfl,iE ?_⟩⟩
            . obtain⟨h1,h2⟩:=Y21.k.asleep hb;refine⟨h1,λz=>?_,h2⟩;have:=hrg (!b) z;rw[Bool.not_not]at this;exact this hb
            . refine⟨_,_,⟨_,_,_,rfl⟩,(Y21.same e22).mono (by omega),e22 _ _ hp21,e22 _ _ hw21,?_⟩;obtain⟨rw,h,ir⟩:=R21;exact⟨rw,e22 _ _ h,ir⟩
         . rintro σ H16 ⟨S,es,⟨v8,v9,v10,rfl⟩,Y,hpY,hwY,hrY⟩;exact⟨S,es,⟨_,_,_,_,_,_,rfl⟩,Y.mono (by omega),hpY⟩
       . clear Y14 hp14 R14 w14;clear S es;rintro σ H15 ⟨S,es,⟨v1,v6,v7,v8,v9,v10,rfl⟩,Y,hpY⟩;have qok:(yp0 (1+g1) (2+g2) n).Ok:=Y.k.q.ok;have yl:=Y.len;refine⟨λb H'=>b=f'/\bL H15 H',?_,?_⟩
         . refine⟨_,rfl,a1,_,S,_,rfl,Y.y,qok,Y.k.hx,by omega,λH16 e16=>?_⟩;rw[Y.k.err];refine⟨_,_,rfl,rfl,_,rfl,iE ?_⟩;refine⟨_,rfl,_,rfl,_,rfl,_,rfl,a1,yp0 (1+g1) (2+g2) n,S,_,qd,rfl,Y.y.same e16,qok,Y.k.hx,by omega,e16 _ _ Y.q,λH17 e17=>?_⟩;rw[Y.k.err];exact⟨_,rfl,rfl,e16.trans e17⟩
         rintro b H16 ⟨rfl,e16⟩;exact iE ⟨S,es,⟨_,_,_,_,_,_,rfl⟩,(Y.same e16).mono (by omega),e16 _ _ hpY⟩
     . rintro σ H9 ⟨S,es,⟨v1,v6,v7,v8,v9,v10,rfl⟩,Y,hp9⟩;exact⟨S,es,⟨_,_,_,_,_,_,rfl⟩,Y.mono (by rw[Kv];omega)⟩
   . rintro σ H8 ⟨S,es,⟨v1,v6,v7,v8,v9,v10,rfl⟩,Y⟩;refine⟨_,rfl,dM Y.y.ob (dC (by decide +kernel)) ⟨a1,_,S,rfl,Y.y,λlf tsf hlf dvf=>?_⟩⟩;have e9:=ag (o:=.lst tsf) hlf;have dvf':=DVs.fl (λb vs e=>e9 b _ e) Y.y.fl dvf;rw[Y.k.hx]at dvf';refine⟨lf,_,rfl,⟨_,a8,CK dvf'⟩,by have:=Y.len;omega,λH10 e10=>?_⟩;rw[Qt Y.k.right];exact k _
def FnA (K:Kc) (f:D') (x q:Str) (st:K0):Prop:=∃ fd,Fun K x q st f fd
def NsA (K:Kc) (f:D') (x:Str) (st:K0):Prop:=nsIn K KR x=dk (dk (.ref f))/\FnA K f x x st
def MtA (K:Kc) (C f:D') (x q:Str) (st:K0):Prop:=findIn K (.ref C) x=dk (dk (.ref f))/\isFn K (.ref f)=j'/\FnA K f x q st
def ClA (K:Kc) (C:D') (x:Str):Prop:=nsIn K KR x=dk (dk (.ref C))/\Cls K C/\makesIn K C=j'/\keepIn K (.ref C)=j'
def Ea (K:Kc) (C:D'):List Str->Prop
|[]=>True
|f :: r=>aX K C f/\Ea K C r
def IM (K:Kc):List Str->Prop
|[]=>True
|f :: r=>nsIn K KR f=dk JZ/\IM K r
section
variable {K:Kc}{h:KN}{mg:Str->Option JW}{f C:D'}{x q:Str}{st:K0}
def ck (X:K.In h) (G:h.Ns KR mg) (l:NsA K f x st):mg x=dk (.ref f)/\∃ fd,Fun K x x st f fd:=⟨mg_of X G l.1,l.2⟩
def aS (l:MtA K C f x q st):Meth K C x f/\∃ fd,Fun K x q st f fd:=by
 obtain⟨a,i,fd,F⟩:=l;exact⟨⟨a,i,F.kp⟩,fd,F⟩
def rB (X:K.In h) (G:h.Ns KR mg) (l:ClA K C x) (m:MtA K C f "__init__" q st):mg x=dk (.ref C)/\Cls K C/\Mk K C f:=⟨mg_of X G l.1,l.2.1,l.2.2.1,m.1,m.2.1,l.2.2.2⟩
end
def bnc {n:Nat}{us:List JW}(h:us.length=n+1):∃ u vs,us=u :: vs/\vs.length=n:=by
 cases us
 . cases h
 . exact⟨_,_,rfl,Nat.succ.inj h⟩
def bn1 {K:Kc}{f:D'}{x q:Str}{st:K0}{fd:Kj}(F:Fun K x q st f fd) (p0:Str) (h:∀ (kV doc pm:JW) (an:Option D') (cdv ct:JW) (u0:JW),bindArgs (fnOf x q (gf st) (eG st) (aj st) .none kV doc pm an cdv ct) ⟨[u0],[]⟩=pure ([p0].zip [u0])):aG K fd [p0] []:=F.binds λa b c d e g us hl=>by (obtain⟨u0,t0,rfl,j0⟩:=bnc hl;obtain rfl:=length_eq_zero_iff.mp j0;exact h a b c d e g u0)
def bn2 {K:Kc}{f:D'}{x q:Str}{st:K0}{fd:Kj}(F:Fun K x q st f fd) (p0 p1:Str) (h:∀ (kV doc pm:JW) (an:Option D') (cdv ct:JW) (u0 u1:JW),bindArgs (fnOf x q (gf st) (eG st) (aj st) .none kV doc pm an cdv ct) ⟨[u0,u1],[]⟩=pure ([p0,p1].zip [u0,u1])):aG K fd [p0,p1] []:=F.binds λa b c d e g us hl=>by (obtain⟨u0,t0,rfl,j0⟩:=bnc hl;obtain⟨u1,t1,rfl,j1⟩:=bnc j0;obtain rfl:=length_eq_zero_iff.mp j1;exact h a b c d e g u0 u1)
def bn3 {K:Kc}{f:D'}{x q:Str}{st:K0}{fd:Kj}(F:Fun K x q st f fd) (p0 p1 p2:Str) (h:∀ (kV doc pm:JW) (an:Option D') (cdv ct:JW) (u0 u1 u2:JW),bindArgs (fnOf x q (gf st) (eG st) (aj st) .none kV doc pm an cdv ct) ⟨[u0,u1,u2],[]⟩=pure ([p0,p1,p2].zip [u0,u1,u2])):aG K fd [p0,p1,p2] []:=F.binds λa b c d e g us hl=>by (obtain⟨u0,t0,rfl,j0⟩:=bnc hl;obtain⟨u1,t1,rfl,j1⟩:=bnc j0;obtain⟨u2,t2,rfl,j2⟩:=bnc j1;obtain rfl:=length_eq_zero_iff.mp j2;exact h a b c d e g u0 u1 u2)
def bn4 {K:Kc}{f:D'}{x q:Str}{st:K0}{fd:Kj}(F:Fun K x q st f fd) (p0 p1 p2 p3:Str) (h:∀ (kV doc pm:JW) (an:Option D') (cdv ct:JW) (u0 u1 u2 u3:JW),bindArgs (fnOf x q (gf st) (eG st) (aj st) .none kV doc pm an cdv ct) ⟨[u0,u1,u2,u3],[]⟩=pure ([p0,p1,p2,p3].zip [u0,u1,u2,u3])):aG K fd [p0,p1,p2,p3] []:=F.binds λa b c d e g us hl=>by (obtain⟨u0,t0,rfl,j0⟩:=bnc hl;obtain⟨u1,t1,rfl,j1⟩:=bnc j0;obtain⟨u2,t2,rfl,j2⟩:=bnc j1;obtain⟨u3,t3,rfl,j3⟩:=bnc j2;obtain rfl:=length_eq_zero_iff.mp j3;exact h a b c d e g u0 u1 u2 u3)
def bn5 {K:Kc}{f:D'}{x q:Str}{st:K0}{fd:Kj}(F:Fun K x q st f fd) (p0 p1 p2 p3 p4:Str) (h:∀ (kV doc pm:JW) (an:Option D') (cdv ct:JW) (u0 u1 u2 u3 u4:JW),bindArgs (fnOf x q (gf st) (eG st) (aj st) .none kV doc pm an cdv ct) ⟨[u0,u1,u2,u3,u4],[]⟩=pure ([p0,p1,p2,p3,p4].zip [u0,u1,u2,u3,u4])):aG K fd [p0,p1,p2,p3,p4] []:=F.binds λa b c d e g us hl=>by (obtain⟨u0,t0,rfl,j0⟩:=bnc hl;obtain⟨u1,t1,rfl,j1⟩:=bnc j0;obtain⟨u2,t2,rfl,j2⟩:=bnc j1;obtain⟨u3,t3,rfl,j3⟩:=bnc j2;obtain⟨u4,t4,rfl,j4⟩:=bnc j3;obtain rfl:=length_eq_zero_iff.mp j4;exact h a b c d e g u0 u1 u2 u3 u4)
def bn6 {K:Kc}{f:D'}{x q:Str}{st:K0}{fd:Kj}(F:Fun K x q st f fd) (p0 p1 p2 p3 p4 p5:Str) (h:∀ (kV doc pm:JW) (an:Option D') (cdv ct:JW) (u0 u1 u2 u3 u4 u5:JW),bindArgs (fnOf x q (gf st) (eG st) (aj st) .none kV doc pm an cdv ct) ⟨[u0,u1,u2,u3,u4,u5],[]⟩=pure ([p0,p1,p2,p3,p4,p5].zip [u0,u1,u2,u3,u4,u5])):aG K fd [p0,p1,p2,p3,p4,p5] []:=F.binds λa b c d e g us hl=>by (obtain⟨u0,t0,rfl,j0⟩:=bnc hl;obtain⟨u1,t1,rfl,j1⟩:=bnc j0;obtain⟨u2,t2,rfl,j2⟩:=bnc j1;obtain⟨u3,t3,rfl,j3⟩:=bnc j2;obtain⟨u4,t4,rfl,j4⟩:=bnc j3;obtain⟨u5,t5,rfl,j5⟩:=bnc j4;obtain rfl:=length_eq_zero_iff.mp j5;exact h a b c d e g u0 u1 u2 u3 u4 u5)
def bn7 {K:Kc}{f:D'}{x q:Str}{st:K0}{fd:Kj}(F:Fun K x q st f fd) (p0 p1 p2 p3 p4 p5 p6:Str) (h:∀ (kV doc pm:JW) (an:Option D') (cdv ct:JW) (u0 u1 u2 u3 u4 u5 u6:JW),bindArgs (fnOf x q (gf st) (eG st) (aj st) .none kV doc pm an cdv ct) ⟨[u0,u1,u2,u3,u4,u5,u6],[]⟩=pure ([p0,p1,p2,p3,p4,p5,p6].zip [u0,u1,u2,u3,u4,u5,u6])):aG K fd [p0,p1,p2,p3,p4,p5,p6] []:=F.binds λa b c d e g us hl=>by (obtain⟨u0,t0,rfl,j0⟩:=bnc hl;obtain⟨u1,t1,rfl,j1⟩:=bnc j0;obtain⟨u2,t2,rfl,j2⟩:=bnc j1;obtain⟨u3,t3,rfl,j3⟩:=bnc j2;obtain⟨u4,t4,rfl,j4⟩:=bnc j3;obtain⟨u5,t5,rfl,j5⟩:=bnc j4;obtain⟨u6,t6,rfl,j6⟩:=bnc j5;obtain rfl:=length_eq_zero_iff.mp j6;exact h a b c d e g u0 u1 u2 u3 u4 u5 u6)
def all_mk {l:PySem.W.OpenLaw}{w:Kk}{K:Kc}{h:KN}{mg:Str->Option JW}{fa:D'}(X:K.In h) (G:h.Ns KR mg) (hfa:mg "law"=dk (.ref fa))
 {f_z0 f_z1 f_z2 f_z3 f_z4 f_z5 f_z6 f_z7 f_z8 f_z9 f_z10 f_z11 f_z12 f_z13 f_z14 f_z15 f_z16 f_z17 f_z18 f_z19 f_z20 f_z21 f_z22 f_z23 f_z24 f_z25 f_z26 f_z27 f_z28 f_z29 f_z30 f_z31 f_z32 f_z33 f_z34 f_z35 f_z36 f_z37 f_z38 f_z39 f_z40 f_z41 f_z42 f_z43 f_z44 f_z45 f_z46 f_z47 f_z48 f_z49 f_z50 f_z51 f_z52 f_z53 f_z54 f_z55 f_z56 f_z57 f_z58 f_z59 f_z60 f_z61 f_z62 f_z63 f_z64 f_z65 f_z66 f_z67 f_z68 f_z69 f_z70 f_z71 C_Ring C_Judge C_Hand C_Heart C_Store C_Yard C_RingError C_Full C_NoName C_NoTask C_NoDeed gD bI aP kZ gn fV fG ge fW fH gg fX:D'}
 {tod_ASKS:Option D'} {tsl_ASKS:Array (Option JW)} {tn_ASKS:Nat} {tt0_ASKS tt1_ASKS tt2_ASKS:Tok}
 {tod_ANSWERS:Option D'} {tsl_ANSWERS:Array (Option JW)} {tn_ANSWERS:Nat} {tt0_ANSWERS tt1_ANSWERS tt2_ANSWERS:Tok}
 {tod_SLEEP_CELLS:Option D'} {tsl_SLEEP_CELLS:Array (Option JW)} {tn_SLEEP_CELLS:Nat} {tt0_SLEEP_CELLS tt1_SLEEP_CELLS:Tok}
 {ti_MOST_WORTH:Tok}
 {tep_FORMS:Nat} {th0_FORMS th1_FORMS th2_FORMS th3_FORMS th4_FORMS th5_FORMS th6_FORMS th7_FORMS:Int} {tk0_FORMS tk1_FORMS tk2_FORMS tk3_FORMS tk4_FORMS tk5_FORMS tk6_FORMS tk7_FORMS:Tok}
 {vod0_FORMS:Option D'} {vsl0_FORMS:Array (Option JW)} {vn0_FORMS:Nat} {vt0_0_FORMS:Tok}
 {vod1_FORMS:Option D'} {vsl1_FORMS:Array (Option JW)} {vn1_FORMS:Nat}
 {vod2_FORMS:Option D'} {vsl2_FORMS:Array (Option JW)} {vn2_FORMS:Nat}
 {vod3_FORMS:Option D'} {vsl3_FORMS:Array (Option JW)} {vn3_FORMS:Nat} {vt3_0_FORMS vt3_1_FORMS:Tok}
 {vod4_FORMS:Option D'} {vsl4_FORMS:Array (Option JW)} {vn4_FORMS:Nat} {vt4_0_FORMS:Tok}
 {vod5_FORMS:Option D'} {vsl5_FORMS:Array (Option JW)} {vn5_FORMS:Nat} {vt5_0_FORMS:Tok}
 {vod6_FORMS:Option D'} {vsl6_FORMS:Array (Option JW)} {vn6_FORMS:Nat} {vt6_0_FORMS:Tok}
 {vod7_FORMS:Option D'} {vsl7_FORMS:Array (Option JW)} {vn7_FORMS:Nat} {vt7_0_FORMS:Tok}
 (aC_Ring:ClA K C_Ring "Ring")
 (aC_Judge:ClA K C_Judge "Judge")
 (aC_Hand:ClA K C_Hand "Hand")
 (aC_Heart:ClA K C_Heart "Heart")
 (aC_Store:ClA K C_Store "Store")
 (aC_Yard:ClA K C_Yard "Yard")
 (l_z0:NsA K f_z0 "next_counter" gY)
 (l_z1:NsA K f_z1 "place_of" mX)
 (l_z2:NsA K f_z2 "ahead_by" nk)
 (l_z3:NsA K f_z3 "rounds_with" iM)
 (l_z4:MtA K C_Ring f_z4 "__init__" "Ring.__init__" jL)
 (l_z5:MtA K C_Ring f_z5 "filled" "Ring.filled" iu)
 (l_z6:MtA K C_Ring f_z6 "is_full" "Ring.is_full" gW)
 (l_z7:MtA K C_Ring f_z7 "place_at" "Ring.place_at" fU)
 (l_z8:MtA K C_Ring f_z8 "write_further" "Ring.write_further" cZ)
 (l_z9:MtA K C_Ring f_z9 "lay" "Ring.lay" mS)
 (l_z10:MtA K C_Ring f_z10 "fetch" "Ring.fetch" jz)
 (l_z11:MtA K C_Judge f_z11 "__init__" "Judge.__init__" iW)
 (l_z12:MtA K C_Judge f_z12 "fits" "Judge.fits" jp)
 (l_z13:MtA K C_Judge f_z13 "go_on" "Judge.go_on" jb)
 (l_z14:NsA K f_z14 "first_wrong" ja)
 (l_z15:NsA K f_z15 "not_fetched" iZ)
 (l_z16:MtA K C_Hand f_z16 "__init__" "Hand.__init__" jB)
 (l_z17:MtA K C_Hand f_z17 "least_free" "Hand.least_free" eT)
 (l_z18:MtA K C_Hand f_z18 "check_ask" "Hand.check_ask" fo)
 (l_z19:MtA K C_Hand f_z19 "ask" "Hand.ask" mP)
 (l_z20:MtA K C_Hand f_z20 "collect" "Hand.collect" gR)
 (l_z21:MtA K C_Hand f_z21 "something_waits" "Hand.something_waits" cx)
 (l_z22:MtA K C_Heart f_z22 "__init__" "Heart.__init__" iR)
 (l_z23:MtA K C_Heart f_z23 "take" "Heart.take" jx)
 (l_z24:MtA K C_Heart f_z24 "check_answer" "Heart.check_answer" cX)
 (l_z25:MtA K C_Heart f_z25 "answer" "Heart.answer" gU)
 (l_z26:MtA K C_Heart f_z26 "tasks" "Heart.tasks" iP)
 (l_z27:MtA K C_Heart f_z27 "something_waits" "Heart.something_waits" cc)
 (l_z28:MtA K C_Store f_z28 "__init__" "Store.__init__" iJ)
 (l_z29:MtA K C_Store f_z29 "write" "Store.write" iL)
 (l_z30:MtA K C_Store f_z30 "drain" "Store.drain" io)
 (l_z31:MtA K C_Store f_z31 "fence" "Store.fence" iy)
 (l_z32:MtA K C_Store f_z32 "read" "Store.read" jY)
 (l_z33:MtA K C_Store f_z33 "memory" "Store.memory" gM)
 (l_z34:MtA K C_Store f_z34 "waits" "Store.waits" iD)
 (l_z35:NsA K f_z35 "is_whole" nv)
 (l_z36:NsA K f_z36 "is_part" pM)
 (l_z37:NsA K f_z37 "is_deed" p9)
 (l_z38:NsA K f_z38 "side_of" pi)
 (l_z39:MtA K C_Yard f_z39 "__init__" "Yard.__init__" jq)
 (l_z40:MtA K C_Yard f_z40 "deed" "Yard.deed" l8)
 (l_z41:MtA K C_Yard f_z41 "can_be_done" "Yard.can_be_done" dZ)
 (l_z42:MtA K C_Yard f_z42 "story" "Yard.story" jU)
 (l_z43:MtA K C_Yard f_z43 "sleeper" "Yard.sleeper" gP)
 (l_z44:MtA K C_Yard f_z44 "is_quiet" "Yard.is_quiet" fR)
 (l_z45:MtA K C_Yard f_z45 "made" "Yard.made" lr)
 (l_z46:MtA K C_Yard f_z46 "store" "Yard.store" jH)
 (l_z47:MtA K C_Yard f_z47 "check" "Yard.check" jS)
 (l_z48:MtA K C_Yard f_z48 "is_allowed" "Yard.is_allowed" eN)
 (l_z49:MtA K C_Yard f_z49 "thinkable" "Yard.thinkable" fq)
 (l_z50:MtA K C_Yard f_z50 "do_ask" "Yard.do_ask" iO)
 (l_z51:MtA K C_Yard f_z51 "do_answer" "Yard.do_answer" fj)
 (l_z52:MtA K C_Yard f_z52 "tell_fetched" "Yard.tell_fetched" dc)
 (l_z53:MtA K C_Yard f_z53 "do_bell" "Yard.do_bell" gQ)
 (l_z54:MtA K C_Yard f_z54 "do_lie" "Yard.do_lie" iS)
 (l_z55:MtA K C_Yard f_z55 "do_look" "Yard.do_look" gX)
 (l_z56:MtA K C_Yard f_z56 "something_waits" "Yard.something_waits" cw)
 (l_z57:NsA K f_z57 "errs" AD)
 (l_z58:NsA K f_z58 "filled_in_memory" eo)
 (l_z59:NsA K f_z59 "miscounts" l9)
 (l_z60:NsA K f_z60 "oversleeps" jy)
 (l_z61:NsA K f_z61 "_law_cell_at" iC)
 (l_z62:NsA K f_z62 "_law_row" pA)
 (l_z63:NsA K f_z63 "_law_take" mM)
 (l_z64:NsA K f_z64 "_law_rows_of" j7)
 (l_z65:NsA K f_z65 "_law_story_right" eR)
 (l_z66:NsA K f_z66 "_law_apart" ly)
 (l_z67:NsA K f_z67 "_law_errs" ni)
 (l_z68:NsA K f_z68 "_law_turned_quiet" en)
 (l_z69:NsA K f_z69 "_law_chosen" jX)
 (l_z70:NsA K f_z70 "_law_moment_right" dO)
 (l_z71:NsA K f_z71 "law" EX)
 (na_Ring:Ea K C_Ring ["shelf","side","word","laid","fetched","size","rounds","counter_first"])
 (na_Judge:Ea K C_Judge ["untaken","unhanded","going","doing"])
 (na_Hand:Ea K C_Hand ["asks","answers","names","going"])
 (na_Heart:Ea K C_Heart ["asks","answers","doing"])
 (na_Store:Ea K C_Store ["held","rows"])
 (na_Yard:Ea K C_Yard ["size","rounds","faults","shelf","hand","heart","bell_fences","lie_fences","look_sees","sleepers","quiet","happened"])
 (nn:IM K ["all","bool","enumerate","int","isinstance","len","list","range","reversed","sorted","str","tuple","zip"])
 (aX_RingError:nsIn K KR "RingError"=dk (dk (.ref C_RingError)))
 (aX_Full:nsIn K KR "Full"=dk (dk (.ref C_Full)))
 (aX_NoName:nsIn K KR "NoName"=dk (dk (.ref C_NoName)))
 (aX_NoTask:nsIn K KR "NoTask"=dk (dk (.ref C_NoTask)))
 (aX_NoDeed:nsIn K KR "NoDeed"=dk (dk (.ref C_NoDeed)))
 (aT_ASKS:nsIn K KR "ASKS"=dk (dk (.ref gD)))
 (kT_ASKS:K.lookup gD=dk ⟨.type "tuple",tod_ASKS,.seq #[.str "ask" tt0_ASKS,.str "asked" tt1_ASKS,.str "taken" tt2_ASKS] tn_ASKS,tsl_ASKS⟩)
 (aT_ANSWERS:nsIn K KR "ANSWERS"=dk (dk (.ref bI)))
 (kT_ANSWERS:K.lookup bI=dk ⟨.type "tuple",tod_ANSWERS,.seq #[.str "answer" tt0_ANSWERS,.str "answered" tt1_ANSWERS,.str "handed" tt2_ANSWERS] tn_ANSWERS,tsl_ANSWERS⟩)
 (aT_SLEEP_CELLS:nsIn K KR "SLEEP_CELLS"=dk (dk (.ref aP)))
 (kT_SLEEP_CELLS:K.lookup aP=dk ⟨.type "tuple",tod_SLEEP_CELLS,.seq #[.str "hand sleeps" tt0_SLEEP_CELLS,.str "heart sleeps" tt1_SLEEP_CELLS] tn_SLEEP_CELLS,tsl_SLEEP_CELLS⟩)
 (aI_MOST_WORTH:nsIn K KR "MOST_WORTH"=dk (dk (.int 1000000000 ti_MOST_WORTH)))
 (aT_FORMS:nsIn K KR "FORMS"=dk (dk (.ref kZ)))
 (kT_FORMS:K.lookup kZ=dk ⟨.type "dict",JZ,.dict #[⟨th0_FORMS,.str "ask" tk0_FORMS,.ref gn⟩,⟨th1_FORMS,.str "collect" tk1_FORMS,.ref fV⟩,⟨th2_FORMS,.str "take" tk2_FORMS,.ref fG⟩,⟨th3_FORMS,.str "answer" tk3_FORMS,.ref ge⟩,⟨th4_FORMS,.str "bell" tk4_FORMS,.ref fW⟩,⟨th5_FORMS,.str "lie" tk5_FORMS,.ref fH⟩,⟨th6_FORMS,.str "look" tk6_FORMS,.ref gg⟩,⟨th7_FORMS,.str "drain" tk7_FORMS,.ref fX⟩] tep_FORMS,#[]⟩)
 (kN_FORMS:(kZ == Ls)=f')
 (kV0_FORMS:K.lookup gn=dk ⟨.type "tuple",vod0_FORMS,.seq #[.str "worth" vt0_0_FORMS] vn0_FORMS,vsl0_FORMS⟩)
 (kV1_FORMS:K.lookup fV=dk ⟨.type "tuple",vod1_FORMS,.seq #[] vn1_FORMS,vsl1_FORMS⟩)
 (kV2_FORMS:K.lookup fG=dk ⟨.type "tuple",vod2_FORMS,.seq #[] vn2_FORMS,vsl2_FORMS⟩)
 (kV3_FORMS:K.lookup ge=dk ⟨.type "tuple",vod3_FORMS,.seq #[.str "name" vt3_0_FORMS,.str "worth" vt3_1_FORMS] vn3_FORMS,vsl3_FORMS⟩)
 (kV4_FORMS:K.lookup fW=dk ⟨.type "tuple",vod4_FORMS,.seq #[.str "side" vt4_0_FORMS] vn4_FORMS,vsl4_FORMS⟩)
 (kV5_FORMS:K.lookup fH=dk ⟨.type "tuple",vod5_FORMS,.seq #[.str "side" vt5_0_FORMS] vn5_FORMS,vsl5_FORMS⟩)
 (kV6_FORMS:K.lookup gg=dk ⟨.type "tuple",vod6_FORMS,.seq #[.str "side" vt6_0_FORMS] vn6_FORMS,vsl6_FORMS⟩)
 (kV7_FORMS:K.lookup fX=dk ⟨.type "tuple",vod7_FORMS,.seq #[.str "side" vt7_0_FORMS] vn7_FORMS,vsl7_FORMS⟩)
 (xc_Full:excIn K C_Full veB "ValueError.__new__"=j')
 (xc_NoName:excIn K C_NoName veB "ValueError.__new__"=j')
 (xc_NoTask:excIn K C_NoTask veB "ValueError.__new__"=j')
 (xc_NoDeed:excIn K C_NoDeed veB "ValueError.__new__"=j')
 (mo_em_f:K' K (.ref C_Full) (.ref C_RingError)=dk j')
 (mo_em_n:K' K (.ref C_NoName) (.ref C_RingError)=dk j')
 (mo_em_t:K' K (.ref C_NoTask) (.ref C_RingError)=dk j')
 (mo_em_d:K' K (.ref C_NoDeed) (.ref C_RingError)=dk j')
 (mo_em_dd:K' K (.ref C_NoDeed) (.ref C_NoDeed)=dk j')
 (mo_em_df:K' K (.ref C_NoDeed) (.ref C_Full)=dk f')
 (mo_em_dn:K' K (.ref C_NoDeed) (.ref C_NoName)=dk f')
 (mo_em_dt:K' K (.ref C_NoDeed) (.ref C_NoTask)=dk f')
 (mo_em_fd:K' K (.ref C_Full) (.ref C_NoDeed)=dk f')
 (mo_em_ff:K' K (.ref C_Full) (.ref C_Full)=dk j')
 (mo_em_fn:K' K (.ref C_Full) (.ref C_NoName)=dk f')
 (mo_em_ft:K' K (.ref C_Full) (.ref C_NoTask)=dk f')
 (mo_em_nd:K' K (.ref C_NoName) (.ref C_NoDeed)=dk f')
 (mo_em_nf:K' K (.ref C_NoName) (.ref C_Full)=dk f')
 (mo_em_nn:K' K (.ref C_NoName) (.ref C_NoName)=dk j')
 (mo_em_nt:K' K (.ref C_NoName) (.ref C_NoTask)=dk f')
 (mo_em_td:K' K (.ref C_NoTask) (.ref C_NoDeed)=dk f')
 (mo_em_tf:K' K (.ref C_NoTask) (.ref C_Full)=dk f')
 (mo_em_tn:K' K (.ref C_NoTask) (.ref C_NoName)=dk f')
 (mo_em_tt:K' K (.ref C_NoTask) (.ref C_NoTask)=dk j') :
 ∃ fd:Kj,(∀ (s:Kb) (v:JW),BindsTo s fd ⟨[v],[]⟩ [("script",v)])/\∀ base:KN,K.In base->base.Ns KR mg->FnOk l.prog w K mg base CX0 17 fa fd ["script"] (x5 K):=by
 have e:=hfa.symm.trans (mg_of X G l_z71.1);cases e;obtain⟨p_Ring,q_Ring,r_Ring⟩:=rB X G aC_Ring l_z4;obtain⟨p_Judge,q_Judge,r_Judge⟩:=rB X G aC_Judge l_z11;obtain⟨p_Hand,q_Hand,r_Hand⟩:=rB X G aC_Hand l_z16;obtain⟨p_Heart,q_Heart,r_Heart⟩:=rB X G aC_Heart l_z22;obtain⟨p_Store,q_Store,r_Store⟩:=rB X G aC_Store l_z28;obtain⟨p_Yard,q_Yard,r_Yard⟩:=rB X G aC_Yard l_z39;obtain⟨m_z0,d_z0,NL⟩:=ck X G l_z0;have Mr:=bn3 NL "counter" "size" "rounds" λ_ _ _ _ _ _ _ _ _=>rfl
 obtain⟨m_z1,d_z1,NM⟩:=ck X G l_z1;have Ms:=bn2 NM "counter" "size" λ_ _ _ _ _ _ _ _=>rfl
 obtain⟨m_z2,d_z2,NX⟩:=ck X G l_z2;have MF:=bn4 NX "one" "other" "size" "rounds" λ_ _ _ _ _ _ _ _ _ _=>rfl
 obtain⟨m_z3,d_z3,N8⟩:=ck X G l_z3;have MQ:=bn2 N8 "rounds" "faults" λ_ _ _ _ _ _ _ _=>rfl
 obtain⟨m_z4,d_z4,Oj⟩:=aS l_z4;have M4:=bn7 Oj "self" "store" "side" "words" "size" "rounds" "faults" λ_ _ _ _ _ _ _ _ _ _ _ _ _=>rfl
 obtain⟨m_z5,d_z5,Oz⟩:=aS l_z5;have Nh:=bn1 Oz "self" λ_ _ _ _ _ _ _=>rfl
 obtain⟨m_z6,d_z6,OK⟩:=aS l_z6;have Nu:=bn1 OK "self" λ_ _ _ _ _ _ _=>rfl
 obtain⟨m_z7,d_z7,OV⟩:=aS l_z7;have NG:=bn2 OV "self" "counter" λ_ _ _ _ _ _ _ _=>rfl
 obtain⟨m_z8,d_z8,OY⟩:=aS l_z8;have NJ:=bn3 OY "self" "cell" "counter" λ_ _ _ _ _ _ _ _ _=>rfl
 obtain⟨m_z9,d_z9,OZ⟩:=aS l_z9;have NK:=bn3 OZ "self" "name" "worth" λ_ _ _ _ _ _ _ _ _=>rfl
 obtain⟨m_z10,d_z10,NN⟩:=aS l_z10;have Mt:=bn1 NN "self" λ_ _ _ _ _ _ _=>rfl
 obtain⟨m_z11,d_z11,NO⟩:=aS l_z11;have Mu:=bn1 NO "self" λ_ _ _ _ _ _ _=>rfl
 obtain⟨m_z12,d_z12,NP⟩:=aS l_z12;have Mv:=bn4 NP "self" "word" "name" "worth" λ_ _ _ _ _ _ _ _ _ _=>rfl
 obtain⟨m_z13,d_z13,NQ⟩:=aS l_z13;have Mw:=bn4 NQ "self" "word" "name" "worth" λ_ _ _ _ _ _ _ _ _ _=>rfl
 obtain⟨m_z14,d_z14,NR⟩:=ck X G l_z14;have Mx:=bn1 NR "story" λ_ _ _ _ _ _ _=>rfl
 obtain⟨m_z15,d_z15,NS⟩:=ck X G l_z15;have Mz:=bn3 NS "story" "laid" "fetched" λ_ _ _ _ _ _ _ _ _=>rfl
 obtain⟨m_z16,d_z16,NT⟩:=aS l_z16;have MA:=bn6 NT "self" "store" "size" "rounds" "names" "faults" λ_ _ _ _ _ _ _ _ _ _ _ _=>rfl
 obtain⟨m_z17,d_z17,NU⟩:=aS l_z17;have MB:=bn1 NU "self" λ_ _ _ _ _ _ _=>rfl
 obtain⟨m_z18,d_z18,NV⟩:=aS l_z18;have MC:=bn1 NV "self" λ_ _ _ _ _ _ _=>rfl
 obtain⟨m_z19,d_z19,NW⟩:=aS l_z19;have ME:=bn2 NW "self" "worth" λ_ _ _ _ _ _ _ _=>rfl
 obtain⟨m_z20,d_z20,NY⟩:=aS l_z20;have MG:=bn1 NY "self" λ_ _ _ _ _ _ _=>rfl
 obtain⟨m_z21,d_z21,NZ⟩:=aS l_z21;have MH:=bn1 NZ "self" λ_ _ _ _ _ _ _=>rfl
 obtain⟨m_z22,d_z22,N0⟩:=aS l_z22;have MI:=bn5 N0 "self" "store" "size" "rounds" "faults" λ_ _ _ _ _ _ _ _ _ _ _=>rfl
 obtain⟨m_z23,d_z23,N1⟩:=aS l_z23;have MJ:=bn1 N1 "self" λ_ _ _ _ _ _ _=>rfl
 obtain⟨m_z24,d_z24,N2⟩:=aS l_z24;have MK:=bn2 N2 "self" "name" λ_ _ _ _ _ _ _ _=>rfl
 obtain⟨m_z25,d_z25,N3⟩:=aS l_z25;have ML:=bn3 N3 "self" "name" "worth" λ_ _ _ _ _ _ _ _ _=>rfl
 obtain⟨m_z26,d_z26,N4⟩:=aS l_z26;have MM:=bn1 N4 "self" λ_ _ _ _ _ _ _=>rfl
 obtain⟨m_z27,d_z27,N5⟩:=aS l_z27;have MN:=bn1 N5 "self" λ_ _ _ _ _ _ _=>rfl
 obtain⟨m_z28,d_z28,N6⟩:=aS l_z28;have MO:=bn1 N6 "self" λ_ _ _ _ _ _ _=>rfl
 obtain⟨m_z29,d_z29,N7⟩:=aS l_z29;have MP:=bn4 N7 "self" "side" "cell" "worth" λ_ _ _ _ _ _ _ _ _ _=>rfl
 obtain⟨m_z30,d_z30,N9⟩:=aS l_z30;have MR:=bn2 N9 "self" "side" λ_ _ _ _ _ _ _ _=>rfl
 obtain⟨m_z31,d_z31,Oa⟩:=aS l_z31;have MS:=bn2 Oa "self" "side" λ_ _ _ _ _ _ _ _=>rfl
 obtain⟨m_z32,d_z32,Ob⟩:=aS l_z32;have MT:=bn3 Ob "self" "side" "cell" λ_ _ _ _ _ _ _ _ _=>rfl
 obtain⟨m_z33,d_z33,Oc⟩:=aS l_z33;have MU:=bn2 Oc "self" "cell" λ_ _ _ _ _ _ _ _=>rfl
 obtain⟨m_z34,d_z34,Od⟩:=aS l_z34;have MV:=bn2 Od "self" "side" λ_ _ _ _ _ _ _ _=>rfl
 obtain⟨m_z35,d_z35,Oe⟩:=ck X G l_z35;have MW:=bn1 Oe "value" λ_ _ _ _ _ _ _=>rfl
 obtain⟨m_z36,d_z36,Of⟩:=ck X G l_z36;have MY:=bn2 Of "value" "kind" λ_ _ _ _ _ _ _ _=>rfl
 obtain⟨m_z37,d_z37,Og⟩:=ck X G l_z37;have MZ:=bn1 Og "some" λ_ _ _ _ _ _ _=>rfl
 obtain⟨m_z38,d_z38,Oh⟩:=ck X G l_z38;have M0:=bn1 Oh "some" λ_ _ _ _ _ _ _=>rfl
 obtain⟨m_z39,d_z39,Oi⟩:=aS l_z39;have M3:=bn5 Oi "self" "size" "rounds" "names" "faults" λ_ _ _ _ _ _ _ _ _ _ _=>rfl
 obtain⟨m_z40,d_z40,Ol⟩:=aS l_z40;have M5:=bn2 Ol "self" "some" λ_ _ _ _ _ _ _ _=>rfl
 obtain⟨m_z41,d_z41,Om⟩:=aS l_z41;have M6:=bn2 Om "self" "worths" λ_ _ _ _ _ _ _ _=>rfl
 obtain⟨m_z42,d_z42,Oo⟩:=aS l_z42;have M7:=bn1 Oo "self" λ_ _ _ _ _ _ _=>rfl
 obtain⟨m_z43,d_z43,Oq⟩:=aS l_z43;have M9:=bn2 Oq "self" "side" λ_ _ _ _ _ _ _ _=>rfl
 obtain⟨m_z44,d_z44,Ot⟩:=aS l_z44;have Na:=bn2 Ot "self" "side" λ_ _ _ _ _ _ _ _=>rfl
 obtain⟨m_z45,d_z45,Ou⟩:=aS l_z45;have Nb:=bn1 Ou "self" λ_ _ _ _ _ _ _=>rfl
 obtain⟨m_z46,d_z46,Ov⟩:=aS l_z46;have Nc:=bn1 Ov "self" λ_ _ _ _ _ _ _=>rfl
 obtain⟨m_z47,d_z47,Ow⟩:=aS l_z47;have Nd:=bn2 Ow "self" "some" λ_ _ _ _ _ _ _ _=>rfl
 obtain⟨m_z48,d_z48,Ox⟩:=aS l_z48;have Nf:=bn2 Ox "self" "some" λ_ _ _ _ _ _ _ _=>rfl
 obtain⟨m_z49,d_z49,Oy⟩:=aS l_z49;have Ng:=bn2 Oy "self" "worths" λ_ _ _ _ _ _ _ _=>rfl
 obtain⟨m_z50,d_z50,OA⟩:=aS l_z50;have Ni:=bn2 OA "self" "worth" λ_ _ _ _ _ _ _ _=>rfl
 obtain⟨m_z51,d_z51,OB⟩:=aS l_z51;have Nj:=bn3 OB "self" "name" "worth" λ_ _ _ _ _ _ _ _ _=>rfl
 obtain⟨m_z52,d_z52,OC⟩:=aS l_z52;have Nk:=bn3 OC "self" "word" "told" λ_ _ _ _ _ _ _ _ _=>rfl
 obtain⟨m_z53,d_z53,OD⟩:=aS l_z53;have Nl:=bn2 OD "self" "side" λ_ _ _ _ _ _ _ _=>rfl
 obtain⟨m_z54,d_z54,OE⟩:=aS l_z54;have Nm:=bn2 OE "self" "side" λ_ _ _ _ _ _ _ _=>rfl
 obtain⟨m_z55,d_z55,OF⟩:=aS l_z55;have Nn:=bn2 OF "self" "side" λ_ _ _ _ _ _ _ _=>rfl
 obtain⟨m_z56,d_z56,OG⟩:=aS l_z56;have Np:=bn2 OG "self" "side" λ_ _ _ _ _ _ _ _=>rfl
 obtain⟨m_z57,d_z57,OH⟩:=ck X G l_z57;have Nq:=bn1 OH "yard" λ_ _ _ _ _ _ _=>rfl
 obtain⟨m_z58,d_z58,OI⟩:=ck X G l_z58;have Nr:=bn2 OI "yard" "words" λ_ _ _ _ _ _ _ _=>rfl
 obtain⟨m_z59,d_z59,OJ⟩:=ck X G l_z59;have Nt:=bn3 OJ "yard" "story" "words" λ_ _ _ _ _ _ _ _ _=>rfl
 obtain⟨m_z60,d_z60,OL⟩:=ck X G l_z60;have Nv:=bn2 OL "yard" "side" λ_ _ _ _ _ _ _ _=>rfl
 obtain⟨m_z61,d_z61,OM⟩:=ck X G l_z61;have Nw:=bn2 OM "script" "k" λ_ _ _ _ _ _ _ _=>rfl
 obtain⟨m_z62,d_z62,ON⟩:=ck X G l_z62;have Nx:=bn1 ON "cell" λ_ _ _ _ _ _ _=>rfl
 obtain⟨m_z63,d_z63,OO⟩:=ck X G l_z63;have Ny:=bn2 OO "row" "many" λ_ _ _ _ _ _ _ _=>rfl
 obtain⟨m_z64,d_z64,OP⟩:=ck X G l_z64;have Nz:=bn2 OP "story" "word" λ_ _ _ _ _ _ _ _=>rfl
 obtain⟨m_z65,d_z65,OQ⟩:=ck X G l_z65;have NA:=bn1 OQ "story" λ_ _ _ _ _ _ _=>rfl
 obtain⟨m_z66,d_z66,OR⟩:=ck X G l_z66;have NB:=bn4 OR "yard" "side" "size" "rounds" λ_ _ _ _ _ _ _ _ _ _=>rfl
 obtain⟨m_z67,d_z67,OS⟩:=ck X G l_z67;have NC:=bn4 OS "yard" "size" "rounds" "quiet" λ_ _ _ _ _ _ _ _ _ _=>rfl
 obtain⟨m_z68,d_z68,OT⟩:=ck X G l_z68;have ND:=bn2 OT "quiet" "some" λ_ _ _ _ _ _ _ _=>rfl
 obtain⟨m_z69,d_z69,OU⟩:=ck X G l_z69;have NF:=bn2 OU "row" "some" λ_ _ _ _ _ _ _ _=>rfl
 obtain⟨m_z70,d_z70,OW⟩:=ck X G l_z70;have NH:=bn5 OW "yard" "size" "rounds" "quiet" "deed" λ_ _ _ _ _ _ _ _ _ _ _=>rfl
 obtain⟨m_z71,d_z71,OX⟩:=ck X G l_z71;have NI:=bn1 OX "script" λ_ _ _ _ _ _ _=>rfl
 let ad:Ad:=⟨f_z0,f_z1,f_z2,f_z3,f_z4,f_z5,f_z6,f_z7,f_z8,f_z9,f_z10,f_z11,f_z12,f_z13,f_z14,f_z15,f_z16,f_z17,f_z18,f_z19,f_z20,f_z21,f_z22,f_z23,f_z24,f_z25,f_z26,f_z27,f_z28,f_z29,f_z30,f_z31,f_z32,f_z33,f_z34,f_z35,f_z36,f_z37,f_z38,f_z39,f_z40,f_z41,f_z42,f_z43,f_z44,f_z45,f_z46,f_z47,f_z48,f_z49,f_z50,f_z51,f_z52,f_z53,f_z54,f_z55,f_z56,f_z57,f_z58,f_z59,f_z60,f_z61,f_z62,f_z63,f_z64,f_z65,f_z66,f_z67,f_z68,f_z69,f_z70,fa,C_Ring,C_Judge,C_Hand,C_Heart,C_Store,C_Yard,C_RingError,C_Full,C_NoName,C_NoTask,C_NoDeed,gD,bI,aP,kZ,gn,fV,fG,ge,fW,fH,gg,fX⟩
 let dd:Fd:=⟨d_z0,d_z1,d_z2,d_z3,d_z4,d_z5,d_z6,d_z7,d_z8,d_z9,d_z10,d_z11,d_z12,d_z13,d_z14,d_z15,d_z16,d_z17,d_z18,d_z19,d_z20,d_z21,d_z22,d_z23,d_z24,d_z25,d_z26,d_z27,d_z28,d_z29,d_z30,d_z31,d_z32,d_z33,d_z34,d_z35,d_z36,d_z37,d_z38,d_z39,d_z40,d_z41,d_z42,d_z43,d_z44,d_z45,d_z46,d_z47,d_z48,d_z49,d_z50,d_z51,d_z52,d_z53,d_z54,d_z55,d_z56,d_z57,d_z58,d_z59,d_z60,d_z61,d_z62,d_z63,d_z64,d_z65,d_z66,d_z67,d_z68,d_z69,d_z70,d_z71⟩
 have GG:Gs K mg ad dd:=⟨NL,Mr,m_z0,NM,Ms,m_z1,NX,MF,m_z2,N8,MQ,m_z3,Oj,M4,Oz,Nh,m_z5,OK,Nu,m_z6,OV,NG,m_z7,OY,NJ,m_z8,OZ,NK,m_z9,NN,Mt,m_z10,NO,Mu,NP,Mv,m_z12,NQ,Mw,m_z13,NR,Mx,m_z14,NS,Mz,m_z15,NT,MA,NU,MB,m_z17,NV,MC,m_z18,NW,ME,m_z19,NY,MG,m_z20,NZ,MH,m_z21,N0,MI,N1,MJ,m_z23,N2,MK,m_z24,N3,ML,m_z25,N4,MM,m_z26,N5,MN,m_z27,N6,MO,N7,MP,m_z29,N9,MR,m_z30,Oa,MS,m_z31,Ob,MT,m_z32,Oc,MU,m_z33,Od,MV,m_z34,Oe,MW,m_z35,Of,MY,m_z36,Og,MZ,m_z37,Oh,M0,m_z38,Oi,M3,Ol,M5,m_z40,Om,M6,m_z41,Oo,M7,m_z42,Oq,M9,m_z43,Ot,Na,m_z44,Ou,Nb,m_z45,Ov,Nc,m_z46,Ow,Nd,m_z47,Ox,Nf,m_z48,Oy,Ng,m_z49,OA,Ni,m_z50,OB,Nj,m_z51,OC,Nk,m_z52,OD,Nl,m_z53,OE,Nm,m_z54,OF,Nn,m_z55,OG,Np,m_z56,OH,Nq,m_z57,OI,Nr,m_z58,OJ,Nt,m_z59,OL,Nv,m_z60,OM,Nw,m_z61,ON,Nx,m_z62,OO,Ny,m_z63,OP,Nz,m_z64,OQ,NA,m_z65,OR,NB,m_z66,OS,NC,m_z67,OT,ND,m_z68,OU,NF,m_z69,OW,NH,m_z70,OX,NI,m_z71,q_Ring,p_Ring,r_Ring,na_Ring.1,na_Ring.2.1,na_Ring.2.2.1,na_Ring.2.2.2.1,na_Ring.2.2.2.2.1,na_Ring.2.2.2.2.2.1,na_Ring.2.2.2.2.2.2.1,na_Ring.2.2.2.2.2.2.2.1,q_Judge,p_Judge,r_Judge,na_Judge.1,na_Judge.2.1,na_Judge.2.2.1,na_Judge.2.2.2.1,q_Hand,p_Hand,r_Hand,na_Hand.1,na_Hand.2.1,na_Hand.2.2.1,na_Hand.2.2.2.1,q_Heart,p_Heart,r_Heart,na_Heart.1,na_Heart.2.1,na_Heart.2.2.1,q_Store,p_Store,r_Store,na_Store.1,na_Store.2.1,q_Yard,p_Yard,r_Yard,na_Yard.1,na_Yard.2.1,na_Yard.2.2.1,na_Yard.2.2.2.1,na_Yard.2.2.2.2.1,na_Yard.2.2.2.2.2.1,na_Yard.2.2.2.2.2.2.1,na_Yard.2.2.2.2.2.2.2.1,na_Yard.2.2.2.2.2.2.2.2.1,na_Yard.2.2.2.2.2.2.2.2.2.1,na_Yard.2.2.2.2.2.2.2.2.2.2.1,na_Yard.2.2.2.2.2.2.2.2.2.2.2.1,LQ X G nn.1,LQ X G nn.2.1,LQ X G nn.2.2.1,LQ X G nn.2.2.2.1,LQ X G nn.2.2.2.2.1,LQ X G nn.2.2.2.2.2.1,LQ X G nn.2.2.2.2.2.2.1,LQ X G nn.2.2.2.2.2.2.2.1,LQ X G nn.2.2.2.2.2.2.2.2.1,LQ X G nn.2.2.2.2.2.2.2.2.2.1,LQ X G nn.2.2.2.2.2.2.2.2.2.2.1,LQ X G nn.2.2.2.2.2.2.2.2.2.2.2.1,LQ X G nn.2.2.2.2.2.2.2.2.2.2.2.2.1,mg_of X G aX_RingError,mg_of X G aX_Full,mg_of X G aX_NoName,mg_of X G aX_NoTask,mg_of X G aX_NoDeed,mg_of X G aT_ASKS,λ_=>.inr ⟨_,_,_,kT_ASKS,rfl,rfl,by show 3 <= Ki;decide,(.cons ⟨_,rfl⟩ (.cons ⟨_,rfl⟩ (.cons ⟨_,rfl⟩ .nil)))⟩,mg_of X G aT_ANSWERS,λ_=>.inr ⟨_,_,_,kT_ANSWERS,rfl,rfl,by show 3 <= Ki;decide,(.cons ⟨_,rfl⟩ (.cons ⟨_,rfl⟩ (.cons ⟨_,rfl⟩ .nil)))⟩,mg_of X G aT_SLEEP_CELLS,λ_=>.inr ⟨_,_,_,kT_SLEEP_CELLS,rfl,rfl,by show 2 <= Ki;decide,(.cons ⟨_,rfl⟩ (.cons ⟨_,rfl⟩ .nil))⟩,⟨_,mg_of X G aI_MOST_WORTH⟩,mg_of X G aT_FORMS,⟨kN_FORMS,_,_,_,kT_FORMS,⟨rfl,rfl,rfl⟩,rfl,(.cons rfl rfl (.cons rfl rfl (.cons rfl rfl (.cons rfl rfl (.cons rfl rfl (.cons rfl rfl (.cons rfl rfl (.cons rfl rfl .nil))))))))⟩,λ_=>.inr ⟨_,_,_,kV0_FORMS,rfl,rfl,by show 1 <= Ki;decide,(.cons ⟨_,rfl⟩ .nil)⟩,λ_=>.inr ⟨_,_,_,kV1_FORMS,rfl,rfl,by show 0 <= Ki;decide,.nil⟩,λ_=>.inr ⟨_,_,_,kV2_FORMS,rfl,rfl,by show 0 <= Ki;decide,.nil⟩,λ_=>.inr ⟨_,_,_,kV3_FORMS,rfl,rfl,by show 2 <= Ki;decide,(.cons ⟨_,rfl⟩ (.cons ⟨_,rfl⟩ .nil))⟩,λ_=>.inr ⟨_,_,_,kV4_FORMS,rfl,rfl,by show 1 <= Ki;decide,(.cons ⟨_,rfl⟩ .nil)⟩,λ_=>.inr ⟨_,_,_,kV5_FORMS,rfl,rfl,by show 1 <= Ki;decide,(.cons ⟨_,rfl⟩ .nil)⟩,λ_=>.inr ⟨_,_,_,kV6_FORMS,rfl,rfl,by show 1 <= Ki;decide,(.cons ⟨_,rfl⟩ .nil)⟩,λ_=>.inr ⟨_,_,_,kV7_FORMS,rfl,rfl,by show 1 <= Ki;decide,(.cons ⟨_,rfl⟩ .nil)⟩,xc_Full,xc_NoName,xc_NoTask,xc_NoDeed,mo_em_f,mo_em_n,mo_em_t,mo_em_d,mo_em_dd,mo_em_df,mo_em_dn,mo_em_dt,mo_em_fd,mo_em_ff,mo_em_fn,mo_em_ft,mo_em_nd,mo_em_nf,mo_em_nn,mo_em_nt,mo_em_td,mo_em_tf,mo_em_tn,mo_em_tt⟩
 refine⟨dd.law,?_,λbase _ _=>G8 GG⟩;obtain⟨_,_,_,_,_,_,_,_,_,e,_⟩:=OX.ex;intro s v;show BindsTo s d_z71 _ _;rw[e];exact .of_eq rfl
def walk {l:PySem.W.OpenLaw}{q:Kz}{loose:List Str}{XP:(Str->Option JW)->KN->Prop}{YP:Kk->KN->Prop}{d:DefRec}{K:Params->Kc}(hn:l.most=dk 63) (hdf:d.params.defaults=[])
 (hY:∀ (w:Kk) (h:KN),YP w h->(K w.params).In h)
 (F:∀ (w:Kk) (mg:Str->Option JW) (fa:D') (h:KN),(K w.params).In h->h.Ns KR mg->mg d.name=dk (.ref fa) ->
  ∃ fd:Kj,(∀ (s:Kb) (u:JW),BindsTo s fd ⟨[u],[]⟩ [("script",u)])/\∀ base:KN,(K w.params).In base->base.Ns KR mg->FnOk l.prog w (K w.params) mg base CX0 17 fa fd ["script"] (x5 (K w.params))) :
 PySem.W.WalkO q loose XP YP l.row.toRowW d [] (λf vs=>PySem.call f vs) :=
 L2.walk_of (n:=63) (k:=17) (x:="script") (CX:=λ_=>CX0) (sp:=λw=>x5 (K w.params)) hn (by decide) hdf ⟨rfl,by decide,by decide⟩ hY F (λ_ _ a ns hl _ hS=>⟨a,ns,rfl,hS,hl,λ_=>rfl⟩) λ_ _ _ _ _ z=>z
end
end My
open PySem PySem.W PyProof.Rows
set_option maxRecDepth 100000 in
set_option maxHeartbeats 0 in
theorem PySem.Challenge.cw_askring_k35_whole_nothing_lost_nobody_sl_holds : PySem.Challenge.rw_askring_k35_whole_nothing_lost_nobody_sl.Holds := by
  w_on; o_law; k_head; (case hw => w_witness2)
  k_fill
  refine My.walk (l := PySem.Challenge.rw_askring_k35_whole_nothing_lost_nobody_sl) rfl rfl (fun w h Y => PySem.W.kIn_of Y) ?F
  case F =>
    intro w mg fa h KX G hmg;refine' My.all_mk KX G hmg ?aC_Ring ?aC_Judge ?aC_Hand ?aC_Heart ?aC_Store ?aC_Yard ?l_z0 ?l_z1 ?l_z2 ?l_z3 ?l_z4 ?l_z5 ?l_z6 ?l_z7 ?l_z8 ?l_z9 ?l_z10 ?l_z11 ?l_z12 ?l_z13 ?l_z14 ?l_z15 ?l_z16 ?l_z17 ?l_z18 ?l_z19 ?l_z20 ?l_z21 ?l_z22 ?l_z23 ?l_z24 ?l_z25 ?l_z26 ?l_z27 ?l_z28 ?l_z29 ?l_z30 ?l_z31 ?l_z32 ?l_z33 ?l_z34 ?l_z35 ?l_z36 ?l_z37 ?l_z38 ?l_z39 ?l_z40 ?l_z41 ?l_z42 ?l_z43 ?l_z44 ?l_z45 ?l_z46 ?l_z47 ?l_z48 ?l_z49 ?l_z50 ?l_z51 ?l_z52 ?l_z53 ?l_z54 ?l_z55 ?l_z56 ?l_z57 ?l_z58 ?l_z59 ?l_z60 ?l_z61 ?l_z62 ?l_z63 ?l_z64 ?l_z65 ?l_z66 ?l_z67 ?l_z68 ?l_z69 ?l_z70 ?l_z71 ?na_Ring ?na_Judge ?na_Hand ?na_Heart ?na_Store ?na_Yard ?nn ?aX_RingError ?aX_Full ?aX_NoName ?aX_NoTask ?aX_NoDeed ?aT_ASKS ?kT_ASKS ?aT_ANSWERS ?kT_ANSWERS ?aT_SLEEP_CELLS ?kT_SLEEP_CELLS ?aI_MOST_WORTH ?aT_FORMS ?kT_FORMS ?kN_FORMS ?kV0_FORMS ?kV1_FORMS ?kV2_FORMS ?kV3_FORMS ?kV4_FORMS ?kV5_FORMS ?kV6_FORMS ?kV7_FORMS ?xc_Full ?xc_NoName ?xc_NoTask ?xc_NoDeed ?mo_em_f ?mo_em_n ?mo_em_t ?mo_em_d ?mo_em_dd ?mo_em_df ?mo_em_dn ?mo_em_dt ?mo_em_fd ?mo_em_ff ?mo_em_fn ?mo_em_ft ?mo_em_nd ?mo_em_nf ?mo_em_nn ?mo_em_nt ?mo_em_td ?mo_em_tf ?mo_em_tn ?mo_em_tt
    (case aC_Ring | aC_Judge | aC_Hand | aC_Heart | aC_Store | aC_Yard => refine' ⟨?ka, ⟨?kb, ?kc, ?kd, ?ke⟩, ?kg, ?kh⟩; (case ka => k_is); (case kb => k_is); (case kc => k_is); (case kd => k_is); (case ke => k_is); (case kg => k_is); (case kh => k_is))
    (case l_z0 | l_z1 | l_z2 | l_z3 => refine' ⟨?ka, _, L2.fun_mk ?kb ?kc ?kd⟩; (case ka => k_is); (case kb => k_is); (case kc => k_is); (case kd => k_is))
    (case l_z4 | l_z5 | l_z6 | l_z7 | l_z8 | l_z9 | l_z10 | l_z11 | l_z12 | l_z13 => refine' ⟨?ka, ?ke, _, L2.fun_mk ?kb ?kc ?kd⟩; (case ka => k_is); (case ke => k_is); (case kb => k_is); (case kc => k_is); (case kd => k_is))
    (case l_z14 | l_z15 => refine' ⟨?ka, _, L2.fun_mk ?kb ?kc ?kd⟩; (case ka => k_is); (case kb => k_is); (case kc => k_is); (case kd => k_is))
    (case l_z16 | l_z17 | l_z18 | l_z19 | l_z20 | l_z21 | l_z22 | l_z23 | l_z24 | l_z25 | l_z26 | l_z27 | l_z28 | l_z29 | l_z30 | l_z31 | l_z32 | l_z33 | l_z34 => refine' ⟨?ka, ?ke, _, L2.fun_mk ?kb ?kc ?kd⟩; (case ka => k_is); (case ke => k_is); (case kb => k_is); (case kc => k_is); (case kd => k_is))
    (case l_z35 | l_z36 | l_z37 | l_z38 => refine' ⟨?ka, _, L2.fun_mk ?kb ?kc ?kd⟩; (case ka => k_is); (case kb => k_is); (case kc => k_is); (case kd => k_is))
    (case l_z39 | l_z40 | l_z41 | l_z42 | l_z43 | l_z44 | l_z45 | l_z46 | l_z47 | l_z48 | l_z49 | l_z50 | l_z51 | l_z52 | l_z53 | l_z54 | l_z55 | l_z56 => refine' ⟨?ka, ?ke, _, L2.fun_mk ?kb ?kc ?kd⟩; (case ka => k_is); (case ke => k_is); (case kb => k_is); (case kc => k_is); (case kd => k_is))
    (case l_z57 | l_z58 | l_z59 | l_z60 | l_z61 | l_z62 | l_z63 | l_z64 | l_z65 | l_z66 | l_z67 | l_z68 | l_z69 | l_z70 | l_z71 => refine' ⟨?ka, _, L2.fun_mk ?kb ?kc ?kd⟩; (case ka => k_is); (case kb => k_is); (case kc => k_is); (case kd => k_is))
    (case na_Ring | na_Judge | na_Hand | na_Heart | na_Store | na_Yard => repeat (first | exact trivial | (refine' And.intro ?ka ?_; (case ka => (show PySem.W.findIn _ _ _ = _); k_is))))
    (case nn => repeat (first | exact trivial | (refine' And.intro ?ka ?_; (case ka => k_is))))
    (case aX_RingError | aX_Full | aX_NoName | aX_NoTask | aX_NoDeed | aT_ASKS | kT_ASKS | aT_ANSWERS | kT_ANSWERS | aT_SLEEP_CELLS | kT_SLEEP_CELLS | aI_MOST_WORTH | aT_FORMS | kT_FORMS => k_is)
    (case kN_FORMS => first | rfl | decide)
    (case kV0_FORMS | kV1_FORMS | kV2_FORMS | kV3_FORMS | kV4_FORMS | kV5_FORMS | kV6_FORMS | kV7_FORMS => k_is)
    (case xc_Full | xc_NoName | xc_NoTask | xc_NoDeed => k_exc)
    (case mo_em_f | mo_em_n | mo_em_t | mo_em_d | mo_em_dd | mo_em_df | mo_em_dn | mo_em_dt | mo_em_fd | mo_em_ff | mo_em_fn | mo_em_ft | mo_em_nd | mo_em_nf | mo_em_nn | mo_em_nt | mo_em_td | mo_em_tf | mo_em_tn | mo_em_tt => kts_exm)
#print axioms PySem.Challenge.cw_askring_k35_whole_nothing_lost_nobody_sl_holds

