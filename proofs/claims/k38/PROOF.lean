import PyProof.Rows.All
import Wide.All
import OpenK.AllK
import Wide.FinOn
import Lean
import PyProof.EqAt
import PyProof.EqKinds
import PyProof.TupleCall
import PyProof.NeData
import PyProof.DictRoadsH
import Wide.Seal
import PyProof.CompMap
import PyProof.DictIter
import PyProof.DictWalks
import PyProof.CompUse
import PyProof.P3In
import OpenK.KOwn
import KE.KTryMore
import PyProof.RulesAs
import PyProof.ExcArgs
import PyProof.NsDelKeeps
import KE.KIsAll
import OpenK.KDescr
import PyProof.ZipIter
import PyProof.TupleIter
import KE.KRevSl
import PyProof.Rows.SortWalk
import PyProof.MeetsSeq
import KE.KDictSum
import PyProof.EnumMake
import PyProof.EnumFor
import PyProof.EnumStmt
import PyProof.ListRange
import KE.KSortKey
import PyProof.Rows.SortStr
import PyProof.Rows.CallKwBuiltin
import KE.KTab
import PyProof.ConsumeWalk
import PyProof.Comp
import PyProof.ForAny
import PyProof.Rows.StrJoin2
import PyProof.CallStr
import KE.KSortTup
import PyProof.Rows.SetFrom
import PyProof.CollectWalk
import PyProof.Rows.StrNews
import PyProof.StrWalks
import PyProof.SliceStr2
import KE.KIntText
import KE.IntTextText
import PyProof.StrLawsTight
import PyProof.StrLawsChain
import PyProof.InstEq
import PySem.Challenge.RW_askring_k38_rows_refused
namespace PySem.W.Fast
def tw10029279279464395466:=True
def tw10033998221311317759:=True
def tw10045427028806517749:=True
def tw1008515192961667004:=True
def tw10087951113128937008:=True
def tw10106995387426955851:=True
def tw10159886513513229640:=True
def tw10197573893752560419:=True
def tw10235563171382298925:=True
def tw10265158052200106791:=True
def tw10310000714463152351:=True
def tw10319745777194160482:=True
def tw10327412776774336991:=True
def tw1041975647812795084:=True
def tw10515895956463766153:=True
def tw10524141173610659795:=True
def tw10545221980152556937:=True
def tw10550732186221012171:=True
def tw10551985878394750536:=True
def tw10615553777056847928:=True
def tw10632148596933839914:=True
def tw1063613206697432661:=True
def tw10644782794593404360:=True
def tw10670051667043552554:=True
def tw10673145131523845994:=True
def tw10675187423971608808:=True
def tw10697535877510264704:=True
def tw10730886423806647403:=True
def tw10733647377519327102:=True
def tw10740295627984679688:=True
def tw10761251231547483475:=True
def tw10833521984880772695:=True
def tw10891127103784168865:=True
def tw10891303512439127149:=True
def tw10903799874035632725:=True
def tw10929302332824629362:=True
def tw10949539710248105846:=True
def tw1095882546088516480:=True
def tw1095938228645720112:=True
def tw10970326376270167452:=True
def tw10994733096974413306:=True
def tw10998278991797516899:=True
def tw11012972321397973914:=True
def tw11043824275439444708:=True
def tw11075912398302726049:=True
def tw11212702664518561534:=True
def tw11279249152973975675:=True
def tw11288018028513313782:=True
def tw11314878094041807360:=True
def tw11328976305799409402:=True
def tw11341740140715526477:=True
def tw11347776492677063732:=True
def tw11400161929113638583:=True
def tw11481417749086998186:=True
def tw11481810885552702606:=True
def tw11535724273851563769:=True
def tw11546067174724675511:=True
def tw11568945776106663010:=True
def tw11604114499830696707:=True
def tw11621808192924494259:=True
def tw1162271514379898562:=True
def tw11626775133182058078:=True
def tw11631679309157383769:=True
def tw116396166016193840:=True
def tw11697258110135476441:=True
def tw11700008221959665716:=True
def tw11747593446822860727:=True
def tw11785496867770122162:=True
def tw11790622745568598287:=True
def tw11850552383846239085:=True
def tw11877604199851077147:=True
def tw11884425852438115863:=True
def tw11941418678571479401:=True
def tw11958743623963305315:=True
def tw11978656023953679727:=True
def tw1199712875912014965:=True
def tw12087824907527628003:=True
def tw12161001572359646152:=True
def tw12228679667995933580:=True
def tw12251569885983659048:=True
def tw12257881298990031553:=True
def tw1232517842217061794:=True
def tw12334140052159082958:=True
def tw12363898970974674221:=True
def tw12385444116537856255:=True
def tw12424326682359053909:=True
def tw12428899053665588560:=True
def tw12497881044244561418:=True
def tw12525463440628977302:=True
def tw1255007093704181190:=True
def tw12608644132241606775:=True
def tw12616488039543071137:=True
def tw12618529113979715427:=True
def tw12651872621883981786:=True
def tw12706558653822487764:=True
def tw12747612473556964348:=True
def tw12763097736385914823:=True
def tw12769982817672013563:=True
def tw12819584985492752822:=True
def tw12856384679525067341:=True
def tw12885918501993899253:=True
def tw12914237120257193893:=True
def tw12941979637289946762:=True
def tw12949055868768965015:=True
def tw12971584999293845707:=True
def tw12972742741139436068:=True
def tw13014801826139388833:=True
def tw13019109534235960765:=True
def tw13058711619769657830:=True
def tw13082400184426775911:=True
def tw13100078705279889423:=True
def tw13111153187868698249:=True
def tw13119862776593637509:=True
def tw13146916216859538775:=True
def tw13148945550892076124:=True
def tw13204432509829240352:=True
def tw13213282723613894068:=True
def tw13240126992426989239:=True
def tw13282446120077086831:=True
def tw13388095636850494025:=True
def tw13407163068142124262:=True
def tw13442935184787902615:=True
def tw13454145138218348522:=True
def tw13474000113616315496:=True
def tw13478377799198809630:=True
def tw13493129510534656155:=True
def tw13520047701821713905:=True
def tw13520472226000452539:=True
def tw13563097519526960055:=True
def tw13584886104134928604:=True
def tw13598853708453972593:=True
def tw13621355917207381493:=True
def tw13664704081437535987:=True
def tw13678677760177511474:=True
def tw13750267357919394929:=True
def tw13764017718568795804:=True
def tw13780771945183322604:=True
def tw13821655737446523497:=True
def tw1384012957665657520:=True
def tw13948026378394188090:=True
def tw13948263030678986063:=True
def tw1398212737046720007:=True
def tw14053031190569500265:=True
def tw14078623033915919968:=True
def tw14112512789853166078:=True
def tw14138068776835610745:=True
def tw14151551894870618171:=True
def tw14169549548649224101:=True
def tw14176828417982060498:=True
def tw14212718397287285796:=True
def tw14280455963923235957:=True
def tw14298141120213549162:=True
def tw14298611422167032966:=True
def tw14304974997649671867:=True
def tw14383401713024965967:=True
def tw14383486941050936485:=True
def tw1440937468328373333:=True
def tw14489717470961060199:=True
def tw14510409056602608322:=True
def tw14517131709575382203:=True
def tw14535882306000796930:=True
def tw14536389794780769673:=True
def tw14580994265360215666:=True
def tw14605014873359958201:=True
def tw1466071791786938982:=True
def tw14666016665361156352:=True
def tw14678658373460458282:=True
def tw14705843936621280430:=True
def tw14757594730461885465:=True
def tw14787360845454986665:=True
def tw14799866294942000490:=True
def tw14804379354600116827:=True
def tw14855537406804702247:=True
def tw14872433378675294019:=True
def tw14882095589396802644:=True
def tw15056278996535500306:=True
def tw15073812080735710390:=True
def tw15082655312874716883:=True
def tw1510921493550687881:=True
def tw15123992508070706238:=True
def tw15189398975562710706:=True
def tw15194061173679295160:=True
def tw15197868155011832801:=True
def tw15215845073254876279:=True
def tw15219258326244762008:=True
def tw15223912137734003762:=True
def tw1522858731272031760:=True
def tw1527967110100972370:=True
def tw15306425449941249968:=True
def tw15360280657337906369:=True
def tw15390607276360577108:=True
def tw1541812340669967455:=True
def tw15423285512664571322:=True
def tw15437474653391195306:=True
def tw15483362429561054561:=True
def tw15510073908649157678:=True
def tw15517213060197132639:=True
def tw15531522123581606126:=True
def tw15539363066499633804:=True
def tw15545098952150551904:=True
def tw15548941947606243045:=True
def tw15566407700710144684:=True
def tw15594741911605933696:=True
def tw15621369602692269411:=True
def tw15651315520754241865:=True
def tw15664436703101538462:=True
def tw15668859217437076475:=True
def tw1568454629238290439:=True
def tw15744916653284410855:=True
def tw15747787870462014393:=True
def tw15751125187804525599:=True
def tw15757714954621818327:=True
def tw15765022213144837158:=True
def tw15765427100299697535:=True
def tw15770630869272763105:=True
def tw15780427230188322016:=True
def tw15841341170250856445:=True
def tw15843251650944048764:=True
def tw15846849865495930110:=True
def tw15869001505922047153:=True
def tw15948026332764804971:=True
def tw15953481248582033669:=True
def tw15969125279223938414:=True
def tw15972451394979684451:=True
def tw15998478781707108366:=True
def tw16047824681133642288:=True
def tw16049845099559142055:=True
def tw16076135163554577102:=True
def tw16116714041562777419:=True
def tw16160985543105244902:=True
def tw16163648547051078792:=True
def tw16193277850564113767:=True
def tw16204902776140174658:=True
def tw16233459516381049888:=True
def tw16233735879042764082:=True
def tw1623627979960976755:=True
def tw16239185216115009408:=True
def tw16254951624323569419:=True
def tw16268427957785852381:=True
def tw1627152420794520596:=True
def tw162854399182773244:=True
def tw16292543393312985050:=True
def tw16300745321855468307:=True
def tw16308006451186647463:=True
def tw16345994980428860921:=True
def tw16370144741886165712:=True
def tw16378957683250153457:=True
def tw16402833307712322517:=True
def tw16475664668718593584:=True
def tw16568731488996923643:=True
def tw16588406484241360988:=True
def tw16590316361087393689:=True
def tw16590574486918696477:=True
def tw16601145266045893199:=True
def tw16611676400626785074:=True
def tw16648003721229796695:=True
def tw1670089156388139201:=True
def tw16722961131509984750:=True
def tw16744330940468575232:=True
def tw16753919188566158531:=True
def tw1678018876292187484:=True
def tw16809561503888360328:=True
def tw16826976931963293069:=True
def tw16832431942054376082:=True
def tw16841521244605956520:=True
def tw16853737058559076327:=True
def tw16937272018536348902:=True
def tw16949538346076066290:=True
def tw16960354132717843535:=True
def tw16987200772959293522:=True
def tw17077179232239083994:=True
def tw17096502134625408850:=True
def tw1710530316325993413:=True
def tw17110070155678575421:=True
def tw17121999969853096072:=True
def tw1713119518100223532:=True
def tw1714250015937502035:=True
def tw17167841155531359491:=True
def tw17197048783314672188:=True
def tw17206079947549502028:=True
def tw172340637670941653:=True
def tw17242447885128206288:=True
def tw17292763248291307449:=True
def tw17343516865737490022:=True
def tw17456456040627328793:=True
def tw17538278116410829076:=True
def tw1764808139715110343:=True
def tw17664128220592799659:=True
def tw17678752845221248812:=True
def tw17709332635018025485:=True
def tw1771666734745971897:=True
def tw17737295556575998096:=True
def tw1776125261147355229:=True
def tw17801204522729659053:=True
def tw17831282542626388891:=True
def tw17842917784675312060:=True
def tw17850034785915917353:=True
def tw17880033519514927739:=True
def tw17886291939370558243:=True
def tw17917265012526375563:=True
def tw17956112051818879222:=True
def tw17987626585549625700:=True
def tw18124773433444617392:=True
def tw18141889970571075919:=True
def tw18148590815356633933:=True
def tw18154724012626943891:=True
def tw18190595202457439335:=True
def tw18271434188081248575:=True
def tw18310837932541771828:=True
def tw1831351987300108011:=True
def tw18322219512988415954:=True
def tw18446054887435664196:=True
def tw1851684007568543142:=True
def tw185607488530673623:=True
def tw1904955128602259643:=True
def tw1944749706955555249:=True
def tw1963586003074892796:=True
def tw1983395076923524105:=True
def tw1986196504854901142:=True
def tw1988853876832643307:=True
def tw2005207881098378616:=True
def tw2095615761500665281:=True
def tw2101199391372483447:=True
def tw2116772539650877235:=True
def tw2172509005588409782:=True
def tw2207746168109116740:=True
def tw2237404327598480424:=True
def tw2245750283577759270:=True
def tw231110925831624551:=True
def tw2315858135426068212:=True
def tw235254890120865780:=True
def tw2396477319917811056:=True
def tw2399165196891497617:=True
def tw2402186620297237932:=True
def tw2402330647854428282:=True
def tw2420986006501012464:=True
def tw2438436643667140763:=True
def tw2476394905268495572:=True
def tw2494653316044231315:=True
def tw2517967824809325581:=True
def tw2524865770504552027:=True
def tw2527653346386401796:=True
def tw2576365102603416193:=True
def tw2624406193131063377:=True
def tw2651081427404509811:=True
def tw2704820687339710977:=True
def tw273831943762269190:=True
def tw2750326909200977491:=True
def tw2771594752012218598:=True
def tw2794669158369015349:=True
def tw2835083456656415176:=True
def tw2913452077479194195:=True
def tw294481333403152685:=True
def tw2954878150069754025:=True
def tw2957353259925662034:=True
def tw29782239667721671:=True
def tw2979295725453445176:=True
def tw2980076579284644420:=True
def tw3006841493106767920:=True
def tw3010398168473012231:=True
def tw3020249292561506794:=True
def tw3039965935412149445:=True
def tw3040225263865392268:=True
def tw3072195726422484901:=True
def tw315643867804383554:=True
def tw3187790402455223026:=True
def tw3208487453785285713:=True
def tw32413778001032306:=True
def tw3335524126249684710:=True
def tw3397796992265035955:=True
def tw3426406603725692823:=True
def tw3437997198382242264:=True
def tw3442906512690216010:=True
def tw3494668688679802256:=True
def tw3544157482369269586:=True
def tw3564519981331464188:=True
def tw360207829791196493:=True
def tw36163386032682136:=True
def tw3640131487512992204:=True
def tw3700242862180368248:=True
def tw371182125568880855:=True
def tw3726478409366626290:=True
def tw3728249829460562316:=True
def tw3733027884163301385:=True
def tw3742332040484568434:=True
def tw376202358556804693:=True
def tw3842757985480818194:=True
def tw3918630989844039754:=True
def tw3950519906819894795:=True
def tw3960322210537092783:=True
def tw4001127729598265350:=True
def tw4028543192297897501:=True
def tw4036428136598113746:=True
def tw4128105041568069912:=True
def tw4140639860592817989:=True
def tw4143021184709934474:=True
def tw4159377066018158421:=True
def tw4195352857769253451:=True
def tw4268085166836209563:=True
def tw4338160823304689798:=True
def tw4349358862610878846:=True
def tw4386088790740711432:=True
def tw4389183267606705825:=True
def tw446461271973407453:=True
def tw4520033531541851746:=True
def tw4574554544103112751:=True
def tw4587893386275720882:=True
def tw4615955732214078424:=True
def tw4622626303169893842:=True
def tw4642284162071310682:=True
def tw4649526457339810013:=True
def tw4671207030035238390:=True
def tw4678357091183835567:=True
def tw4695702053184202895:=True
def tw4723451722727674496:=True
def tw4744534867877015741:=True
def tw4746180010732958628:=True
def tw4760895438222564305:=True
def tw4837909795271090345:=True
def tw4877197792027758428:=True
def tw4886678409885358798:=True
def tw492904754617568206:=True
def tw4956992166537611743:=True
def tw4996026839843760317:=True
def tw4998580276399386523:=True
def tw5003383114626670882:=True
def tw5019823208030075894:=True
def tw5087180322639544319:=True
def tw5099200688780431177:=True
def tw5154600766432191690:=True
def tw5247096763333989735:=True
def tw5276833639432788295:=True
def tw5283622503922027795:=True
def tw530882077101397829:=True
def tw5321037385365806482:=True
def tw5341310365466062541:=True
def tw5364405672454503815:=True
def tw5401717855926800842:=True
def tw5427595696944229250:=True
def tw549497570586014325:=True
def tw5525106454880784173:=True
def tw5546877579770079592:=True
def tw5548652279595331725:=True
def tw5613725634391694030:=True
def tw5617522649454641247:=True
def tw562369812452018170:=True
def tw568250705037940654:=True
def tw5695554686868207867:=True
def tw573244227618465311:=True
def tw5787376598332307130:=True
def tw5791269653520335239:=True
def tw5882531015519610113:=True
def tw5902240557822838389:=True
def tw5934972473287465087:=True
def tw5958128009893458565:=True
def tw6042271209423435977:=True
def tw6042382409553983802:=True
def tw610913294678794387:=True
def tw6113111471717353084:=True
def tw6158052022307476818:=True
def tw616419855034025544:=True
def tw6169702009693031483:=True
def tw6175017919038938886:=True
def tw6178808522420244139:=True
def tw6186470626875400748:=True
def tw6306380960968884245:=True
def tw6313767613383554354:=True
def tw631584643227494491:=True
def tw6333349256991914522:=True
def tw6415149673137058330:=True
def tw6508294839150281311:=True
def tw6512512137771015673:=True
def tw6525847887469119996:=True
def tw6553456274990456816:=True
def tw6562672691536122543:=True
def tw6644362092275394417:=True
def tw6670298036125861094:=True
def tw6724341026903429251:=True
def tw6771723356567884812:=True
def tw6797586769422088327:=True
def tw6800135962206785987:=True
def tw6817094309228684498:=True
def tw6821094719861345745:=True
def tw6890858265770691159:=True
def tw6916880339723283050:=True
def tw6922056673195837154:=True
def tw6973586253310571196:=True
def tw7021670164884057985:=True
def tw7174743950876049230:=True
def tw7194662752342551080:=True
def tw7218933238833468469:=True
def tw7247322182033882284:=True
def tw7270125737318448037:=True
def tw7298138750708971228:=True
def tw7324395538118925052:=True
def tw7339584146331619056:=True
def tw7354725879592608423:=True
def tw7410897576252974884:=True
def tw7415931589023351743:=True
def tw7423408165462466491:=True
def tw7444532605852097757:=True
def tw7464332199677753926:=True
def tw7471010729567690136:=True
def tw7481245185842902879:=True
def tw748469717184597086:=True
def tw7514056220914842192:=True
def tw755041254196615119:=True
def tw7567751320150154126:=True
def tw7575943465372868330:=True
def tw7668391475542494588:=True
def tw7722269100586977810:=True
def tw7734171557859176144:=True
def tw7757526299189083108:=True
def tw7828785674464101186:=True
def tw783372495855358629:=True
def tw7863972126922884867:=True
def tw7864489505734403025:=True
def tw7903680041148620509:=True
def tw7959228827188907029:=True
def tw8016666034025705314:=True
def tw8068214261796261099:=True
def tw8070030029283884750:=True
def tw8161678207411565902:=True
def tw8165811534102520008:=True
def tw8178817778169287032:=True
def tw8242335819655417175:=True
def tw8270270880959484610:=True
def tw8291067032596510586:=True
def tw8319865510086597095:=True
def tw8335448524030180866:=True
def tw83489720023714363:=True
def tw8400216122982111321:=True
def tw8412093444199160749:=True
def tw8419747356043339021:=True
def tw8499721009864532142:=True
def tw8527510005449738360:=True
def tw8533589929493571634:=True
def tw8555362928276863042:=True
def tw8569482885353969700:=True
def tw8580867877395715944:=True
def tw8626296076332352565:=True
def tw8681485192843680705:=True
def tw8684011804416665683:=True
def tw8711327379307480226:=True
def tw873393620443467068:=True
def tw8755359534431885230:=True
def tw8781093047193228536:=True
def tw8831745878720689100:=True
def tw8846223620714773514:=True
def tw8890929058907694205:=True
def tw8926594374815090466:=True
def tw8972172785931302495:=True
def tw8993104199682009036:=True
def tw8993362821399356484:=True
def tw9053839420165448247:=True
def tw9062408242911980183:=True
def tw9062677386143062318:=True
def tw9087770400560312860:=True
def tw9149228408239467901:=True
def tw9149738241532148986:=True
def tw9155418145721664999:=True
def tw9191639499453522315:=True
def tw9234407646703124862:=True
def tw9253663388439912972:=True
def tw9284038219206796345:=True
def tw9285365868064179108:=True
def tw9294727833936922611:=True
def tw93094523325369098:=True
def tw9353989485824756801:=True
def tw9384058538384477368:=True
def tw9387577458604860217:=True
def tw9436778432841926042:=True
def tw9445096959395313504:=True
def tw9487503707480748464:=True
def tw9510188577342382069:=True
def tw9523568771216756362:=True
def tw9570282191991033455:=True
def tw9575755122184367812:=True
def tw9579137591438561470:=True
def tw9579960751213723528:=True
def tw9643965678144225155:=True
def tw965655761403440513:=True
def tw9664997839136617094:=True
def tw966623104599948572:=True
def tw9694341474538538464:=True
def tw9698205178681630917:=True
def tw9698385102104050696:=True
def tw9738126694665254894:=True
def tw975797000775918915:=True
def tw9832232043684298385:=True
def tw9843753001915635719:=True
def tw9864735391902686290:=True
def tw9866127196797636092:=True
def tw9911901995336807926:=True
def tw9928987405479093400:=True
end PySem.W.Fast
open PySem.W (InitBack InstAt any_some bind_fn callWith_K callWith_K0 cellsFrom_some codeIn codeRec_of emptyDict eq_bytes excIn exmOne exm_one findObj_own fnOf funFrames_hide get_value handedIn hasDictIn hideAll hideAll_get hideAll_none hideAll_size instObj isFn isNs_of_in keepIn ki_setAt ki_setBack kia_one kia_tup kitAny kitOne kitx_bool kitx_dict kitx_float kitx_int kitx_list kitx_none kitx_own kitx_str kitx_tuple lookIn looks_clsIn make_core makesIn makes_of methodCall_KW methodObj method_fn mg_none_of mg_of ne_bytes nsIn nsMap_none_of_in of_hideAll osa_open plainGet plainGet_of plainOver set_plain specialIn tail_of_in takerIn takesIn truthy_bytes typeIn)
open Nat (le_succ log2_lt lt_succ_of_lt lt_succ_self min_eq_left ne_of_gt ne_of_lt zero_le)
open List (Nodup Pairwise all_cons all_eq_true any_cons any_eq_true append_nil contains_cons contains_eq_mem contains_iff_mem drop_of_length_le drop_zero filterMap_cons filter_cons find?_cons find?_eq_none forIn_cons forIn_nil getElem?_eq_getElem getElem?_map getElem_mem length_cons length_drop length_eq_zero_iff length_map length_nil length_replicate length_take map_append map_cons map_map map_nil map_take mem_append mem_append_left mem_append_right mem_cons mem_cons_of_mem mem_cons_self mem_filter mem_filterMap mem_iff_getElem? mem_map mem_of_getElem? mem_range mem_singleton nodup_append nodup_cons nodup_nil not_mem_nil of_mem_zip replicate size_toArray take_length take_nil take_of_length_le take_succ)
open Option (getD_none isSome_iff_exists isSome_map isSome_none isSome_some)
open Int (toNat_natCast)
open Bool (and_eq_true false_eq_true not_eq_true' or_eq_true)
set_option Elab.async false
set_option linter.all false
set_option compiler.extract_closed false
set_option maxRecDepth 100000
open Option renaming some→f',none→LJ
open PySem renaming wpAny_bind→j',Addr→D',Value→G',Shared→LK,wpAny_pure→LL,PyData→LO,sizeLine→LP,wpAny→LV,FuncData→LX,World→LZ,Program→Mg,Heap→Mi,Paired→Mn,Around→Mr,mainGlobals→Mt,starEach→Mu,DictEntry→MA,wpAny_call_entry→MB,wpAny_callSpecial?_slot→MH,Stmt→MJ,bootBuiltins→MO,wpAny_truthy_bool→MQ,wpAny_newObj_type→MR,wpAny_holding→MT,wpAny_field→M0,placesWithHash→M4,Obj→M6,SetTable→Nc,sysModules→Ng,wpAny_dictEpoch→Nj,compareOp→Nm,wpAny_rule→Nq,wpAny_setField→NF,rawInt→NJ,wpAny_seqItems→NX,wpAny_Call_Name_kw→NY,wpAny_passesOwn→N1,wpAny_setState_of→N3,behindInMarks→N5,backTo→N6,wpAny_mono→N8,cLine→Oc
open Bool renaming true→l',false→K',false_ne_true→Me,false_eq_true→Mz,and_eq_true→MC,eq_iff_iff→Nk,not_eq_true'→NL,not_true→NT
open PySem.Heap renaming get?_push_of_some→LH,get?_push_size→LW,lt_size→Mb,size_push→MM,SameBut→MV,get?_update_self→M3,get?_update_other→M9
open List renaming mem_singleton→LM,getElem?_eq_getElem→LQ,length_append→LU,mem_cons_self→LY,mem_cons_of_mem→Ma,length_map→Md,mem_cons→Mf,getElem?_eq_some_iff→Mh,size_toArray→Mj,getElem?_map→Mp,length_cons→Mw,mem_append_right→ME,mem_of_getElem?→MF,append_assoc→MU,length_eq_zero_iff→MW,not_mem_nil→MZ,map_cons→Nn,mem_append→Np,contains_eq_mem→Nv,length_replicate→Nx,find?_cons→NI,mem_map→NK,length_take→NN,take_of_length_le→NO,nodup_append→NS,cons_ne_nil→NU,map_append→NV,nodup_cons→NW,length→N7,filter_cons→Oa,range→Ob,Perm→Od,mem_filter→Oh
open PySem.W renaming Frag→LN,findIn→M5,mg_none_of→NC,kitOne→Og,exmOne→Oi
open Nat renaming lt_of_lt_of_le→LR,le_refl→LS,ne_of_lt→Mv,le_trans→MG,zero_le→Ny,lt_irrefl→NM
open PySem.PyData renaming eqv→Mc,str→Mo,strOk→M8,eqvAll→Nl,canLayAll0→Nr,depthAll→N0,list→N2
open PySem.Value renaming ref→Ml,none→MK
open Array renaming getElem?_eq_getElem→Mm,length_toList→Mq,getElem?_toList→MI
open Option.some renaming inj→Ms
open Or renaming inl→Mx
open PySem.Heap.SameBut renaming update→ML
open PySem.SeqAt renaming EqAt→MN
open PySem.Txt renaming join→MP
open PySem.F renaming plainAttrs_list→MS,slot_list_append→Nt,slot_dict_get→NH,plainAttrs_dict→NP,plainAttrs_str→NR,slot_dict_pop→NZ
open PySem.Builtin.Str renaming strSliceIndices→MY,occurrences→Nd
open PySem.Builtin.SmallTypes renaming nextOf→M7,ownedTupleIsFree→Nu
open PySem.Str renaming ofString→Na
open PyProof.Rows renaming callWith_type1→Nb
open False renaming elim→Nf
open PySem.Calls renaming spliced_cons→Nh,evalArgs_plain→Nw,callWith_builtin→ND,spliced_nil→N4
open PySem.SetTable renaming below→Ni
open Sum renaming inl→Nz
open Ne renaming symm→NA
open PySem.PassesOwn renaming never→NG
open True renaming intro→NQ
open List.Perm renaming append_left→N9,append_right→Oe
open PySem.Obj renaming mapSeq→Of
theorem SF{c:Prop}[h:Decidable c](hc:c){α:Sort _}{t e:α}:ite c t e=t:=if_pos hc
theorem SG{c:Prop}[h:Decidable c](hc:¬c){α:Sort _}{t e:α}:ite c t e=e:=if_neg hc
theorem SH{p:Prop}[Decidable p]:(decide p=true)=p:=decide_eq_true_eq
theorem SI{p:Prop}[h:Decidable p](x:p):decide p=true:=decide_eq_true x
local macro_rules|`(tactic|omega)=>`(tactic|lia)
namespace L2
open PySem PySem.Spec PyProof.Rows
abbrev Key:=Sum Int Str
def qa:Key->G'->Bool
|.inl k,v=>G'.isInt k v
|.inr x,v=>G'.isStrOf x v
def KW (w:LZ):Key->Int
|.inl k=>hashInt k
|.inr x=>hashStr w x
def bc:∀ {k:Key}{v:G'},qa k v=l'->(∃ i t,k=Nz i/\v=G'.int i t)\/(∃ x t,k=Sum.inr x/\v=G'.str x t)
|.inl i,v,h=>by
  obtain⟨t,e⟩:=G'.isInt_shape (k:=i) (v:=v) h;exact .inl ⟨i,t,rfl,e⟩
|.inr x,v,h=>by
  obtain⟨t,e⟩:=G'.isStrOf_shape (x:=x) (v:=v) h;exact .inr ⟨x,t,rfl,e⟩
def Bg (i:Int) (t:Tok):qa (.inl i) (.int i t)=l':=by simp[qa,G'.isInt]
def Ak (x:Str) (t:Tok):qa (.inr x) (.str x t)=l':=by simp[qa,G'.isStrOf]
def HS (a b:Int):decide ((Nz a:Key)=Nz b)=(a == b):=by
 by_cases e:a=b
 . subst e;simp
 . have h:¬ (Nz a:Key)=Nz b:=λq=>e (Nz.inj q)
   rw[decide_eq_false h];exact(beq_eq_false_iff_ne.mpr e).symm
def Iu (a b:Str):decide ((Sum.inr a:Key)=Sum.inr b)=decide (a=b):=by
 by_cases e:a=b
 . subst e;simp
 . have h:¬ (Sum.inr a:Key)=Sum.inr b:=λq=>e (Sum.inr.inj q)
   rw[decide_eq_false h,decide_eq_false e]
def Hu (a:Int) (b:Str):decide ((Nz a:Key)=Sum.inr b)=K':=decide_eq_false (λq=>nomatch q)
def Hm (a:Str) (b:Int):decide ((Sum.inr a:Key)=Nz b)=K':=decide_eq_false (λq=>nomatch q)
def bA (prog:Mg) (w:LZ):PySem.KeyKind prog w Key where
 is:=qa
 hash:=KW w
 inj:=λv a b ha hb=>by
  rcases bc ha with⟨i,t,rfl,rfl⟩|⟨x,t,rfl,rfl⟩
  . rcases bc hb with⟨j,u,rfl,e⟩|⟨y,u,rfl,e⟩
    . injection e with e1 _;rw[e1]
    . exact nomatch e
  . rcases bc hb with⟨j,u,rfl,e⟩|⟨y,u,rfl,e⟩
    . exact nomatch e
    . injection e with e1 _;rw[e1]
 byValue:=λk v h=>by
  rcases bc h with⟨i,t,rfl,rfl⟩|⟨x,t,rfl,rfl⟩<;>rfl
 pyHash:=λhv h=>by
  rcases bc hv with⟨i,t,rfl,rfl⟩|⟨x,t,rfl,rfl⟩
  . exact wpAny_pyHash_int h
  . exact wpAny_pyHash_str h
 eqBool:=λhu hv h=>by
  rcases bc hu with⟨i,t,rfl,rfl⟩|⟨x,t,rfl,rfl⟩
  . rcases bc hv with⟨j,u,rfl,rfl⟩|⟨y,u,rfl,rfl⟩
    . rw[HS]at h;exact wpAny_eqBool_int h
    . rw[Hu]at h;exact MN.int_str i t y u _ _ _ _ h
  . rcases bc hv with⟨j,u,rfl,rfl⟩|⟨y,u,rfl,rfl⟩
    . rw[Hm]at h;exact MN.str_int x t j u _ _ _ _ h
    . rw[Iu]at h;exact wpAny_eqBool_str h
 «strs»:=λk x t v h=>by
  rcases bc h with⟨i,u,rfl,e⟩|⟨y,u,rfl,e⟩
  . exact nomatch e
  . injection e with e1 _
    subst e1;cases v<;>rfl
def vN (prog:Mg) (w:LZ) (i:Int) (t:Tok):(bA prog w).is (.inl i) (.int i t)=l':=Bg i t
def wo (prog:Mg) (w:LZ) (x:Str) (t:Tok):(bA prog w).is (.inr x) (.str x t)=l':=Ak x t
inductive V where
|non|bl (b:Bool)|int (i:Int)|str (x:Str)|byt (b:Array UInt8)|flt (b:UInt64)|ref (a:D')|ty (n:String)
 deriving DecidableEq
def cy:V->G'->Prop
|.non,u=>u=MK
|.bl b,u=>u=G'.bool b
|.int i,u=>∃ t,u=G'.int i t
|.str x,u=>∃ t,u=G'.str x t
|.byt b,u=>∃ t,u=G'.bytes b t
|.flt b,u=>∃ t,u=G'.float b t
|.ref a,u=>u=Ml a
|.ty n,u=>u=G'.type n
abbrev bV:List V->List G'->Prop:=Mn cy
theorem bV.length {xs:List V}{us:List G'}(r:bV xs us):xs.length=us.length:=Mn.length r
theorem bV.get:∀ {xs:List V}{us:List G'}{i:Nat}{x:V},bV xs us->xs[i]?=f' x->∃ u,us[i]?=f' u/\cy x u
|_,_,_,_,.nil,e=>by simp at e
|_,_,0,_,.cons r _,e=>by simp at e;subst e;exact⟨_,rfl,r⟩
|_,_,i+1,x,.cons _ t,e=>by
  obtain⟨u,h1,h2⟩:=bV.get (i:=i) (x:=x) t (by simpa using e);exact⟨u,by simpa using h1,h2⟩
theorem bV.set {x:V}{u:G'}(r:cy x u):∀ {xs:List V}{us:List G'}(i:Nat),bV xs us->bV (xs.set i x) (us.set i u)
|_,_,_,.nil=>.nil
|_,_,0,.cons _ t=>.cons r t
|_,_,i+1,.cons q t=>.cons q (bV.set r i t)
theorem bV.append:∀ {xs ys:List V}{us ws:List G'},bV xs us->bV ys ws->bV (xs++ys) (us++ws)
|_,_,_,_,.nil,s=>s
|_,_,_,_,.cons r t,s=>.cons r (bV.append t s)
theorem bV.take:∀ {xs:List V}{us:List G'}(n:Nat),bV xs us->bV (xs.take n) (us.take n)
|_,_,0,_=>.nil
|_,_,_+1,.nil=>.nil
|_,_,n+1,.cons r t=>.cons r (bV.take n t)
theorem bV.drop:∀ {xs:List V}{us:List G'}(n:Nat),bV xs us->bV (xs.drop n) (us.drop n)
|_,_,0,r=>r
|_,_,_+1,.nil=>.nil
|_,_,n+1,.cons _ t=>bV.drop n t
def vL:Option V->Option G'->Prop
|some v,f' u=>cy v u
|none,LJ=>True
|_,_=>False
def KV {κ:Type}:List (κ × V)->List (κ × G')->Prop:=Mn λ(p:κ × V) (q:κ × G')=>p.1=q.1/\cy p.2 q.2
def kV:Key->V
|.inl i=>.int i
|.inr x=>.str x
inductive HO where
 /-- a list -/
|lst (xs:List V)
 /-- a tuple (never changes) -/
|tup (xs:List V)
 /-- a dict whose keys are ints and texts;one whose keys are tuples of ints and texts (the empty one is both) -/
|dK (kvs:List (Key × V))|dT (kvs:List (List Key × V))
 /-- a set of ints: its members,its size -/
|set (S:Int->Bool) (n:Nat)
 /-- an instance of the class at C,its dict at dx,its attributes -/
|ins (C dx:D') (fs:List (Str × V))
 /-- the dict of the instance at x -/
|own (x:D')
 /-- the dict of an exception -/
|xd (fs:List (Str × V))
 /-- a bound method,f of x -/
|met (f x:D')
 /-- a range object lo,lo+1,.. below hi -/
|rng (lo hi:Int)
 /-- a thing that is known to the object (the script;a dict while a loop walks it): read,never written while it is so -/
|frz (o:M6) (u:HO)
 /-- a code object's table -/
|tbl (ps:Array G')
 /-- any other thing,by what is l' of its one object (a def of one's own: SetO a S n:=HO.ext λh=>..) -/
|ext (φ:Mi->Prop)
abbrev Hp:=D'->Option HO
def upd (H:Hp) (a:D') (o:HO):Hp:=λb=>if b=a then f' o else H b
def a8 {H:Hp}{a:D'}{o:HO}:upd H a o a=f' o:=by unfold upd;rw[SF rfl]
def ac {H:Hp}{a b:D'}{o:HO}(h:b≠a):upd H a o b=H b:=by unfold upd;rw[SG h]
def eY {H:Hp}{a:D'}{o u:HO}:upd (upd H a o) a u=upd H a u:=by
 funext b;unfold upd;split<;>rfl
def jo {H:Hp}{a b:D'}{o u:HO}(h:H a=f' o) (h':H b=f' u) (d:o≠u):a≠b:=by
 intro e;subst e;rw[h]at h';exact d (Ms h')
def ae {H:Hp}{a b:D'}{o:HO}(h:H a=f' o) (h':H b=LJ):a≠b:=by
 intro e;subst e;rw[h]at h';cases h'
section
variable (P:Mg) (w:LZ)
def cQ (H:Hp) (h:Mi) (a:D'):HO->Prop
|.lst xs=>xs.length <= LP/\∃ (its:List G') (n:Nat),bV xs its/\h.get? a=f' { cls:=.type "list",data:=.seq its.toArray n }
|.tup xs=>xs.length <= LP/\∃ its:List G',bV xs its/\IsTup h a its.toArray
|.dK kvs=>kvs.length <= LP/\(a == Ng)=K'/\∃ vs,KV kvs vs/\h.DictOf (bA P w) a vs
|.dT kvs=>kvs.length <= LP/\(a == Ng)=K'/\∃ xs:List (List Key × D' × G'),
  Mn (λ(p:List Key × V) (q:List Key × D' × G')=>p.1=q.1/\H q.2.1=f' (.tup (p.1.map kV))/\cy p.2 q.2.2) kvs xs /\
  ∃ o es ep,h.get? a=f' o/\o.ExactDict/\o.data=.dict es ep/\es.toList=xs.map (entryOfKey (tupleKind (bA P w)))/\(xs.map (·.1)).Nodup
|.set S n=>h.SetOf (intKind P w) a S n
|.ins C dx fs=>H dx=f' (.own a)/\fs.length <= 1000/\dx≠a/\h.get? a=f' (instObj C dx) /\
  ∃ mA,h.Ns1 dx mA/\(∀ f,vL (fs.lookup f) (mA f))/\PySem.Within mA (fs.map (·.1))
|.own _=>∃ o,h.get? a=f' o
|.xd fs=>∃ mA,h.Ns1 a mA/\∀ f,vL (fs.lookup f) (mA f)
|.rng lo hi=>∃ t u v,h.get? a=f' { cls:=.type "range",data:=.fields #[.int lo t,.int hi u,.int 1 v] }
|.frz o u=>h.get? a=f' o/\cQ H h a u
|.tbl ps=>h.get? a=f' { cls:=.none,data:=.fields ps }
|.met f x=>h.get? a=f' (methodObj (.ref f) (.ref x))
|.ext φ=>φ h/\(∃ o,h.get? a=f' o)/\∀ h1 h2:Mi,φ h1->(∀ o,h1.get? a=f' o->h2.get? a=f' o)->φ h2
def HOk (H:Hp) (h:Mi):Prop:=∀ a o,H a=f' o->cQ P w H h a o
end
section
variable {P:Mg}{w:LZ}{H H':Hp}{h h':Mi}{a:D'}{o:HO}
theorem cQ.lt (x:cQ P w H h a o):a < h.objs.size:=by
 cases o with
|lst xs=>obtain⟨_,_,_,_,e⟩:=x;exact Mb e
|tup xs=>obtain⟨_,_,_,p⟩:=x;exact p.lt
|dK kvs=>obtain⟨_,_,_,_,o,_,_,e,_⟩:=x;exact Mb e
|dT kvs=>obtain⟨_,_,_,_,o,_,_,e,_⟩:=x;exact Mb e
|set S n=>obtain⟨o,_,_,_,e,_⟩:=x;exact Mb e
|ins C dx fs=>obtain⟨_,_,_,e,_⟩:=x;exact Mb e
|own y=>obtain⟨_,e⟩:=x;exact Mb e
|xd fs=>obtain⟨_,⟨_,_,_,e,_⟩,_⟩:=x;exact Mb e
|rng lo hi=>obtain⟨_,_,_,e⟩:=x;exact Mb e
|frz ob u=>obtain⟨e,_⟩:=x;exact Mb e
|tbl ps=>exact Mb (show h.get? a=f' _ from x)
|met f y=>exact Mb (show h.get? a=f' _ from x)
|ext φ=>obtain⟨_,⟨_,e⟩,_⟩:=x;exact Mb e
theorem Paired.mapP {α β:Type}{F G:α->β->Prop}:∀ {l₁:List α}{l₂:List β},Mn F l₁ l₂->(∀ a b,F a b->G a b)->Mn G l₁ l₂
|_,_,.nil,_=>.nil
|_,_,.cons r t,f=>.cons (f _ _ r) (Paired.mapP t f)
def cQ.stay (x:cQ P w H h a o) (k:∀ b u,(b=a\/H b=f' (.own a))->h.get? b=f' u->h'.get? b=f' u)
 (ho:∀ b,H b=f' (.own a)->H' b=f' (.own a)) (ht:∀ b xs,H b=f' (.tup xs)->H' b=f' (.tup xs)):cQ P w H' h' a o:=by
 induction o with
|lst xs=>obtain⟨z,its,n,r,e⟩:=x;exact⟨z,its,n,r,k _ _ (.inl rfl) e⟩
|tup xs=>obtain⟨z,its,r,ob,e,c⟩:=x;exact⟨z,its,r,ob,k _ _ (.inl rfl) e,c⟩
|dK kvs=>obtain⟨z,y,vs,r,ob,es,ep,e,c⟩:=x;exact⟨z,y,vs,r,ob,es,ep,k _ _ (.inl rfl) e,c⟩
|dT kvs =>
  obtain⟨z,y,xs,r,ob,es,ep,e,c⟩:=x;exact⟨z,y,xs,Paired.mapP r λp q z=>⟨z.1,ht _ _ z.2.1,z.2.2⟩,ob,es,ep,k _ _ (.inl rfl) e,c⟩
|set S n=>obtain⟨ob,es,ep,t,e,c⟩:=x;exact⟨ob,es,ep,t,k _ _ (.inl rfl) e,c⟩
|ins C dx fs =>
  obtain⟨d,z,ne,e,mA,⟨od,es,ep,e2,c⟩,r⟩:=x;exact⟨ho _ d,z,ne,k _ _ (.inl rfl) e,mA,⟨od,es,ep,k _ _ (.inr d) e2,c⟩,r⟩
|own y=>obtain⟨ob,e⟩:=x;exact⟨ob,k _ _ (.inl rfl) e⟩
|xd fs=>obtain⟨mA,⟨od,es,ep,e,c⟩,r⟩:=x;exact⟨mA,⟨od,es,ep,k _ _ (.inl rfl) e,c⟩,r⟩
|rng lo hi=>obtain⟨t,u,v,e⟩:=x;exact⟨t,u,v,k _ _ (.inl rfl) e⟩
|frz ob u ih=>obtain⟨e,q⟩:=x;exact⟨k _ _ (.inl rfl) e,ih q⟩
|tbl ps =>
  have e:h.get? a=f' { cls:=.none,data:=.fields ps }:=x;show h'.get? a=f' { cls:=.none,data:=.fields ps };exact k a _ (.inl rfl) e
|met f y =>
  have e:h.get? a=f' (methodObj (.ref f) (.ref y)):=x;show h'.get? a=f' (methodObj (.ref f) (.ref y));exact k a _ (.inl rfl) e
|ext φ=>obtain⟨p,⟨o,e⟩,st⟩:=x;exact⟨st _ _ p λo q=>k _ _ (.inl rfl) q,⟨o,k _ _ (.inl rfl) e⟩,st⟩
theorem HOk.lt (x:HOk P w H h) (e:H a=f' o):a < h.objs.size:=(x a o e).lt
def HOk.fresh (x:HOk P w H h) (e:h.objs.size <= a):H a=LJ:=by
 cases q:H a with
|none=>rfl
|some u=>exact absurd (LR (x.lt q) e) (NM _)
def HOk.kept (x:HOk P w H h) (k:∀ b u,h.get? b=f' u->h'.get? b=f' u):HOk P w H h':=λa o e =>
 (x a o e).stay (λb u _ q=>k b u q) (λ_ q=>q) λ_ _ q=>q
def HOk.laid (x:HOk P w H h) (k:∀ b u,h.get? b=f' u->h'.get? b=f' u) (hp:h.objs.size <= a) (new:cQ P w (upd H a o) h' a o):HOk P w (upd H a o) h':=λb u e=>by
 have hn:=x.fresh hp;by_cases hb:b=a
 . subst hb;rw[a8]at e;cases e;exact new
 . rw[ac hb]at e;exact(x b u e).stay (λc v _ q=>k c v q) (λc q=>by rw[ac (ae q hn)];exact q) λc xs q=>by rw[ac (ae q hn)];exact q
end
def Rd (H:Hp) (a:D') (u:HO):Prop:=H a=f' u\/∃ o,H a=f' (.frz o u)
def Rd.ok {P:Mg}{w:LZ}{H:Hp}{h:Mi}{a:D'}{u:HO}(r:Rd H a u) (x:HOk P w H h):cQ P w H h a u:=by
 rcases r with r|⟨o,r⟩
 . exact x a u r
 . obtain⟨_,q⟩:=x a _ r;exact q
def Mut:Option HO->Prop
|some (.lst _)=>True
|some (.dK _)=>True
|some (.dT _)=>True
|some (.set _ _)=>True
|some (.ins _ _ _)=>True
|some (.ext _)=>True
|_=>False
section
variable {P:Mg}{w:LZ}{H:Hp}{h h':Mi}{x e:D'}{o':HO}
def HOk.write (ok:HOk P w H h) (mu:Mut (H x)) (he:e=x\/H e=f' (.own x)) (k:∀ b u,b≠e->h.get? b=f' u->h'.get? b=f' u) (heo:∃ u,h'.get? e=f' u)
 (new:cQ P w (upd H x o') h' x o'):HOk P w (upd H x o') h':=λb u q=>by
 have nown:∀ c y,H c=f' (.own y)->c≠x:=λc y r z=>by subst z;rw[r]at mu;exact mu
 have ntup:∀ c xs,H c=f' (.tup xs)->c≠x:=λc xs r z=>by subst z;rw[r]at mu;exact mu
 by_cases hb:b=x
 . subst hb;rw[a8]at q;cases q;exact new
 . rw[ac hb]at q;by_cases hbe:b=e
   . have q':H b=f' (.own x):=by
      rcases he with z|z
      . exact absurd (hbe.trans z) hb
      . rw[hbe];exact z
     rw[q]at q';cases q';obtain⟨v,hv⟩:=heo;exact⟨v,by rw[hbe];exact hv⟩
   . refine(ok b u q).stay (λc v hc r=>k c v ?_ r) (λc r=>by rw[ac (nown c b r)];exact r) λc xs r=>by rw[ac (ntup c xs r)];exact r
     rcases hc with rfl|hc
     . exact hbe
     . rintro rfl;rcases he with z|z
       . exact nown c b hc z
       . rw[hc]at z;cases z;exact hb rfl
end
structure Un (fs ex:List D') (H H':Hp) (h h':Mi):Prop where
 keep:∀ b o,h.get? b=f' o->H b=LJ->b ∉ fs->b ∉ ex->h'.get? b=f' o
 slot:∀ b o,h.get? b=f' o->H b=LJ->b∈fs->b ∉ ex->∃ sl,h'.get? b=f' { o with slots:=sl }
 free:∀ b o,h.get? b=f' o->H b=LJ->b ∉ ex->H' b=LJ
 there:∀ b o,h.get? b=f' o->b ∉ ex->∃ o',h'.get? b=f' o'
 tups:∀ b xs,H b=f' (.tup xs)->H' b=f' (.tup xs)
 frzs:∀ b o u,H b=f' (.frz o u)->H' b=f' (.frz o u)
 tbls:∀ b ps,H b=f' (.tbl ps)->∃ more,H' b=f' (.tbl (ps++more))
section
variable {fs fs' ex ex':List D'}{H H1 H2:Hp}{h h1 h2 h':Mi}{a x e:D'}{o:HO}
def Un.any (u:Un fs ex H H1 h h1) {b:D'}{ob:M6}(q:h.get? b=f' ob) (n:H b=LJ) (hx:b ∉ ex):∃ sl,h1.get? b=f' { ob with slots:=sl }:=by
 by_cases hb:b∈fs
 . exact u.slot b ob q n hb hx
 . exact⟨ob.slots,u.keep b ob q n hb hx⟩
def Un.kept (k:∀ b u,h.get? b=f' u->h'.get? b=f' u):Un fs ex H H h h' :=
 ⟨λb ob q _ _ _=>k b ob q,λb ob q _ _ _=>⟨ob.slots,k b ob q⟩,λ_ _ _ n _=>n,λb ob q _=>⟨ob,k b ob q⟩,λ_ _ q=>q,λ_ _ _ q=>q,λ_ ps q=>⟨#[],by rw[q];simp⟩⟩
def Un.refl:Un fs ex H H h h:=Un.kept λ_ _ q=>q
def Un.laid (k:∀ b u,h.get? b=f' u->h'.get? b=f' u) (hp:h.objs.size <= a) (hn:H a=LJ):Un fs ex H (upd H a o) h h' where
 keep:=λb u q _ _ _=>k b u q
 slot:=λb u q _ _ _=>⟨u.slots,k b u q⟩
 free:=λb u q n _=>by rw[ac (Mv (LR (Mb q) hp))];exact n
 there:=λb u q _=>⟨u,k b u q⟩
 tups:=λb xs q=>by rw[ac (ae q hn)];exact q
 frzs:=λb u xs q=>by rw[ac (ae q hn)];exact q
 tbls:=λb ps q=>⟨#[],by rw[ac (ae q hn),q];simp⟩
def Un.write (mu:Mut (H x)) (he:e=x\/H e=f' (.own x)) (k:∀ b u,b≠e->h.get? b=f' u->h'.get? b=f' u) (heo:∃ u,h'.get? e=f' u):Un fs ex H (upd H x o) h h':=by
 have hx:∀ b,H b=LJ->b≠x:=λb n z=>by subst z;rw[n]at mu;exact mu
 have hb:∀ b,H b=LJ->b≠e:=λb n z=>by
  subst z;rcases he with r|r
  . exact hx b n r
  . rw[n]at r;cases r
 have hm:∀ b u,H b=f' u->¬ Mut (f' u)->b≠x:=λb u q nm z=>by subst z;rw[q]at mu;exact nm mu
 refine⟨λb u q n _ _=>k b u (hb b n) q,λb u q n _ _=>⟨u.slots,k b u (hb b n) q⟩,λb u q n _=>by rw[ac (hx b n)];exact n,λb u q _=>?_,
  λb xs q=>by rw[ac (hm b _ q λz=>z)];exact q,λb u xs q=>by rw[ac (hm b _ q λz=>z)];exact q,λb ps q=>⟨#[],by rw[ac (hm b _ q λz=>z),q];simp⟩⟩
 by_cases hbe:b=e
 . subst hbe;exact heo
 . exact⟨u,k b u hbe q⟩
end
def trk (h:Mi) (H:Hp):List D':=(Ob h.objs.size).filter λa=>(H a).isSome
def CW (h:Mi) (H:Hp):Mi:=hideAll h (trk h H)
def By (h:Mi) (H:Hp):(CW h H).objs.size=h.objs.size:=hideAll_size _ _
def D1 {h:Mi}{H:Hp}{b:D'}{o:M6}(e:h.get? b=f' o) (n:H b=LJ):(CW h H).get? b=f' o :=
 hideAll_get _ e λhm=>by
  have q:(H b).isSome=l':=(Oh.mp hm).2;rw[n]at q;simp at q
def Ft {h:Mi}{H:Hp}{b:D'}{o:M6}(e:(CW h H).get? b=f' o):h.get? b=f' o/\H b=LJ:=by
 have e':h.get? b=f' o:=of_hideAll (trk h H) e;refine⟨e',?_⟩;cases q:H b with
|none=>rfl
|some x =>
  have hm:b∈trk h H:=Oh.mpr ⟨mem_range.mpr (Mb e'),by simp[q]⟩;have z:(CW h H).get? b=LJ:=hideAll_none (trk h H) hm;rw[z]at e;cases e
def GS (g h:Mi) (L:D'):List (D' × M6):=(Ob h.objs.size).filterMap λa=>if a=L\/(g.get? a).isSome=l' then LJ else (h.get? a).map λo=>(a,o)
def cx (g h:Mi) (L d:D'):List (D' × M6):=(GS g h L).filter λp=>decide (p.1≠d)
structure Mod (K:LN) (mg:Str->Option G') (base:Mi):Prop where
 kin:K.In base
 glob:base.Ns Mt mg
 blt:∃ mb,base.Ns builtinsNs mb/\∀ x:Str,x≠"__name__"->mb x=MO x
 nolimit:base.NoLimit
structure Cx where
 prog:Mg
 w:LZ
 K:LN
 mg:Str->Option G'
 base:Mi
 A:Mr
 N:List Str
 s₀:LK
 H₀:Hp
 env:Env
 outer:List Env
 stack:List Env
 ex:List D'
 fn:Str->Bool
 calm:Bool
 pn:List (D' × M6)
 xe:G'->LK->Prop
def frs (l:List Env):List D':=l.filterMap (·.frame)
abbrev Cx.fs (X:Cx):List D':=frs X.outer
def Vis (sc:Scope) (x:Str):Prop:=sc.names.lookup x=f' .local\/sc.names.lookup x=f' .cell\/sc.names.lookup x=f' .free
def Loc (sc:Scope) (x:Str):Prop:=sc.names.lookup x=f' .local\/sc.names.lookup x=f' .cell
def Ll (env:Env) (h:Mi) (m:Str->Option G') (x:Str) (u:G'):Prop :=
 (env.kindOf x=f' .local/\m x=f' u)\/((env.kindOf x=f' .cell\/env.kindOf x=f' .free)/\∃ c,env.cells.lookup x=f' c/\h.IsCell c (f' u))
structure Cx.Ok (X:Cx):Prop where
 mod:Mod X.K X.mg X.base
 kind:X.env.scope.kind=.function
 glob:X.env.globals=Mt
 blt:X.env.builtins=builtinsNs
 above:X.s₀.heap.objs.size <= X.env.locals
 inj:∀ x y c,X.env.cells.lookup x=f' c->X.env.cells.lookup y=f' c->x=y
 has:∀ x,(X.env.kindOf x=f' .cell\/X.env.kindOf x=f' .free)->∃ c,X.env.cells.lookup x=f' c
 cab:∀ x c,X.fn x=l'->X.env.cells.lookup x=f' c->X.s₀.heap.objs.size <= c
 hd:X.calm=l'->X.A.handled=LJ
 frames:X.A.frames=f' X.stack
 stk:X.stack=X.outer\/(X.stack=X.env :: X.outer/\X.env.frame=f' X.env.locals)
 exf:∀ b∈X.ex,b≠X.env.locals/\∀ x c,X.env.cells.lookup x=f' c->c≠b
 bs:∀ b o,X.base.get? b=f' o->X.s₀.heap.get? b=f' o/\X.H₀ b=LJ
 bsz:X.base.objs.size <= X.s₀.heap.objs.size
 noex:∀ b o,X.base.get? b=f' o->b ∉ X.ex
 exfs:∀ b∈X.ex,b ∉ X.fs
 funs:X.s₀.heap.FunFrames X.base X.outer
 frf:∀ b∈X.fs,X.H₀ b=LJ
structure Inv (X:Cx) (Oj:List (D' × M6)) (σ:List (Option V)) (H:Hp) (s:LK):Prop where
 ok:X.Ok
 os:s.os=X.s₀.os
 bare:AllBare s.gens
 base:Un X.fs X.ex X.H₀ H X.s₀.heap s.heap
 loc:∃ m,s.heap.Ns X.env.locals m/\∀ (i:Nat) (x:Str) (v:V),X.N[i]?=f' x->σ[i]?=f' (f' v)->Vis X.env.scope x->∃ u,cy v u/\Ll X.env s.heap m x u
 cell:∀ x c,X.env.cells.lookup x=f' c->∃ v,s.heap.IsCell c v
 free:H X.env.locals=LJ
 freeC:∀ x c,X.env.cells.lookup x=f' c->H c=LJ
 pin:∀ p∈X.pn++Oj,s.heap.get? p.1=f' p.2/\H p.1=LJ/\p.1≠X.env.locals/\p.1 ∉ X.fs/\∀ v,p.2.data≠.cell v
 hok:HOk X.prog X.w H s.heap
 len:σ.length=X.N.length
section
variable {X:Cx}{Oj:List (D' × M6)}{σ:List (Option V)}{H H':Hp}{s:LK}{h':Mi}
def Cx.Ok.nofr (ok:X.Ok) {b:D'}{o:M6}(e:X.base.get? b=f' o):b ∉ X.fs:=λhb=>by
 have:=(ok.funs.mem hb).1;rw[e]at this;cases this
theorem Inv.bs (I:Inv X Oj σ H s):∀ b o,X.base.get? b=f' o->s.heap.get? b=f' o/\H b=LJ:=λb o e =>
 ⟨I.base.keep b o (I.ok.bs b o e).1 (I.ok.bs b o e).2 (I.ok.nofr e) (I.ok.noex b o e),I.base.free b o (I.ok.bs b o e).1 (I.ok.bs b o e).2 (I.ok.noex b o e)⟩
def Inv.bk (I:Inv X Oj σ H s):∀ b o,X.base.get? b=f' o->s.heap.get? b=f' o:=λb o e=>(I.bs b o e).1
theorem Inv.mod (I:Inv X Oj σ H s):Mod X.K X.mg X.base:=I.ok.mod
def Inv.kIn (I:Inv X Oj σ H s):X.K.In s.heap:=I.ok.mod.kin.keeps I.bk
theorem Inv.lt (I:Inv X Oj σ H s):X.env.locals < s.heap.objs.size:=let ⟨_,hn,_⟩:=I.loc;hn.lt
def Inv.sz (I:Inv X Oj σ H s):X.s₀.heap.objs.size <= s.heap.objs.size:=MG I.ok.above (Nat.le_of_lt I.lt)
def Inv.nofs (I:Inv X Oj σ H s) {a:D'}(h:s.heap.objs.size <= a):a ∉ X.fs:=λhb=>by
 obtain⟨_,o,ho,_⟩:=I.ok.funs.mem hb;exact absurd (LR (Mb ho) (MG I.sz h)) (NM _)
def Inv.cne (I:Inv X Oj σ H s):∀ x c,X.env.cells.lookup x=f' c->c≠X.env.locals:=λx c e z=>by
 obtain⟨v,o,ho,hd⟩:=I.cell x c e;obtain⟨m,⟨o',es,ep,ho',hd',_⟩,_⟩:=I.loc;rw[z,ho']at ho;cases ho;rw[hd']at hd;cases hd
theorem Inv.funs (I:Inv X Oj σ H s):s.heap.FunFrames X.base X.outer:=by
 have all:∀ (l:List Env),(∀ b∈frs l,b∈X.fs)->X.s₀.heap.FunFrames X.base l->s.heap.FunFrames X.base l:=by
  intro l
  induction l with
 |nil=>intro _ _;trivial
 |cons env r ih =>
   intro hs hl;obtain⟨hk,⟨L,o,hf,hn,ho,hd⟩,hr⟩:=hl;have hL:L∈X.fs:=hs L (by unfold frs;rw[filterMap_cons,hf];exact LY);obtain⟨sl,e⟩:=I.base.slot L o ho (I.ok.frf L hL) hL λz=>I.ok.exfs L z hL
   exact⟨hk,⟨L,_,hf,hn,e,hd⟩,ih (λb hb=>hs b (by unfold frs;rw[filterMap_cons,hf];exact Ma _ hb)) hr⟩
 exact all X.outer (λ_ hb=>hb) I.ok.funs
theorem Inv.stack (I:Inv X Oj σ H s):s.heap.FunFrames X.base X.stack:=by
 rcases I.ok.stk with e|⟨e,hf⟩
 . rw[e];exact I.funs
 . rw[e];obtain⟨m,hn,_⟩:=I.loc;refine .cons (by rw[I.ok.kind];decide) hf hn ?_ I.funs;exact Mi.get?_none_of_le (MG I.ok.bsz I.ok.above)
def Inv.stkSub (I:Inv X Oj σ H s):∀ b∈frs X.stack,b∈X.env.locals :: X.fs:=λb hb=>by
 rcases I.ok.stk with e|⟨e,hf⟩
 . rw[e]at hb;exact Ma _ hb
 . rw[e]at hb;unfold frs at hb;rw[filterMap_cons,hf]at hb;exact hb
def Inv.stkFree (I:Inv X Oj σ H s):∀ b∈frs X.stack,H b=LJ:=λb hb=>by
 rcases Mf.mp (I.stkSub b hb) with e|hb
 . rw[e];exact I.free
 . obtain⟨_,o,ho,_⟩:=I.ok.funs.mem hb;exact I.base.free b o ho (I.ok.frf b hb) λz=>I.ok.exfs b z hb
def Inv.step {g':Array GenState}{t':Nat}{d':Drawn}{ch:List D'}(I:Inv X Oj σ H s)
 (hch:∀ b∈ch,(b∈X.ex\/X.s₀.heap.objs.size <= b)/\b≠X.env.locals/\(∀ x c,X.env.cells.lookup x=f' c->c≠b)/\∀ p∈X.pn++Oj,p.1≠b)
 (keep:∀ b o,b≠X.env.locals->b ∉ X.fs->b ∉ ch->s.heap.get? b=f' o->H b=LJ->h'.get? b=f' o)
 (slot:∀ b o,b≠X.env.locals->b∈X.fs->b ∉ ch->s.heap.get? b=f' o->H b=LJ->∃ sl,h'.get? b=f' { o with slots:=sl }) (free:∀ b o,b ∉ ch->s.heap.get? b=f' o->H b=LJ->H' b=LJ)
 (there:∀ b o,b ∉ ch->s.heap.get? b=f' o->∃ o',h'.get? b=f' o')
 (tups:∀ b xs,H b=f' (.tup xs)->H' b=f' (.tup xs)) (frzs:∀ b o u,H b=f' (.frz o u)->H' b=f' (.frz o u)) (tbls:∀ b ps,H b=f' (.tbl ps)->∃ more,H' b=f' (.tbl (ps++more)))
 (ns:∀ m,s.heap.Ns X.env.locals m->h'.Ns X.env.locals m) (hok:HOk X.prog X.w H' h') (hg:AllBare g') :
 Inv X Oj σ H' { s with heap:=h',gens:=g',drawn:=d',toks:=t' }:=by
 have neL:∀ b o,X.s₀.heap.get? b=f' o->b≠X.env.locals:=λb o e=>Mv (LR (Mb e) I.ok.above)
 have neC:∀ b o,X.s₀.heap.get? b=f' o->b ∉ X.ex->b ∉ ch:=λb o e hx hb=>by
  rcases(hch b hb).1 with z|z
  . exact hx z
  . exact absurd (LR (Mb e) z) (NM _)
 have cellK:∀ x c,X.env.cells.lookup x=f' c->∀ v,s.heap.IsCell c v->h'.IsCell c v:=λx c e v ⟨o,ho,hd⟩=>by
  have nch:c ∉ ch:=λz=>(hch c z).2.2.1 x c e rfl
  by_cases hc:c∈X.fs
  . obtain⟨sl,q⟩:=slot c o (I.cne x c e) hc nch ho (I.freeC x c e);exact⟨_,q,hd⟩
  . exact⟨o,keep c o (I.cne x c e) hc nch ho (I.freeC x c e),hd⟩
 refine⟨I.ok,I.os,hg,⟨λb o e n hb hx=>?_,λb o e n hb hx=>?_,λb o e n hx=>?_,λb o e hx=>?_,λb xs e=>tups b xs (I.base.tups b xs e),λb o xs e=>frzs b o xs (I.base.frzs b o xs e),λb ps e=>?_⟩,?_,λx c e=>?_,?_,λx c e=>?_,λp hp=>?_,hok,I.len⟩
 . exact keep b o (neL b o e) hb (neC b o e hx) (I.base.keep b o e n hb hx) (I.base.free b o e n hx)
 . obtain⟨sl,e1⟩:=I.base.slot b o e n hb hx;obtain⟨sl',e2⟩:=slot b _ (neL b o e) hb (neC b o e hx) e1 (I.base.free b o e n hx);exact⟨sl',e2⟩
 . obtain⟨o',e1⟩:=I.base.there b o e hx;exact free b o' (neC b o e hx) e1 (I.base.free b o e n hx)
 . obtain⟨o',e1⟩:=I.base.there b o e hx;exact there b o' (neC b o e hx) e1
 . obtain⟨m1,e1⟩:=I.base.tbls b ps e;obtain⟨m2,e2⟩:=tbls b _ e1;exact⟨m1++m2,by rw[e2,Array.append_assoc]⟩
 . obtain⟨m,hn,hl⟩:=I.loc;refine⟨m,ns m hn,λi x v e1 e2 e3=>?_⟩;obtain⟨u,r,l⟩:=hl i x v e1 e2 e3;refine⟨u,r,?_⟩;rcases l with l|⟨k,c,e,z⟩
   . exact .inl l
   . exact .inr ⟨k,c,e,cellK x c e _ z⟩
 . obtain⟨v,z⟩:=I.cell x c e;exact⟨v,cellK x c e v z⟩
 . obtain⟨m,⟨o,_,_,ho,_⟩,_⟩:=I.loc;exact free _ o (λz=>(hch _ z).2.1 rfl) ho I.free
 . obtain⟨v,o,ho,hd⟩:=I.cell x c e;exact free c o (λz=>(hch c z).2.2.1 x c e rfl) ho (I.freeC x c e)
 . obtain⟨e,n,ne,nf,d⟩:=I.pin p hp;have nch:p.1 ∉ ch:=λz=>(hch p.1 z).2.2.2 p hp rfl
   exact⟨keep p.1 p.2 ne nf nch e n,free p.1 p.2 nch e n,ne,nf,d⟩
def Inv.un {t':Nat}(I:Inv X Oj σ H s) (u:Un X.fs [] H H' s.heap h') (hok:HOk X.prog X.w H' h'):Inv X Oj σ H' { s with heap:=h',toks:=t' }:=by
 obtain⟨m,⟨o,es,ep,ho,r⟩,_⟩:=id I.loc;obtain⟨sl,hL⟩:=u.any ho I.free (by simp);exact I.step (g':=s.gens) (d':=s.drawn) (ch:=[]) (λ_ z=>nomatch z) (λb o _ hb _ e n=>u.keep b o e n hb (by simp)) (λb o _ hb _ e n=>u.slot b o e n hb (by simp)) (λb o _ e n=>u.free b o e n (by simp)) (λb o _ e=>u.there b o e (by simp)) u.tups u.frzs u.tbls (λm' hm=>by
  obtain⟨o',es',ep',ho',r'⟩:=hm;rw[ho]at ho';cases ho';exact⟨_,es',ep',hL,r'⟩) hok I.bare
def Inv.call {g':Array GenState}{t':Nat}{d':Drawn}{ch:List D'}(I:Inv X Oj σ H s) (u:Un (frs X.stack) ch H H' s.heap h') (hok:HOk X.prog X.w H' h') (hg:AllBare g')
 (hch:∀ b∈ch,(b∈X.ex\/X.s₀.heap.objs.size <= b)/\b≠X.env.locals/\(∀ x c,X.env.cells.lookup x=f' c->c≠b)/\∀ p∈X.pn++Oj,p.1≠b) :
 Inv X Oj σ H' { s with heap:=h',gens:=g',drawn:=d',toks:=t' }:=by
 obtain⟨m,⟨o,es,ep,ho,r⟩,_⟩:=id I.loc;obtain⟨sl,hL⟩:=u.any ho I.free λz=>(hch _ z).2.1 rfl
 exact I.step (ch:=ch) hch (λb o hL hb hc e n=>u.keep b o e n (λz=>(Mf.mp (I.stkSub b z)).elim hL hb) hc) (λb o _ _ hc e n=>u.any e n hc) (λb o hc e n=>u.free b o e n hc) (λb o hc e=>u.there b o e hc) u.tups u.frzs u.tbls (λm' hm=>by
  obtain⟨o',es',ep',ho',r'⟩:=hm;rw[ho]at ho';cases ho';exact⟨_,es',ep',hL,r'⟩) hok hg
def Inv.turned {t':Nat}{it:D'}(I:Inv X Oj σ H s) (k:∀ b o,b≠it->s.heap.get? b=f' o->h'.get? b=f' o) (hn:H it=LJ) (hL:it≠X.env.locals)
 (h1:it∈X.ex\/X.s₀.heap.objs.size <= it) (h2:∀ x c,X.env.cells.lookup x=f' c->c≠it) (h3:∀ p∈X.pn++Oj,p.1≠it):Inv X Oj σ H { s with heap:=h',toks:=t' }:=by
 have nit:∀ b u,H b=f' u->b≠it:=λb u e z=>by rw[z,hn]at e;cases e
 refine I.step (g':=s.gens) (d':=s.drawn) (ch:=[it]) (λb hb=>?_) (λb o _ _ hc e _=>k b o (λz=>hc (by simp[z])) e) (λb o _ _ hc e _=>⟨o.slots,k b o (λz=>hc (by simp[z])) e⟩) (λ_ _ _ _ n=>n)
  (λb o hc e=>⟨o,k b o (λz=>hc (by simp[z])) e⟩) (λ_ _ e=>e) (λ_ _ _ e=>e) (λb ps e=>⟨#[],by rw[e];simp⟩) (λm hm=>?_) (λb u e=>?_) I.bare
 . have e:b=it:=by simpa using hb
   subst e;exact⟨h1,hL,h2,h3⟩
 . obtain⟨o,es,ep,ho,r⟩:=hm;exact⟨o,es,ep,k _ o (NA hL) ho,r⟩
 . refine(I.hok b u e).stay (λc v hc q=>k c v ?_ q) (λ_ q=>q) λ_ _ q=>q
   rcases hc with z|z
   . rw[z];exact nit b u e
   . exact nit c _ z
def Inv.tok (I:Inv X Oj σ H s) (t:Nat):Inv X Oj σ H { s with toks:=t }:=I.un (h':=s.heap) (t':=t) Un.refl I.hok
theorem Inv.kept {t':Nat}(I:Inv X Oj σ H s) (k:∀ b u,s.heap.get? b=f' u->h'.get? b=f' u):Inv X Oj σ H { s with heap:=h',toks:=t' }:=I.un (Un.kept k) (I.hok.kept k)
theorem Inv.laid {a:D'}{o:HO}{t':Nat}(I:Inv X Oj σ H s) (k:∀ b u,s.heap.get? b=f' u->h'.get? b=f' u) (hp:s.heap.objs.size <= a) (new:cQ X.prog X.w (upd H a o) h' a o) :
 Inv X Oj σ (upd H a o) { s with heap:=h',toks:=t' }:=I.un (Un.laid k hp (I.hok.fresh hp)) (I.hok.laid k hp new)
theorem Inv.write {x e:D'}{o:HO}{t':Nat}(I:Inv X Oj σ H s) (mu:Mut (H x)) (he:e=x\/H e=f' (.own x)) (k:∀ b u,b≠e->s.heap.get? b=f' u->h'.get? b=f' u) (heo:∃ u,h'.get? e=f' u)
 (new:cQ X.prog X.w (upd H x o) h' x o):Inv X Oj σ (upd H x o) { s with heap:=h',toks:=t' }:=I.un (Un.write mu he k heo) (I.hok.write mu he k heo new)
def Inv.pins_of {pins':List (D' × M6)}(I:Inv X Oj σ H s) (h:∀ p∈pins',s.heap.get? p.1=f' p.2/\H p.1=LJ/\p.1≠X.env.locals/\p.1 ∉ X.fs/\∀ v,p.2.data≠.cell v):Inv X pins' σ H s :=
 ⟨I.ok,I.os,I.bare,I.base,I.loc,I.cell,I.free,I.freeC,λp hp=>(Np.mp hp).elim (λz=>I.pin p (mem_append_left _ z)) (h p),I.hok,I.len⟩
def rP {N:List Str}(hN:N.Nodup) {i j:Nat}{x:Str}(a:N[i]?=f' x) (b:N[j]?=f' x):i=j:=by
 obtain⟨h1,e1⟩:=Mh.mp a;obtain⟨h2,e2⟩:=Mh.mp b;exact(List.getElem_inj hN).mp (e1.trans e2.symm)
def vd {M:Model}{A:Mr}{E:G'->LK->Prop}{i:Nat}{x:Str}{v:V}{u:G'}{Q:Unit->LK->Prop}(I:Inv X Oj σ H s) (hN:X.N.Nodup) (hi:X.N[i]?=f' x) (hx:Loc X.env.scope x) (r:cy v u)
 (h:∀ s',Inv X Oj (σ.set i (f' v)) H s'->(∃ a,MV a s.heap s'.heap/\(a=X.env.locals\/X.env.cells.lookup x=f' a))->Q () s') (hf:X.fn x=l'\/X.env.scope.names.lookup x=f' .local:=by first|exact .inl rfl|exact .inr rfl|assumption):LV M A (storeName X.env x u) Q E s:=by
 obtain⟨m,hn,hl⟩:=id I.loc;have hcls:(X.env.scope.kind == .class || (X.env.scope.kind == .module && X.env.locals != X.env.globals))=K':=by rw[I.ok.kind];rfl
 have hiσ:i < σ.length:=by rw[I.len];exact(Mh.mp hi).1
 have cne:=I.cne;have tracked:∀ {a:D'} {h':Mi},(∃ o,s.heap.get? a=f' o/\H a=LJ)->MV a s.heap h'->HOk X.prog X.w H h':=λ{a h'} ha hs b ob e=>by
  obtain⟨_,_,hfree⟩:=ha;refine(I.hok b ob e).stay (λc w' hc q=>(hs.2 c ?_).trans q) (λ_ q=>q) λ_ _ q=>q
  rintro rfl;rcases hc with rfl|hc
  . rw[hfree]at e;cases e
  . rw[hfree]at hc;cases hc
 rcases hx with hk|hk
 . refine wpAny_storeName_local hk hn (λh' hn' hs=>?_) hcls;obtain⟨oL,_,_,hoL,_⟩:=id hn;refine h _ ⟨I.ok,I.os,I.bare,⟨λb o e n hb hx=>?_,λb o e n hb hx=>?_,I.base.free,λb o e hx=>?_,I.base.tups,I.base.frzs,I.base.tbls⟩,⟨_,hn',λj y v' e1 e2 e3=>?_⟩,λy c e=>?_,I.free,I.freeC,λp hp=>?_,tracked ⟨oL,hoL,I.free⟩ hs,by simpa using I.len⟩ ⟨_,hs,.inl rfl⟩
   . exact(hs.2 b (Mv (LR (Mb e) I.ok.above))).trans (I.base.keep b o e n hb hx)
   . obtain⟨sl,e1⟩:=I.base.slot b o e n hb hx;exact⟨sl,(hs.2 b (Mv (LR (Mb e) I.ok.above))).trans e1⟩
   . obtain⟨o',e1⟩:=I.base.there b o e hx;exact⟨o',(hs.2 b (Mv (LR (Mb e) I.ok.above))).trans e1⟩
   . by_cases hj:j=i
     . subst hj;rw[hi]at e1;cases e1;rw[List.getElem?_set_self hiσ]at e2;cases e2;exact⟨u,r,.inl ⟨hk,by simp⟩⟩
     . rw[List.getElem?_set_ne (NA hj)]at e2;obtain⟨u',r',q⟩:=hl j y v' e1 e2 e3;refine⟨u',r',?_⟩;rcases q with⟨k,e⟩|⟨k,c,e,z⟩
       . refine .inl ⟨k,?_⟩;have:y≠x:=λe=>hj (rP hN e1 (e ▸ hi))
         simp[this,e]
       . exact .inr ⟨k,c,e,z.sameBut hs (cne y c e)⟩
   . obtain⟨w',z⟩:=I.cell y c e;exact⟨w',z.sameBut hs (cne y c e)⟩
   . obtain⟨e,n,ne,nf,d⟩:=I.pin p hp;exact⟨(hs.2 p.1 ne).trans e,n,ne,nf,d⟩
 . have hfn:X.fn x=l':=by
    rcases hf with z|z
    . exact z
    . rw[z]at hk;cases hk
   obtain⟨c,hc⟩:=I.ok.has x (.inl hk);obtain⟨w',z⟩:=I.cell x c hc;refine wpAny_storeName_cell I.ok.kind hk hc z (λh' hc' hs=>?_);obtain⟨oc,hoc,hocd⟩:=id z;refine h { s with heap:=h' } ⟨I.ok,I.os,I.bare,⟨λb o e n hb hx=>?_,λb o e n hb hx=>?_,I.base.free,λb o e hx=>?_,I.base.tups,I.base.frzs,I.base.tbls⟩,⟨m,hn.sameBut hs (NA (cne x c hc)),λj y v' e1 e2 e3=>?_⟩,λy c' e=>?_,I.free,I.freeC,λp hp=>?_,tracked ⟨oc,hoc,I.freeC x c hc⟩ hs,by simpa using I.len⟩ ⟨c,hs,.inr hc⟩
   . exact(hs.2 b (Mv (LR (Mb e) (I.ok.cab x c hfn hc)))).trans (I.base.keep b o e n hb hx)
   . obtain⟨sl,e1⟩:=I.base.slot b o e n hb hx;exact⟨sl,(hs.2 b (Mv (LR (Mb e) (I.ok.cab x c hfn hc)))).trans e1⟩
   . obtain⟨o',e1⟩:=I.base.there b o e hx;exact⟨o',(hs.2 b (Mv (LR (Mb e) (I.ok.cab x c hfn hc)))).trans e1⟩
   . by_cases hj:j=i
     . subst hj;rw[hi]at e1;cases e1;rw[List.getElem?_set_self hiσ]at e2;cases e2;exact⟨u,r,.inr ⟨.inl hk,c,hc,hc'⟩⟩
     . rw[List.getElem?_set_ne (NA hj)]at e2;obtain⟨u',r',q⟩:=hl j y v' e1 e2 e3;refine⟨u',r',?_⟩;rcases q with q|⟨k,c',e,z'⟩
       . exact .inl q
       . refine .inr ⟨k,c',e,z'.sameBut hs ?_⟩;rintro rfl;exact hj (rP hN e1 (I.ok.inj _ _ _ e hc ▸ hi))
   . by_cases hcc:c'=c
     . subst hcc;exact⟨_,hc'⟩
     . obtain⟨w2,z2⟩:=I.cell y c' e;exact⟨w2,z2.sameBut hs hcc⟩
   . obtain⟨e,n,ne,nf,d⟩:=I.pin p hp;refine⟨(hs.2 p.1 ?_).trans e,n,ne,nf,d⟩;intro q;rw[q,hoc]at e;have q':oc=p.2:=Ms e;exact d w' (by rw[<-q'];exact hocd)
def sL {M:Model}{A:Mr}{E:G'->LK->Prop}{i:Nat}{x:Str}{v:V}{u:G'}{Q:Unit->LK->Prop}(I:Inv X Oj σ H s) (hN:X.N.Nodup) (hi:X.N[i]?=f' x) (hx:Loc X.env.scope x) (r:cy v u)
 (h:∀ s',Inv X Oj (σ.set i (f' v)) H s'->Q () s') (hf:X.fn x=l'\/X.env.scope.names.lookup x=f' .local:=by first|exact .inl rfl|exact .inr rfl|assumption):LV M A (storeName X.env x u) Q E s :=
 vd I hN hi hx r (λs' I' _=>h s' I') hf
def Inv.call' {s':LK}{ch:List D'}(I:Inv X Oj σ H s) (ho:s'.os=s.os) (u:Un (frs X.stack) ch H H' s.heap s'.heap) (hok:HOk X.prog X.w H' s'.heap) (hg:AllBare s'.gens)
 (hch:∀ b∈ch,(b∈X.ex\/X.s₀.heap.objs.size <= b)/\b≠X.env.locals/\(∀ x c,X.env.cells.lookup x=f' c->c≠b)/\∀ p∈X.pn++Oj,p.1≠b):Inv X Oj σ H' s':=by
 obtain⟨h',g',d',t',o'⟩:=s';have e:o'=s.os:=ho;subst e;exact I.call (g':=g') (t':=t') (d':=d') u hok hg hch
end
abbrev XK:=G'->Option D'->Hp->Prop
abbrev St:=List (Option V)
abbrev VK:=V->Hp->Prop
abbrev TE:=St->Hp->VK->Prop
abbrev TT:=St->Hp->(Bool->Hp->Prop)->Prop
abbrev TA:=St->Hp->(List V->Hp->Prop)->Prop
structure Ends where
 nx:St->Hp->Prop
 rt:VK
 bk:St->Hp->Prop:=λ_ _=>False
 ct:St->Hp->Prop:=λ_ _=>False
abbrev TS:=Ends->St->Hp->Prop
def EP (X:Cx) (Oj:List (D' × M6)) (σ:St) (Q:VK) (u:G') (s':LK):Prop:=∃ v H',Inv X Oj σ H' s'/\cy v u/\Q v H'
def TP (X:Cx) (Oj:List (D' × M6)) (σ:St) (Q:Bool->Hp->Prop) (b:Bool) (s':LK):Prop:=∃ H',Inv X Oj σ H' s'/\Q b H'
def AP (X:Cx) (Oj:List (D' × M6)) (σ:St) (Q:List V->Hp->Prop) (us:List G') (s':LK):Prop:=∃ vs H',Inv X Oj σ H' s'/\bV vs us/\Q vs H'
def SP (X:Cx) (Oj:List (D' × M6)) (D:Ends) (f:Flow) (s':LK):Prop :=
 match f with
|.next=>∃ σ' H',Inv X Oj σ' H' s'/\D.nx σ' H'
|.brk=>∃ σ' H',Inv X Oj σ' H' s'/\D.bk σ' H'
|.cont=>∃ σ' H',Inv X Oj σ' H' s'/\D.ct σ' H'
|.ret u=>∃ v σ' H',Inv X Oj σ' H' s'/\cy v u/\D.rt v H'
def PE (X:Cx) (e:Expr) (t:TE):Prop :=
 ∀ (Oj:List (D' × M6)) (s:LK) (σ:St) (H:Hp) (Q:VK),Inv X Oj σ H s->t σ H Q->LV (model X.prog X.w) X.A (eval e X.env) (EP X Oj σ Q) X.xe s
def PT (X:Cx) (e:Expr) (t:TT):Prop :=
 ∀ (Oj:List (D' × M6)) (s:LK) (σ:St) (H:Hp) (Q:Bool->Hp->Prop),Inv X Oj σ H s->t σ H Q->LV (model X.prog X.w) X.A (isTrue e X.env (eval e X.env)) (TP X Oj σ Q) X.xe s
def PW (X:Cx) (e:Expr) (t:TT):Prop :=
 ∀ (whole:Sem G') (Oj:List (D' × M6)) (s:LK) (σ:St) (H:Hp) (Q:Bool->Hp->Prop),Inv X Oj σ H s->t σ H Q->LV (model X.prog X.w) X.A (isTrue e X.env whole) (TP X Oj σ Q) X.xe s
def PW.pt {X:Cx}{e:Expr}{t:TT}(h:PW X e t):PT X e t:=h _
def PA (X:Cx) (es:List Expr) (t:TA):Prop :=
 ∀ (pos:Pos) (Oj:List (D' × M6)) (s:LK) (σ:St) (H:Hp) (Q:List V->Hp->Prop),Inv X Oj σ H s->t σ H Q->LV (model X.prog X.w) X.A (spliced (N6 pos (Mu es X.env))) (AP X Oj σ Q) X.xe s
def PS (X:Cx) (st:MJ) (t:TS):Prop :=
 ∀ (Oj:List (D' × M6)) (s:LK) (σ:St) (H:Hp) (D:Ends),Inv X Oj σ H s->t D σ H->LV (model X.prog X.w) X.A (exec st X.env) (SP X Oj D) X.xe s
def PSs (X:Cx) (st:List MJ) (t:TS):Prop :=
 ∀ (Oj:List (D' × M6)) (s:LK) (σ:St) (H:Hp) (D:Ends),Inv X Oj σ H s->t D σ H->LV (model X.prog X.w) X.A (execs st X.env) (SP X Oj D) X.xe s
def thn {α:Type}{t:Sem α}{Q Q':α->LK->Prop}{M:Model}{A:Mr}{E:G'->LK->Prop}{s:LK}(h:LV M A t Q E s) (hQ:∀ a s,Q a s->Q' a s):LV M A t Q' E s:=N8 h hQ λ_ _ x=>x
section
variable {X:Cx}
def nJ (i:Nat):TE:=λσ H Q=>∃ v,σ[i]?=f' (f' v)/\Q v H
def tC (v:V):TE:=λ_ H Q=>Q v H
def Il {i:Nat}{x:Str}{pos:Pos}(hN:X.N[i]?=f' x) (hv:Vis X.env.scope x) (hd:(x == ("__debug__":Str))=K':=by decide) (hcd:(x == ("__classdict__":Str))=K':=by decide):PE X (.Name x pos) (nJ i):=by
 intro Oj s σ H Q I h;obtain⟨v,e,h⟩:=h;obtain⟨m,hn,hl⟩:=I.loc;obtain⟨u,r,l⟩:=hl i x v hN e hv;have fin:EP X Oj σ Q u s:=⟨v,H,I,r,h⟩
 rcases l with⟨hk,hm⟩|⟨hk,c,hc,hcell⟩
 . exact wpAny_Name (wpAny_loadName_local I.ok.kind hk hn hm fin) hd
 . rcases hk with hk|hk
   . exact wpAny_Name (wpAny_loadName_cell I.ok.kind hk hc hcell fin) hd
   . exact wpAny_Name (wpAny_loadName_free I.ok.kind hk hc hcell fin hcd) hd
def aj {i j pos}:PE X (.Constant (.int i) j pos) (tC (.int i)):=λ_ _ _ H _ I h=>wpAny_Constant_int ⟨.int i,H,I.tok _,⟨_,rfl⟩,h⟩
def cX {b j pos}:PE X (.Constant (.bool b) j pos) (tC (.bl b)):=λ_ _ _ H _ I h=>Constant_bool ⟨.bl b,H,I,rfl,h⟩
def eE {j pos}:PE X (.Constant .none j pos) (tC .non):=λ_ _ _ H _ I h=>Constant_none ⟨.non,H,I,rfl,h⟩
def ag {x j pos}:PE X (.Constant (.str x) j pos) (tC (.str x)):=λ_ _ _ H _ I h=>Calls.Constant_str ⟨.str x,H,I.tok _,⟨_,rfl⟩,h⟩
def Gl (X:Cx) (x:Str):Prop:=X.env.kindOf x=f' .globalImplicit
def eT {E:G'->LK->Prop}{Oj:List (D' × M6)}{s:LK}{σ:St}{H:Hp}{x:Str}{u:G'}{pos:Pos}{Q:G'->LK->Prop}(I:Inv X Oj σ H s) (hg:Gl X x) (hm:X.mg x=f' u) (h:Q u s)
 (hd:(x == ("__debug__":Str))=K':=by decide):LV (model X.prog X.w) X.A (eval (.Name x pos) X.env) Q E s :=
 Calls.Name_function_global I.ok.kind hg (Calls.loadGlobal_global (by rw[I.ok.glob];exact I.mod.glob.keeps I.bk) hm h) hd
def nL {E:G'->LK->Prop}{Oj:List (D' × M6)}{s:LK}{σ:St}{H:Hp}{x:Str}{u:G'}{pos:Pos}{Q:G'->LK->Prop}(I:Inv X Oj σ H s) (hg:Gl X x) (hm:X.mg x=LJ) (hv:MO x=f' u) (h:Q u s)
 (hn:x≠"__name__":=by decide) (hd:(x == ("__debug__":Str))=K':=by decide):LV (model X.prog X.w) X.A (eval (.Name x pos) X.env) Q E s:=by
 obtain⟨mb,h1,h2⟩:=I.mod.blt;exact Calls.Name_function_global I.ok.kind hg (Calls.loadGlobal_builtin (by rw[I.ok.glob];exact I.mod.glob.keeps I.bk) hm (by rw[I.ok.blt];exact h1.keeps I.bk) ((h2 x hn).trans hv) h) hd
def bX {x:Str}{v:V}{u:G'}{pos:Pos}(hg:Gl X x) (hm:X.mg x=f' u) (r:cy v u) (hd:(x == ("__debug__":Str))=K':=by decide):PE X (.Name x pos) (tC v) :=
 λ_ _ _ H _ I h=>eT I hg hm ⟨v,H,I,r,h⟩ hd
def ie {x:Str}{v:V}{u:G'}{pos:Pos}(hg:Gl X x) (hm:X.mg x=LJ) (hv:MO x=f' u) (r:cy v u) (hn:x≠"__name__":=by decide) (hd:(x == ("__debug__":Str))=K':=by decide):PE X (.Name x pos) (tC v) :=
 λ_ _ _ H _ I h=>nL I hg hm hv ⟨v,H,I,r,h⟩ hn hd
variable {a b:Expr}{ta tb:TE}{pos:Pos}
def PC (X:Cx) (op:CmpOp) (a b:Expr) (t:TE):Prop :=
 ∀ (Oj:List (D' × M6)) (s:LK) (σ:St) (H:Hp) (Q:VK),Inv X Oj σ H s->t σ H Q ->
  LV (model X.prog X.w) X.A (eval a X.env) (λv s₁=>LV (model X.prog X.w) X.A (eval b X.env) (λu s₂=>LV (model X.prog X.w) X.A (Nm op v u) (EP X Oj σ Q) X.xe s₂) X.xe s₁) X.xe s
def yu (b:Expr) {op:CmpOp}(h:op≠.In) (h2:op≠.NotIn):N5 op b=K':=by
 have e1:(op == CmpOp.In)=K':=by cases op<;>first|rfl|exact absurd rfl h
 have e2:(op == CmpOp.NotIn)=K':=by cases op<;>first|rfl|exact absurd rfl h2
 cases b<;>simp[N5,e1,e2]
def tB (t:TE):TT:=λσ H Q=>t σ H λx H1=>∃ c,x=.bl c/\Q c H1
def xX {op:CmpOp}{t:TE}(h:PC X op a b t) (h1:N5 op b=K':=by first|exact yu _ (by decide) (by decide)|rfl):PE X (.Compare a [op] [b] pos) t:=λOj s σ H Q I hw=>wpAny_Compare1 (h Oj s σ H Q I hw) h1
def xk {op:CmpOp}{t:TE}(h:PC X op a b t) (h1:N5 op b=K':=by first|exact yu _ (by decide) (by decide)|rfl):PT X (.Compare a [op] [b] pos) (tB t):=by
 intro Oj s σ H Q I hw;refine wpAny_isTrue_Compare1 (thn (h Oj s σ H _ I hw) λv s1 h1=>thn h1 λu s2 h2=>thn h2 λc s3 ur1=>?_) h1;obtain⟨x,H1,I1,r1,q1⟩:=ur1;obtain⟨d,rfl,q⟩:=q1;cases r1;exact MQ ⟨H1,I1,q⟩
def bi {e:Expr}{t:TE}(h:PE X e t) (he:∀ whole,isTrue e X.env whole=(do let v <-whole;standAt e.pos;holding [v] (truthy v)):=by intro _;rfl):PT X e (tB t):=by
 intro Oj s σ H Q I hw;refine isTrue_plain (thn (h Oj s σ H _ I hw) λv s1 ur2=>?_) (he _);obtain⟨x,H1,I1,r1,q1⟩:=ur2;obtain⟨d,rfl,q⟩:=q1;cases r1;exact MQ ⟨H1,I1,q⟩
variable {tA tB':TT}{cx:List Expr}
def La (t u:TT):TT:=λσ H Q=>t σ H λc H1=>if c=l' then u σ H1 Q else Q K' H1
def tOr (t u:TT):TT:=λσ H Q=>t σ H λc H1=>if c=l' then Q l' H1 else u σ H1 Q
def K3 (t:TT):TT:=λσ H Q=>t σ H λc H1=>Q (!c) H1
def G4 (ha:PT X a tA):PW X (.BoolOp .And [a] pos) tA:=by
 intro wh Oj s σ H Q I h;refine isTrue_and (thn (ha Oj s σ H Q I h) λc s1 e=>?_);cases c with
|true=>exact isTrue_and_nil e
|false=>exact e
def kN (ha:PT X a tA):PW X (.BoolOp .Or [a] pos) tA:=by
 intro wh Oj s σ H Q I h;refine isTrue_or (thn (ha Oj s σ H Q I h) λc s1 e=>?_);cases c with
|false=>exact isTrue_or_nil e
|true=>exact e
def IA (ha:PT X a tA) (hb:PW X (.BoolOp .And (b :: cx) pos) tB'):PW X (.BoolOp .And (a :: b :: cx) pos) (La tA tB'):=by
 intro wh Oj s σ H Q I h;refine isTrue_and (thn (ha Oj s σ H _ I h) λc s1 ur3=>?_);obtain⟨H1,I1,q1⟩:=ur3;cases c with
|true=>exact hb wh Oj s1 σ H1 Q I1 q1
|false=>exact⟨H1,I1,q1⟩
def o6 (ha:PT X a tA) (hb:PW X (.BoolOp .Or (b :: cx) pos) tB'):PW X (.BoolOp .Or (a :: b :: cx) pos) (tOr tA tB'):=by
 intro wh Oj s σ H Q I h;refine isTrue_or (thn (ha Oj s σ H _ I h) λc s1 ur4=>?_);obtain⟨H1,I1,q1⟩:=ur4;cases c with
|true=>exact⟨H1,I1,q1⟩
|false=>exact hb wh Oj s1 σ H1 Q I1 q1
def bN (ha:PT X a tA):PT X (.UnaryOp .Not a pos) (K3 tA):=by
 intro Oj s σ H Q I h;exact isTrue_not (ha Oj s σ H (λc H1=>Q (!c) H1) I h)
def JO (ta tb:TE):TE:=λσ H Q=>ta σ H λx H1=>∃ c,x=.bl c/\if c=l' then tb σ H1 Q else Q (.bl K') H1
def Lr (ta tb:TE):TE:=λσ H Q=>ta σ H λx H1=>∃ c,x=.bl c/\if c=l' then Q (.bl l') H1 else tb σ H1 Q
def Kn (ta:TE):TE:=λσ H Q=>ta σ H λx H1=>∃ c,x=.bl c/\Q (.bl (!c)) H1
def uD {op}{t:TE}(h:PE X a t):PE X (.BoolOp op [a] pos) t:=λOj s σ H Q I hw=>BoolOp_one (h Oj s σ H Q I hw)
def xu (ha:PE X a ta) (hb:PE X (.BoolOp .And (b :: cx) pos) tb):PE X (.BoolOp .And (a :: b :: cx) pos) (JO ta tb):=by
 intro Oj s σ H Q I h;refine BoolOp_and (thn (ha Oj s σ H _ I h) λv s1 ur5=>?_);obtain⟨x,H1,I1,r1,q1⟩:=ur5;obtain⟨c,rfl,q1⟩:=q1;cases r1;refine MQ ?_;cases c with
|true=>exact hb Oj s1 σ H1 Q I1 q1
|false=>exact⟨.bl K',H1,I1,rfl,q1⟩
def Jx (ha:PE X a ta) (hb:PE X (.BoolOp .Or (b :: cx) pos) tb):PE X (.BoolOp .Or (a :: b :: cx) pos) (Lr ta tb):=by
 intro Oj s σ H Q I h;refine BoolOp_or (thn (ha Oj s σ H _ I h) λv s1 ur6=>?_);obtain⟨x,H1,I1,r1,q1⟩:=ur6;obtain⟨c,rfl,q1⟩:=q1;cases r1;refine MQ ?_;cases c with
|false=>exact hb Oj s1 σ H1 Q I1 q1
|true=>exact⟨.bl l',H1,I1,rfl,q1⟩
def EM (ha:PE X a ta):PE X (.UnaryOp .Not a pos) (Kn ta):=by
 intro Oj s σ H Q I h;refine UnaryOp_ (thn (ha Oj s σ H _ I h) λv s1 ur7=>?_);obtain⟨x,H1,I1,r1,q1⟩:=ur7;obtain⟨c,rfl,q1⟩:=q1;cases r1;exact not_of (MQ ⟨.bl (!c),H1,I1,rfl,q1⟩)
def tIf (t:TT) (ta tb:TE):TE:=λσ H Q=>t σ H λc H1=>if c=l' then ta σ H1 Q else tb σ H1 Q
def gc {c:Expr}(hc:PT X c tA) (ha:PE X a ta) (hb:PE X b tb):PE X (.IfExp c a b pos) (tIf tA ta tb):=by
 intro Oj s σ H Q I h;refine wpAny_IfExp (thn (hc Oj s σ H _ I h) λd s1 ur8=>?_);obtain⟨H1,I1,q1⟩:=ur8;cases d with
|true=>exact ha Oj s1 σ H1 Q I1 q1
|false=>exact hb Oj s1 σ H1 Q I1 q1
end
def SqL (K:LN) (H:Hp) (a:D') (xs:List V):Prop :=
 Rd H a (.lst xs) \/
  ∃ (o:M6) (its:Array G') (n:Nat),K.lookup a=f' o/\o.cls=.type "list"/\o.dict=LJ/\o.data=.seq its n/\its.size <= LP/\bV xs its.toList
def SqT (K:LN) (H:Hp) (a:D') (xs:List V):Prop :=
 Rd H a (.tup xs) \/
  ∃ (o:M6) (its:Array G') (n:Nat),K.lookup a=f' o/\o.cls=.type "tuple"/\o.data=.seq its n/\its.size <= LP/\bV xs its.toList
def Lh:G'->Option V
|.none=>f' .non
|.bool b=>f' (.bl b)
|.int i _=>f' (.int i)
|.str x _=>f' (.str x)
|.bytes b _=>f' (.byt b)
|.float b _=>f' (.flt b)
|.ref a=>f' (.ref a)
|.type n=>f' (.ty n)
|_=>LJ
def cy.abs {x:V}{u:G'}(r:cy x u):Lh u=f' x:=by
 cases x with
|non=>cases r;rfl
|bl _=>cases r;rfl
|int _=>obtain⟨t,rfl⟩:=r;rfl
|str _=>obtain⟨t,rfl⟩:=r;rfl
|byt _=>obtain⟨t,rfl⟩:=r;rfl
|flt _=>obtain⟨t,rfl⟩:=r;rfl
|ref _=>cases r;rfl
|ty _=>cases r;rfl
theorem cy.inj {x y:V}{u:G'}(r:cy x u) (q:cy y u):x=y:=Ms (r.abs.symm.trans q.abs)
theorem bV.inj:∀ {xs ys:List V}{us:List G'},bV xs us->bV ys us->xs=ys
|_,_,_,.nil,.nil=>rfl
|_,_,_,.cons r t,.cons r' t'=>by rw[r.inj r',bV.inj t t']
section
variable {X:Cx}{Oj:List (D' × M6)}{σ:St}{H:Hp}{s:LK}{a:D'}{xs ys:List V}
def SqL.of {K:LN}(h:H a=f' (.lst xs)):SqL K H a xs:=.inl (.inl h)
def SqT.of {K:LN}(h:H a=f' (.tup xs)):SqT K H a xs:=.inl (.inl h)
def Inv.list (I:Inv X Oj σ H s) (h:SqL X.K H a xs):∃ its:List G',bV xs its/\PlainL s.heap a its.toArray/\xs.length <= LP:=by
 rcases h with h|⟨o,its,n,hk,hc,hd,hs,hz,r⟩
 . obtain⟨z,its,n,r,e⟩:=h.ok I.hok;exact⟨its,r,⟨_,n,e,rfl,rfl,rfl⟩,z⟩
 . refine⟨its.toList,r,⟨o,n,I.kIn a o hk,hc,hd,by simpa using hs⟩,?_⟩;have e:=r.length;simp only[Mq]at e;omega
def Inv.tuple (I:Inv X Oj σ H s) (h:SqT X.K H a xs):∃ its:List G',bV xs its/\IsTup s.heap a its.toArray/\xs.length <= LP:=by
 rcases h with h|⟨o,its,n,hk,hc,hs,hz,r⟩
 . obtain⟨z,its,r,p⟩:=h.ok I.hok;exact⟨its,r,p,z⟩
 . refine⟨its.toList,r,⟨o,I.kIn a o hk,hc,n,by simpa using hs⟩,?_⟩;have e:=r.length;simp only[Mq]at e;omega
def Inv.list_inj (I:Inv X Oj σ H s) (h:SqL X.K H a xs) (h':SqL X.K H a ys):xs=ys:=by
 obtain⟨its,r,⟨o,n,e,_,_,d⟩,_⟩:=I.list h;obtain⟨its',r',⟨o',n',e',_,_,d'⟩,_⟩:=I.list h';rw[e]at e';cases e';rw[d]at d';injection d' with d1 _
 have:its=its':=by simpa using congrArg Array.toList d1
 subst this;exact r.inj r'
def Inv.tuple_inj (I:Inv X Oj σ H s) (h:SqT X.K H a xs) (h':SqT X.K H a ys):xs=ys:=by
 obtain⟨its,r,⟨o,e,_,n,d⟩,_⟩:=I.tuple h;obtain⟨its',r',⟨o',e',_,n',d'⟩,_⟩:=I.tuple h';rw[e]at e';cases e';rw[d]at d';injection d' with d1 _
 have:its=its':=by simpa using congrArg Array.toList d1
 subst this;exact r.inj r'
end
abbrev Cx.wish (X:Cx) (E:G'->LK->Prop):Cx:={ X with xe:=E }
abbrev Cx.nox (X:Cx):Cx:=X.wish λ_ _=>False
theorem Cx.Ok.wish {X:Cx}(ok:X.Ok) (E:G'->LK->Prop):(X.wish E).Ok :=
 ⟨ok.mod,ok.kind,ok.glob,ok.blt,ok.above,ok.inj,ok.has,ok.cab,ok.hd,ok.frames,ok.stk,ok.exf,ok.bs,ok.bsz,ok.noex,ok.exfs,ok.funs,ok.frf⟩
def Cx.Ok.unwish {X:Cx}{E:G'->LK->Prop}(ok:(X.wish E).Ok):X.Ok :=
 ⟨ok.mod,ok.kind,ok.glob,ok.blt,ok.above,ok.inj,ok.has,ok.cab,ok.hd,ok.frames,ok.stk,ok.exf,ok.bs,ok.bsz,ok.noex,ok.exfs,ok.funs,ok.frf⟩
section
variable {X:Cx}{Oj:List (D' × M6)}{σ:St}{H:Hp}{s:LK}{E:G'->LK->Prop}
theorem Inv.wish (I:Inv X Oj σ H s) (E:G'->LK->Prop):Inv (X.wish E) Oj σ H s:=⟨I.ok.wish E,I.os,I.bare,I.base,I.loc,I.cell,I.free,I.freeC,I.pin,I.hok,I.len⟩
theorem Inv.unwish (I:Inv (X.wish E) Oj σ H s):Inv X Oj σ H s:=⟨I.ok.unwish,I.os,I.bare,I.base,I.loc,I.cell,I.free,I.freeC,I.pin,I.hok,I.len⟩
theorem SP.unwish {D:Ends}{f:Flow}{s':LK}(h:SP (X.wish E) Oj D f s'):SP X Oj D f s':=by
 cases f with
|next=>obtain⟨σ',H',I,q⟩:=h;exact⟨σ',H',I.unwish,q⟩
|brk=>obtain⟨σ',H',I,q⟩:=h;exact⟨σ',H',I.unwish,q⟩
|cont=>obtain⟨σ',H',I,q⟩:=h;exact⟨σ',H',I.unwish,q⟩
|ret u=>obtain⟨v,σ',H',I,r,q⟩:=h;exact⟨v,σ',H',I.unwish,r,q⟩
theorem PSs.nox {st:List MJ}{t:TS}(h:PSs X.nox st t):PSs X st t:=λOj s σ H D I hw =>
 N8 (h Oj s σ H D (I.wish _) hw) (λ_ _ q=>q.unwish) λ_ _ z=>Nf z
end
section
variable {X:Cx}{st:MJ}{cx:List MJ}{t u:TS}{e:Expr}{te:TE}{pos:Pos}
def IN:TS:=λD σ H=>D.nx σ H
def K5 (t u:TS):TS:=λD σ H=>t { D with nx:=u D } σ H
def al:PSs X [] IN:=λ_ _ σ H _ I h=>wpAny_execs_nil ⟨σ,H,I,h⟩
def Dm (h1:PS X st t) (h2:PSs X cx u):PSs X (st :: cx) (K5 t u):=by
 intro Oj s σ H D I h;refine wpAny_execs_cons (thn (h1 Oj s σ H { D with nx:=u D } I h) λf s1 q=>?_);cases f with
|next =>
  obtain⟨σ',H',I',q⟩:=q;exact h2 Oj s1 σ' H' D I' q
|ret v=>exact q
|brk=>exact q
|cont=>exact q
def ao (h1:PS X st t):PSs X [st] t:=by
 intro Oj s σ H D I h;refine wpAny_execs_cons (thn (h1 Oj s σ H D I h) λf s1 q=>?_);cases f with
|next=>exact wpAny_execs_nil q
|ret v=>exact q
|brk=>exact q
|cont=>exact q
def Inv.quiet {Oj:List (D' × M6)}{σ:St}{H:Hp}{s:LK}(I:Inv X Oj σ H s):interactive X.env=K':=by simp[interactive,I.ok.kind]
def Jq (te:TE):TS:=λD σ H=>te σ H λ_ H1=>D.nx σ H1
def aK (he:PE X e te) (hs:swapsWith e LJ pos.line X.env=pure K':=by rfl):PS X (.Expr e pos) (Jq te):=by
 intro Oj s σ H D I h;exact wpAny_Expr_any (thn (he Oj s σ H _ I h) λv s1 uq1=>by(obtain⟨x,H1,I1,r1,q1⟩:=uq1;exact ⟨σ,H1,I1,q1⟩)) I.quiet hs
def KY (te:TE):TS:=λD σ H=>te σ H D.rt
def Ii (he:PE X e te):PS X (.Return (f' e) pos) (KY te):=by
 intro Oj s σ H D I h;exact wpAny_Return_some (thn (he Oj s σ H _ I h) λv s1 uq2=>by(obtain⟨x,H1,I1,r1,q1⟩:=uq2;exact ⟨x,σ,H1,I1,r1,q1⟩))
def JF:TS:=λD _ H=>D.rt .non H
def GC:PS X (.Return LJ pos) JF:=λ_ _ σ H _ I h=>wpAny_Return_none ⟨.non,σ,H,I,rfl,h⟩
def Ky (c:TT) (t u:TS):TS:=λD σ H=>c σ H λb H1=>if b=l' then t D σ H1 else u D σ H1
def aC {c:Expr}{a b:List MJ}{tc:TT}(hc:PT X c tc) (ha:PSs X a t) (hb:PSs X b u):PS X (.If c a b pos) (Ky tc t u):=by
 intro Oj s σ H D I h;refine wpAny_If (thn (hc Oj s σ H _ I h) λd s1 ur9=>?_);obtain⟨H1,I1,q1⟩:=ur9;cases d with
|true=>exact ha Oj s1 σ H1 D I1 q1
|false=>exact hb Oj s1 σ H1 D I1 q1
def HB:TS:=λ_ _ _=>False
def gg:PS X st HB:=λ_ _ _ _ _ _ h=>h.elim
end
abbrev TG:=V->St->Hp->(St->Hp->Prop)->Prop
abbrev TGs:=List V->St->Hp->(St->Hp->Prop)->Prop
def PG (X:Cx) (target:Expr) (t:TG):Prop :=
 ∀ (Oj:List (D' × M6)) (s:LK) (σ:St) (H:Hp) (v:V) (u:G') (Q:St->Hp->Prop),Inv X Oj σ H s->cy v u->t v σ H Q ->
  LV (model X.prog X.w) X.A (assign target X.env u) (λ_ s'=>∃ σ' H',Inv X Oj σ' H' s'/\Q σ' H') X.xe s
def PGs (X:Cx) (ts:List Expr) (t:TGs):Prop :=
 ∀ (Oj:List (D' × M6)) (s:LK) (σ:St) (H:Hp) (vs:List V) (us:List G') (Q:St->Hp->Prop),Inv X Oj σ H s->bV vs us->t vs σ H Q ->
  LV (model X.prog X.w) X.A (assignInOrder ((assignEach ts X.env).map (·.2)) us) (λ_ s'=>∃ σ' H',Inv X Oj σ' H' s'/\Q σ' H') X.xe s
abbrev JH:=V->V->V->Hp->(Hp->Prop)->Prop
def KA (X:Cx) (t:JH):Prop :=
 ∀ (Oj:List (D' × M6)) (s:LK) (σ:St) (H:Hp) (o i v:V) (ov iv u:G') (Q:Hp->Prop),Inv X Oj σ H s->cy o ov->cy i iv->cy v u->t o i v H Q ->
  LV (model X.prog X.w) X.A (setItem ov iv u) (λ_ s'=>∃ H',Inv X Oj σ H' s'/\Q H') X.xe s
section
variable {X:Cx}{pos:Pos}
def jP (i:Nat):TG:=λv σ H Q=>Q (σ.set i (f' v)) H
def fV {i:Nat}{x:Str}(hN:X.N.Nodup) (hi:X.N[i]?=f' x) (hx:Loc X.env.scope x) (hf:X.fn x=l'\/X.env.scope.names.lookup x=f' .local:=by first|exact .inl rfl|exact .inr rfl|assumption):PG X (.Name x pos) (jP i):=by
 intro Oj s σ H v u Q I r h;exact wpAny_assign_Name (sL I hN hi hx r (λs' I'=>⟨_,H,I',h⟩) hf)
def IB:TGs:=λvs σ H Q=>vs=[]/\Q σ H
def sI (t:TG) (u:TGs):TGs:=λvs σ H Q=>∃ v r,vs=v :: r/\t v σ H λσ' H'=>u r σ' H' Q
def Bx:PGs X [] IB:=by
 intro Oj s σ H vs us Q I r h;obtain⟨e,h⟩:=h;subst e;cases r;exact assignInOrder_nil ⟨σ,H,I,h⟩
def oj {e:Expr}{es:List Expr}{t:TG}{u:TGs}(h1:PG X e t) (h2:PGs X es u)
 (hs:(assignEach (e :: es) X.env).map (·.2)=assign e X.env :: (assignEach es X.env).map (·.2):=by rfl):PGs X (e :: es) (sI t u):=by
 intro Oj s σ H vs us Q I r h;obtain⟨v,vr,e1,h⟩:=h;subst e1;cases r with
|cons r rr =>
  rw[hs];refine assignInOrder_cons (thn (h1 Oj s σ H _ _ _ I r h) λ_ s1 ur10=>?_);obtain⟨σ1,H1,I1,q1⟩:=ur10;exact h2 Oj s1 σ1 H1 _ _ Q I1 rr q1
def Ir (K:LN) (n:Nat) (t:TGs):TG:=λv σ H Q=>∃ a xs,v=.ref a/\SqT K H a xs/\xs.length=n/\t xs σ H Q
def EC {es:List Expr}{k:Nat}{t:TGs}{n:Nat}(hc:X.calm=l') (h:PGs X es t)
 (hn:(assignEach es X.env).length=n:=by rfl) (hst:(assignEach es X.env).findIdx? (·.1)=LJ:=by rfl):PG X (.Tuple es k pos) (Ir X.K n t):=by
 intro Oj s σ H v u Q I r hw;obtain⟨a,xs,e1,hq,hl,hw⟩:=hw;subst e1;cases r;obtain⟨its,rv,ht,hz⟩:=I.tuple hq;refine assign_Tuple_tuple (I.ok.hd hc) ht (by simp[hn,<-hl,rv.length]) hst λh' hx=>?_
 have I1:Inv X Oj σ H { s with heap:=h' }:=I.kept (t':=s.toks) λb o e=>hx b o (Mv (Mb e)) e
 exact h Oj _ σ H xs _ Q I1 (by simpa using rv) hw
def Lv (to ti:TE) (t:JH):TG:=λv σ H Q=>to σ H λo H1=>ti σ H1 λi H2=>t o i v H2 λH3=>Q σ H3
def qc {o i:Expr}{to ti:TE}{t:JH}(ho:PE X o to) (hi:PE X i ti) (hs:KA X t)
 (ha:∀ v,assign (.Subscript o i pos) X.env v=(do
  let ov <-holding [v] (eval o X.env);let iv <-holding [v,ov] (eval i X.env)
  standAt pos
  holding [v,ov,iv] (setItem ov iv v)
  release [v,ov,iv] []):=by intro _;rfl):PG X (.Subscript o i pos) (Lv to ti t):=by
 intro Oj s σ H v u Q I r h;rw[ha];refine j' (MT (thn (ho Oj s σ H _ I h) λov s1 ur11=>?_));obtain⟨x,H1,I1,r1,q1⟩:=ur11;refine j' (MT (thn (hi Oj s1 σ H1 _ I1 q1) λiv s2 ⟨y,H2,I2,r2,q2⟩=>?_));refine j' (wpAny_standAt (j' (MT (thn (hs Oj s2 σ H2 x y v ov iv u _ I2 r1 r2 r q2) λ_ s3 ur12=>?_))));obtain⟨H3,I3,q3⟩:=ur12;exact wpAny_release ⟨σ,H3,I3,q3⟩
def Jj (te:TE) (g:TG):TS:=λD σ H=>te σ H λx H1=>g x σ H1 D.nx
def pV {tg e:Expr}{te:TE}{g:TG}(he:PE X e te) (hg:PG X tg g) (hs:swapsWithSole [tg] e pos.line X.env=pure K':=by rfl) (hw:swappedStores [tg] e X.env=pure LJ:=by rfl)
 (h1:(assignEach [tg] X.env).map (·.2)=[assign tg X.env]:=by rfl):PS X (.Assign [tg] e pos) (Jj te g):=by
 intro Oj s σ H D I h;refine wpAny_Assign_stores (thn (he Oj s σ H _ I h) λv s1 ur13=>?_) hs hw;obtain⟨x,H1,I1,r1,q1⟩:=ur13;rw[h1];exact thn (hg Oj s1 σ H1 x v _ I1 r1 q1) λ_ s2 q=>q
def aH {i:Nat}{x:Str}{e:Expr}{te:TE}{pos':Pos}(hN:X.N.Nodup) (hi:X.N[i]?=f' x) (hx:Loc X.env.scope x) (he:PE X e te) (hs:swapsWith e (f' (.Name x pos')) pos.line X.env=pure K':=by rfl) (hf:X.fn x=l'\/X.env.scope.names.lookup x=f' .local:=by first|exact .inl rfl|exact .inr rfl|assumption) :
 PS X (.Assign [.Name x pos'] e pos) (Jj te (jP i)):=by
 intro Oj s σ H D I h;refine wpAny_Assign_Name (thn (he Oj s σ H _ I h) λv s1 ur14=>?_) hs;obtain⟨y,H1,I1,r1,q1⟩:=ur14;exact sL I1 hN hi hx r1 (λs2 I2=>⟨_,H1,I2,q1⟩) hf
end
section
variable {X:Cx}{pos:Pos}
def HW (c:TT) (tb:TS):TS:=λD σ H=>∃ W:Nat->St->Hp->Prop,(∃ m,W m σ H)/\∀ m σ H,W m σ H ->
 c σ H λb H1=>if b=l' then ∃ N:St->Hp->Prop,(∀ σ' H',N σ' H'->∃ m',m' < m/\W m' σ' H')/\tb { D with nx:=N,ct:=N,bk:=D.nx } σ H1 else D.nx σ H1
def Cv {c:Expr}{body:List MJ}{tc:TT}{tb:TS}(hp:PassesOwn (model X.prog X.w) X.A X.env X.xe) (hc:PT X c tc) (hb:PSs X body tb):PS X (.While c body [] pos) (HW tc tb):=by
 intro Oj s σ H D I h;obtain⟨W,⟨m0,w0⟩,turn⟩:=h;refine wpAny_While (codeAny_whileLoop (λn s'=>∃ σ' H',Inv X Oj σ' H' s'/\W n σ' H') ?_ m0 ⟨σ,H,I,w0⟩);rintro n s1 ⟨σ1,H1,I1,w1⟩;refine N1 hp (thn (hc Oj s1 σ1 H1 _ I1 (turn n σ1 H1 w1)) λb s2 ur15=>?_);obtain⟨H2,I2,q2⟩:=ur15;cases b with
|true =>
  obtain⟨N,hN,q2⟩:=q2;rw[SF rfl];refine N1 hp (thn (hb Oj s2 σ1 H2 _ I2 q2) λf s3 q3=>?_);cases f with
 |next =>
   obtain⟨σ3,H3,I3,n3⟩:=q3;obtain⟨m',hm,w3⟩:=hN σ3 H3 n3;exact⟨m',hm,σ3,H3,I3,w3⟩
 |cont =>
   obtain⟨σ3,H3,I3,n3⟩:=q3;obtain⟨m',hm,w3⟩:=hN σ3 H3 n3;exact⟨m',hm,σ3,H3,I3,w3⟩
 |brk=>exact q3
 |ret v=>exact q3
|false =>
  rw[SG Me];exact wpAny_execs_nil ⟨σ1,H2,I2,q2⟩
end
structure It where
 go:Nat->Hp->Prop
 yld:Nat->Hp->V->Hp->Prop
 stop:Nat->Hp->Prop
def tU (X:Cx) (Oj:List (D' × M6)) (H:Hp) (b:D'):Prop :=
 H b=LJ/\b≠X.env.locals/\b ∉ X.fs/\(b∈X.ex\/X.s₀.heap.objs.size <= b)/\(∀ x c,X.env.cells.lookup x=f' c->c≠b)/\∀ p∈X.pn++Oj,p.1≠b
def Inv.fpOk {X:Cx}{Oj:List (D' × M6)}{σ:St}{H H':Hp}{s:LK}{b:D'}(I:Inv X Oj σ H s) (hb:s.heap.objs.size <= b) (hn:H' b=LJ):tU X Oj H' b:=by
 refine⟨hn,ne_of_gt (LR I.lt hb),I.nofs hb,.inr (MG I.sz hb),λx c e z=>?_,λp hp z=>?_⟩
 . obtain⟨v,q⟩:=I.cell x c e;exact absurd (LR q.lt (by rw[z];exact hb)) (NM _)
 . exact absurd (LR (Mb (I.pin p hp).1) (by rw[z];exact hb)) (NM _)
structure Turn (P:Mg) (w:LZ) (K:LN) (tg:Expr) (J:It) (fp:List D') (it:D') (tn:Nat->Mi->Prop):Prop where
 mem:it∈fp
 obj:∀ i h,tn i h->∀ b∈fp,∃ o,h.get? b=f' o/\∀ v,o.data≠.cell v
 keep:∀ i h h',tn i h->(∀ b∈fp,∀ o,h.get? b=f' o->h'.get? b=f' o)->tn i h'
 item:∀ (X:Cx),X.prog=P->X.w=w->X.K=K->X.calm=l'->∀ (i:Nat) (Oj:List (D' × M6)) (s:LK) (σ:St) (H:Hp) (E:G'->LK->Prop),Inv X Oj σ H s->(∀ b∈fp,tU X Oj H b)->tn i s.heap->J.go i H ->
  LV (model P w) X.A (pyNext (.ref it)) (λr s1=>∃ u,r=f' u /\
   LV (model P w) X.A (letOwnedTupleGo tg (.ref it) u) (λ_ s2=>∃ x H',Inv X Oj σ H' s2/\cy x u/\J.yld i H x H'/\tn (i+1) s2.heap/\∀ b∈fp,H' b=LJ) E s1) E s
 done:∀ (X:Cx),X.prog=P->X.w=w->X.K=K->X.calm=l'->∀ (i:Nat) (Oj:List (D' × M6)) (s:LK) (σ:St) (H:Hp) (E:G'->LK->Prop),Inv X Oj σ H s->(∀ b∈fp,tU X Oj H b)->tn i s.heap->J.stop i H ->
  LV (model P w) X.A (pyNext (.ref it)) (λr s1=>r=LJ/\Inv X Oj σ H s1) E s
 self:∀ (A:Mr) (i:Nat) (s:LK) (Q:G'->LK->Prop) (E:G'->LK->Prop),tn i s.heap->Q (.ref it) s->LV (model P w) A (pyIter (.ref it)) Q E s
abbrev TI:=St->Hp->(It->Hp->Prop)->Prop
def PIE (X:Cx) (Oj:List (D' × M6)) (σ:St) (tg:Expr) (R:It->Hp->Prop) (itv:G') (s2:LK):Prop :=
 ∃ (it:D') (fp:List D') (tn:Nat->Mi->Prop) (J:It) (H':Hp),itv=.ref it/\Inv X Oj σ H' s2/\Turn X.prog X.w X.K tg J fp it tn/\tn 0 s2.heap/\(∀ b∈fp,tU X Oj H' b)/\R J H'
def PI (X:Cx) (tg iter:Expr) (wi:TI):Prop :=
 ∀ (Oj:List (D' × M6)) (s:LK) (σ:St) (H:Hp) (R:It->Hp->Prop),Inv X Oj σ H s->wi σ H R ->
  LV (model X.prog X.w) X.A (eval iter X.env) (λv s1=>LV (model X.prog X.w) X.A (pyIter v) (PIE X Oj σ tg R) X.xe s1) X.xe s
def AI {M:Model}{A:Mr}{E:G'->LK->Prop}{s:LK}{tg:Expr}{it:D'}{u:G'}{o:M6}{n:String}{vs:Array G'}{Q:Unit->LK->Prop}(ho:s.heap.get? it=f' o) (hc:o.cls=.type n) (hd:o.data=.fields vs)
 (hn:["enumerate","zip","dict_itemiterator","dict_reverseitemiterator","odict_iterator","itertools.zip_longest","itertools.pairwise"].contains n=K') (hQ:Q () s):LV M A (letOwnedTupleGo tg (.ref it) u) Q E s:=by
 unfold letOwnedTupleGo;cases tg<;>first
 |exact LL hQ
 |(cases u<;>first
  |exact LL hQ
  |(refine j' (wpAny_load ho ?_)
    rw[hc,hd];show LV M A (if (["enumerate","zip","dict_itemiterator","dict_reverseitemiterator","odict_iterator","itertools.zip_longest","itertools.pairwise"].contains n && vs[0]? == f' (NJ _))=l' then _ else _) Q E s;rw[SG (by intro h;rw[hn,Bool.false_and]at h;cases h)];exact LL hQ))
def Itl (K:LN) (a:D'):It :=
 ⟨λi H=>∃ xs x,SqL K H a xs/\xs[i]?=f' x,λi H x H'=>H'=H/\∀ xs,SqL K H a xs->xs[i]?=f' x,λi H=>∃ xs,SqL K H a xs/\xs.length <= i⟩
def Itt (K:LN) (a:D'):It :=
 ⟨λi H=>∃ xs x,SqT K H a xs/\xs[i]?=f' x,λi H x H'=>H'=H/\∀ xs,SqT K H a xs->xs[i]?=f' x,λi H=>∃ xs,SqT K H a xs/\xs.length <= i⟩
def Itr (lo:Int) (n:Nat):It:=⟨λi _=>i < n,λi H x H'=>H'=H/\x=.int (lo+i),λi _=>n <= i⟩
def BV {P:Mg}{w:LZ}{K:LN}{tg:Expr}(a it:D'):Turn P w K tg (Itl K a) [it] it (λi h=>h.IsListIter it a i) where
 mem:=by simp
 obj:=λi h st b hb=>by
  have e:b=it:=by simpa using hb
  subst e;obtain⟨o,e,c,d⟩:=st;exact⟨o,e,λv z=>by rw[d]at z;cases z⟩
 keep:=λi h h' st k=>st.at λo e=>k it (by simp) o e
 item:=by
  intro X hP hw hK hc i Oj s σ H E I hf st hg;subst hP hw hK;obtain⟨xs,x,hq,hx⟩:=hg;obtain⟨its,rv,p,hz⟩:=I.list hq;obtain⟨u,hu,ru⟩:=rv.get hx;obtain⟨f0,f1,f2,f3,f4,f5⟩:=hf it (by simp);refine wpAny_pyNext_list_item st p.isList (x:=u) (by simpa using hu) λh' st' sb=>?_
  have I1:Inv X Oj σ H { s with heap:=h' }:=I.turned (t':=s.toks) (λb o hb e=>(sb.2 b hb).trans e) f0 f1 f3 f4 f5;obtain⟨o,e,c,d⟩:=id st';exact⟨u,rfl,AI (s:={ s with heap:=h' }) e c d (by decide) ⟨x,H,I1,ru,⟨rfl,λys hy=>by rw[I.list_inj hy hq];exact hx⟩,st',λb hb=>(hf b hb).1⟩⟩
 done:=by
  intro X hP hw hK hc i Oj s σ H E I hf st hg;subst hP hw hK;obtain⟨xs,hq,hx⟩:=hg;obtain⟨its,rv,p,hz⟩:=I.list hq;obtain⟨f0,f1,f2,f3,f4,f5⟩:=hf it (by simp);have hl:=rv.length;exact wpAny_pyNext_list_end (I.ok.hd hc) st p.isList (by simp;omega) λh' eb=>⟨rfl,I.turned (t':=s.toks) (λb o hb e=>eb b o hb e) f0 f1 f3 f4 f5⟩
 self:=λ_ _ _ _ _ st h=>wpAny_pyIter_listiter st h
def yM {P:Mg}{w:LZ}{K:LN}{tg:Expr}(a it:D'):Turn P w K tg (Itt K a) [it] it (λi h=>h.IsTupleIter it a i) where
 mem:=by simp
 obj:=λi h st b hb=>by
  have e:b=it:=by simpa using hb
  subst e;obtain⟨o,e,c,d⟩:=st;exact⟨o,e,λv z=>by rw[d]at z;cases z⟩
 keep:=λi h h' st k=>st.at λo e=>k it (by simp) o e
 item:=by
  intro X hP hw hK hc i Oj s σ H E I hf st hg;subst hP hw hK;obtain⟨xs,x,hq,hx⟩:=hg;obtain⟨its,rv,p,hz⟩:=I.tuple hq;obtain⟨u,hu,ru⟩:=rv.get hx;obtain⟨f0,f1,f2,f3,f4,f5⟩:=hf it (by simp);refine wpAny_pyNext_tuple_item st (show s.heap.IsTuple a its.toArray from p) (x:=u) (by simpa using hu) λh' st' sb=>?_
  have I1:Inv X Oj σ H { s with heap:=h' }:=I.turned (t':=s.toks) (λb o hb e=>(sb.2 b hb).trans e) f0 f1 f3 f4 f5;obtain⟨o,e,c,d⟩:=id st';exact⟨u,rfl,AI (s:={ s with heap:=h' }) e c d (by decide) ⟨x,H,I1,ru,⟨rfl,λys hy=>by rw[I.tuple_inj hy hq];exact hx⟩,st',λb hb=>(hf b hb).1⟩⟩
 done:=by
  intro X hP hw hK hc i Oj s σ H E I hf st hg;subst hP hw hK;obtain⟨xs,hq,hx⟩:=hg;obtain⟨its,rv,p,hz⟩:=I.tuple hq;obtain⟨f0,f1,f2,f3,f4,f5⟩:=hf it (by simp);have hl:=rv.length;exact wpAny_pyNext_tuple_end (I.ok.hd hc) st (show s.heap.IsTuple a its.toArray from p) (by simp;omega) λh' eb=>⟨rfl,I.turned (t':=s.toks) (λb o hb e=>eb b o hb e) f0 f1 f3 f4 f5⟩
 self:=λ_ _ _ _ _ st h=>wpAny_pyIter_tupleiter st h
def zW {P:Mg}{w:LZ}{K:LN}{tg:Expr}(it:D') (lo:Int) (n:Nat):Turn P w K tg (Itr lo n) [it] it (λi h=>IsRangeIter h it (lo+(i:Nat) * 1) ((n:Int) - (i:Nat)) 1) where
 mem:=by simp
 obj:=λi h st b hb=>by
  have e:b=it:=by simpa using hb
  subst e;exact⟨_,st,λv z=>by
   have z':Data.fields _=Data.cell v:=z;cases z'⟩
 keep:=λi h h' st k=>k it (by simp) _ st
 item:=by
  intro X hP hw hK hc i Oj s σ H E I hf st hg;subst hP hw hK;obtain⟨f0,f1,f2,f3,f4,f5⟩:=hf it (by simp);have W:=Walks.range (prog:=X.prog) (w:=X.w) (I.ok.hd hc) it lo 1 n;refine W.item i s _ _ hg st λv h' tk hv st' kk=>?_
  obtain⟨t,rfl⟩:=hv;have I1:Inv X Oj σ H { s with heap:=h',toks:=tk }:=I.turned (λb o hb e=>kk b o (by simpa using hb) e) f0 f1 f3 f4 f5;refine⟨_,rfl,AI (s:={ s with heap:=h',toks:=tk }) (n:="range_iterator") st' rfl rfl (by decide) ⟨.int (lo+i),H,I1,⟨t,?_⟩,⟨rfl,rfl⟩,st',λb hb=>(hf b hb).1⟩⟩;rw[Int.mul_one]
 done:=by
  intro X hP hw hK hc i Oj s σ H E I hf st hg;subst hP hw hK;obtain⟨f0,f1,f2,f3,f4,f5⟩:=hf it (by simp);exact wpAny_pyNext_range_end (I.ok.hd hc) st (by have:n <= i:=hg;omega) λh' eb=>⟨rfl,I.turned (t':=s.toks) (λb o hb e=>eb b o hb e) f0 f1 f3 f4 f5⟩
 self:=λ_ _ _ _ _ st h=>wpAny_pyIter_rangeiter st h
section
variable {X:Cx}{tg:Expr}
def ID (K:LN) (tl:TE):TI:=λσ H R=>tl σ H λx H1=>∃ a,x=.ref a/\(∃ xs,SqL K H1 a xs)/\R (Itl K a) H1
def L4 (K:LN) (tl:TE):TI:=λσ H R=>tl σ H λx H1=>∃ a,x=.ref a/\(∃ xs,SqT K H1 a xs)/\R (Itt K a) H1
def ii {l:Expr}{tl:TE}(hl:PE X l tl):PI X tg l (ID X.K tl):=by
 intro Oj s σ H R I h;refine thn (hl Oj s σ H _ I h) λv s1 ur16=>?_
 obtain⟨x,H1,I1,r1,q1⟩:=ur16;obtain⟨a,e,⟨xs,hq⟩,q⟩:=q1;subst e;cases r1;obtain⟨its,rv,p,hz⟩:=I1.list hq;refine wpAny_pyIter_list p.isList ?_;refine⟨s1.heap.objs.size,[s1.heap.objs.size],_,_,H1,rfl,I1.kept (t':=s1.toks) λb o e=>LH _ e,BV a _,⟨_,LW _ rfl,rfl,rfl⟩,λb hb=>?_,q⟩;have e:b=s1.heap.objs.size:=by simpa using hb
 subst e;exact I1.fpOk (LS _) (I1.hok.fresh (LS _))
def HI {l:Expr}{tl:TE}(hl:PE X l tl):PI X tg l (L4 X.K tl):=by
 intro Oj s σ H R I h;refine thn (hl Oj s σ H _ I h) λv s1 ur17=>?_
 obtain⟨x,H1,I1,r1,q1⟩:=ur17;obtain⟨a,e,⟨xs,hq⟩,q⟩:=q1;subst e;cases r1;obtain⟨its,rv,p,hz⟩:=I1.tuple hq;refine wpAny_pyIter_tuple (show s1.heap.IsTuple a its.toArray from p) ?_;refine⟨s1.heap.objs.size,[s1.heap.objs.size],_,_,H1,rfl,I1.kept (t':=s1.toks) λb o e=>LH _ e,yM a _,⟨_,LW _ rfl,rfl,rfl⟩,λb hb=>?_,q⟩;have e:b=s1.heap.objs.size:=by simpa using hb
 subst e;exact I1.fpOk (LS _) (I1.hok.fresh (LS _))
def Cj {Oj:List (D' × M6)}{σ:St}{H:Hp}{s:LK}{R:It->Hp->Prop}{E:G'->LK->Prop}{lo hi:Int}{t u v:Tok}{tk:Nat}(I:Inv X Oj σ H s) (h1:-(2 ^ 62) <= lo) (h2:lo < 2 ^ 62) (h3:-(2 ^ 62) <= hi) (h4:hi < 2 ^ 62)
 (q:R (Itr lo (hi - lo).toNat) H):LV (model X.prog X.w) X.A (pyIter (.ref s.heap.objs.size)) (PIE X Oj σ tg R) E { s with heap:=s.heap.push { cls:=.type "range",data:=.fields #[.int lo t,.int hi u,.int 1 v] },toks:=tk }:=by
 refine wpAny_pyIter_range (IsRange.new ..) (small_one h1 h2 h3 h4) ?_;have I1:Inv X Oj σ H { s with heap:=s.heap.push { cls:=.type "range",data:=.fields #[.int lo t,.int hi u,.int 1 v] },toks:=tk }:=I.kept λb o e=>LH _ e
 refine⟨(s.heap.push { cls:=.type "range",data:=.fields #[.int lo t,.int hi u,.int 1 v] }).objs.size,[(s.heap.push { cls:=.type "range",data:=.fields #[.int lo t,.int hi u,.int 1 v] }).objs.size],_,_,H,rfl,
  I1.kept (t':=tk) λb o e=>LH _ e,zW _ lo (hi - lo).toNat,?_,λb hb=>?_,q⟩
 . have e1:lo+((0:Nat):Int) * 1=lo:=by simp
   have e2:(((hi - lo).toNat:Nat):Int) - ((0:Nat):Int)=Builtin.Range.rangeSize lo hi 1:=by rw[rangeSize_one];split<;>omega
   show IsRangeIter _ _ (lo+((0:Nat):Int) * 1) ((((hi - lo).toNat:Nat):Int) - ((0:Nat):Int)) 1;rw[e1,e2];exact LW _ rfl
 . have e:b=(s.heap.push { cls:=.type "range",data:=.fields #[.int lo t,.int hi u,.int 1 v] }).objs.size:=by simpa using hb
   subst e;exact I1.fpOk (LS _) (I1.hok.fresh (LS _))
def Ko (ta:TA):TI:=λσ H R=>ta σ H λvs H1=>∃ j:Int,vs=[.int j]/\-(2 ^ 62) <= j/\j < 2 ^ 62/\R (Itr 0 j.toNat) H1
def AX {a:Expr}{ta:TA}{p pos:Pos}(hg:Gl X "range") (hm:X.mg "range"=LJ) (ha:PA X [a] ta) (hs:Mu [a] X.env=[(K',eval a X.env)]:=by rfl):PI X tg (.Call (.Name "range" p) [a] [] pos) (Ko ta):=by
 intro Oj s σ H R I h;refine Call_ (nL I hg hm boot_range (Nb (thn (ha pos Oj s σ H _ I h) λus s1 ur18=>?_) hs rfl));obtain⟨vs,H1,I1,r1,q1⟩:=ur18;obtain⟨j,e,q1,q2,q⟩:=q1;subst e;cases r1 with
|cons r rr =>
  cases rr;obtain⟨t,rfl⟩:=r;exact call_range_1 (Cj I1 (by omega) (by omega) q1 q2 (by simpa using q))
def KI (wi:TI) (g:TG) (tb:TS):TS:=λD σ H=>wi σ H λJ H1=>∃ W:Nat->Nat->St->Hp->Prop,(∃ m,W 0 m σ H1)/\∀ i m σ H,W i m σ H ->
 (J.stop i H/\D.nx σ H)\/(J.go i H/\∃ N:St->Hp->Prop,(∀ σ' H',N σ' H'->∃ m',m' < m/\W (i+1) m' σ' H')/\∀ x H',J.yld i H x H'->g x σ H' λσ2 H2=>tb { D with nx:=N,ct:=N,bk:=D.nx } σ2 H2)
def nS (fp:List D') (h:Mi):List (D' × M6):=fp.filterMap λb=>(h.get? b).map λo=>(b,o)
def eO {fp:List D'}{h:Mi}{b:D'}{o:M6}(hb:b∈fp) (e:h.get? b=f' o):(b,o)∈nS fp h:=mem_filterMap.mpr ⟨b,hb,by rw[e];rfl⟩
def AY {fp:List D'}{h:Mi}{p:D' × M6}(hp:p∈nS fp h):p.1∈fp/\h.get? p.1=f' p.2:=by
 obtain⟨b,hb,e⟩:=mem_filterMap.mp hp;cases q:h.get? b with
|none=>rw[q]at e;cases e
|some o =>
  rw[q]at e;have e':(b,o)=p:=Ms e;subst e';exact⟨hb,q⟩
def Inv.pinned {Oj:List (D' × M6)}{σ:St}{H:Hp}{s:LK}{fp:List D'}(I:Inv X Oj σ H s) (hf:∀ b∈fp,tU X Oj H b) (ho:∀ b∈fp,∃ o,s.heap.get? b=f' o/\∀ v,o.data≠.cell v):Inv X (Oj++nS fp s.heap) σ H s :=
 I.pins_of λp hp=>(Np.mp hp).elim (λz=>I.pin p (ME _ z)) λz=>by
  obtain⟨hb,e⟩:=AY z;obtain⟨f0,f1,f2,_⟩:=hf p.1 hb;obtain⟨o,e',d⟩:=ho p.1 hb;rw[e]at e';cases e';exact⟨e,f0,f1,f2,d⟩
def Inv.unpinned {Oj pl:List (D' × M6)}{σ:St}{H:Hp}{s:LK}(I:Inv X (Oj++pl) σ H s):Inv X Oj σ H s:=I.pins_of λp hp=>I.pin p (ME _ (mem_append_left _ hp))
def nU {iter:Expr}{body:List MJ}{wi:TI}{g:TG}{tb:TS}{pos:Pos}(hp:PassesOwn (model X.prog X.w) X.A X.env X.xe) (hc:X.calm=l') (hi:PI X tg iter wi) (hg:PG X tg g) (hb:PSs X body tb)
 (hs:∀ x,foldedSetIterable iter X.env x=pure x:=by intro _;rfl):PS X (.For tg iter body [] pos) (KI wi g tb):=by
 intro Oj s σ H D I h;refine wpAny_For (thn (hi Oj s σ H _ I h) λv s1 h1=>thn h1 λitv s2 h2=>?_) hs;obtain⟨it,fp,tn,J,H2,e,I2,T,st2,f2,W,⟨m0,w0⟩,turn⟩:=h2;subst e;have stat:∀ {H':Hp},(∀ b∈fp,H' b=LJ)->∀ b∈fp,tU X Oj H' b:=λhn b hb=>⟨hn b hb,(f2 b hb).2⟩
 refine codeAny_forLoop_any (λn s'=>∃ i σ' H',Inv X Oj σ' H' s'/\tn i s'.heap/\(∀ b∈fp,H' b=LJ)/\W i n σ' H') ?_ m0 ⟨0,σ,H2,I2,st2,λb hb=>(f2 b hb).1,w0⟩;rintro n s3 ⟨i,σ3,H3,I3,st3,fr3,w3⟩;rcases turn i n σ3 H3 w3 with⟨stop,qn⟩|⟨go,N,hN,step⟩
 . refine N1 hp (thn (T.done X rfl rfl rfl hc i Oj s3 σ3 H3 X.xe I3 (stat fr3) st3 stop) λr s4 ur19=>?_);obtain⟨hr,I4⟩:=ur19;subst hr;exact wpAny_execs_nil ⟨σ3,H3,I4,qn⟩
 . refine N1 hp (thn (T.item X rfl rfl rfl hc i Oj s3 σ3 H3 X.xe I3 (stat fr3) st3 go) λr s4 ur20=>?_);obtain⟨u,hr,h4⟩:=ur20;subst hr;refine N1 hp (thn h4 λ_ s5 ur21=>?_);obtain⟨x,H5,I5,r5,y5,st5,fr5⟩:=ur21;have I5':=I5.pinned (stat fr5) (T.obj _ _ st5);refine N1 hp (thn (hg _ s5 σ3 H5 x u _ I5' r5 (step x H5 y5)) λ_ s6 ur22=>?_);obtain⟨σ6,H6,I6,q6⟩:=ur22;refine N1 hp (thn (hb _ s6 σ6 H6 _ I6 q6) λf s7 q7=>?_);have again:∀ {σ7:St} {H7:Hp},Inv X (Oj++nS fp s5.heap) σ7 H7 s7->N σ7 H7->∃ m,m < n/\∃ i σ' H',Inv X Oj σ' H' s7/\tn i s7.heap/\(∀ b∈fp,H' b=LJ)/\W i m σ' H':=λ{σ7 H7} I7 n7=>by
    obtain⟨m',hm,w7⟩:=hN σ7 H7 n7;refine⟨m',hm,i+1,σ7,H7,I7.unpinned,T.keep _ _ _ st5 λb hb o e=>(I7.pin (b,o) (ME _ (ME _ (eO hb e)))).1,λb hb=>?_,w7⟩;obtain⟨o,e,d⟩:=T.obj _ _ st5 b hb;exact(I7.pin (b,o) (ME _ (ME _ (eO hb e)))).2.1
   cases f with
  |next=>obtain⟨σ7,H7,I7,n7⟩:=q7;exact again I7 n7
  |cont=>obtain⟨σ7,H7,I7,n7⟩:=q7;exact again I7 n7
  |brk=>obtain⟨σ7,H7,I7,q7⟩:=q7;exact⟨σ7,H7,I7.unpinned,q7⟩
  |ret v=>obtain⟨x7,σ7,H7,I7,r7,q7⟩:=q7;exact⟨x7,σ7,H7,I7.unpinned,r7,q7⟩
end
def ma {K:LN}{a:D'}{xs:List V}{g:TG}{tb:TS}{D:Ends}{σ:St}{H:Hp}(Pv:Nat->St->Hp->Prop) (h0:Pv 0 σ H) (hl:∀ i σ H,i <= xs.length->Pv i σ H->SqL K H a xs)
 (hs:∀ i x σ H,xs[i]?=f' x->Pv i σ H->g x σ H λσ2 H2=>tb { D with nx:=Pv (i+1),ct:=Pv (i+1),bk:=D.nx } σ2 H2) (hd:∀ σ H,Pv xs.length σ H->D.nx σ H) :
 ∃ W:Nat->Nat->St->Hp->Prop,(∃ m,W 0 m σ H)/\∀ i m σ H,W i m σ H ->
  ((Itl K a).stop i H/\D.nx σ H)\/((Itl K a).go i H/\∃ N:St->Hp->Prop,(∀ σ' H',N σ' H'->∃ m',m' < m/\W (i+1) m' σ' H')/\∀ x H',(Itl K a).yld i H x H'->g x σ H' λσ2 H2=>tb { D with nx:=N,ct:=N,bk:=D.nx } σ2 H2):=by
 refine⟨λi m σ H=>m=xs.length - i/\i <= xs.length/\Pv i σ H,⟨xs.length,by simp,Ny _,h0⟩,?_⟩;rintro i m σ H ⟨rfl,hi,p⟩;have q:=hl i σ H hi p;by_cases hlt:i < xs.length
 . refine .inr ⟨⟨xs,xs[i],q,by simp[hlt]⟩,Pv (i+1),λσ' H' p'=>⟨xs.length - (i+1),by omega,rfl,hlt,p'⟩,λx H' y=>?_⟩;obtain⟨e,y⟩:=y;subst e;exact hs i x σ _ (y xs q) p
 . have e:i=xs.length:=by omega
   subst e;exact .inl ⟨⟨xs,q,LS _⟩,hd σ H p⟩
def AM {lo:Int}{n:Nat}{g:TG}{tb:TS}{D:Ends}{σ:St}{H:Hp}(Pv:Nat->St->Hp->Prop) (h0:Pv 0 σ H)
 (hs:∀ i σ H,i < n->Pv i σ H->g (.int (lo+i)) σ H λσ2 H2=>tb { D with nx:=Pv (i+1),ct:=Pv (i+1),bk:=D.nx } σ2 H2) (hd:∀ σ H,Pv n σ H->D.nx σ H) :
 ∃ W:Nat->Nat->St->Hp->Prop,(∃ m,W 0 m σ H)/\∀ i m σ H,W i m σ H ->
  ((Itr lo n).stop i H/\D.nx σ H)\/((Itr lo n).go i H/\∃ N:St->Hp->Prop,(∀ σ' H',N σ' H'->∃ m',m' < m/\W (i+1) m' σ' H')/\∀ x H',(Itr lo n).yld i H x H'->g x σ H' λσ2 H2=>tb { D with nx:=N,ct:=N,bk:=D.nx } σ2 H2):=by
 refine⟨λi m σ H=>m=n - i/\i <= n/\Pv i σ H,⟨n,by simp,Ny _,h0⟩,?_⟩;rintro i m σ H ⟨rfl,hi,p⟩;by_cases hlt:i < n
 . refine .inr ⟨hlt,Pv (i+1),λσ' H' p'=>⟨n - (i+1),by omega,rfl,hlt,p'⟩,λx H' y=>?_⟩;obtain⟨e,y⟩:=y;subst e y;exact hs i σ _ hlt p
 . have e:i=n:=by omega
   subst e;exact .inl ⟨LS _,hd σ H p⟩
abbrev R2:=V->V->Hp->VK->Prop
def OpR (X:Cx) (f:G'->G'->Sem G') (r:R2):Prop :=
 ∀ (Oj:List (D' × M6)) (s:LK) (σ:St) (H:Hp) (x y:V) (v u:G') (Q:VK),Inv X Oj σ H s->cy x v->cy y u->r x y H Q ->
  LV (model X.prog X.w) X.A (f v u) (EP X Oj σ Q) X.xe s
def UnR (X:Cx) (f:G'->Sem G') (r:V->Hp->VK->Prop):Prop :=
 ∀ (Oj:List (D' × M6)) (s:LK) (σ:St) (H:Hp) (x:V) (v:G') (Q:VK),Inv X Oj σ H s->cy x v->r x H Q ->
  LV (model X.prog X.w) X.A (f v) (EP X Oj σ Q) X.xe s
def kZ (X:Cx) (f:G') (r:List V->Hp->VK->Prop):Prop :=
 ∀ (Oj:List (D' × M6)) (s:LK) (σ:St) (H:Hp) (xs:List V) (us:List G') (Q:VK),Inv X Oj σ H s->bV xs us->r xs H Q ->
  LV (model X.prog X.w) X.A (call f us) (EP X Oj σ Q) X.xe s
def Ld (X:Cx) (r:V->Hp->(Bool->Hp->Prop)->Prop):Prop :=
 ∀ (Oj:List (D' × M6)) (s:LK) (σ:St) (H:Hp) (x:V) (v:G') (Q:Bool->Hp->Prop),Inv X Oj σ H s->cy x v->r x H Q ->
  LV (model X.prog X.w) X.A (truthy v) (TP X Oj σ Q) X.xe s
def tOp (r:R2) (ta tb:TE):TE:=λσ H Q=>ta σ H λx H1=>tb σ H1 λy H2=>r x y H2 Q
def tUn (r:V->Hp->VK->Prop) (ta:TE):TE:=λσ H Q=>ta σ H λx H1=>r x H1 Q
def rI (C:Int->Int->Prop) (g:Int->Int->V):R2:=λx y H Q=>∃ i j,x=.int i/\y=.int j/\C i j/\Q (g i j) H
def rI0 (g:Int->Int->V):R2:=λx y H Q=>∃ i j,x=.int i/\y=.int j/\Q (g i j) H
def rU (g:Int->V):V->Hp->VK->Prop:=λx H Q=>∃ i,x=.int i/\Q (g i) H
section
variable {X:Cx}{a b c:Expr}{ta tb tc:TE}{pos:Pos}
def Ki (ha:PE X a ta) (hb:PE X b tb) {Oj:List (D' × M6)}{s:LK}{σ:St}{H:Hp}{R:V->V->Hp->Prop}(I:Inv X Oj σ H s)
 (h:ta σ H λx H1=>tb σ H1 λy H2=>R x y H2) {Q:G'->LK->Prop} {f:G'->G'->Sem G'}
 (hf:∀ v u s2 x y H2,Inv X Oj σ H2 s2->cy x v->cy y u->R x y H2->LV (model X.prog X.w) X.A (f v u) Q X.xe s2) :
 LV (model X.prog X.w) X.A (eval a X.env) (λv s₁=>LV (model X.prog X.w) X.A (eval b X.env) (λu s₂=>LV (model X.prog X.w) X.A (f v u) Q X.xe s₂) X.xe s₁) X.xe s:=by
 refine thn (ha Oj s σ H _ I h) λv s1 ur23=>?_
 obtain⟨x,H1,I1,r1,q1⟩:=ur23;refine thn (hb Oj s1 σ H1 _ I1 q1) λu s2 ur24=>?_
 obtain⟨y,H2,I2,r2,q2⟩:=ur24;exact hf v u s2 x y H2 I2 r1 r2 q2
def gs {op:Operator}{r:R2}(ho:OpR X (binaryOp op) r) (ha:PE X a ta) (hb:PE X b tb):PE X (.BinOp a op b pos) (tOp r ta tb):=by
 intro Oj s σ H Q I h;exact wpAny_BinOp (Ki ha hb I h λv u s2 x y H2 I2 rx ry q=>ho Oj s2 σ H2 x y v u Q I2 rx ry q)
def Gx {op:UnaryOp}{r:V->Hp->VK->Prop}(ho:UnR X (unaryOp op) r) (ha:PE X a ta):PE X (.UnaryOp op a pos) (tUn r ta):=by
 intro Oj s σ H Q I h;exact UnaryOp_ (thn (ha Oj s σ H _ I h) λv s1 uq3=>by(obtain⟨x,H1,I1,r1,q1⟩:=uq3;exact ho Oj s1 σ H1 x v Q I1 r1 q1))
def opI {f:G'->G'->Sem G'}{C:Int->Int->Prop}{g:Int->Int->Int}
 (rule:∀ (i j:Int) (t u:Tok) (s:LK) (Q:G'->LK->Prop) (E:G'->LK->Prop),C i j->Q (.int (g i j) s.toks) { s with toks:=s.toks+1 }->LV (model X.prog X.w) X.A (f (.int i t) (.int j u)) Q E s) :
 OpR X f (rI C λi j=>.int (g i j)):=by
 intro Oj s σ H x y v u Q I rx ry h;obtain⟨i,j,rfl,rfl,hc,q⟩:=h;obtain⟨t,rfl⟩:=rx;obtain⟨t',rfl⟩:=ry;exact rule i j t t' s _ _ hc ⟨.int (g i j),H,I.tok _,⟨_,rfl⟩,q⟩
def KH {f:G'->G'->Sem G'}{g:Int->Int->Int}
 (rule:∀ (i j:Int) (t u:Tok) (s:LK) (Q:G'->LK->Prop) (E:G'->LK->Prop),Q (.int (g i j) s.toks) { s with toks:=s.toks+1 }->LV (model X.prog X.w) X.A (f (.int i t) (.int j u)) Q E s) :
 OpR X f (rI0 λi j=>.int (g i j)):=by
 intro Oj s σ H x y v u Q I rx ry h;obtain⟨i,j,rfl,rfl,q⟩:=h;obtain⟨t,rfl⟩:=rx;obtain⟨t',rfl⟩:=ry;exact rule i j t t' s _ _ ⟨.int (g i j),H,I.tok _,⟨_,rfl⟩,q⟩
def Lq {f:G'->G'->Sem G'}{g:Int->Int->Bool}
 (rule:∀ (i j:Int) (t u:Tok) (s:LK) (Q:G'->LK->Prop) (E:G'->LK->Prop),Q (.bool (g i j)) s->LV (model X.prog X.w) X.A (f (.int i t) (.int j u)) Q E s) :
 OpR X f (rI0 λi j=>.bl (g i j)):=by
 intro Oj s σ H x y v u Q I rx ry h;obtain⟨i,j,rfl,rfl,q⟩:=h;obtain⟨t,rfl⟩:=rx;obtain⟨t',rfl⟩:=ry;exact rule i j t t' s _ _ ⟨.bl (g i j),H,I,rfl,q⟩
def Jh (i j:Int):Prop:=(-(2 ^ 64) < i/\i < 2 ^ 64)\/(-(2 ^ 64) < j/\j < 2 ^ 64)
def Jh.ok {i j:Int}(h:Jh i j):IntMulOk i j:=by
 rcases h with⟨h1,h2⟩|⟨h1,h2⟩
 . exact .of_left (intBits_le_64 h1 h2)
 . exact .of_right (intBits_le_64 h1 h2)
def EH:OpR X (binaryOp .Add) (rI0 λi j=>.int (i+j)):=KH λ_ _ _ _ _ _ _ q=>add_int q
def Bw:OpR X (binaryOp .Sub) (rI0 λi j=>.int (i - j)):=KH λ_ _ _ _ _ _ _ q=>sub_int q
def EO:OpR X (binaryOp .Mult) (rI Jh λi j=>.int (i * j)):=opI λ_ _ _ _ _ _ _ hc q=>mul_int q hc.ok
def vg:OpR X (binaryOp .Mod) (rI (λ_ j=>0 < j) λi j=>.int (i % j)):=opI λi j _ _ _ _ _ hc q=>by
 have h1:(0:Int) < j:=hc;exact mod_int' (by omega) (by rw[Int.fmod_eq_emod_of_nonneg i (by omega)];exact q)
def unI {f:G'->Sem G'}{g:Int->Int}
 (rule:∀ (i:Int) (t:Tok) (s:LK) (Q:G'->LK->Prop) (E:G'->LK->Prop),Q (.int (g i) s.toks) { s with toks:=s.toks+1 }->LV (model X.prog X.w) X.A (f (.int i t)) Q E s) :
 UnR X f (rU λi=>.int (g i)):=by
 intro Oj s σ H x v Q I rx h;obtain⟨i,rfl,q⟩:=h;obtain⟨t,rfl⟩:=rx;exact rule i t s _ _ ⟨.int (g i),H,I.tok _,⟨_,rfl⟩,q⟩
def AH:UnR X (unaryOp .USub) (rU λi=>.int (-i)):=unI λ_ _ _ _ _ q=>neg_int q
end
def KN:V->V->Bool
|.non,.non=>l'|.non,.int _=>l'|.int _,.non=>l'|.non,.bl _=>l'|.bl _,.non=>l'|.non,.str _=>l'|.str _,.non=>l'
|.int _,.int _=>l'|.bl _,.bl _=>l'|.str _,.str _=>l'|.byt _,.byt _=>l'
|.int _,.str _=>l'|.str _,.int _=>l'|.bl _,.str _=>l'|.str _,.bl _=>l'
|_,_=>K'
def rEq:R2:=λx y H Q=>KN x y=l'/\Q (.bl (decide (x=y))) H
def rNe:R2:=λx y H Q=>KN x y=l'/\Q (.bl (!decide (x=y))) H
def AA {i j:Int}:decide (V.int i=V.int j)=(i == j):=by
 rw[Nk];simp
def Fg {i j:Bool}:decide (V.bl i=V.bl j)=(i == j):=by
 rw[Nk];simp
def Ai {i j:Str}:decide (V.str i=V.str j)=(i == j):=by
 rw[Nk];simp
def AZ {i j:Array UInt8}:decide (V.byt i=V.byt j)=(i.toList == j.toList):=by
 rw[Nk];cases i;cases j;simp
section
variable {X:Cx}{a b c:Expr}{ta tb tc:TE}{pos:Pos}
def bq {Oj:List (D' × M6)}{σ:St}{H:Hp}{s:LK}{Q:VK}{k k':Bool}(I:Inv X Oj σ H s) (q:Q (.bl k) H) (e:k=k'):EP X Oj σ Q (.bool k') s:=by
 subst e;exact⟨.bl k,H,I,rfl,q⟩
def cw:OpR X (Nm .Eq) rEq:=by
 intro Oj s σ H x y v u Q I rx ry h;obtain⟨hs,q⟩:=h;cases x with
|non =>
  cases rx;cases y with
 |non=>cases ry;exact PySem.EqNone.eq_none_none (bq I q (by simp))
 |bl j=>cases ry;exact PySem.EqNone.eq_none_bool (bq I q (by simp))
 |int j=>obtain⟨t',rfl⟩:=ry;exact PySem.EqNone.eq_none_int (bq I q (by simp))
 |str j=>obtain⟨t',rfl⟩:=ry;exact PySem.EqNone.eq_none_str (bq I q (by simp))
 |_=>exact absurd (show K'=l' from hs) Me
|bl i =>
  cases rx;cases y with
 |non=>cases ry;exact PySem.EqNone.eq_bool_none (bq I q (by simp))
 |bl j=>cases ry;exact eq_bool (bq I q Fg)
 |str j=>obtain⟨t',rfl⟩:=ry;exact PySem.EqMixed.eq_bool_str (bq I q (by simp))
 |_=>exact absurd (show K'=l' from hs) Me
|int i =>
  obtain⟨t,rfl⟩:=rx;cases y with
 |non=>cases ry;exact PySem.EqNone.eq_int_none (bq I q (by simp))
 |int j=>obtain⟨t',rfl⟩:=ry;exact eq_int (bq I q AA)
 |str j=>obtain⟨t',rfl⟩:=ry;exact PySem.EqMixed.eq_int_str (bq I q (by simp))
 |_=>exact absurd (show K'=l' from hs) Me
|str i =>
  obtain⟨t,rfl⟩:=rx;cases y with
 |non=>cases ry;exact PySem.EqNone.eq_str_none (bq I q (by simp))
 |bl j=>cases ry;exact PySem.EqMixed.eq_str_bool (bq I q (by simp))
 |int j=>obtain⟨t',rfl⟩:=ry;exact PySem.EqMixed.eq_str_int (bq I q (by simp))
 |str j=>obtain⟨t',rfl⟩:=ry;exact eq_str (bq I q Ai)
 |_=>exact absurd (show K'=l' from hs) Me
|byt i =>
  obtain⟨t,rfl⟩:=rx;cases y with
 |byt j=>obtain⟨t',rfl⟩:=ry;exact eq_bytes (bq I q AZ)
 |_=>exact absurd (show K'=l' from hs) Me
|_=>cases y<;>exact absurd (show K'=l' from hs) Me
def sJ:OpR X (Nm .NotEq) rNe:=by
 intro Oj s σ H x y v u Q I rx ry h;obtain⟨hs,q⟩:=h;cases x with
|non =>
  cases rx;cases y with
 |non=>cases ry;exact PySem.EqNone.ne_none_none (bq I q (by simp))
 |bl j=>cases ry;exact PySem.EqNone.ne_none_bool (bq I q (by simp))
 |int j=>obtain⟨t',rfl⟩:=ry;exact PySem.EqNone.ne_none_int (bq I q (by simp))
 |str j=>obtain⟨t',rfl⟩:=ry;exact PySem.EqNone.ne_none_str (bq I q (by simp))
 |_=>exact absurd (show K'=l' from hs) Me
|bl i =>
  cases rx;cases y with
 |non=>cases ry;exact PySem.EqNone.ne_bool_none (bq I q (by simp))
 |bl j=>cases ry;exact ne_bool (bq I q (congrArg not Fg))
 |str j=>obtain⟨t',rfl⟩:=ry;exact PySem.EqMixed.ne_bool_str (bq I q (by simp))
 |_=>exact absurd (show K'=l' from hs) Me
|int i =>
  obtain⟨t,rfl⟩:=rx;cases y with
 |non=>cases ry;exact PySem.EqNone.ne_int_none (bq I q (by simp))
 |int j=>obtain⟨t',rfl⟩:=ry;exact ne_int (bq I q (congrArg not AA))
 |str j=>obtain⟨t',rfl⟩:=ry;exact PySem.EqMixed.ne_int_str (bq I q (by simp))
 |_=>exact absurd (show K'=l' from hs) Me
|str i =>
  obtain⟨t,rfl⟩:=rx;cases y with
 |non=>cases ry;exact PySem.EqNone.ne_str_none (bq I q (by simp))
 |bl j=>cases ry;exact PySem.EqMixed.ne_str_bool (bq I q (by simp))
 |int j=>obtain⟨t',rfl⟩:=ry;exact PySem.EqMixed.ne_str_int (bq I q (by simp))
 |str j=>obtain⟨t',rfl⟩:=ry;exact ne_str (bq I q (congrArg not Ai))
 |_=>exact absurd (show K'=l' from hs) Me
|byt i =>
  obtain⟨t,rfl⟩:=rx;cases y with
 |byt j=>obtain⟨t',rfl⟩:=ry;exact ne_bytes (bq I q (congrArg not AZ))
 |_=>exact absurd (show K'=l' from hs) Me
|_=>cases y<;>exact absurd (show K'=l' from hs) Me
def qz:OpR X (Nm .LtE) (rI0 λi j=>.bl (decide (i <= j))):=Lq λ_ _ _ _ _ _ _ q=>le_int q
def Bq:OpR X (Nm .In) (λx y H Q=>∃ i j,x=.str i/\y=.str j/\Q (.bl (!(Nd j i 0 j.length 1).isEmpty)) H):=by
 intro Oj s σ H x y v u Q I rx ry h;obtain⟨i,j,rfl,rfl,q⟩:=h;obtain⟨t,rfl⟩:=rx;obtain⟨t',rfl⟩:=ry;exact in_str (bq I q rfl)
def vm:OpR X (Nm .Is) (λx y H Q=>y=.non/\Q (.bl (decide (x=.non))) H):=by
 intro Oj s σ H x y v u Q I rx ry h;obtain⟨rfl,q⟩:=h;cases ry;refine is_none_gen (bq I q ?_);cases x<;>first
 |(cases rx;rfl)
 |(obtain⟨t,rfl⟩:=rx;rfl)
def oN:OpR X (Nm .IsNot) (λx y H Q=>y=.non/\Q (.bl (!decide (x=.non))) H):=by
 intro Oj s σ H x y v u Q I rx ry h;obtain⟨rfl,q⟩:=h;cases ry;refine isnot_none_gen (bq I q ?_);cases x<;>first
 |(cases rx;rfl)
 |(obtain⟨t,rfl⟩:=rx;rfl)
def av (b:Expr) {op:CmpOp}(h:op≠.In:=by decide) (h2:op≠.NotIn:=by decide):N5 op b=K':=by
 have e1:(op == CmpOp.In)=K':=by cases op<;>first|rfl|exact absurd rfl h
 have e2:(op == CmpOp.NotIn)=K':=by cases op<;>first|rfl|exact absurd rfl h2
 cases b<;>simp[N5,e1,e2]
def bD {op:CmpOp}{r:R2}(ho:OpR X (Nm op) r) (ha:PE X a ta) (hb:PE X b tb) (hm:N5 op b=K'):PE X (.Compare a [op] [b] pos) (tOp r ta tb):=by
 intro Oj s σ H Q I h;exact wpAny_Compare1 (Ki ha hb I h λv u s2 x y H2 I2 rx ry q=>ho Oj s2 σ H2 x y v u Q I2 rx ry q) hm
def z0 (t:TE):TT:=λσ H Q=>t σ H λx H'=>∃ k,x=.bl k/\Q k H'
def ap {op:CmpOp}{r:R2}(ho:OpR X (Nm op) r) (ha:PE X a ta) (hb:PE X b tb) (hm:N5 op b=K'):PT X (.Compare a [op] [b] pos) (z0 (tOp r ta tb)):=by
 intro Oj s σ H Q I h;refine wpAny_isTrue_Compare1 (thn (ha Oj s σ H _ I h) λv s1 ⟨x,H1,I1,r1,q1⟩=>thn (hb Oj s1 σ H1 _ I1 q1) λu s2 ⟨y,H2,I2,r2,q2⟩ =>
  thn (ho Oj s2 σ H2 x y v u _ I2 r1 r2 q2) λc s3 ⟨z,H3,I3,r3,k,e,q3⟩=>?_) hm
 subst e;cases r3;exact MQ ⟨H3,I3,q3⟩
def C9 (r r':R2) (ta tb tc:TE):TE:=λσ H Q=>ta σ H λx H1=>tb σ H1 λy H2=>r x y H2 λz H3=>∃ k,z=.bl k /\
 (if k=l' then tc σ H3 λw' H4=>r' y w' H4 Q else Q (.bl K') H3)
def Dc {op op':CmpOp}{r r':R2}(ho:OpR X (Nm op) r) (ho':OpR X (Nm op') r') (ha:PE X a ta) (hb:PE X b tb) (hc:PE X c tc)
 (hm:lastMarks [op,op'] [b,c]=K':=by with_unfolding_all rfl):PE X (.Compare a [op,op'] [b,c] pos) (C9 r r' ta tb tc):=by
 intro Oj s σ H Q I h;refine Compare_chain (thn (ha Oj s σ H _ I h) λv s1 ⟨x,H1,I1,r1,q1⟩=>chain_link (thn (hb Oj s1 σ H1 _ I1 q1) λu s2 ⟨y,H2,I2,r2,q2⟩ =>
  thn (ho Oj s2 σ H2 x y v u _ I2 r1 r2 q2) λd s3 ⟨z,H3,I3,r3,k,e,q3⟩=>?_)) hm
 subst e;cases r3;refine MQ ?_;cases k with
|false=>exact ite_ff ⟨.bl K',H3,I3,rfl,q3⟩
|true=>exact ite_tt (chain_last (thn (hc Oj s3 σ H3 _ I3 q3) λw' s4 uq4=>by(obtain⟨z',H4,I4,r4,q4⟩:=uq4;exact ho' Oj s4 σ H4 y z' u w' Q I4 r2 r4 q4)))
def oq {op op':CmpOp}{r r':R2}(ho:OpR X (Nm op) r) (ho':OpR X (Nm op') r') (ha:PE X a ta) (hb:PE X b tb) (hc:PE X c tc)
 (hm:lastMarks [op,op'] [b,c]=K':=by with_unfolding_all rfl):PT X (.Compare a [op,op'] [b,c] pos) (z0 (C9 r r' ta tb tc)):=by
 intro Oj s σ H Q I h;refine isTrue_chain (thn (ha Oj s σ H _ I h) λv s1 ⟨x,H1,I1,r1,q1⟩=>test_link (thn (hb Oj s1 σ H1 _ I1 q1) λu s2 ⟨y,H2,I2,r2,q2⟩ =>
  thn (ho Oj s2 σ H2 x y v u _ I2 r1 r2 q2) λd s3 ⟨z,H3,I3,r3,k,e,q3⟩=>?_)) hm
 subst e;cases r3;refine MQ ?_;cases k with
|false =>
  obtain⟨k',e',q'⟩:=q3;cases e';exact ite_ff ⟨H3,I3,q'⟩
|true =>
  refine ite_tt (test_last (thn (hc Oj s3 σ H3 _ I3 q3) λw' s4 ⟨z',H4,I4,r4,q4⟩=>thn (ho' Oj s4 σ H4 y z' u w' _ I4 r2 r4 q4) λd' s5 ur25=>?_));obtain⟨z2,H5,I5,r5,k2,e2,q5⟩:=ur25;subst e2;cases r5;exact MQ ⟨H5,I5,q5⟩
def KQ (K:LN) (x:V) (H:Hp) (k:Bool):Prop :=
 match x with
|.non=>k=K'
|.bl b=>k=b
|.int i=>k=(i != 0)
|.str y=>y.length <= LP/\k=((y.length:Int) != 0)
|.byt y=>y.size <= LP/\k=((y.size:Int) != 0)
|.ref p=>(∃ xs,SqL K H p xs/\k=!xs.isEmpty)\/(∃ xs,SqT K H p xs/\k=!xs.isEmpty)\/∃ kvs,H p=f' (.dK kvs)/\k=!kvs.isEmpty
|_=>False
def zK {κ:Type}{kvs:List (κ × V)}{vs:List (κ × G')}(r:KV kvs vs):(!vs.isEmpty)=!kvs.isEmpty:=by
 cases r<;>rfl
def rB {xs:List V}{its:List G'}(r:bV xs its):(!its.toArray.isEmpty)=!xs.isEmpty:=by
 cases r<;>simp
def rC:(LP:Nat) < 2 ^ 63:=by rw[sizeLine_eq];decide
def Hs:Ld X (λx H Q=>∃ k,KQ X.K x H k/\Q k H):=by
 intro Oj s σ H x v Q I rx h;obtain⟨k,e,q⟩:=h;have hl:=rC;have hs:LP=16777216:=sizeLine_eq;cases x with
|non =>
  cases rx;have e':k=K':=e;subst e';exact truthy_none ⟨H,I,q⟩
|bl b =>
  cases rx;have e':k=b:=e;subst e';exact MQ ⟨H,I,q⟩
|int i =>
  obtain⟨t,rfl⟩:=rx;have e':k=(i != 0):=e;subst e';exact PySem.P.truthy_int ⟨H,I,q⟩
|str y =>
  obtain⟨t,rfl⟩:=rx;obtain⟨hy,e'⟩:y.length <= LP/\k=((y.length:Int) != 0):=e;subst e';exact PySem.P.truthy_str (by omega) ⟨H,I.tok _,q⟩
|byt y =>
  obtain⟨t,rfl⟩:=rx;obtain⟨hy,e'⟩:y.size <= LP/\k=((y.size:Int) != 0):=e;subst e';exact truthy_bytes (by omega) ⟨H,I.tok _,q⟩
|ref p =>
  cases rx;have e':(∃ xs,SqL X.K H p xs/\k=!xs.isEmpty)\/(∃ xs,SqT X.K H p xs/\k=!xs.isEmpty)\/∃ kvs,H p=f' (.dK kvs)/\k=!kvs.isEmpty:=e;rcases e' with⟨xs,hx,e'⟩|⟨xs,hx,e'⟩|⟨kvs,hx,e'⟩
  . subst e';obtain⟨its,r,pl,hz⟩:=I.list hx;have hlen:=r.length;exact wpAny_truthy_list pl.isList (by simp only[Mj];omega) ⟨H,I.tok _,by rw[rB r];exact q⟩
  . subst e';obtain⟨its,r,pl,hz⟩:=I.tuple hx;have hlen:=r.length;exact truthy_tuple pl (by simp only[Mj];omega) ⟨H,I.tok _,by rw[rB r];exact q⟩
  . subst e';obtain⟨hz,hS,vs,r,m⟩:kvs.length <= LP/\(p == Ng)=K'/\∃ vs,KV kvs vs/\s.heap.DictOf (bA X.prog X.w) p vs:=I.hok p _ hx;have hlen:kvs.length=vs.length:=Mn.length r;exact wpAny_truthy_dict hS m (by omega) ⟨H,I.tok _,by rw[zK r];exact q⟩
|_=>exact(show False from e).elim
def mD (ha:PE X a ta) (he:∀ whole,isTrue a X.env whole=(do let v <-whole;standAt a.pos;holding [v] (truthy v))) :
 PT X a (λσ H Q=>ta σ H λx H'=>∃ k,KQ X.K x H' k/\Q k H'):=by
 intro Oj s σ H Q I h;exact isTrue_plain (thn (ha Oj s σ H _ I h) λv s1 uq5=>by(obtain⟨x,H1,I1,r1,q1⟩:=uq5;exact Hs Oj s1 σ H1 x v Q I1 r1 q1)) (he _)
def pj {x:V}{us:List G'}(r:bV [x] us):∃ u,us=[u]/\cy x u:=by
 cases r with
|cons r1 r2=>cases r2;exact⟨_,rfl,r1⟩
def Az {x y:V}{us:List G'}(r:bV [x,y] us):∃ u w',us=[u,w']/\cy x u/\cy y w':=by
 cases r with
|cons r1 r2 =>
  cases r2 with
 |cons r3 r4=>cases r4;exact⟨_,_,rfl,r1,r3⟩
end
structure ObjM (h:Mi) (x dx C:D') (mA:Str->Option G'):Prop where
 obj:h.get? x=f' (instObj C dx)
 ns:h.Ns1 dx mA
 ne:dx≠x
def Bn {h:Mi}{dx:D'}{mA:Str->Option G'}(n:h.Ns1 dx mA):∃ od,h.get? dx=f' od/\∀ name,lookIn name od=f' (mA name):=by
 obtain⟨o,es,ep,ho,hd,hk,_,hm⟩:=n;refine⟨o,ho,λname=>?_⟩;have e:=hm name;unfold nsFind findBy at e;rw[<-Array.find?_toList]at e;unfold lookIn;rw[hd];dsimp only;split
 . rename_i y q;rw[q]at e;exact congrArg f' e
 . rename_i q;rw[q]at e;have a:es.toList.any (·.refKey)=K':=by
    rw[List.any_eq_false];intro y hy;obtain⟨z,t,hkey⟩:=hk y (Array.mem_toList_iff.mp hy);simp[MA.refKey,hkey]
   have a':¬ es.toList.any (·.refKey)=l':=by rw[a];exact Me
   rw[SG a'];exact congrArg f' e
def ObjM.look {h:Mi}{x dx C:D'}{mA:Str->Option G'}(I:ObjM h x dx C mA):∃ od,InstAt h x (instObj C dx) C (f' od)/\∀ name,lookIn name od=f' (mA name) :=
 let ⟨od,ho,hl⟩:=Bn I.ns
 ⟨od,⟨I.obj,rfl,rfl,ho⟩,hl⟩
section
variable {prog:Mg}{w:LZ}{A:Mr}{E:G'->LK->Prop}{s:LK}{K:LN}{x dx C f:D'}{mA:Str->Option G'}{name:Str}{v:G'}
def FI {expr:Bool}{Q:G'->LK->Prop}(X:K.In s.heap) (I:ObjM s.heap x dx C mA) (hg:plainGet K C name=l') (hh:hasDictIn K C=l')
 (ha:M5 K (.ref C) name=f' LJ) (hv:mA name=f' v) (hv':handedIn v=l') (h:Q v { s with toks:=s.toks+1 }) :
 LV (model prog w) A (getAttr (.ref x) name expr) Q E s:=by
 obtain⟨od,J,hl⟩:=I.look;exact get_value X J (plainGet_of hg).1 (findObj_own hh ha rfl (by rw[hl,hv])) hv' h
def CM {pl:Sem Bool}{Q:G' × List G'->LK->Prop}(X:K.In s.heap) (I:ObjM s.heap x dx C mA) (hg:plainGet K C name=l')
 (hf:M5 K (.ref C) name=f' (f' (.ref f))) (ht:isFn K (.ref f)=l') (hv:mA name=LJ) (h:Q (.ref f,[.ref x]) s) :
 LV (model prog w) A (getMethod (.ref x) name pl) Q E s:=by
 obtain⟨od,J,hl⟩:=I.look;exact method_fn X J (plainGet_of hg).1 (plainGet_of hg).2 hf (beq_iff_eq.mp ht) (by show (lookIn name od).map (·.isSome)=f' K';rw[hl,hv];rfl) h
def GX {ns:List Str}{Q:Unit->LK->Prop}(X:K.In s.heap) (I:ObjM s.heap x dx C mA)
 (hs:M5 K (.ref C) "__setattr__"=f' (f' (.builtin "object.__setattr__"))) (hp:plainOver K C=l') (ht:takerIn K C name=f' LJ) (hh:hasDictIn K C=l')
 (hw:PySem.Within mA ns) (hsz:ns.length <= LP)
 (h:∀ h',ObjM h' x dx C (λy=>if y=name then f' v else mA y)->MV dx s.heap h'->Q () { s with heap:=h',toks:=s.toks+2 }) :
 LV (model prog w) A (setAttr (.ref x) name v) Q E s:=by
 obtain⟨od,J,hl⟩:=I.look;refine set_plain X J hs (osa_open (s:={ s with toks:=s.toks+1 }) (r:=LJ) X J hp ht λb=>?_);obtain⟨cd,hc,hd'⟩:=any_some hh;have hx:s.heap.get? x=f' ⟨.ref C,f' dx,.plain,#[]⟩:=I.obj;refine j' (LL (j' (j' (wpAny_loadPart hx (j' (PySem.W.Looks.here (s:={ s with toks:=s.toks+1 }) (looks_clsIn X hc) ?_))))));rw[hd'];refine LL (a:=f' dx) (j' (LL (j' ?_)));refine wpAny_nsSet1 (s:={ s with toks:=s.toks+1 }) I.ns λh' hn2 hs2=>?_
 obtain⟨oD,esD,epD,hoD,hdD,hcD⟩:=hn2.count (PySem.Within.cons name v hw);refine j' (wpAny_lookBehind hoD (by rw[hdD];exact pastItsLine_dict (MG hcD (by rw[Mw];omega))) ?_);exact LL (h _ ⟨(hs2.2 _ (NA I.ne)).trans I.obj,hn2,I.ne⟩ hs2)
def DF {R:Result->LK->Prop}{vs:List G'}{kw:List (Str × G')}(X:K.In s.heap) (hm:makesIn K C=l')
 (hi:M5 K (.ref C) "__init__"=f' (f' (.ref f))) (hf:typeIn K (.ref f)=f' (.type "function"))
 (h:codeAny (model prog w) (A.under (.builtin "type.__call__" ⟨.ref C :: vs,kw⟩)) (.call (.ref f) ⟨.ref (s.heap.objs.size+1) :: vs,kw⟩) (InitBack (s.heap.objs.size+1) R)
  { s with heap:=(s.heap.push emptyDict).push (instObj C s.heap.objs.size) }) :
 codeAny (model prog w) A (.call (.ref C) ⟨vs,kw⟩) R s:=by
 obtain⟨hh,g,d,t,os⟩:=s;exact make_core (makes_of X hm) (PySem.W.looks_findIn X hi) (λself=>bind_fn X self hf) (.inl rfl) h
end
def bj (f:Str) (v:V):List (Str × V)->List (Str × V)
|[]=>[(f,v)]
|(g,x) :: r=>if g=f then (g,v) :: r else (g,x) :: bj f v r
theorem a9 (f g:Str) (v:V):∀ fs:List (Str × V),(bj f v fs).lookup g=if g=f then f' v else fs.lookup g
|[]=>by
  show List.lookup g [(f,v)]=_;by_cases h:g=f
  . have hb:(g == f)=l':=beq_iff_eq.mpr h;simp only[List.lookup,hb,SF h]
  . have hb:(g == f)=K':=beq_eq_false_iff_ne.mpr h;simp only[List.lookup,hb,SG h]
|(k,x) :: r=>by
  have ih:=a9 f g v r;rw[show bj f v ((k,x) :: r)=(if k=f then (k,v) :: r else (k,x) :: bj f v r) from rfl];by_cases hk:k=f
  . rw[SF hk];by_cases h:g=k
    . have hb:(g == k)=l':=beq_iff_eq.mpr h;simp only[List.lookup,hb,SF (h.trans hk)]
    . have hb:(g == k)=K':=beq_eq_false_iff_ne.mpr h;simp only[List.lookup,hb,SG (λe:g=f=>h (e.trans hk.symm))]
  . rw[SG hk];by_cases h:g=k
    . have hb:(g == k)=l':=beq_iff_eq.mpr h;simp only[List.lookup,hb,SG (λe:g=f=>hk (h.symm.trans e))]
    . have hb:(g == k)=K':=beq_eq_false_iff_ne.mpr h;simp only[List.lookup,hb];exact ih
theorem pJ (f:Str) (v:V):∀ fs:List (Str × V),f∈(bj f v fs).map (·.1)/\∀ g,g∈fs.map (·.1)->g∈(bj f v fs).map (·.1)
|[]=>⟨by simp[bj],λg h=>by simp at h⟩
|(k,x) :: r=>by
  obtain⟨i1,i2⟩:=pJ f v r;rw[show bj f v ((k,x) :: r)=(if k=f then (k,v) :: r else (k,x) :: bj f v r) from rfl];by_cases hk:k=f
  . rw[SF hk];subst hk;exact⟨by simp,λg h=>by simpa using h⟩
  . rw[SG hk];refine⟨?_,λg h=>?_⟩
    . rw[Nn];exact Ma _ i1
    . rw[Nn]at h |-;rcases Mf.mp h with e|e
      . exact Mf.mpr (.inl e)
      . exact Ma _ (i2 g e)
theorem pO (f:Str) (v:V):∀ fs:List (Str × V),(bj f v fs).length <= fs.length+1
|[]=>by simp[bj]
|(k,x) :: r=>by
  have ih:=pO f v r;rw[show bj f v ((k,x) :: r)=(if k=f then (k,v) :: r else (k,x) :: bj f v r) from rfl];by_cases hk:k=f
  . rw[SF hk,Mw,Mw];omega
  . rw[SG hk,Mw,Mw];omega
def vL.some_of {v:V}{o:Option G'}(r:vL (f' v) o):∃ u,o=f' u/\cy v u:=by
 cases o with
|none=>exact(show False from r).elim
|some u=>exact⟨u,rfl,r⟩
def vL.none_of {o:Option G'}(r:vL LJ o):o=LJ:=by
 cases o with
|none=>rfl
|some u=>exact(show False from r).elim
def BM {v:V}{u:G'}(r:cy v u):handedIn u=l':=by
 cases v with
|non=>cases (show u=MK from r);rfl
|bl b=>cases (show u=G'.bool b from r);rfl
|int i=>obtain⟨t,e⟩:=(show ∃ t,u=G'.int i t from r);cases e;rfl
|str x=>obtain⟨t,e⟩:=(show ∃ t,u=G'.str x t from r);cases e;rfl
|byt b=>obtain⟨t,e⟩:=(show ∃ t,u=G'.bytes b t from r);cases e;rfl
|flt b=>obtain⟨t,e⟩:=(show ∃ t,u=G'.float b t from r);cases e;rfl
|ref a=>cases (show u=Ml a from r);rfl
|ty n=>cases (show u=G'.type n from r);rfl
section
variable {P:Mg}{w:LZ}{H H':Hp}{h h':Mi}{a C dx:D'}{fs fs':List (Str × V)}
def sB (hok:HOk P w H h) (e:H a=f' (.ins C dx fs)):∃ mA,ObjM h a dx C mA/\(∀ f,vL (fs.lookup f) (mA f))/\PySem.Within mA (fs.map (·.1))/\fs.length <= 1000/\H dx=f' (.own a):=by
 obtain⟨d,z,ne,ob,mA,n,r,q⟩:=(show cQ P w H h a (.ins C dx fs) from hok a _ e)
 exact⟨mA,⟨ob,n,ne⟩,r,q,z,d⟩
end
structure Cls (K:LN) (C:D'):Prop where
 pg:plainGet K C Str.empty=l'
 hd:hasDictIn K C=l'
 po:plainOver K C=l'
 sa:M5 K (.ref C) "__setattr__"=f' (f' (.builtin "object.__setattr__"))
def Cls.get {K:LN}{C:D'}(c:Cls K C) (f:Str):plainGet K C f=l':=c.pg
def aP (K:LN) (C:D') (f:Str):Prop:=M5 K (.ref C) f=f' LJ
def aP.taker {K:LN}{C:D'}{f:Str}(n:aP K C f):takerIn K C f=f' LJ:=by
 unfold takerIn;rw[show M5 K (.ref C) f=f' LJ from n];rfl
structure Meth (K:LN) (C:D') (m:Str) (f:D'):Prop where
 at_:M5 K (.ref C) m=f' (f' (.ref f))
 fn:isFn K (.ref f)=l'
 kp:keepIn K (.ref f)=l'
section
variable {X:Cx}{Oj:List (D' × M6)}{σ:St}{H:Hp}{s:LK}{a C dx:D'}{fs:List (Str × V)}{f:Str}{v:V}{A:Mr}{E:G'->LK->Prop}
def yJ {b:Bool}{Q:G'->LK->Prop}(I:Inv X Oj σ H s) (e:H a=f' (.ins C dx fs)) (c:Cls X.K C) (n:aP X.K C f) (l:fs.lookup f=f' v)
 (h:∀ u s',Inv X Oj σ H s'->cy v u->Q u s'):LV (model X.prog X.w) A (getAttr (.ref a) f b) Q E s:=by
 obtain⟨mA,O,r,_,_,_⟩:=sB I.hok e;obtain⟨u,hu,ru⟩:=vL.some_of (v:=v) (o:=mA f) (by rw[<-l];exact r f);exact FI I.kIn O (c.get f) c.hd n hu (BM ru) (h u _ (I.tok _) ru)
def nk {m:Str}{g:D'}{pl:Sem Bool}{Q:G' × List G'->LK->Prop}(I:Inv X Oj σ H s) (e:H a=f' (.ins C dx fs)) (c:Cls X.K C) (k:Meth X.K C m g) (l:fs.lookup m=LJ)
 (h:Q (.ref g,[.ref a]) s):LV (model X.prog X.w) A (getMethod (.ref a) m pl) Q E s:=by
 obtain⟨mA,O,r,_,_,_⟩:=sB I.hok e;have hn:mA m=LJ:=vL.none_of (by rw[<-l];exact r m);exact CM I.kIn O (c.get m) k.at_ k.fn hn h
def zj {y:V}{u:G'}{Q:Unit->LK->Prop}(I:Inv X Oj σ H s) (e:H a=f' (.ins C dx fs)) (c:Cls X.K C) (n:aP X.K C f) (hl:fs.length < 1000) (ry:cy y u)
 (h:∀ s',Inv X Oj σ (upd H a (.ins C dx (bj f y fs))) s'->Q () s'):LV (model X.prog X.w) A (setAttr (.ref a) f u) Q E s:=by
 obtain⟨mA,O,r,wi,_,ho⟩:=sB I.hok e;have hz:(fs.map (·.1)).length <= LP:=by rw[Md,sizeLine_eq];omega
 refine GX I.kIn O c.sa c.po n.taker c.hd wi hz λh' O' sb=>h _ ?_
 have hd:∃ o,h'.get? dx=f' o:=let ⟨o,_,_,e',_⟩:=O'.ns;⟨o,e'⟩;refine I.write (x:=a) (e:=dx) (by rw[e];exact NQ) (.inr ho) (λb q hb z=>(sb.2 b hb).trans z) hd ?_;refine⟨by rw[ac O.ne];exact ho,?_,O.ne,O'.obj,_,O'.ns,λg=>?_,λg hg=>?_⟩
 . have:=pO f y fs;omega
 . show vL ((bj f y fs).lookup g) (if g=f then f' u else mA g);rw[a9];by_cases q:g=f
   . rw[SF q,SF q];exact ry
   . rw[SG q,SG q];exact r g
 . by_cases q:g=f
   . rw[q];exact(pJ f y fs).1
   . refine(pJ f y fs).2 g (wi g λz=>hg ?_);show (if g=f then f' u else mA g)=LJ;rw[SG q];exact z
def Inv.made (I:Inv X Oj σ H s):Inv X Oj σ (upd (upd H s.heap.objs.size (.own (s.heap.objs.size+1))) (s.heap.objs.size+1) (.ins C s.heap.objs.size []))
 { s with heap:=(s.heap.push emptyDict).push (instObj C s.heap.objs.size) }:=by
 have e1:(s.heap.push emptyDict).get? s.heap.objs.size=f' emptyDict:=LW s.heap rfl;have e2:((s.heap.push emptyDict).push (instObj C s.heap.objs.size)).get? (s.heap.objs.size+1)=f' (instObj C s.heap.objs.size):=by
  have:=LW (s.heap.push emptyDict) (o:=instObj C s.heap.objs.size) rfl;rwa [MM]at this
 have e3:(s.heap.push emptyDict).Ns s.heap.objs.size (λ_=>LJ):=⟨emptyDict,#[],_,e1,rfl,(λe he=>absurd he (by simp)),λ_=>rfl⟩
 have I1:=I.laid (a:=s.heap.objs.size) (o:=.own (s.heap.objs.size+1)) (h':=s.heap.push emptyDict) (t':=s.toks) (λb u q=>LH _ q) (LS _) ⟨_,e1⟩;refine I1.laid (a:=s.heap.objs.size+1) (o:=.ins C s.heap.objs.size []) (t':=s.toks) (λb u q=>LH _ q) (Nat.le_of_eq (MM _ _)) ?_;have ne:s.heap.objs.size≠s.heap.objs.size+1:=Mv (lt_succ_self _);refine⟨by rw[ac ne,a8],Ny _,ne,e2,λ_=>LJ,(Mi.Ns1.of_empty e3).at λo q=>LH _ q,λ_=>NQ,λy hy=>absurd rfl hy⟩
def FN {prog:Mg}{w:LZ}{env:Env}{e:Expr}{f:Str}{pos:Pos}{s:LK}{Q:G'->LK->Prop}(hb:attributeBase e f env (eval e env)=eval e env)
 (h:LV (model prog w) A (eval e env) (λo s₁=>LV (model prog w) A (getAttr o f l') Q E s₁) E s):LV (model prog w) A (eval (.Attribute e f pos) env) Q E s :=
 Attribute_any_ h (by rw[arm_eval_Attribute,hb])
end
def L8 (K:LN) (ta:TE) (f:Str):TE:=λσ H Q=>ta σ H λx H1=>∃ a C dx fs v,x=.ref a/\H1 a=f' (.ins C dx fs)/\Cls K C/\aP K C f/\fs.lookup f=f' v/\Q v H1
def Lz (K:LN) (ta tv:TE) (f:Str):TS:=λD σ H=>tv σ H λy H1=>ta σ H1 λx H2=>∃ a C dx fs,x=.ref a/\H2 a=f' (.ins C dx fs)/\Cls K C/\aP K C f/\fs.length < 1000 /\
 D.nx σ (upd H2 a (.ins C dx (bj f y fs)))
section
variable {X:Cx}{o e value:Expr}{f:Str}{pos pos' tpos:Pos}{ta tv:TE}
def ak (he:PE X e ta) (hb:attributeBase e f X.env (eval e X.env)=eval e X.env):PE X (.Attribute e f pos) (L8 X.K ta f):=by
 intro Oj s σ H Q I h;refine FN hb (thn (he Oj s σ H _ I h) λu s1 ur26=>?_);obtain⟨x,H1,I1,rx,a,C,dx,fs,v,ex,ea,c,n,l,q⟩:=ur26;subst ex;obtain rfl:u=Ml a:=rx;exact yJ I1 ea c n l λu' s2 I2 ru=>⟨v,H1,I2,ru,q⟩
def bh (ha:PE X o ta) (hv:PE X value tv) (hs:swapsWith value (f' (.Attribute o f pos')) pos.line X.env=pure K'):PS X (.Assign [.Attribute o f pos'] value pos) (Lz X.K ta tv f):=by
 intro Oj s σ H D I h;refine plainObj_wpAny_Assign_Attribute (thn (hv Oj s σ H _ I h) λu s1 ⟨y,H1,I1,ry,q⟩=>thn (ha Oj s1 σ H1 _ I1 q) λov s2 ur27=>?_) hs;obtain⟨x,H2,I2,rx,a,C,dx,fs,ex,ea,c,n,l,q2⟩:=ur27;subst ex;obtain rfl:ov=Ml a:=rx;exact zj I2 ea c n l ry λs3 I3=>⟨σ,_,I3,q2⟩
end
section
variable {X:Cx}{Oj:List (D' × M6)}{σ:St}{H:Hp}{s:LK}{A:Mr}{E:G'->LK->Prop}{Q:G'->LK->Prop}{c:G'}{b:Bool}
inductive TyOf (K:LN) (H:Hp):V->G'->Prop where
|non:TyOf K H .non (.type "NoneType")
|bl (x:Bool):TyOf K H (.bl x) (.type "bool")
|int (i:Int):TyOf K H (.int i) (.type "int")
|str (x:Str):TyOf K H (.str x) (.type "str")
|flt (x:UInt64):TyOf K H (.flt x) (.type "float")
|lst {a:D'} {xs:List V} (e:H a=f' (.lst xs)):TyOf K H (.ref a) (.type "list")
|frz {a:D'} {o:M6} {xs:List V} (e:H a=f' (.frz o (.lst xs))):TyOf K H (.ref a) (.type "list")
|tup {a:D'} {xs:List V} (e:H a=f' (.tup xs)):TyOf K H (.ref a) (.type "tuple")
|dK {a:D'} {kvs:List (Key × V)} (e:H a=f' (.dK kvs)):TyOf K H (.ref a) (.type "dict")
|dT {a:D'} {kvs:List (List Key × V)} (e:H a=f' (.dT kvs)):TyOf K H (.ref a) (.type "dict")
|ins {a C dx:D'} {fs:List (Str × V)} (e:H a=f' (.ins C dx fs)) (cl:Cls K C) (ha:M5 K (.ref C) "__class__"=f' (f' (.builtin "object.__class__")))
  (hn:specialIn K (.builtin "object.__class__") "__get__"=f' (f' (.builtin "getset_descriptor.__get__"))) (htk:takesIn K (.builtin "object.__class__")=f' l')
  (hm:PySem.W.mroIn K C (.type "object")=f' l'):TyOf K H (.ref a) (.ref C)
def AU {x:V}{u t:G'}(I:Inv X Oj σ H s) (rx:cy x u) (ty:TyOf X.K H x t) (e:Og X.K t c=f' b) (h:∀ tk,Q (.bool b) { s with toks:=tk }) :
 LV (model X.prog X.w) A (call (.builtin "isinstance") [u,c]) Q E s:=by
 cases ty with
|non=>cases (show u=MK from rx);exact kia_one kitx_none I.kIn NQ e (λz=>nomatch z) h
|bl y=>cases (show u=G'.bool y from rx);exact kia_one kitx_bool I.kIn NQ e (λz=>nomatch z) h
|int i=>obtain⟨t,q⟩:=(show ∃ t,u=G'.int i t from rx);cases q;exact kia_one kitx_int I.kIn NQ e (λz=>nomatch z) h
|str y=>obtain⟨t,q⟩:=(show ∃ t,u=G'.str y t from rx);cases q;exact kia_one kitx_str I.kIn NQ e (λz=>nomatch z) h
|flt y=>obtain⟨t,q⟩:=(show ∃ t,u=G'.float y t from rx);cases q;exact kia_one kitx_float I.kIn NQ e (λz=>nomatch z) h
|@lst a xs ea =>
  cases (show u=Ml a from rx);obtain⟨_,_,n,_,h1⟩:=(show cQ X.prog X.w H s.heap a (.lst xs) from I.hok a _ ea)
  exact kia_one kitx_list I.kIn ⟨_,h1,rfl⟩ e (λz=>nomatch z) h
|@frz a ob xs ea =>
  cases (show u=Ml a from rx);obtain⟨_,_,_,n,_,h1⟩:=(show cQ X.prog X.w H s.heap a (.frz ob (.lst xs)) from I.hok a _ ea)
  exact kia_one kitx_list I.kIn ⟨_,h1,rfl⟩ e (λz=>nomatch z) h
|@tup a xs ea =>
  cases (show u=Ml a from rx);obtain⟨_,_,_,p⟩:=(show cQ X.prog X.w H s.heap a (.tup xs) from I.hok a _ ea)
  obtain⟨o,h1,h2,_⟩:=p;exact kia_one kitx_tuple I.kIn ⟨o,h1,h2⟩ e (λz=>nomatch z) h
|@dK a kvs ea =>
  cases (show u=Ml a from rx);obtain⟨_,_,vs,_,p⟩:=(show cQ X.prog X.w H s.heap a (.dK kvs) from I.hok a _ ea)
  obtain⟨o,es,ep,h1,h2,_⟩:=p;exact kia_one kitx_dict I.kIn ⟨o,h1,h2.1⟩ e (λz=>nomatch z) h
|@dT a kvs ea =>
  cases (show u=Ml a from rx);obtain⟨_,_,xs,_,o,es,ep,h1,h2,_⟩:=(show cQ X.prog X.w H s.heap a (.dT kvs) from I.hok a _ ea)
  exact kia_one kitx_dict I.kIn ⟨o,h1,h2.1⟩ e (λz=>nomatch z) h
|@ins a C dx fs ea cl ha hn htk hm =>
  cases (show u=Ml a from rx);obtain⟨mA,O,_⟩:=sB I.hok ea;obtain⟨od,J,_⟩:=O.look;exact kia_one (kitx_own (cl.get _) cl.hd ha hn htk hm) I.kIn J e (λz=>nomatch z) h
end
structure Room (k:Nat) (A:Mr):Prop where
 hd:A.handled=LJ
 dp:A.depth+3 * k+5 < recursionLimit
 un:A.units+16 * k+200 < Oc
def Room.mono {j k:Nat}{A:Mr}(r:Room k A) (h:j <= k):Room j A:=⟨r.hd,by have:=r.dp;omega,by have:=r.un;omega⟩
theorem Room.deeper {k:Nat}{A:Mr}(r:Room (k+1) A) (env:Env):Room k (A.deeper env) :=
 ⟨r.hd,by have:=r.dp;show A.depth+1+3 * k+5 < _;omega,by have:=r.un;show A.units+3+16 * k+200 < _;omega⟩
def zi {A:Mr}{C:D'}{us:List G'}{kw:List (Str × G')}:(A.under (.builtin "type.__call__" ⟨.ref C :: us,kw⟩)).depth=A.depth+1:=by
 first|rfl|simp[Mr.under,Code.weight,Code.isCreation,Code.isGuard,Code.isCaller,Code.frames,Code.isFrame,guardIds]
def zC {A:Mr}{C:D'}{us:List G'}{kw:List (Str × G')}:(A.under (.builtin "type.__call__" ⟨.ref C :: us,kw⟩)).units=A.units+1:=by
 first|rfl|simp[Mr.under,Code.cUnits,Code.frames,Code.isFrame]
def Room.make {k:Nat}{A:Mr}(r:Room (k+1) A) (C:D') (us:List G') (kw:List (Str × G')):Room k (A.under (.builtin "type.__call__" ⟨.ref C :: us,kw⟩)) :=
 ⟨r.hd,by have:=r.dp;rw[zi];omega,by have:=r.un;rw[zC];omega⟩
theorem Room.depth {k:Nat}{A:Mr}(r:Room k A):A.depth < recursionLimit:=by have:=r.dp;omega
theorem Room.units {k:Nat}{A:Mr}(r:Room k A):A.units+64 < Oc:=by have:=r.un;omega
def vQ:TA:=λ_ H Q=>Q [] H
def io (ta:TE) (tr:TA):TA:=λσ H Q=>ta σ H λx H1=>tr σ H1 λxs H2=>Q (x :: xs) H2
section
variable {X:Cx}{e:Expr}{es:List Expr}{te:TE}{t:TA}{pos:Pos}
def aa:PA X [] vQ:=λ_ _ _ _ H Q I h=>N4 ⟨[],H,I,.nil,h⟩
def Gt (ha:PE X e te) (hr:PA X es t) (hs:Mu (e :: es) X.env=(K',eval e X.env) :: Mu es X.env:=by rfl):PA X (e :: es) (io te t):=by
 intro pos Oj s σ H Q I h;rw[hs];show LV _ _ (spliced ((K',eval e X.env) :: N6 pos (Mu es X.env))) _ _ s;refine Nh (thn (ha Oj s σ H _ I h) λu s1 ur28=>?_);obtain⟨x,H1,I1,r1,q1⟩:=ur28;exact thn (hr pos Oj s1 σ H1 _ I1 q1) λus s2 uq6=>by(obtain⟨xs,H2,I2,r2,q2⟩:=uq6;exact ⟨x :: xs,H2,I2,.cons r1 r2,q2⟩)
def JY (t:TA):TE:=λσ H Q=>t σ H λxs H1=>xs.length <= LP/\∀ p,H1 p=LJ->Q (.ref p) (upd H1 p (.tup xs))
def K4 (t:TA):TE:=λσ H Q=>t σ H λxs H1=>xs.length <= LP/\∀ p,H1 p=LJ->Q (.ref p) (upd H1 p (.lst xs))
def bO {x1}(h:PA X es t):PE X (.Tuple es x1 pos) (JY t):=by
 intro Oj s σ H Q I hq;refine wpAny_Tuple_spliced (thn (h pos Oj s σ H _ I hq) λus s1 ⟨xs,H1,I1,r,z,q⟩=>⟨by rw[<-r.length];exact z,?_⟩);have hf:H1 s1.heap.objs.size=LJ:=I1.hok.fresh (LS _);refine⟨.ref s1.heap.objs.size,upd H1 s1.heap.objs.size (.tup xs),I1.laid (t':=s1.toks) (λb u e=>LH _ e) (LS _) ?_,rfl,q _ hf⟩;exact⟨z,us,r,⟨_,LW _ rfl,rfl,_,rfl⟩⟩
def bo (h:PA X es t):PE X (.List es pos) (K4 t):=by
 intro Oj s σ H Q I hq;refine wpAny_List_spliced (thn (h pos Oj s σ H _ I hq) λus s1 ⟨xs,H1,I1,r,z,q⟩=>⟨by rw[<-r.length];exact z,?_⟩);have hf:H1 s1.heap.objs.size=LJ:=I1.hok.fresh (LS _);refine⟨.ref s1.heap.objs.size,upd H1 s1.heap.objs.size (.lst xs),I1.laid (t':=s1.toks) (λb u e=>LH _ e) (LS _) ?_,rfl,q _ hf⟩;exact⟨z,us,0,r,LW _ rfl⟩
end
abbrev Sp:=List V->Hp->VK->XK->Prop
abbrev CXT:=List Env->Hp->LK->XK->G'->LK->Prop
structure Env0 (P:Mg) (w:LZ) (K:LN) (mg:Str->Option G') (base:Mi) (A:Mr) (outer:List Env) (s:LK) (H:Hp):Prop where
 frames:A.frames=f' outer
 mod:Mod K mg base
 bs:∀ b o,base.get? b=f' o->s.heap.get? b=f' o/\H b=LJ
 bsz:base.objs.size <= s.heap.objs.size
 funs:s.heap.FunFrames base outer
 frf:∀ b∈frs outer,H b=LJ
 hok:HOk P w H s.heap
 bare:AllBare s.gens
def CE (outer:List Env) (P:Mg) (w:LZ) (H:Hp) (s:LK) (Q:VK) (u:G') (s':LK):Prop :=
 ∃ v H',s'.os=s.os/\AllBare s'.gens/\Un (frs outer) [] H H' s.heap s'.heap/\HOk P w H' s'.heap/\cy v u/\Q v H'
def CR (CX:CXT) (outer:List Env) (P:Mg) (w:LZ) (H:Hp) (s:LK) (Q:VK) (E:XK) (r:Result) (s':LK):Prop :=
 match r with
|.ok (.ret u)=>CE outer P w H s Q u s'
|.ok _=>False
|.error e=>CX outer H s E e s'
structure FnOk (P:Mg) (w:LZ) (K:LN) (mg:Str->Option G') (base:Mi) (CX:CXT) (k:Nat) (f:D') (fd:LX) (ps:List Str) (sp:Sp):Prop where
 len:∀ vs H Q E,sp vs H Q E->vs.length=ps.length
 run:∀ (A:Mr) (outer:List Env) (s:LK) (H:Hp) (args:Args) (us:List G') (vs:List V) (Q:VK) (E:XK),Room k A->Env0 P w K mg base A outer s H->BindsTo s fd args (ps.zip us)->bV vs us->sp vs H Q E ->
  codeAny (model P w) A (.call (.ref f) args) (CR CX outer P w H s Q E) s
def FnOk.imp {P:Mg}{w:LZ}{K:LN}{mg:Str->Option G'}{base:Mi}{CX:CXT}{k:Nat}{f:D'}{fd:LX}{ps:List Str}{sp sp':Sp}(F:FnOk P w K mg base CX k f fd ps sp)
 (h:∀ vs H Q E,sp' vs H Q E->sp vs H Q E):FnOk P w K mg base CX k f fd ps sp' :=
 ⟨λvs H Q E q=>F.len vs H Q E (h _ _ _ _ q),λA outer s H args us vs Q E hr he hb hv hs=>F.run A outer s H args us vs Q E hr he hb hv (h _ _ _ _ hs)⟩
def Env0.make {P:Mg}{w:LZ}{K:LN}{mg:Str->Option G'}{base:Mi}{A:Mr}{outer:List Env}{s:LK}{H:Hp}(e:Env0 P w K mg base A outer s H) (C:D') (us:List G') (kw:List (Str × G')) :
 Env0 P w K mg base (A.under (.builtin "type.__call__" ⟨.ref C :: us,kw⟩)) outer s H:=⟨by first|exact e.frames|(simpa [Mr.under,Code.envs,Code.isFrame,pushEnvs] using e.frames),e.mod,e.bs,e.bsz,e.funs,e.frf,e.hok,e.bare⟩
section
variable {X:Cx}{Oj:List (D' × M6)}{σ:St}{H:Hp}{s s':LK}
def Inv.env0 (I:Inv X Oj σ H s):Env0 X.prog X.w X.K X.mg X.base X.A X.stack s H :=
 ⟨I.ok.frames,I.ok.mod,I.bs,MG I.ok.bsz I.sz,I.stack,I.stkFree,I.hok,I.bare⟩
def Inv.after {Q:VK}{u:G'}(I:Inv X Oj σ H s) (h:CE X.stack X.prog X.w H s Q u s'):EP X Oj σ Q u s':=by
 obtain⟨v,H',os,bare,un,hok,r,q⟩:=h;obtain⟨hh,g,d,t,os'⟩:=s';obtain rfl:os'=s.os:=os;exact⟨v,H',I.call (h':=hh) (g':=g) (d':=d) (t':=t) (ch:=[]) un hok bare (λb z=>absurd z (by simp)),r,q⟩
end
def zf (sp:Sp) (dvs:List V) (E:XK) (t:TA):TE:=λσ H Q=>t σ H λvs H1=>sp (vs++dvs) H1 Q E
def GN (C:D') (m:Str) (sp:Sp) (dvs:List V) (E:XK) (ta:TE) (t:TA):TE:=λσ H Q=>ta σ H λx H1=>∃ a dx fs,x=.ref a/\H1 a=f' (.ins C dx fs)/\fs.lookup m=LJ /\
 t σ H1 λvs H2=>sp (x :: (vs++dvs)) H2 Q E
def HF (C:D') (sp:Sp) (dvs:List V) (E:XK) (t:TA):TE:=λσ H Q=>t σ H λvs H1=>∀ x dx,H1 x=LJ->H1 dx=LJ->dx≠x ->
 sp (.ref x :: (vs++dvs)) (upd (upd H1 dx (.own x)) x (.ins C dx [])) (λv H2=>v=.non/\Q (.ref x) H2) E
def az (K:LN) (fd:LX) (ps:List Str) (ds:List G'):Prop :=
 ∀ (s:LK) (us:List G'),K.In s.heap->(us++ds).length=ps.length->BindsTo s fd ⟨us,[]⟩ (ps.zip (us++ds))
def az.all {K:LN}{fd:LX}{ps:List Str}(h:∀ us:List G',us.length=ps.length->bindArgs fd ⟨us,[]⟩=pure (ps.zip us)):az K fd ps []:=λs us _ hl=>by
 rw[append_nil]at hl |-;exact .of_eq (h us hl)
def gF (CX:CXT) (X:Cx) (E:XK):Prop:=∀ (Oj:List (D' × M6)) (σ:St) (H:Hp) (s:LK) (e:G') (s':LK),Inv X Oj σ H s->CX X.stack H s E e s'->X.xe e s'
section
variable {X:Cx}{CX:CXT}{k:Nat}{f C:D'}{fd:LX}{ps:List Str}{sp:Sp}{dvs:List V}{ds:List G'}{E:XK}{x m:Str}{p pos apos:Pos}{e o:Expr}{es:List Expr}{ta:TE}{t:TA}
def xD {Oj:List (D' × M6)}{σ:St}{H:Hp}{s:LK}{Q:VK}{us:List G'}{vs:List V}(F:FnOk X.prog X.w X.K X.mg X.base CX k f fd ps sp) (hr:Room k X.A) (hb:az X.K fd ps ds) (hd:bV dvs ds) (hx:gF CX X E)
 (I:Inv X Oj σ H s) (r:bV vs us) (h:sp (vs++dvs) H Q E):LV (model X.prog X.w) X.A (call (.ref f) us) (EP X Oj σ Q) X.xe s:=by
 have r2:bV (vs++dvs) (us++ds):=r.append hd;have hl:(us++ds).length=ps.length:=by rw[<-r2.length];exact F.len _ _ _ _ h
 refine wpAny_call (codeAny_mono (F.run X.A X.stack s H ⟨us,[]⟩ (us++ds) (vs++dvs) Q E hr I.env0 (hb s us I.kIn hl) r2 h) λr s' hq=>?_);cases r with
|error e=>exact hx Oj σ H s e s' I hq
|ok fl =>
  cases fl with
 |ret u=>exact I.after hq
 |next=>exact Nf hq
 |brk=>exact Nf hq
 |cont=>exact Nf hq
def ax (F:FnOk X.prog X.w X.K X.mg X.base CX k f fd ps sp) (hr:Room k X.A) (hg:Gl X x) (hm:X.mg x=f' (.ref f)) (hk:keepIn X.K (.ref f)=l') (hb:az X.K fd ps ds) (hd:bV dvs ds) (hx:gF CX X E)
 (ha:PA X (e :: es) t) (hdb:(x == ("__debug__":Str))=K':=by decide) (he:Mu (e :: es) X.env=(K',eval e X.env) :: Mu es X.env:=by rfl) (hpl:(N6 pos (Mu es X.env)).any (·.1)=K':=by rfl) :
 PE X (.Call (.Name x p) (e :: es) [] pos) (zf sp dvs E t):=by
 intro Oj s σ H Q I h;refine NY (eT I hg hm ?_ hdb);refine callWith_K (h₀:=X.base) I.ok.mod.kin hk (thn (ha pos Oj s σ H _ I h) λus s1 ⟨vs,H1,I1,r,q⟩=>⟨I1.kIn,?_⟩) he hpl;exact xD F hr hb hd hx I1 r q
def D0 (F:FnOk X.prog X.w X.K X.mg X.base CX k f fd ps sp) (hr:Room k X.A) (hg:Gl X x) (hm:X.mg x=f' (.ref f)) (hk:keepIn X.K (.ref f)=l') (hb:az X.K fd ps ds) (hd:bV dvs ds) (hx:gF CX X E)
 (hdb:(x == ("__debug__":Str))=K':=by decide):PE X (.Call (.Name x p) [] [] pos) (zf sp dvs E vQ):=by
 intro Oj s σ H Q I h;refine NY (eT I hg hm ?_ hdb);exact callWith_K0 I.kIn hk (xD (us:=[]) F hr hb hd hx I .nil h)
def ar {pl:Sem Bool}(he:PE X o ta) (c:Cls X.K C) (hm:Meth X.K C m f) (F:FnOk X.prog X.w X.K X.mg X.base CX k f fd ps sp) (hr:Room k X.A) (hb:az X.K fd ps ds) (hd:bV dvs ds) (hx:gF CX X E) (ha:PA X (e :: es) t)
 (hst:Mu (e :: es) X.env=(K',eval e X.env) :: Mu es X.env:=by rfl) (hpl:(N6 pos (Mu es X.env)).any (·.1)=K':=by rfl)
 (ht:eval (.Call (.Attribute o m apos) (e :: es) [] pos) X.env=(do
  let ov <-eval o X.env
  standAt apos.atName
  let (f,first) <-holding [ov] (getMethod ov m pl)
  callWith pos f first (N6 pos (Mu (e :: es) X.env)) (backToKw pos (keywordEach [] X.env))):=by rfl) :
 PE X (.Call (.Attribute o m apos) (e :: es) [] pos) (GN C m sp dvs E ta t):=by
 intro Oj s σ H Q I h;refine methodCall_KW (pl:=pl) (thn (he Oj s σ H _ I h) λu s1 ur29=>?_) ht;obtain⟨x,H1,I1,rx,a,dx,fs,ex,ea,l,q⟩:=ur29;subst ex;obtain rfl:u=Ml a:=rx;refine nk I1 ea c hm l ?_;refine callWith_K (first:=[.ref a]) (h₀:=X.base) I.ok.mod.kin hm.kp (thn (ha pos Oj s1 σ H1 _ I1 q) λus s2 ⟨vs,H2,I2,r,q2⟩=>⟨I2.kIn,?_⟩) hst hpl;exact xD (us:=.ref a :: us) (vs:=.ref a :: vs) F hr hb hd hx I2 (.cons rfl r) q2
def aV {pl:Sem Bool}(he:PE X o ta) (c:Cls X.K C) (hm:Meth X.K C m f) (F:FnOk X.prog X.w X.K X.mg X.base CX k f fd ps sp) (hr:Room k X.A) (hb:az X.K fd ps ds) (hd:bV dvs ds) (hx:gF CX X E)
 (ht:eval (.Call (.Attribute o m apos) [] [] pos) X.env=(do
  let ov <-eval o X.env
  standAt apos.atName
  let (f,first) <-holding [ov] (getMethod ov m pl)
  callWith pos f first (N6 pos (Mu [] X.env)) (backToKw pos (keywordEach [] X.env))):=by rfl) :
 PE X (.Call (.Attribute o m apos) [] [] pos) (GN C m sp dvs E ta vQ):=by
 intro Oj s σ H Q I h;refine methodCall_KW (pl:=pl) (thn (he Oj s σ H _ I h) λu s1 ur30=>?_) ht;obtain⟨x,H1,I1,rx,a,dx,fs,ex,ea,l,q⟩:=ur30;subst ex;obtain rfl:u=Ml a:=rx;refine nk I1 ea c hm l ?_;exact callWith_K0 (first:=[.ref a]) I1.kIn hm.kp (xD (us:=[.ref a]) (vs:=[.ref a]) F hr hb hd hx I1 (.cons rfl .nil) q)
structure Mk (K:LN) (C f:D'):Prop where
 makes:makesIn K C=l'
 init:M5 K (.ref C) "__init__"=f' (f' (.ref f))
 fn:isFn K (.ref f)=l'
 kp:keepIn K (.ref C)=l'
def yB {Oj:List (D' × M6)}{σ:St}{H:Hp}{s:LK}{Q:VK}{us:List G'}{vs:List V}(M:Mk X.K C f) (F:FnOk X.prog X.w X.K X.mg X.base CX k f fd ps sp) (hr:Room (k+1) X.A) (hb:az X.K fd ps ds) (hd:bV dvs ds)
 (hx:gF CX X E) (I:Inv X Oj σ H s) (r:bV vs us)
 (h:∀ x dx,H x=LJ->H dx=LJ->dx≠x->sp (.ref x :: (vs++dvs)) (upd (upd H dx (.own x)) x (.ins C dx [])) (λv H2=>v=.non/\Q (.ref x) H2) E) :
 LV (model X.prog X.w) X.A (call (.ref C) us) (EP X Oj σ Q) X.xe s:=by
 have hq:=h (s.heap.objs.size+1) s.heap.objs.size (I.hok.fresh (le_succ _)) (I.hok.fresh (LS _)) (Mv (lt_succ_self _));have I2:=Inv.made (C:=C) I;have r2:bV (V.ref (s.heap.objs.size+1) :: (vs++dvs)) (Ml (s.heap.objs.size+1) :: (us++ds)):=.cons rfl (r.append hd);have hl:(Ml (s.heap.objs.size+1) :: us++ds).length=ps.length:=by
  have e:=r2.length;rw[F.len _ _ _ _ hq]at e;exact e.symm
 refine wpAny_call (DF (f:=f) I.kIn M.makes M.init (beq_iff_eq.mp M.fn) (codeAny_mono (F.run _ X.stack _ _ ⟨Ml (s.heap.objs.size+1) :: us,[]⟩ (Ml (s.heap.objs.size+1) :: (us++ds)) _ _ E (hr.make C us [])
  (I2.env0.make C us []) (hb _ (Ml (s.heap.objs.size+1) :: us) I2.kIn hl) r2 hq) λr s' hq'=>?_))
 cases r with
|error e=>exact hx Oj σ _ _ e s' I2 hq'
|ok fl =>
  cases fl with
 |ret u =>
   obtain⟨v,H',I3,rv,ev,q3⟩:=I2.after hq';subst ev;exact⟨rv,⟨V.ref (s.heap.objs.size+1),H',I3,rfl,q3⟩⟩
 |next=>exact Nf hq'
 |brk=>exact Nf hq'
 |cont=>exact Nf hq'
def kB (M:Mk X.K C f) (F:FnOk X.prog X.w X.K X.mg X.base CX k f fd ps sp) (hr:Room (k+1) X.A) (hg:Gl X x) (hm:X.mg x=f' (.ref C)) (hb:az X.K fd ps ds) (hd:bV dvs ds) (hx:gF CX X E)
 (ha:PA X (e :: es) t) (hdb:(x == ("__debug__":Str))=K':=by decide) (he:Mu (e :: es) X.env=(K',eval e X.env) :: Mu es X.env:=by rfl) (hpl:(N6 pos (Mu es X.env)).any (·.1)=K':=by rfl) :
 PE X (.Call (.Name x p) (e :: es) [] pos) (HF C sp dvs E t):=by
 intro Oj s σ H Q I h;refine NY (eT I hg hm ?_ hdb);refine callWith_K (h₀:=X.base) I.ok.mod.kin M.kp (thn (ha pos Oj s σ H _ I h) λus s1 ⟨vs,H1,I1,r,q⟩=>⟨I1.kIn,?_⟩) he hpl;exact yB M F hr hb hd hx I1 r q
def sk (M:Mk X.K C f) (F:FnOk X.prog X.w X.K X.mg X.base CX k f fd ps sp) (hr:Room (k+1) X.A) (hg:Gl X x) (hm:X.mg x=f' (.ref C)) (hb:az X.K fd ps ds) (hd:bV dvs ds) (hx:gF CX X E)
 (hdb:(x == ("__debug__":Str))=K':=by decide):PE X (.Call (.Name x p) [] [] pos) (HF C sp dvs E vQ):=by
 intro Oj s σ H Q I h;refine NY (eT I hg hm ?_ hdb);exact callWith_K0 I.kIn M.kp (yB (us:=[]) M F hr hb hd hx I .nil h)
end
section
variable {X:Cx}{CX:CXT}{k:Nat}{f C:D'}{fd:LX}{ps ks:List Str}{sp:Sp}{E:XK}{x m:Str}{p pos apos kpos:Pos}{e o:Expr}{es:List Expr}{kws:List Keyword}{te ta:TE}{t tk:TA}{nm:Option Str}
variable {g:List G'->List G'->List G'}{gV:List V->List V->List V}
end
structure FnScope (N P:List Str) (sc:Scope):Prop where
 kind:sc.kind=.function
 co:sc.isCoroutine=K'
 gen:sc.isGenerator=K'
 nd:N.Nodup
 pre:N.take P.length=P
 par:∀ x∈P,sc.names.lookup x=f' .local\/sc.names.lookup x=f' .cell
 nofree:∀ y∈sc.names,y.2≠.free
theorem vD {kindOf:Str->Option NameKind}{x:Str}:∀ {binds:List (Str × G')}{m:Str->Option G'},(∀ v,(x,v) ∉ binds)->bindL kindOf binds m x=m x
|[],_,_=>rfl
|(n,v) :: r,m,h=>by
  unfold bindL;rw[vD λw hw=>h w (Ma _ hw)];split
  . have:x≠n:=by rintro rfl;exact h v LY
    simp[this]
  . rfl
theorem uH {kindOf:Str->Option NameKind}{x:Str}:∀ {binds:List (Str × G')}{m:Str->Option G'},(∀ v,(x,v) ∉ binds)->bindC kindOf binds m x=m x
|[],_,_=>rfl
|(n,v) :: r,m,h=>by
  unfold bindC;rw[uH λw hw=>h w (Ma _ hw)];split
  . rfl
  . have:x≠n:=by rintro rfl;exact h v LY
    simp[this]
theorem uw {kindOf:Str->Option NameKind}{x:Str}{v:G'}:∀ {P:List Str}{vs:List G'}{i:Nat}{m:Str->Option G'},P.Nodup->P[i]?=f' x->vs[i]?=f' v->kindOf x=f' .local ->
 bindL kindOf (P.zip vs) m x=f' v
|[],_,_,_,_,h,_,_=>by simp at h
|_ :: _,[],_,_,_,_,h,_=>by simp at h
|p :: P,w :: vs,0,m,nd,h1,h2,hk=>by
  simp at h1 h2;subst h1;subst h2;show bindL kindOf ((p,w) :: P.zip vs) m p=_;unfold bindL;rw[vD λv hv=>(NW.mp nd).1 (of_mem_zip hv).1,SF hk];simp
|p :: P,w :: vs,i+1,m,nd,h1,h2,hk=>by
  show bindL kindOf ((p,w) :: P.zip vs) m x=_;unfold bindL;exact uw (i:=i) (NW.mp nd).2 (by simpa using h1) (by simpa using h2) hk
theorem uY {kindOf:Str->Option NameKind}{x:Str}{v:G'}:∀ {P:List Str}{vs:List G'}{i:Nat}{m:Str->Option G'},P.Nodup->P[i]?=f' x->vs[i]?=f' v->kindOf x≠f' .local ->
 bindC kindOf (P.zip vs) m x=f' v
|[],_,_,_,_,h,_,_=>by simp at h
|_ :: _,[],_,_,_,_,h,_=>by simp at h
|p :: P,w :: vs,0,m,nd,h1,h2,hk=>by
  simp at h1 h2;subst h1;subst h2;show bindC kindOf ((p,w) :: P.zip vs) m p=_;unfold bindC;rw[uH λv hv=>(NW.mp nd).1 (of_mem_zip hv).1,SG hk];simp
|p :: P,w :: vs,i+1,m,nd,h1,h2,hk=>by
  show bindC kindOf ((p,w) :: P.zip vs) m x=_;unfold bindC;exact uY (i:=i) (NW.mp nd).2 (by simpa using h1) (by simpa using h2) hk
def sM (N:List Str) (vs:List V):St:=vs.map f'++replicate (N.length - vs.length) LJ
def Fh (CX:CXT) (P:Mg) (w:LZ) (K:LN) (mg:Str->Option G') (base:Mi) (N:List Str) (qual:Str) (scope:Scope) (f:D') (cd:G') (A:Mr) (outer:List Env) (s:LK) (H:Hp) (E:XK):Cx where
 prog:=P
 w:=w
 K:=K
 mg:=mg
 base:=base
 A:=A.deeper (envOfC qual scope s.heap.objs.size f cd)
 N:=N
 s₀:=s
 H₀:=H
 env:=envOfC qual scope s.heap.objs.size f cd
 outer:=outer
 stack:=envOfC qual scope s.heap.objs.size f cd :: outer
 ex:=[]
 calm:=l'
 fn:=λ_=>l'
 pn:=[]
 xe:=λe s'=>LV (model P w) (A.deeper (envOfC qual scope s.heap.objs.size f cd)) (leaving (envOfC qual scope s.heap.objs.size f cd) e) (λ_ s''=>CX outer H s E e s'') (λe' s''=>CX outer H s E e' s'') s'
def wU {sc:Scope}{n:Nat}{x:Str}(h:sc.names.lookup x=f' .cell):∃ c,(cellsFrom n sc.names []).lookup x=f' c:=by
 have q:=cellsFrom_some sc.names n [] (.inl h);exact isSome_iff_exists.mp q
def AR {CX:CXT}{P:Mg}{w:LZ}{K:LN}{mg:Str->Option G'}{base:Mi}{N ps:List Str}{qual:Str}{scope:Scope}{f:D'}{cd:G'}{A:Mr}{outer:List Env}{s s1:LK}{H:Hp}{E:XK}{us:List G'}{vs:List V}
 (S:FnScope N ps scope) (hd:A.handled=LJ) (e0:Env0 P w K mg base A outer s H) (hl:vs.length=ps.length) (r:bV vs us)
 (x:InCallC s s.heap.objs.size (bindL (envOfC qual scope s.heap.objs.size f cd).kindOf (ps.zip us) λ_=>LJ) (cellsFrom (s.heap.objs.size+1) scope.names []) (bindC (envOfC qual scope s.heap.objs.size f cd).kindOf (ps.zip us) λ_=>LJ) s1) :
 Inv (Fh CX P w K mg base N qual scope f cd A outer s H E) [] (sM N vs) H s1:=by
 have hpl:ps.length <= N.length:=by have:=congrArg N7 S.pre;rw[NN]at this;omega
 obtain⟨h1,tk,rfl,hk⟩:=x.done;have noA:∀ b:D',b ∉ (Fh CX P w K mg base N qual scope f cd A outer s H E).ex:=λb z=>absurd (show b∈([]:List D') from z) (by simp)
 refine⟨⟨e0.mod,S.kind,rfl,rfl,LS _,λy z c h1 h2=>?_,λy hy=>?_,λy c _ h=>?_,λ_=>hd,Mr.frames_deeper e0.frames,.inr ⟨rfl,rfl⟩,λb z=>absurd z (noA b),e0.bs,e0.bsz,λb _ _=>noA b,λb z=>absurd z (noA b),e0.funs,e0.frf⟩,
  rfl,e0.bare,Un.kept hk,⟨_,x.toInCall.ns,λi y v h1 h2 h3=>?_⟩,λy c h=>⟨_,x.cell y c h⟩,e0.hok.fresh (LS _),λy c h=>?_,λp hp=>absurd (show p∈([]:List (D' × M6)) from hp) (by simp),e0.hok.kept hk,?_⟩
 . exact name_of_addr x.apart (PySem.mem_of_lookup h1) (PySem.mem_of_lookup h2)
 . have hy:scope.names.lookup y=f' .cell\/scope.names.lookup y=f' .free:=hy;rcases hy with hy|hy
   . exact wU hy
   . exact absurd rfl (S.nofree _ (PySem.mem_of_lookup hy))
 . exact Nat.le_of_lt (x.above y c (PySem.mem_of_lookup h))
 . have hi:i < vs.length:=by
    unfold sM at h2;by_cases hi:i < vs.length
    . exact hi
    . rw[List.getElem?_append_right (by simpa using hi)]at h2;rw[List.getElem?_replicate]at h2;split at h2<;>cases h2
   have ha:vs[i]?=f' v:=by
    unfold sM at h2;rw[List.getElem?_append_left (by simpa using hi),Mp]at h2;cases e:vs[i]? with
   |none=>rw[e]at h2;cases h2
   |some a=>rw[e]at h2;cases h2;rfl
   obtain⟨u,hu,rv⟩:=r.get ha;have hp:ps[i]?=f' y:=by
    rw[<-S.pre,List.getElem?_take_of_lt (by omega)];exact h1
   have ndP:ps.Nodup:=by rw[<-S.pre];exact S.nd.sublist (List.take_sublist _ _)
   refine⟨u,rv,?_⟩;rcases S.par y (MF hp) with k|k
   . exact .inl ⟨k,uw ndP hp hu k⟩
   . obtain⟨c,e⟩:=wU (n:=s.heap.objs.size+1) k;refine .inr ⟨.inl k,c,e,?_⟩;have q:=x.cell y c e;rw[uY ndP hp hu (by show scope.names.lookup y≠_;rw[k];decide)]at q;exact q
 . exact e0.hok.fresh (Nat.le_of_lt (x.above y c (PySem.mem_of_lookup h)))
 . unfold sM;show _=N.length;rw[LU,Md,Nx];omega
def Jf {CX:CXT}{P:Mg}{w:LZ}{K:LN}{mg:Str->Option G'}{base:Mi}{k:Nat}{f:D'}{name qual:Str}{params:Arguments}{body:List MJ}{scope:Scope}{dV kV doc pm cdv ct oc:G'}{an od:Option D'}
 {osl:Array (Option G')} {N ps:List Str} {sp:Sp} (lk:K.lookup f=f' ⟨oc,od,.func (fnOf name qual params body scope dV kV doc pm an cdv ct),osl⟩) (hcd:codeIn K cdv qual=l') (S:FnScope N ps scope)
 (len:∀ vs H Q E,sp vs H Q E->vs.length=ps.length)
 (hbody:∀ (A:Mr) (outer:List Env) (s:LK) (H:Hp) (vs:List V) (Q:VK) (E:XK),Room k (A.deeper (envOfC qual scope s.heap.objs.size f cdv))->sp vs H Q E ->
  ∃ t,PSs (Fh CX P w K mg base N qual scope f cdv A outer s H E) body t/\t { nx:=λ_ H'=>Q .non H',rt:=Q } (sM N vs) H) :
 FnOk P w K mg base CX (k+1) f (fnOf name qual params body scope dV kV doc pm an cdv ct) ps sp:=by
 refine⟨len,λA outer s H args us vs Q E hr e0 hb r hsp=>?_⟩;have hl:=len _ _ _ _ hsp;have KX:K.In s.heap:=e0.mod.kin.keeps λb o e=>(e0.bs b o e).1
 have lim:s.heap.NoLimit:=e0.mod.nolimit.keeps λb o e=>(e0.bs b o e).1
 have hkind:∀ y∈ps.zip us,scope.names.lookup y.1=f' .local\/(scope.names.lookup y.1=f' .cell/\((cellsFrom (s.heap.objs.size+1) scope.names []).lookup y.1).isSome=l'):=λ⟨n,v⟩ hy=>by
  rcases S.par n (of_mem_zip hy).1 with q|q
  . exact .inl q
  . exact .inr ⟨q,cellsFrom_some _ _ _ (.inl q)⟩
 refine codeAny_call_function hr.depth (KX _ _ lk) rfl S.co S.gen rfl (codeRec_of KX hcd) (hb _ _ _ _ ?_);refine wpAny_newFunctionEnv_cells S.kind hkind λenv he s1 x=>?_
 subst he;refine⟨lim.keeps x.toInCall.keep,codeAny_func ?_⟩;obtain⟨t,ht,hq⟩:=hbody A outer s H vs Q E (hr.deeper _) hsp;have I:Inv (Fh CX P w K mg base N qual scope f cdv A outer s H E) [] (sM N vs) H s1:=AR S hr.hd e0 hl r x;refine N8 (ht [] s1 (sM N vs) H _ I hq) (λfl s' hs=>?_) λe s' hs=>hs
 have fin:∀ {σ':St} {H':Hp} {v:V} {u:G'},Inv (Fh CX P w K mg base N qual scope f cdv A outer s H E) [] σ' H' s'->cy v u->Q v H'->CE outer P w H s Q u s' :=
  λ{σ' H' v u} J rv q=>⟨v,H',J.os,J.bare,J.base,J.hok,rv,q⟩
 cases fl with
|ret u =>
  obtain⟨v,σ',H',J,rv,q⟩:=hs;exact fin J rv q
|next =>
  obtain⟨σ',H',J,q⟩:=hs;exact fin (v:=V.non) (u:=MK) J rfl q
|brk =>
  obtain⟨_,_,_,q⟩:=hs;exact Nf q
|cont =>
  obtain⟨_,_,_,q⟩:=hs;exact Nf q
section
variable {X:Cx}{x:Str}{p pos:Pos}{e:Expr}{es:List Expr}{t:TA}{id T:String}{r:List V->Hp->VK->Prop}
def tCB (r:List V->Hp->VK->Prop) (t:TA):TE:=λσ H Q=>t σ H λvs H1=>r vs H1 Q
def aA (hc:kZ X (.builtin id) r) (hg:Gl X x) (hm:X.mg x=LJ) (hv:MO x=f' (.builtin id)) (ha:PA X (e :: es) t) (hn:x≠"__name__":=by decide) (hdb:(x == ("__debug__":Str))=K':=by decide)
 (he:Mu (e :: es) X.env=(K',eval e X.env) :: Mu es X.env:=by rfl) (hpl:(N6 pos (Mu es X.env)).any (·.1)=K':=by rfl):PE X (.Call (.Name x p) (e :: es) [] pos) (tCB r t):=by
 intro Oj s σ H Q I h;refine NY (nL I hg hm hv ?_ hn hdb);exact PyProof.Rows.callWith_builtin1 (thn (ha pos Oj s σ H _ I h) λus s1 uq7=>by(obtain⟨vs,H1,I1,r1,q1⟩:=uq7;exact hc Oj s1 σ H1 vs us Q I1 r1 q1)) he hpl
def b5 (hc:kZ X (.type T) r) (hg:Gl X x) (hm:X.mg x=LJ) (hv:MO x=f' (.type T)) (ha:PA X (e :: es) t) (hn:x≠"__name__":=by decide) (hdb:(x == ("__debug__":Str))=K':=by decide)
 (he:Mu (e :: es) X.env=(K',eval e X.env) :: Mu es X.env:=by rfl) (hpl:(N6 pos (Mu es X.env)).any (·.1)=K':=by rfl):PE X (.Call (.Name x p) (e :: es) [] pos) (tCB r t):=by
 intro Oj s σ H Q I h;refine NY (nL I hg hm hv ?_ hn hdb);exact Nb (thn (ha pos Oj s σ H _ I h) λus s1 uq8=>by(obtain⟨vs,H1,I1,r1,q1⟩:=uq8;exact hc Oj s1 σ H1 vs us Q I1 r1 q1)) he hpl
end
end L2
namespace HT
open PySem PyProof.Rows
section
open PySem.SeqAt
open PySem.AutoSeq1 (wpAny_loadPart')
open PySem.MeetsSeq PySem.MeetsSeq2 PySem.MeetsSeq3
end
section
variable {prog:Mg}{w:LZ}{A:Mr}{E:G'->LK->Prop}{s:LK}
def sIx (n d:Nat):Option Int->Nat
|none=>d
|some v=>if v < 0 then (v+(n:Int)).toNat else min v.toNat n
def sIx_nat (n d k:Nat):sIx n d (f' (k:Int))=min k n:=by
 show (if (k:Int) < 0 then ((k:Int)+(n:Int)).toNat else min (k:Int).toNat n)=min k n;rw[SG (by omega),toNat_natCast]
def IK (n d:Nat) (hd:d <= n) (o:Option Int):sIx n d o <= n:=by
 cases o with
|none=>exact hd
|some v =>
  show (if v < 0 then (v+(n:Int)).toNat else min v.toNat n) <= n;by_cases hv:v < 0
  . rw[SF hv];omega
  . rw[SG hv];exact Nat.min_le_right _ _
def C4 (v:Int) (n d:Nat):(if v < 0 then max (v+(n:Int)) 0 else min v (n:Int))=((sIx n d (f' v):Nat):Int):=by
 show (if v < 0 then max (v+(n:Int)) 0 else min v (n:Int))=(((if v < 0 then (v+(n:Int)).toNat else min v.toNat n):Nat):Int)
 by_cases hv:v < 0
 . simp only[SF hv];omega
 . simp only[SG hv];omega
def zx (lo hi:Option Int) (n:Nat):Builtin.Slice.sliceAdjust lo hi 1 (n:Int)=(((sIx n 0 lo:Nat):Int),((sIx n n hi:Nat):Int)):=by
 have h1:¬ ((1:Int) < 0):=by omega
 unfold Builtin.Slice.sliceAdjust;simp only[h1,if_false];refine Prod.ext ?_ ?_
 . cases lo with
  |none=>rfl
  |some v=>exact C4 v n 0
 . cases hi with
  |none=>rfl
  |some v=>exact C4 v n n
def yI (i j:Nat):Builtin.Slice.slicePlaces (i:Int) (j:Int) 1=j - i:=by
 unfold Builtin.Slice.slicePlaces;have h1:(1:Int) > 0:=by omega
 simp only[h1,if_true,Int.ediv_one];split<;>omega
def rj {v:G'}{o:Option Int}{Q:Option Int->LK->Prop}(p:IsPart v o) (h:Q o s):LV (model prog w) A (Builtin.Slice.slicePartIndex v) Q E s:=by
 cases p with
|none=>exact slicePart_none h
|int i t=>exact slicePart_int h
def nV {sl:D'}{vl vu:G'}{lo hi:Option Int}{n:Nat}{Q:Int × Int × Nat->LK->Prop}(hs:s.heap.IsSliceOf sl vl vu .none) (pl:IsPart vl lo) (pu:IsPart vu hi)
 (h:Q (((sIx n 0 lo:Nat):Int),1,sIx n n hi - sIx n 0 lo) s):LV (model prog w) A (Builtin.Slice.sliceApplied (.ref sl) (pure (n:Int))) Q E s:=by
 obtain⟨os,hos,hcs,hds⟩:=id hs;unfold Builtin.Slice.sliceApplied Builtin.Slice.sliceFields;refine j' (j' (M0 hos hds (x:=vl) rfl (j' (M0 hos hds (x:=vu) rfl (j' (M0 hos hds (x:=.none) rfl (LL ?_)))))));refine j' (slicePart_none ?_);show LV _ _ (if ((1:Int) == 0)=l' then _ else _) _ _ s;rw[SG (by decide)];refine j' (rj pl (j' (rj pu (j' (LL ?_)))));show LV _ _ (match Builtin.Slice.sliceAdjust lo hi 1 (n:Int) with|(lo,hi)=>pure (lo,(1:Int),Builtin.Slice.slicePlaces lo hi 1)) _ _ s;rw[zx lo hi n];show LV _ _ (pure (((sIx n 0 lo:Nat):Int),(1:Int),Builtin.Slice.slicePlaces ((sIx n 0 lo:Nat):Int) ((sIx n n hi:Nat):Int) 1)) _ _ s;rw[yI];exact LL h
def Eb (xs:Array G') (i k:Nat):((Ob k).filterMap λ(m:Nat)=>xs[((i:Int)+(m:Int) * 1).toNat]?).toArray=((xs.toList.drop i).take k).toArray:=by
 have e:(λ(m:Nat)=>xs[((i:Int)+(m:Int) * 1).toNat]?)=λm=>xs[i+m]?:=by
  funext m;have:((i:Int)+(m:Int) * 1).toNat=i+m:=by omega
  rw[this]
 rw[e];have:=pick_run xs i k;rw[List.filterMap_map]at this;have e2:((λx=>xs[x]?) ∘ λx=>i+x)=λm=>xs[i+m]?:=rfl
 rw[e2]at this;rw[this]
def getItem_tuple_cut {t sl:D'}{items:Array G'}{vl vu:G'}{lo hi:Option Int}{Q:G'->LK->Prop}(ht:IsTup s.heap t items) (hs:s.heap.IsSliceOf sl vl vu .none) (pl:IsPart vl lo) (pu:IsPart vu hi)
 (hw:¬ (sIx items.size 0 lo=0/\sIx items.size items.size hi=items.size))
 (h:Q (.ref s.heap.objs.size) { s with heap:=s.heap.push { cls:=.type "tuple",data:=.seq ((items.toList.drop (sIx items.size 0 lo)).take (sIx items.size items.size hi - sIx items.size 0 lo)).toArray } })
 (hsz:items.size <= LP):LV (model prog w) A (getItem (.ref t) (.ref sl)) Q E s:=by
 have htake:sizeOk (.seq ((items.toList.drop (sIx items.size 0 lo)).take (sIx items.size items.size hi - sIx items.size 0 lo)).toArray):=by
  show ((items.toList.drop (sIx items.size 0 lo)).take (sIx items.size items.size hi - sIx items.size 0 lo)).toArray.size <= LP;rw[Mj,NN,length_drop,Mq];omega
 have hj:sIx items.size items.size hi <= items.size:=IK _ _ (LS _) hi;obtain⟨os,hos,hcs,hds⟩:=id hs;have hTs:s.TypeIs (.ref sl) "slice":=⟨os,hos,hcs⟩
 unfold getItem
 try with_reducible refine MT ?_
 first|refine j' (LL ?_)|skip
 refine j' (wpAny_sequenceKey ht.typeIs (by decide) ?_);refine j' (MH (name:=Na "__getitem__") ht.typeIs PyProof.Rows.slot_tuple_getitem
  (MB PyProof.Rows.slot_tuple_getitem ht.typeIs entry_tuple_getitem ?_ (args_tuple_getitem _ _)))
 show LV _ _ (Builtin.Tuple.tupleItemsOf (.ref t) >>= _) _ _ s;refine j' (tupleItemsOf_ ht ?_);refine j' (wpAny_typeOf hTs ?_);rw[SF (by decide)];refine j' (nV hs pl pu ?_);have hno:¬ ((((sIx items.size 0 lo:Nat):Int) == 0 && (1:Int) == 1 && (sIx items.size items.size hi - sIx items.size 0 lo) == items.size)=l'):=by
  intro q;rw[MC,MC]at q;have q1:((sIx items.size 0 lo:Nat):Int)=0:=eq_of_beq q.1.1;have q2:sIx items.size items.size hi - sIx items.size 0 lo=items.size:=eq_of_beq q.2;exact hw ⟨by omega,by omega⟩
 show LV _ _ (if (((sIx items.size 0 lo:Nat):Int) == 0 && (1:Int) == 1 && (sIx items.size items.size hi - sIx items.size 0 lo) == items.size)=l' then _ else _) _ _ s;rw[SG hno,Eb]
 first
 |exact j' (m:=Builtin.Tuple.tupleExact _) (MR (LL ⟨_,rfl,LL h⟩) htake)
 |exact j' (m:=Builtin.Tuple.tupleExact _) (MR (j' (LL (LL ⟨_,rfl,LL h⟩))) htake)
 |exact j' (j' (m:=Builtin.Tuple.tupleExact _) (MR (LL (LL ⟨_,rfl,LL h⟩)) htake))
 |exact j' (j' (m:=Builtin.Tuple.tupleExact _) (MR (LL ⟨_,rfl,LL h⟩) htake))
end
end HT
namespace L2
open PySem PySem.Spec PyProof.Rows
abbrev TO:=St->Hp->(Option Int->Hp->Prop)->Prop
def PO (X:Cx) (e:Option Expr) (t:TO):Prop :=
 ∀ (Oj:List (D' × M6)) (s:LK) (σ:St) (H:Hp) (Q:Option Int->Hp->Prop),Inv X Oj σ H s->t σ H Q ->
  LV (model X.prog X.w) X.A (evalPart e X.env) (λu s'=>∃ o H',Inv X Oj σ H' s'/\IsPart u o/\Q o H') X.xe s
def Fq:TO:=λ_ H Q=>Q LJ H
def Kc (t:TE):TO:=λσ H Q=>t σ H λx H1=>∃ i,x=.int i/\Q (f' i) H1
section
variable {X:Cx}{e:Expr}{te:TE}{lo hi:Option Expr}{tl th:TO}{pos p2:Pos}
def dw:PO X LJ Fq:=by
 intro Oj s σ H Q I h;rw[evalPart_none];exact LL ⟨LJ,H,I,.none,h⟩
def bK (h:PE X e te):PO X (f' e) (Kc te):=by
 intro Oj s σ H Q I hw;rw[evalPart_some];refine thn (h Oj s σ H _ I hw) λu s1 ur31=>?_
 obtain⟨x,H1,I1,r1,q1⟩:=ur31;obtain⟨i,rfl,q⟩:=q1;obtain⟨t,rfl⟩:=r1;exact⟨f' i,H1,I1,.int i t,q⟩
def SlR (X:Cx) (r:V->Option Int->Option Int->Hp->VK->Prop):Prop :=
 ∀ (Oj:List (D' × M6)) (s:LK) (σ:St) (H:Hp) (x:V) (v vl vu:G') (lo hi:Option Int) (sl:D') (Q:VK),Inv X Oj σ H s->cy x v->s.heap.IsSliceOf sl vl vu .none->IsPart vl lo->IsPart vu hi->r x lo hi H Q ->
  ∃ T id,typeLookup (.type T) "__getitem__"=pure (f' (.builtin id))/\s.TypeIs v T/\LV (model X.prog X.w) X.A (getItem v (.ref sl)) (EP X Oj σ Q) X.xe s
def tSl (r:V->Option Int->Option Int->Hp->VK->Prop) (te:TE) (tl th:TO):TE:=λσ H Q=>te σ H λx H1=>tl σ H1 λl H2=>th σ H2 λu H3=>r x l u H3 Q
def bB {r:V->Option Int->Option Int->Hp->VK->Prop}(hr:SlR X r) (he:PE X e te) (hl:PO X lo tl) (hu:PO X hi th):PE X (.Subscript e (.Slice lo hi LJ p2) pos) (tSl r te tl th):=by
 intro Oj s σ H Q I h;refine Subscript_ (thn (he Oj s σ H _ I h) λv s1 ur32=>?_);obtain⟨x,H1,I1,r1,q1⟩:=ur32;refine wpAny_Slice (thn (hl Oj s1 σ H1 _ I1 q1) λvl s2 ⟨l,H2,I2,pl,q2⟩=>thn (hu Oj s2 σ H2 _ I2 q2) λvu s3 ⟨u,H3,I3,pu,q3⟩=>?_);rw[evalPart_none];refine LL ?_;have I4:Inv X Oj σ H3 { s3 with heap:=s3.heap.push { cls:=.type "slice",data:=.fields #[vl,vu,.none] } }:=I3.kept (t':=s3.toks) λb ob q=>LH _ q
 obtain⟨T,id,hT,ht,hg⟩:=hr Oj { s3 with heap:=s3.heap.push { cls:=.type "slice",data:=.fields #[vl,vu,.none] } } σ H3 x v vl vu l u s3.heap.objs.size Q I4 r1 (Mi.IsSliceOf.new ..) pl pu q3;show LV (model X.prog X.w) X.A (subscriptTail e (.Slice lo hi LJ p2) v (.ref s3.heap.objs.size)) (EP X Oj σ Q) X.xe { s3 with heap:=s3.heap.push { cls:=.type "slice",data:=.fields #[vl,vu,.none] } };exact tail_any (ops:=[.ref s3.heap.objs.size,v]) ht hT hg (by with_unfolding_all rfl)
def gM (xs:List V) (lo hi:Option Int):List V:=(xs.drop (HT.sIx xs.length 0 lo)).take (HT.sIx xs.length xs.length hi - HT.sIx xs.length 0 lo)
def pc (xs:List V) (lo hi:Option Int):(gM xs lo hi).length <= xs.length:=by
 unfold gM;rw[NN,length_drop];omega
def Lp (K:LN):V->Option Int->Option Int->Hp->VK->Prop:=λx lo hi H Q=>∃ a xs,x=.ref a/\SqT K H a xs /\
 ¬ (HT.sIx xs.length 0 lo=0/\HT.sIx xs.length xs.length hi=xs.length)/\∀ p,H p=LJ->Q (.ref p) (upd H p (.tup (gM xs lo hi)))
def Iy:SlR X (Lp X.K):=by
 intro Oj s σ H x v vl vu lo hi sl Q I rx hs pl pu h;obtain⟨a,xs,rfl,hx,hw,q⟩:=h;cases rx;obtain⟨its,r,ht,hz⟩:=I.tuple hx;have hlen:its.toArray.size=xs.length:=by rw[Mj];exact r.length.symm
 refine⟨"tuple",_,PyProof.Rows.slot_tuple_getitem.lookup,ht.typeIs,?_⟩;refine HT.getItem_tuple_cut ht hs pl pu (by rw[hlen];exact hw) ?_ (by rw[hlen];exact hz);rw[hlen];refine⟨.ref s.heap.objs.size,_,I.laid (t':=s.toks) (o:=.tup (gM xs lo hi)) (λb ob q=>LH _ q) (LS _) ?_,rfl,q _ (I.hok.fresh (LS _))⟩;exact⟨MG (pc xs lo hi) hz,_,(r.drop (HT.sIx xs.length 0 lo)).take (HT.sIx xs.length xs.length hi - HT.sIx xs.length 0 lo),IsTup.new _ _⟩
end
def ixN (n:Nat) (i:Int):Option Nat:=if 0 <= i then (if i < n then f' i.toNat else LJ) else if -(n:Int) <= i then f' (i+n).toNat else LJ
def atI {α:Type}(xs:List α) (i:Int):Option α:=(ixN xs.length i).bind λj=>xs[j]?
def A5 {n:Nat}{i:Int}{j:Nat}(h:ixN n i=f' j):seqIndex? i n=f' j/\j < n/\-(n:Int) <= i/\i < n:=by
 unfold ixN at h;by_cases h0:0 <= i
 . rw[SF h0]at h;by_cases h1:i < n
   . rw[SF h1]at h;have e:i.toNat=j:=Ms h;exact⟨by rw[seqIndex_of h0 h1,e],by omega,by omega,h1⟩
   . rw[SG h1]at h;cases h
 . rw[SG h0]at h;by_cases h1:-(n:Int) <= i
   . rw[SF h1]at h;have e:(i+n).toNat=j:=Ms h;exact⟨by rw[seqIndex_neg (by omega) h1,e],by omega,h1,by omega⟩
   . rw[SG h1]at h;cases h
def C1 {α:Type}{xs:List α}{i:Int}{v:α}(h:atI xs i=f' v):∃ j,seqIndex? i xs.length=f' j/\xs[j]?=f' v/\j < xs.length/\-(xs.length:Int) <= i/\i < xs.length:=by
 unfold atI at h;cases e:ixN xs.length i with
|none=>rw[e]at h;cases h
|some j =>
  rw[e]at h;obtain⟨h1,h2,h3,h4⟩:=A5 e;exact⟨j,h1,h,h2,h3,h4⟩
def GL {α:Type}{xs:List α}{j:Nat}{v:α}(h:xs[j]?=f' v):atI xs (j:Int)=f' v:=by
 have hj:j < xs.length:=(Mh.mp h).1;have e:ixN xs.length (j:Int)=f' j:=by
  unfold ixN;rw[SF (by omega),SF (by omega)];simp
 unfold atI;rw[e];exact h
def GB (b:Expr):Prop:=∀ o i,subscripted b K' o i=operate [o,i] (getItem o i)
def IxR (X:Cx) (r:R2):Prop :=
 ∀ (value slice:Expr) (Oj:List (D' × M6)) (s:LK) (σ:St) (H:Hp) (x y:V) (v u:G') (Q:VK),Inv X Oj σ H s->cy x v->cy y u->r x y H Q ->
  subscripted slice K' v u=operate [v,u] (getItem v u)->LV (model X.prog X.w) X.A (subscriptTail value slice v u) (EP X Oj σ Q) X.xe s
def MtR (X:Cx) (id:String) (r:V->List V->Hp->VK->Prop):Prop :=
 ∀ (Oj:List (D' × M6)) (s:LK) (σ:St) (H:Hp) (x:V) (xs:List V) (v:G') (us:List G') (Q:VK),Inv X Oj σ H s->cy x v->bV xs us->r x xs H Q ->
  LV (model X.prog X.w) X.A (call (.builtin id) (v :: us)) (EP X Oj σ Q) X.xe s
section
variable {X:Cx}{a b:Expr}{ta tb:TE}{pos:Pos}
def aB {r:R2}(hr:IxR X r) (ha:PE X a ta) (hb:PE X b tb) (hs:GB b):PE X (.Subscript a b pos) (tOp r ta tb):=by
 intro Oj s σ H Q I h;exact Subscript_ (Ki ha hb I h λv u s2 x y H2 I2 rx ry q=>hr a b Oj s2 σ H2 x y v u Q I2 rx ry q (hs _ _))
def Lc (K:LN):R2:=λx y H Q=>∃ p xs i v,x=.ref p/\y=.int i/\SqL K H p xs/\atI xs i=f' v/\Q v H
def Fp (K:LN):R2:=λx y H Q=>∃ p xs i v,x=.ref p/\y=.int i/\SqT K H p xs/\atI xs i=f' v/\Q v H
def aS:IxR X (Lc X.K):=by
 intro value slice Oj s σ H x y v u Q I rx ry h hs;obtain⟨p,xs,i,z,rfl,rfl,hq,he,q⟩:=h;cases rx;obtain⟨t,rfl⟩:=ry;obtain⟨its,r,pl,hz⟩:=I.list hq;obtain⟨j,h1,h2,h3,h4,h5⟩:=C1 he;obtain⟨w,ew,rw'⟩:=r.get h2;have hl:=r.length;have hn:=rC;have fin:EP X Oj σ Q w s:=⟨z,H,I,rw',q⟩
 by_cases h0:0 <= i
 . have hj:i.toNat=j:=by
    rw[seqIndex_of h0 h5]at h1;exact Ms h1
   exact item_listR pl.isList h0 (by omega) (by rw[hj];simpa using ew) fin hs
 . have hj:(i+(its.toArray.size:Int)).toNat=j:=by
    rw[seqIndex_neg (by omega) h4]at h1;rw[Mj,<-hl];exact Ms h1
   exact subscriptTail_builtinR (x:=w) pl.isList.typeIs slot_list_getitem.lookup
    (wpAny_getItem_list_neg (Q:=λr s'=>r=w/\EP X Oj σ Q r s') pl.isList (by omega) (by rw[Mj]<;>omega) (by omega) (by rw[hj];simpa using ew) ⟨rfl,fin⟩) hs
def aD:IxR X (Fp X.K):=by
 intro value slice Oj s σ H x y v u Q I rx ry h hs;obtain⟨p,xs,i,z,rfl,rfl,hq,he,q⟩:=h;cases rx;obtain⟨t,rfl⟩:=ry;obtain⟨its,r,pl,hz⟩:=I.tuple hq;obtain⟨j,h1,h2,h3,h4,h5⟩:=C1 he;obtain⟨w,ew,rw'⟩:=r.get h2;have hl:=r.length;have hn:=rC;have fin:EP X Oj σ Q w s:=⟨z,H,I,rw',q⟩
 exact subscriptTail_builtinR (x:=w) pl.typeIs slot_tuple_getitem.lookup
  (getItem_tuple (j:=j) (Q:=λr s'=>r=w/\EP X Oj σ Q r s') pl (by omega) (by omega) (by rw[Mj,<-hl];exact h1) (by simpa using ew) ⟨rfl,fin⟩) hs
def zE (its:List G') (n j:Nat) (u:G'):Of (·.setIfInBounds j u) { cls:=.type "list",data:=.seq its.toArray n }={ cls:=.type "list",data:=.seq (its.set j u).toArray n }:=by
 simp[Of]
theorem Inv.lst {Oj:List (D' × M6)}{σ:St}{H:Hp}{s:LK}{p:D'}{xs:List V}(I:Inv X Oj σ H s) (h:H p=f' (.lst xs)) :
 ∃ (its:List G') (n:Nat),bV xs its/\s.heap.get? p=f' { cls:=.type "list",data:=.seq its.toArray n }/\xs.length <= LP:=by
 obtain⟨z,its,n,r,e⟩:=I.hok p _ h;exact⟨its,n,r,e,z⟩
def Inv.lstUpd {Oj:List (D' × M6)}{σ:St}{H:Hp}{s:LK}{p:D'}{xs ys:List V}{its its':List G'}{n n':Nat}{f:M6->M6}(I:Inv X Oj σ H s) (h:H p=f' (.lst xs))
 (ho:s.heap.get? p=f' { cls:=.type "list",data:=.seq its.toArray n }) (hf:f { cls:=.type "list",data:=.seq its.toArray n }={ cls:=.type "list",data:=.seq its'.toArray n' }) (r:bV ys its') (hz:ys.length <= LP) (t:Nat) :
 Inv X Oj σ (upd H p (.lst ys)) { s with heap:=s.heap.update p f,toks:=t }:=by
 have e:(s.heap.update p f).get? p=f' { cls:=.type "list",data:=.seq its'.toArray n' }:=by
  rw[M3 f ho (by rw[hf]<;>rfl),hf]
 refine I.write (x:=p) (e:=p) (by rw[h];trivial) (.inl rfl) (λb u hb q=>(M9 _ _ (NA hb)).trans q) ⟨_,e⟩ ?_;exact⟨hz,its',n',r,e⟩
def JV:V->V->V->Hp->(Hp->Prop)->Prop:=λo i v H Q=>∃ p xs k j,o=.ref p/\i=.int k/\H p=f' (.lst xs)/\ixN xs.length k=f' j/\Q (upd H p (.lst (xs.set j v)))
def jt:KA X JV:=by
 intro Oj s σ H o i v ov iv u Q I ro ri rv h;obtain⟨p,xs,k,j,rfl,rfl,hp,hj,q⟩:=h;cases ro;obtain⟨t,rfl⟩:=ri;obtain⟨its,n,r,ho,hz⟩:=I.lst hp;obtain⟨h1,h2,h3,h4⟩:=A5 hj;have hl:=r.length;have hn:=rC;have I':Inv X Oj σ (upd H p (.lst (xs.set j v))) { s with heap:=s.heap.update p (Of (·.setIfInBounds j u)) } :=
  I.lstUpd hp ho (zE its n j u) (r.set rv j) (by rw[List.length_set];exact hz) s.toks
 by_cases h0:0 <= k
 . have hk:k.toNat=j:=by
    rw[seqIndex_of h0 h4]at h1;exact Ms h1
   exact ki_setAt ho h0 (by omega) (by rw[Mj,<-hl];exact h4) (by rw[hk];exact⟨_,I',q⟩)
 . have hk:(k+(its.toArray.size:Int)).toNat=j:=by
    rw[seqIndex_neg (by omega) h3]at h1;rw[Mj,<-hl];exact Ms h1
   exact ki_setBack ho (by omega) (by rw[Mj,<-hl];exact h3) (by omega) (by rw[hk];exact⟨_,I',q⟩)
def uL (lo hi:Option Int) (n:Nat):(sliceBounds lo hi LJ n).1=((HT.sIx n 0 lo:Nat):Int)/\(sliceBounds lo hi LJ n).2.1=((HT.sIx n n hi:Nat):Int)/\(sliceBounds lo hi LJ n).2.2=1:=by
 refine⟨?_,?_,rfl⟩
 . cases lo with
  |none=>simp[sliceBounds,HT.sIx]
  |some i =>
    simp only[sliceBounds,HT.sIx,getD_none,show (1:Int) > 0 by decide,if_true];by_cases h:i < 0
    . simp only[h,if_true]<;>omega
    . simp only[h,if_false]<;>omega
 . cases hi with
  |none=>simp[sliceBounds,HT.sIx]
  |some i =>
    simp only[sliceBounds,HT.sIx,getD_none,show (1:Int) > 0 by decide,if_true];by_cases h:i < 0
    . simp only[h,if_true]<;>omega
    . simp only[h,if_false]<;>omega
def tG (its:List G') (lo hi:Option Int):slicePick its.toArray lo hi LJ=((its.drop (HT.sIx its.length 0 lo)).take (HT.sIx its.length its.length hi - HT.sIx its.length 0 lo)).toArray:=by
 obtain⟨h1,h2,h3⟩:=uL lo hi its.toArray.size;unfold slicePick;rw[h1,h2,h3];simp only[sliceRange_one,pick_run,Mj]<;>rfl
def Ln (K:LN):V->Option Int->Option Int->Hp->VK->Prop:=λx lo hi H Q=>∃ a xs,x=.ref a/\SqL K H a xs/\∀ p,H p=LJ->Q (.ref p) (upd H p (.lst (gM xs lo hi)))
def dN:SlR X (Ln X.K):=by
 intro Oj s σ H x v vl vu lo hi sl Q I rx hs pl pu h;obtain⟨a,xs,rfl,hx,q⟩:=h;cases rx;obtain⟨its,r,ht,hz⟩:=I.list hx;have hlen:=r.length;refine⟨"list",_,slot_list_getitem.lookup,ht.isList.typeIs,?_⟩;refine wpAny_getItem_list_slice ht.isList hs pl pu .none (by simp) ?_ (by rw[Mj]<;>omega);rw[tG,<-hlen];refine⟨.ref s.heap.objs.size,_,I.laid (t':=s.toks) (o:=.lst (gM xs lo hi)) (λb ob q=>LH _ q) (LS _) ?_,rfl,q _ (I.hok.fresh (LS _))⟩;exact⟨MG (pc xs lo hi) hz,_,0,(r.drop (HT.sIx xs.length 0 lo)).take (HT.sIx xs.length xs.length hi - HT.sIx xs.length 0 lo),LW _ rfl⟩
def rW:V->Bool
|.non=>l'
|.bl _=>l'
|.int _=>l'
|.str _=>l'
|_=>K'
def eqV:V->V->Bool
|.non,.non=>l'
|.bl a,.bl b=>a == b
|.bl a,.int b=>(if a then 1 else 0) == b
|.int a,.bl b=>a == (if b then 1 else 0)
|.int a,.int b=>a == b
|.str a,.str b=>a == b
|_,_=>K'
def HH {A:Mr}{s:LK}{y x:V}{u v:G'}(ry:cy y u) (rx:cy x v) (fy:rW y=l') (fx:rW x=l'):MN A s u v (eqV y x):=by
 cases y with
|non =>
  cases ry;cases x with
 |non=>cases rx;exact MN.same _
 |bl b=>cases rx;exact MN.none_bool b
 |int b=>obtain⟨t,rfl⟩:=rx;exact MN.none_int b t
 |str b=>obtain⟨t,rfl⟩:=rx;exact MN.none_str b t
 |_=>exact absurd (show K'=l' from fx) Me
|bl a =>
  cases ry;cases x with
 |non=>cases rx;exact MN.bool_none a
 |bl b=>cases rx;exact MN.bool_bool a b
 |int b=>obtain⟨t,rfl⟩:=rx;exact MN.bool_int a b t
 |str b=>obtain⟨t,rfl⟩:=rx;exact MN.bool_str a b t
 |_=>exact absurd (show K'=l' from fx) Me
|int a =>
  obtain⟨t',rfl⟩:=ry;cases x with
 |non=>cases rx;exact MN.int_none a t'
 |bl b=>cases rx;exact MN.int_bool a t' b
 |int b=>obtain⟨t,rfl⟩:=rx;exact MN.int_int a t' b t
 |str b=>obtain⟨t,rfl⟩:=rx;exact MN.int_str a t' b t
 |_=>exact absurd (show K'=l' from fx) Me
|str a =>
  obtain⟨t',rfl⟩:=ry;cases x with
 |non=>cases rx;exact MN.str_none a t'
 |bl b=>cases rx;exact MN.str_bool a t' b
 |int b=>obtain⟨t,rfl⟩:=rx;exact MN.str_int a t' b t
 |str b=>obtain⟨t,rfl⟩:=rx;exact MN.str_str a t' b t
 |_=>exact absurd (show K'=l' from fx) Me
|_=>exact absurd (show K'=l' from fy) Me
def eqU (x:V) (u:G'):Bool:=match u with
|.none=>eqV .non x
|.bool b=>eqV (.bl b) x
|.int i _=>eqV (.int i) x
|.str z _=>eqV (.str z) x
|_=>K'
def EB {x y:V}{u:G'}(r:cy y u) (f:rW y=l'):eqU x u=eqV y x:=by
 cases y with
|non=>cases r;rfl
|bl b=>cases r;rfl
|int i=>obtain⟨t,rfl⟩:=r;rfl
|str z=>obtain⟨t,rfl⟩:=r;rfl
|_=>exact absurd (show K'=l' from f) Me
theorem pY {x:V}:∀ {xs:List V}{us:List G'},bV xs us->xs.all rW=l'->us.any (eqU x)=xs.any λy=>eqV y x
|_,_,.nil,_=>rfl
|y :: xs,u :: us,.cons r t,f=>by
  rw[all_cons,MC]at f;rw[any_cons,any_cons,EB r f.1,pY t f.2]
theorem mi {A:Mr}{s:LK}{x:V}{v:G'}(rx:cy x v) (fx:rW x=l'):∀ {xs:List V}{us:List G'},bV xs us->xs.all rW=l'->∀ u∈us,MN A s u v (eqU x u)
|_,_,.nil,_=>λu hu=>by cases hu
|y :: xs,u :: us,.cons r t,f=>λu' hu=>by
  rw[all_cons,MC]at f;rcases Mf.mp hu with rfl|hu
  . rw[EB r f.1];exact HH r rx f.1 fx
  . exact mi rx fx t f.2 u' hu
def inV (x:V) (xs:List V):Bool:=xs.any λy=>eqV y x
def rIn (K:LN) (neg:Bool):R2:=λx y H Q=>∃ p xs,y=.ref p/\(SqL K H p xs\/SqT K H p xs)/\rW x=l'/\xs.all rW=l'/\Q (.bl (if neg then !inV x xs else inV x xs)) H
def fT:OpR X (Nm .In) (rIn X.K K'):=by
 intro Oj s σ H x y v u Q I rx ry h;obtain⟨p,xs,rfl,hq,fx,fs,q⟩:=h;cases ry;rcases hq with hq|hq
 . obtain⟨its,r,pl,hz⟩:=I.list hq;refine SeqAt.in_listAt (eqU x) pl.isList (λw hw=>mi rx fx r fs w (by simpa using hw)) ⟨.bl _,H,I,rfl,?_⟩;rw[show its.toArray.any (eqU x)=its.any (eqU x) by simp,pY r fs];exact q
 . obtain⟨its,r,pl,hz⟩:=I.tuple hq;refine SeqAt.in_tupleAt (eqU x) pl (λw hw=>mi rx fx r fs w (by simpa using hw)) ⟨.bl _,H,I,rfl,?_⟩;rw[show its.toArray.any (eqU x)=its.any (eqU x) by simp,pY r fs];exact q
def ku:OpR X (Nm .NotIn) (rIn X.K l'):=by
 intro Oj s σ H x y v u Q I rx ry h;obtain⟨p,xs,rfl,hq,fx,fs,q⟩:=h;cases ry;rcases hq with hq|hq
 . obtain⟨its,r,pl,hz⟩:=I.list hq;refine SeqAt.notIn_listAt (eqU x) pl.isList (λw hw=>mi rx fx r fs w (by simpa using hw)) ⟨.bl _,H,I,rfl,?_⟩;rw[show its.toArray.any (eqU x)=its.any (eqU x) by simp,pY r fs];exact q
 . obtain⟨its,r,pl,hz⟩:=I.tuple hq;refine SeqAt.notIn_tupleAt (eqU x) pl (λw hw=>mi rx fx r fs w (by simpa using hw)) ⟨.bl _,H,I,rfl,?_⟩;rw[show its.toArray.any (eqU x)=its.any (eqU x) by simp,pY r fs];exact q
def aN:kZ X (.builtin "len") (λxs H Q=>∃ p ys,xs=[.ref p]/\(SqL X.K H p ys\/SqT X.K H p ys)/\Q (.int ys.length) H):=by
 intro Oj s σ H xs us Q I r h;obtain⟨p,ys,rfl,hq,q⟩:=h;obtain⟨u,rfl,rx⟩:=pj r;cases rx;have hn:=rC;rcases hq with hq|hq
 . obtain⟨its,r',pl,hz⟩:=I.list hq;have hlen:=r'.length;exact Calls.call_len_list pl.isList (by simp only[Mj]<;>omega) ⟨.int ys.length,H,I.tok _,⟨s.toks+1,by rw[Mj,hlen]⟩,q⟩
 . obtain⟨its,r',pl,hz⟩:=I.tuple hq;have hlen:=r'.length;exact len_tuple pl (by simp only[Mj]<;>omega) ⟨.int ys.length,H,I.tok _,⟨s.toks+1,by rw[Mj,hlen]⟩,q⟩
def nG:kZ X (.builtin "len") (λxs H Q=>∃ z,xs=[.str z]/\z.length <= LP/\Q (.int z.length) H):=by
 intro Oj s σ H xs us Q I r h;obtain⟨z,rfl,hz,q⟩:=h;obtain⟨u,rfl,t,rfl⟩:=pj r;have hn:=rC;exact len_str (by omega) ⟨.int z.length,H,I.tok _,⟨_,rfl⟩,q⟩
def nF:kZ X (.type "list") (λxs H Q=>∃ p ys,xs=[.ref p]/\(SqL X.K H p ys\/SqT X.K H p ys)/\∀ l,H l=LJ->Q (.ref l) (upd H l (.lst ys))):=by
 intro Oj s σ H xs us Q I r h;obtain⟨p,ys,rfl,hq,q⟩:=h;obtain⟨u,rfl,rx⟩:=pj r;cases rx;have fin:∀ (its:List G'),bV ys its->ys.length <= LP->∀ (h':Mi) (c':Nat),(∀ b o',s.heap.get? b=f' o'->h'.get? b=f' o') ->
  h'.get? s.heap.objs.size=f' { cls:=.type "list",dict:=LJ,data:=.seq its.toArray c',slots:=#[] }->EP X Oj σ Q (.ref s.heap.objs.size) { s with heap:=h' }:=λits r' hz h' c' kp e =>
  ⟨.ref s.heap.objs.size,_,I.laid (t':=s.toks) kp (LS _) (show cQ X.prog X.w _ h' _ (.lst ys) from ⟨hz,its,c',r',e⟩),rfl,q _ (I.hok.fresh (LS _))⟩
 rcases hq with hq|hq
 . obtain⟨its,r',pl,hz⟩:=I.list hq;have hlen:=r'.length;obtain⟨o,ho,hc,n,hd⟩:=pl.isList;exact call_list_seq p (.inl rfl) ho hc hd (λh' c' kp e=>fin its r' hz h' c' kp e) (by simp only[Mj]<;>omega)
 . obtain⟨its,r',pl,hz⟩:=I.tuple hq;have hlen:=r'.length;obtain⟨o,ho,hc,n,hd⟩:=pl;exact call_list_seq p (.inr rfl) ho hc hd (λh' c' kp e=>fin its r' hz h' c' kp e) (by simp only[Mj]<;>omega)
def eB:kZ X (.type "tuple") (λxs H Q=>∃ p ys,xs=[.ref p]/\((SqL X.K H p ys/\∀ l,H l=LJ->Q (.ref l) (upd H l (.tup ys)))\/(SqT X.K H p ys/\Q (.ref p) H))):=by
 intro Oj s σ H xs us Q I r h;obtain⟨p,ys,rfl,h⟩:=h;obtain⟨u,rfl,rx⟩:=pj r;cases rx;rcases h with⟨hq,q⟩|⟨hq,q⟩
 . obtain⟨its,r',pl,hz⟩:=I.list hq;have hlen:=r'.length;refine call_tuple_list pl.isList (λh' kp=>?_) (by simp only[Mj]<;>omega);have I1:Inv X Oj σ H { s with heap:=h' }:=I.kept (t':=s.toks) kp;have I2:Inv X Oj σ (upd H h'.objs.size (.tup ys)) { s with heap:=h'.push { cls:=.type "tuple",data:=.seq its.toArray } } :=
    I1.laid (t':=s.toks) (λb o e=>LH _ e) (LS _) (show cQ X.prog X.w _ _ _ (.tup ys) from ⟨hz,its,r',IsTup.new _ _⟩)
   exact⟨.ref h'.objs.size,_,I2,rfl,q _ (I1.hok.fresh (LS _))⟩
 . obtain⟨its,r',pl,hz⟩:=I.tuple hq;exact call_tuple_same pl ⟨.ref p,H,I,rfl,q⟩
def tyV (K:LN) (T:String) (x:V) (H:Hp):Prop:=match x with
|.str _=>T="str"
|.int _=>T="int"
|.ref p=>(T="list"/\∃ xs,SqL K H p xs)\/(T="tuple"/\∃ o,K.lookup p=f' o/\o.cls=.type "tuple"/\o.dict=LJ) \/
  (T="dict"/\((∃ kvs,H p=f' (.dK kvs))\/∃ kvs,H p=f' (.dT kvs)))\/(T="set"/\∃ S n,H p=f' (.set S n))
|_=>False
def Hz {Oj:List (D' × M6)}{σ:St}{H:Hp}{s:LK}{T:String}{x:V}{v:G'}(I:Inv X Oj σ H s) (r:cy x v) (ty:tyV X.K T x H) :
 s.TypeIs v T/\∀ a,v=.ref a->∃ ob,s.heap.get? a=f' ob/\ob.dict=LJ:=by
 cases x with
|str z =>
  obtain⟨t,rfl⟩:=r;cases (show T="str" from ty);exact⟨typeIs_str s z t,λ_ e=>nomatch e⟩
|int i =>
  obtain⟨t,rfl⟩:=r;cases (show T="int" from ty);exact⟨typeIs_int s i t,λ_ e=>nomatch e⟩
|ref p =>
  cases r;rcases ty with⟨rfl,xs,hq⟩|⟨rfl,o,hk,hc,hd⟩|⟨rfl,hk⟩|⟨rfl,S,n,hk⟩
  . obtain⟨its,_,pl,_⟩:=I.list hq;refine⟨pl.isList.typeIs,λa e=>?_⟩;cases e;obtain⟨o,n,e,c,hd,_⟩:=pl;exact⟨o,e,hd⟩
  . refine⟨⟨o,I.kIn p o hk,hc⟩,λa e=>?_⟩;cases e;exact⟨o,I.kIn _ o hk,hd⟩
  . have z:∃ o,s.heap.get? p=f' o/\o.ExactDict:=by
     rcases hk with⟨kvs,hk⟩|⟨kvs,hk⟩
     . obtain⟨_,_,_,_,o,_,_,e,ex,_⟩:=I.hok p _ hk;exact⟨o,e,ex⟩
     . obtain⟨_,_,_,_,o,_,_,e,ex,_⟩:=I.hok p _ hk;exact⟨o,e,ex⟩
    obtain⟨o,e,ex⟩:=z;refine⟨⟨o,e,ex.1⟩,λa e2=>?_⟩;cases e2;exact⟨o,e,ex.2.1⟩
  . obtain⟨o,_,_,_,e,ex,_⟩:=I.hok p _ hk;refine⟨⟨o,e,ex.1⟩,λa e2=>?_⟩;cases e2;exact⟨o,e,ex.2.1⟩
|_=>exact Nf ty
def tBM (K:LN) (T:String) (r:V->List V->Hp->VK->Prop) (to:TE) (t:TA):TE:=λσ H Q=>to σ H λx H1=>tyV K T x H1/\t σ H1 λxs H2=>r x xs H2 Q
variable {o e:Expr}{es:List Expr}{to:TE}{t:TA}{name:Str}{apos cpos:Pos}{T id:String}{r:V->List V->Hp->VK->Prop}
def mv (pa:PlainAttrs T) (slot:Slot T name id) (hty:typeOf (.builtin id)=pure (.type "method_descriptor")) (hm:MtR X id r) (ho:PE X o to) (ha:PA X (e :: es) t)
 (hbase:attributeBase o name X.env (eval o X.env)=eval o X.env:=by rfl)
 (hfew:((N6 cpos (Mu (e :: es) X.env)).all (λx=>!x.1) && (backToKw cpos (keywordEach [] X.env)).all (λx=>x.1.isSome)
  && decide ((e :: es).length+([]:List Keyword).length+(if ([]:List Keyword).isEmpty then 0 else 1) < 30))=l':=by rfl)
 (hline:(apos.endLine == cpos.line)=l':=by rfl) (hs:Mu (e :: es) X.env=(K',eval e X.env) :: Mu es X.env:=by rfl) (hplain:(N6 cpos (Mu es X.env)).any (·.1)=K':=by rfl) :
 PE X (.Call (.Attribute o name apos) (e :: es) [] cpos) (tBM X.K T r to t):=by
 intro Oj s σ H Q I h;refine wpAny_Call_method_late hbase hfew hline rfl (thn (ho Oj s σ H _ I h) λv s1 ur33=>?_);obtain⟨x,H1,I1,r1,ty,q1⟩:=ur33;obtain⟨h1,h2⟩:=Hz I1 r1 ty;refine⟨T,id,pa,slot,hty,h1,h2,?_⟩;have hA:=ha cpos Oj s1 σ H1 _ I1 q1;rw[hs]at hA |-;refine ND (by show (K' || (N6 cpos (Mu es X.env)).any (·.1))=K';rw[hplain]<;>rfl) (Nw ?_);exact thn hA λus s2 uq9=>by(obtain⟨vs,H2,I2,r2,q2⟩:=uq9;exact hm Oj s2 σ H2 x vs v us Q I2 r1 r2 q2)
end
def MtM (X:Cx) (id:String) (r:V->List V->Hp->VK->Prop):Prop :=
 ∀ (Oj:List (D' × M6)) (s:LK) (σ:St) (H:Hp) (x:V) (xs:List V) (v:G') (us:List G') (Q:VK),Inv X Oj σ H s->cy x v->bV xs us->r x xs H Q ->
  LV (model X.prog X.w) X.A (call (.builtin id) (v :: us)) (EP X Oj σ Q) X.xe s
def bV.one:∀ {x:V}{us:List G'},bV [x] us->∃ u,us=[u]/\cy x u
|_,_,.cons r .nil=>⟨_,rfl,r⟩
theorem bV.eraseIdx:∀ {xs:List V}{us:List G'}(i:Nat),bV xs us->bV (xs.eraseIdx i) (us.eraseIdx i)
|_,_,_,.nil=>.nil
|_,_,0,.cons _ t=>t
|_,_,i+1,.cons r t=>.cons r (bV.eraseIdx i t)
theorem vH {α:Type}:∀ (l:List α) (i:Nat),(l.eraseIdx i).length <= l.length
|[],_=>LS _
|_ :: _,0=>le_succ _
|_ :: r,i+1=>Nat.succ_le_succ (vH r i)
section
variable {X:Cx}{Oj:List (D' × M6)}{σ:St}{H:Hp}{s:LK}{l b:D'}{xs ys zs:List V}
def Inv.lset {its its':List G'}{n:Nat}{f:Array G'->Array G'}{t':Nat}(I:Inv X Oj σ H s) (hH:H l=f' (.lst xs))
 (e:s.heap.get? l=f' { cls:=.type "list",data:=.seq its.toArray n }) (hf:f its.toArray=its'.toArray) (hv:bV ys its') (hz:ys.length <= LP) :
 Inv X Oj σ (upd H l (.lst ys)) { s with heap:=s.heap.update l (Of f),toks:=t' }:=by
 have q:=PySem.IsL.update e f;rw[hf]at q;refine I.write (x:=l) (e:=l) (by rw[hH];exact trivial) (.inl rfl) (λb' u hb hu=>(M9 s.heap (Of f) (NA hb)).trans hu) ⟨_,q⟩ ?_;exact⟨hz,its',_,hv,q⟩
def Inv.lnew {its:List G'}{t':Nat}(I:Inv X Oj σ H s) (hv:bV ys its) (hz:ys.length <= LP) :
 Inv X Oj σ (upd H s.heap.objs.size (.lst ys)) { s with heap:=s.heap.push { cls:=.type "list",data:=.seq its.toArray },toks:=t' } :=
 I.laid (λ_ _ q=>LH _ q) (LS _) ⟨hz,its,0,hv,LW _ rfl⟩
theorem Inv.fresh (I:Inv X Oj σ H s):H s.heap.objs.size=LJ:=I.hok.fresh (LS _)
def Inv.lstM (I:Inv X Oj σ H s) (hH:H l=f' (.lst xs)):xs.length <= LP/\∃ (its:List G') (n:Nat),bV xs its/\xs.length=its.length/\s.heap.get? l=f' { cls:=.type "list",data:=.seq its.toArray n }:=by
 obtain⟨z,its,n,r,e⟩:=I.hok l _ hH;exact⟨z,its,n,r,r.length,e⟩
end
section
variable {X:Cx}
def FW:V->List V->Hp->VK->Prop:=λx vs H Q=>∃ l xs y,x=.ref l/\vs=[y]/\H l=f' (.lst xs)/\xs.length < LP/\Q .non (upd H l (.lst (xs++[y])))
def fC:MtM X "list.append" FW:=by
 intro Oj s σ H x vs v us Q I rx rv h;obtain⟨l,xs,y,rfl,rfl,hH,hz,q⟩:=h;cases rx;obtain⟨u,rfl,ru⟩:=rv.one;obtain⟨z,its,n,r,hl,e⟩:=I.lstM hH;refine call_meets F.slot_list_append ⟨_,e,rfl⟩ F.entry_list_append (F.args_list_append_2 _ _) (PySem.list_append l its.toArray n u (by rw[Mj];omega)) ⟨e,?_⟩;refine⟨.non,_,I.lset (its':=its++[u]) hH e (by simp) (r.append (.cons ru .nil)) ?_,rfl,q⟩;rw[LU,List.length_singleton];omega
def Ku:V->List V->Hp->VK->Prop:=λx vs H Q=>∃ l b xs zs,x=.ref l/\vs=[.ref b]/\H l=f' (.lst xs)/\H b=f' (.lst zs)/\xs.length+zs.length <= LP/\Q .non (upd H l (.lst (xs++zs)))
def II:V->List V->Hp->VK->Prop:=λx vs H Q=>∃ l xs i k y,x=.ref l/\vs=[.int i]/\H l=f' (.lst xs)/\-(2 ^ 63) <= i/\i < 2 ^ 63/\seqIndex? i xs.length=f' k/\xs[k]?=f' y/\Q y (upd H l (.lst (xs.eraseIdx k)))
def sA:MtM X "list.pop" II:=by
 intro Oj s σ H x vs v us Q I rx rv h;obtain⟨l,xs,i,k,y,rfl,rfl,hH,h1,h2,hk,hy,q⟩:=h;cases rx;obtain⟨u,rfl,ru⟩:=rv.one;obtain⟨t,rfl⟩:=ru;obtain⟨z,its,n,r,hl,e⟩:=I.lstM hH;obtain⟨w,hw,rw'⟩:=r.get hy;refine call_meets F.slot_list_pop ⟨_,e,rfl⟩ F.entry_list_pop (F.args_list_pop_2 _ _)
  (MeetsSeq.list_pop_at l its.toArray n i t k w (fitsIndex_both h1 h2) (by rw[Mj,<-hl];exact hk) (by rw[<-MI];exact hw) (by rw[Mj];omega)) ⟨e,?_⟩
 refine⟨y,_,I.lset (its':=its.eraseIdx k) hH e ?_ (r.eraseIdx k) ?_,rw',q⟩
 . show its.toArray.eraseIdxIfInBounds k=(its.eraseIdx k).toArray;rw[List.eraseIdxIfInBounds_toArray]
 . have:=vH xs k;omega
def KG:R2:=λx y H Q=>∃ l b xs zs,x=.ref l/\y=.ref b/\H l=f' (.lst xs)/\H b=f' (.lst zs)/\xs.length+zs.length <= LP/\∀ p,H p=LJ->Q (.ref p) (upd H p (.lst (xs++zs)))
def lp:OpR X (binaryOp .Add) KG:=by
 intro Oj s σ H x y v u Q I rx ry h;obtain⟨l,b,xs,zs,rfl,rfl,hH,hB,hz,q⟩:=h;cases rx;cases ry;obtain⟨z,its,n,r,hl,e⟩:=I.lstM hH;obtain⟨z2,its2,n2,r2,hl2,e2⟩:=I.lstM hB;refine PySem.P.add_list e e2 ?_ (by rw[Mj,Mj];omega);have ea:its.toArray++its2.toArray=(its++its2).toArray:=by simp
 rw[ea];exact⟨.ref _,_,I.lnew (t':=s.toks) (r.append r2) (by rw[LU];omega),rfl,q _ I.fresh⟩
end
section
variable {prog:Mg}{w:LZ}{A:Mr}{E:G'->LK->Prop}{s:LK}
set_option maxRecDepth 100000 in
end
section
variable {X:Cx}
end
section
variable {κ:Type} [DecidableEq κ]
def pq (kvs:List (κ × V)) (k:κ):Option V:=(kvs.find? λkv=>decide (kv.1=k)).map (·.2)
def vx (kvs:List (κ × V)) (k:κ) (v:V):List (κ × V) :=
 if (kvs.any λkv=>decide (kv.1=k))=l' then kvs.map (λkv=>if kv.1=k then (kv.1,v) else kv) else kvs++[(k,v)]
def mX (kvs:List (κ × V)) (k:κ):List (κ × V):=kvs.filter λkv=>decide (kv.1≠k)
def oC {p:κ × V}{r:List (κ × V)}{k:κ}(e:p.1=k):pq (p :: r) k=f' p.2:=by simp[pq,NI,e]
def oa {p:κ × V}{r:List (κ × V)}{k:κ}(e:¬ p.1=k):pq (p :: r) k=pq r k:=by simp[pq,NI,e]
theorem o8 (k:κ):∀ kvs:List (κ × V),(kvs.any λkv=>decide (kv.1=k))=(pq kvs k).isSome
|[]=>rfl
|p :: r=>by
  rw[any_cons];by_cases e:p.1=k
  . simp only[oC e,SI e,Bool.true_or,isSome_some]
  . rw[oa e,decide_eq_false e,Bool.false_or];exact o8 k r
def pD (kvs:List (κ × V)) (k:κ) (v:V):(vx kvs k v).length <= kvs.length+1:=by
 unfold vx;split
 . rw[Md];omega
 . rw[LU,Mw,length_nil];omega
def vL.isSome_eq {o:Option V}{u:Option G'}(r:vL o u):o.isSome=u.isSome:=by
 cases o with
|none=>cases u with
 |none=>rfl
 |some _=>exact(show False from r).elim
|some _=>cases u with
 |none=>exact(show False from r).elim
 |some _=>rfl
def KV.val {kvs:List (κ × V)}{vs:List (κ × G')}(r:KV kvs vs) (k:κ):vL (pq kvs k) (valueAt vs k):=by
 unfold KV at r
 induction r with
|nil=>exact NQ
|@cons p q ps qs h t ih =>
  obtain⟨h1,h2⟩:=h;by_cases e:p.1=k
  . have e':q.1=k:=h1.symm.trans e;have b:valueAt (q :: qs) k=f' q.2:=by simp[valueAt,NI,e']
    rw[oC e,b];exact h2
  . have e':¬ q.1=k:=λz=>e (h1.trans z)
    have b:valueAt (q :: qs) k=valueAt qs k:=by simp[valueAt,NI,e']
    rw[oa e,b];exact ih
theorem KV.any {kvs:List (κ × V)}{vs:List (κ × G')}(r:KV kvs vs) (k:κ):(kvs.any λkv=>decide (kv.1=k))=vs.any λkv=>decide (kv.1=k):=by
 unfold KV at r
 induction r with
|nil=>rfl
|cons h t ih=>rw[any_cons,any_cons,ih,h.1]
def KV.repl {kvs:List (κ × V)}{vs:List (κ × G')}(r:KV kvs vs) (k:κ) {y:V}{u:G'}(ry:cy y u) :
 KV (kvs.map λkv=>if kv.1=k then (kv.1,y) else kv) (vs.map λkv=>if kv.1=k then (kv.1,u) else kv):=by
 unfold KV at r |-
 induction r with
|nil=>exact .nil
|@cons p q ps qs h t ih =>
  rw[Nn,Nn];refine .cons ?_ ih;obtain⟨h1,h2⟩:=h;by_cases e:p.1=k
  . rw[SF e,SF (h1.symm.trans e)];exact⟨h1,ry⟩
  . rw[SG e,SG (λz=>e (h1.trans z))];exact⟨h1,h2⟩
def KV.put {kvs:List (κ × V)}{vs:List (κ × G')}(r:KV kvs vs) (k:κ) {y:V}{u:G'}(ry:cy y u):KV (vx kvs k y) (stored vs k u):=by
 unfold vx stored;rw[r.any k];by_cases e:(vs.any λkv=>decide (kv.1=k))=l'
 . rw[SF e,SF e];exact r.repl k ry
 . rw[SG e,SG e];exact Mn.snoc r ⟨rfl,ry⟩
def KV.drop {kvs:List (κ × V)}{vs:List (κ × G')}(r:KV kvs vs) (k:κ):KV (mX kvs k) (without vs k):=by
 unfold KV at r |-;unfold mX without
 induction r with
|nil=>exact .nil
|@cons p q ps qs h t ih =>
  obtain⟨h1,h2⟩:=h;rw[Oa,Oa];by_cases e:p.1=k
  . have a:¬ decide (p.1≠k)=l':=by simp[e]
    have b:¬ decide (q.1≠k)=l':=by simp[h1.symm.trans e]
    rw[SG a,SG b];exact ih
  . have e':¬ q.1=k:=λz=>e (h1.trans z)
    have a:decide (p.1≠k)=l':=by simp[e]
    have b:decide (q.1≠k)=l':=by simp[e']
    rw[SF a,SF b];exact .cons ⟨h1,h2⟩ ih
theorem KV.length {kvs:List (κ × V)}{vs:List (κ × G')}(r:KV kvs vs):kvs.length=vs.length:=Mn.length r
def El (kvs:List (κ × V)) (k:κ):(mX kvs k).length <= kvs.length:=List.length_filter_le _ _
end
def zD {P:Mg}{w:LZ}{k:Key}{u:G'}(r:cy (kV k) u):(bA P w).is k u=l':=by
 cases k with
|inl i=>obtain⟨t,e⟩:=(show ∃ t,u=G'.int i t from r);subst e;exact vN P w i t
|inr x=>obtain⟨t,e⟩:=(show ∃ t,u=G'.str x t from r);subst e;exact wo P w x t
theorem uS {P:Mg}{w:LZ}:∀ {ks:List Key}{us:List G'},bV (ks.map kV) us->ItemsAre (bA P w) ks us
|[],_,r=>by rw[map_nil]at r;cases r;exact .nil
|k :: ks,_,r=>by
  rw[Nn]at r;cases r with
 |cons h t=>exact .cons (zD h) (uS t)
abbrev KT (H:Hp):List (List Key × V)->List (List Key × D' × G')->Prop:=Mn λp q=>p.1=q.1/\H q.2.1=f' (.tup (p.1.map kV))/\cy p.2 q.2.2
def KT.val {H:Hp}{kvs:List (List Key × V)}{xs:List (List Key × D' × G')}(r:KT H kvs xs) (k:List Key):vL (pq kvs k) ((atKey xs k).map (·.2)):=by
 induction r with
|nil=>exact NQ
|@cons p q ps qs h t ih =>
  obtain⟨h1,_,h2⟩:=h;by_cases e:p.1=k
  . have e':q.1=k:=h1.symm.trans e;have b:atKey (q :: qs) k=f' q.2:=by simp[atKey,NI,e']
    rw[oC e,b];exact h2
  . have e':¬ q.1=k:=λz=>e (h1.trans z)
    have b:atKey (q :: qs) k=atKey qs k:=by simp[atKey,NI,e']
    rw[oa e,b];exact ih
def KT.repl {H:Hp}{kvs:List (List Key × V)}{xs:List (List Key × D' × G')}(r:KT H kvs xs) (k:List Key) {y:V}{u:G'}(ry:cy y u) :
 KT H (kvs.map λkv=>if kv.1=k then (kv.1,y) else kv) (xs.map (putAt k u)):=by
 induction r with
|nil=>exact .nil
|@cons p q ps qs h t ih =>
  rw[Nn,Nn];refine .cons ?_ ih;obtain⟨h1,h2,h3⟩:=h;unfold putAt;by_cases e:p.1=k
  . rw[SF e,SF (h1.symm.trans e)];exact⟨h1,h2,ry⟩
  . rw[SG e,SG (λz=>e (h1.trans z))];exact⟨h1,h2,h3⟩
def KT.put {H:Hp}{kvs:List (List Key × V)}{xs:List (List Key × D' × G')}(r:KT H kvs xs) (k:List Key) {b:D'}{y:V}{u:G'}(hb:H b=f' (.tup (k.map kV))) (ry:cy y u) :
 KT H (vx kvs k y) (storedH xs k b u):=by
 have e:(kvs.any λkv=>decide (kv.1=k))=(atKey xs k).isSome:=by
  rw[o8,(r.val k).isSome_eq,isSome_map]
 unfold vx storedH;rw[e];by_cases q:(atKey xs k).isSome=l'
 . rw[SF q,SF q];exact r.repl k ry
 . rw[SG q,SG q];exact Mn.snoc r ⟨rfl,hb,ry⟩
def KT.keeps {H H':Hp}{kvs:List (List Key × V)}{xs:List (List Key × D' × G')}(r:KT H kvs xs) (ht:∀ b ys,H b=f' (.tup ys)->H' b=f' (.tup ys)):KT H' kvs xs :=
 Paired.mapP r λ_ _ z=>⟨z.1,ht _ _ z.2.1,z.2.2⟩
section
variable {P:Mg}{w:LZ}{H:Hp}{h:Mi}{a:D'}
def Hr {u:HO}(ok:HOk P w H h) (e:Rd H a u):cQ P w H h a u:=e.ok ok
def Ea {kvs:List (Key × V)}(ok:HOk P w H h) (e:Rd H a (.dK kvs)):kvs.length <= LP/\(a == Ng)=K'/\∃ vs,KV kvs vs/\h.DictOf (bA P w) a vs :=
 show cQ P w H h a (.dK kvs) from Hr ok e
def Dj {kvs:List (Key × V)}(ok:HOk P w H h) (e:H a=f' (.dK kvs)):kvs.length <= LP/\(a == Ng)=K'/\∃ vs,KV kvs vs/\h.DictOf (bA P w) a vs:=Ea ok (.inl e)
def yp {ks:List Key}(ok:HOk P w H h) (e:H a=f' (.tup (ks.map kV))):(tupleKind (bA P w)).is h ks a:=by
 obtain⟨_,its,r,o,h1,h2,n,h3⟩:=(show cQ P w H h a (.tup (ks.map kV)) from ok a _ e)
 exact⟨o,its.toArray,n,h1,h2,h3,by simpa using uS r⟩
def Dl {kvs:List (List Key × V)}(ok:HOk P w H h) (e:Rd H a (.dT kvs)):kvs.length <= LP/\(a == Ng)=K' /\
 ∃ xs,KT H kvs xs/\h.DictOfH (tupleKind (bA P w)) a xs:=by
 obtain⟨z,y,xs,r,o,es,ep,h1,h2,h3,h4,h5⟩:=(show cQ P w H h a (.dT kvs) from Hr ok e)
 refine⟨z,y,xs,r,o,es,ep,h1,h2,h3,h4,λx hx=>?_,h5⟩;have all:∀ {l:List (List Key × V)} {m:List (List Key × D' × G')},KT H l m->∀ x∈m,(tupleKind (bA P w)).is h x.1 x.2.1:=by
  intro l m q
  induction q with
 |nil=>intro x hx;exact nomatch hx
 |@cons p q ps qs hq t ih =>
   intro x hx;rcases Mf.mp hx with e|hx
   . subst e;exact yp ok (by rw[<-hq.1];exact hq.2.1)
   . exact ih x hx
 exact all r x hx
def JT {kvs:List (List Key × V)}(ok:HOk P w H h) (e:H a=f' (.dT kvs)):kvs.length <= LP/\(a == Ng)=K' /\
 ∃ xs,KT H kvs xs/\h.DictOfH (tupleKind (bA P w)) a xs:=Dl ok (.inl e)
end
def Ch (H:Hp) (a:D') (y:V) (r:Option V):Prop :=
 (∃ kvs k,Rd H a (.dK kvs)/\y=kV k/\r=pq kvs k)\/∃ kvs k b,Rd H a (.dT kvs)/\y=.ref b/\H b=f' (.tup (k.map kV))/\r=pq kvs k
def EE (H:Hp) (a:D') (y v:V) (H':Hp):Prop :=
 (∃ kvs k,H a=f' (.dK kvs)/\y=kV k/\kvs.length < LP/\H'=upd H a (.dK (vx kvs k v))) \/
 ∃ kvs k b,H a=f' (.dT kvs)/\y=.ref b/\H b=f' (.tup (k.map kV))/\kvs.length < LP/\H'=upd H a (.dT (vx kvs k v))
def Ch.k {H:Hp}{a:D'}{kvs:List (Key × V)}{k:Key}(e:H a=f' (.dK kvs)):Ch H a (kV k) (pq kvs k):=.inl ⟨kvs,k,.inl e,rfl,rfl⟩
def EE.k {H:Hp}{a:D'}{kvs:List (Key × V)}{k:Key}{v:V}(e:H a=f' (.dK kvs)) (hl:kvs.length < LP):EE H a (kV k) v (upd H a (.dK (vx kvs k v))):=.inl ⟨kvs,k,e,rfl,hl,rfl⟩
section
variable {X:Cx}{Oj:List (D' × M6)}{σ:St}{H:Hp}{s:LK}{a:D'}{y v:V}{u r:G'}{o:Option V}{A:Mr}{E:G'->LK->Prop}
def Inv.big (I:Inv X Oj σ H s):Ng < s.heap.objs.size:=by
 have h:Mt < s.heap.objs.size:=(I.mod.glob.keeps I.bk).lt;exact Nat.lt_trans (by decide) h
def Li {Q:G'->LK->Prop}(hu:A.units+1 < Oc) (I:Inv X Oj σ H s) (g:Ch H a y o) (ry:cy y u) (h:∀ s',Inv X Oj σ H s'->Q (.bool o.isSome) s') :
 LV (model X.prog X.w) A (Nm .In u (.ref a)) Q E s:=by
 rcases g with⟨kvs,k,e,ey,l⟩|⟨kvs,k,b,e,ey,eb,l⟩
 . subst ey;obtain⟨z,hd,vs,rel,dd⟩:=Ea I.hok e;refine wpAny_in_of (zD ry) hd dd.mapOf ?_;rw[<-(rel.val k).isSome_eq,<-l];exact h _ (I.tok _)
 . subst ey;cases (show u=Ml b from ry);obtain⟨z,hd,xs,rel,dd⟩:=Dl I.hok e;refine wpAny_in_heap (tupleKind_room_in1 hu) (yp I.hok eb) hd dd ?_;have q:=(rel.val k).isSome_eq;rw[isSome_map]at q;rw[<-q,<-l];exact h _ (I.tok _)
def FE {Q:G'->LK->Prop}(hu:A.units+1 < Oc) (I:Inv X Oj σ H s) (g:Ch H a y o) (ry:cy y u) (h:∀ s',Inv X Oj σ H s'->Q (.bool (!o.isSome)) s') :
 LV (model X.prog X.w) A (Nm .NotIn u (.ref a)) Q E s:=by
 rcases g with⟨kvs,k,e,ey,l⟩|⟨kvs,k,b,e,ey,eb,l⟩
 . subst ey;obtain⟨z,hd,vs,rel,dd⟩:=Ea I.hok e;refine wpAny_notIn_of (zD ry) hd dd.mapOf ?_;rw[<-(rel.val k).isSome_eq,<-l];exact h _ (I.tok _)
 . subst ey;cases (show u=Ml b from ry);obtain⟨z,hd,xs,rel,dd⟩:=Dl I.hok e;refine wpAny_notIn_heap (tupleKind_room_in1 hu) (yp I.hok eb) hd dd ?_;have q:=(rel.val k).isSome_eq;rw[isSome_map]at q;rw[<-q,<-l];exact h _ (I.tok _)
def sD {h':Mi}{t':Nat}{ob:HO}(I:Inv X Oj σ H s) (mu:Mut (H a)) (hs:MV a s.heap h') (he:∃ q,h'.get? a=f' q) (new:cQ X.prog X.w (upd H a ob) h' a ob) :
 Inv X Oj σ (upd H a ob) { s with heap:=h',toks:=t' } :=
 I.write (x:=a) (e:=a) mu (.inl rfl) (λb q hb z=>(hs.2 b hb).trans z) he new
def ER {P:Mg}{w:LZ}{H':Hp}{h':Mi}{kvs:List (Key × V)}{vs:List (Key × G')}(z:kvs.length <= LP) (hd:(a == Ng)=K') (rel:KV kvs vs) (dd:h'.DictOf (bA P w) a vs) :
 cQ P w H' h' a (.dK kvs):=⟨z,hd,vs,rel,dd⟩
def C3 {H':Hp}{Q:Unit->LK->Prop}(hu:A.units+1 < Oc) (I:Inv X Oj σ H s) (g:EE H a y v H') (ry:cy y u) (rv:cy v r) (h:∀ s',Inv X Oj σ H' s'->Q () s') :
 LV (model X.prog X.w) A (setItem (.ref a) u r) Q E s:=by
 rcases g with⟨kvs,k,e,ey,l,eH⟩|⟨kvs,k,b,e,ey,eb,l,eH⟩
 . subst ey eH;obtain⟨z,hd,vs,rel,dd⟩:=Dj I.hok e;have hz:vs.length <= LP:=by rw[<-rel.length];exact z
   have hl:(vx kvs k v).length <= LP:=by have:=pD kvs k v;omega
   refine wpAny_setItem_pairs (hsz:=hz) (zD ry) dd λh' dd' hs=>h _ ?_
   have he:∃ q,h'.get? a=f' q:=let ⟨q,_,_,hq,_⟩:=dd';⟨q,hq⟩;exact sD I (by rw[e];exact NQ) hs he (ER hl hd (rel.put k rv) dd')
 . subst ey eH;cases (show u=Ml b from ry);obtain⟨z,hd,xs,rel,dd⟩:=JT I.hok e;have hz:xs.length <= LP:=by rw[<-Mn.length rel];exact z
   have hl:(vx kvs k v).length <= LP:=by have:=pD kvs k v;omega
   refine wpAny_setItem_heap (hsz:=hz) (tupleKind_room_in1 hu) (yp I.hok eb) dd λh' dd' hs=>h _ ?_
   obtain⟨q,es,ep,hq,h2,h3,h4,_,h5⟩:=dd';refine sD I (by rw[e];exact NQ) hs ⟨q,hq⟩ ⟨hl,hd,_,(rel.put k eb rv).keeps λc ys ec=>?_,q,es,ep,hq,h2,h3,h4,h5⟩;rw[ac (jo ec e (λz=>nomatch z))];exact ec
end
section
variable {X:Cx}{Oj:List (D' × M6)}{σ:St}{H:Hp}{s:LK}{a:D'}{kvs:List (Key × V)}{k:Key}{u:G'}{A:Mr}{E:G'->LK->Prop}
def IV {v:V}{more:List G'}{Q:G'->LK->Prop}(I:Inv X Oj σ H s) (e:H a=f' (.dK kvs)) (ry:cy (kV k) u) (l:pq kvs k=f' v) (hm:more=[]\/∃ x,more=[x])
 (h:∀ w' s',Inv X Oj σ (upd H a (.dK (mX kvs k))) s'->cy v w'->Q w' s'):LV (model X.prog X.w) A (call (.builtin "dict.pop") (.ref a :: u :: more)) Q E s:=by
 obtain⟨z,hd,vs,rel,dd⟩:=Dj I.hok e;obtain⟨w',hw,rw'⟩:=vL.some_of (v:=v) (o:=valueAt vs k) (by rw[<-l];exact rel.val k);have hp:(keyPart u).isSome=l':=by
  cases k with
 |inl i=>obtain⟨t,q⟩:=(show ∃ t,u=G'.int i t from ry);subst q;rfl
 |inr x=>obtain⟨t,q⟩:=(show ∃ t,u=G'.str x t from ry);subst q;rfl
 have ha:argsOk "dict.pop" ⟨.ref a :: u :: more,[]⟩:=by
  rcases hm with q|⟨x,q⟩
  . subst q;exact PySem.F.args_dict_pop_2 _ _
  . subst q;exact PySem.F.args_dict_pop_3 _ _ _
 refine call_meetsIn NZ dd.typeIs PySem.F.entry_dict_pop ha (meets_dict_pop_there (bA X.prog X.w) a (zD ry) more hm hp)
  ⟨vs,w',dd,by rw[<-rel.length];exact z,hw,λh' dd' hs=>h w' _ ?_ rw'⟩
 have he:∃ q,h'.get? a=f' q:=let ⟨q,_,_,hq,_⟩:=dd';⟨q,hq⟩;exact sD I (by rw[e];exact NQ) hs he (ER (MG (El kvs k) z) hd (rel.drop k) dd')
def Iw {r:G'}{Q:G'->LK->Prop}(I:Inv X Oj σ H s) (e:H a=f' (.dK kvs)) (ry:cy (kV k) u) (l:pq kvs k=LJ) (h:∀ s',Inv X Oj σ H s'->Q r s') :
 LV (model X.prog X.w) A (call (.builtin "dict.pop") [.ref a,u,r]) Q E s:=by
 obtain⟨z,hd,vs,rel,dd⟩:=Dj I.hok e;have hn:valueAt vs k=LJ:=vL.none_of (by rw[<-l];exact rel.val k);have hp:(keyPart u).isSome=l':=by
  cases k with
 |inl i=>obtain⟨t,q⟩:=(show ∃ t,u=G'.int i t from ry);subst q;rfl
 |inr x=>obtain⟨t,q⟩:=(show ∃ t,u=G'.str x t from ry);subst q;rfl
 exact call_meetsIn NZ dd.typeIs PySem.F.entry_dict_pop (PySem.F.args_dict_pop_3 _ _ _) (meets_dict_pop_default (bA X.prog X.w) a (zD ry) hd hp r) ⟨vs,dd,hn,h _ (I.tok _)⟩
end
def KE (i:Expr):Prop:=∀ ov iv,subscripted i K' ov iv=operate [ov,iv] (getItem ov iv)
def Gk {prog:Mg}{w:LZ}{A:Mr}{E:G'->LK->Prop}{s:LK}{env:Env}{value slice:Expr}{pos:Pos}{T id:String}{Q:G'->LK->Prop}
 (hl:typeLookup (.type T) "__getitem__"=pure (f' (.builtin id))) (hs:KE slice)
 (h:LV (model prog w) A (eval value env) (λo s₁=>LV (model prog w) A (eval slice env) (λi s₂=>s₂.TypeIs o T/\LV (model prog w) A (getItem o i) Q E s₂) E s₁) E s) :
 LV (model prog w) A (eval (.Subscript value slice pos) env) Q E s:=by
 refine Subscript_ (N8 h (λo s₁ h₁=>N8 h₁ (λi s₂ h₂=>?_) λ_ _ x=>x) λ_ _ x=>x);obtain⟨hT,h₂⟩:=h₂;unfold subscriptTail;refine j' ?_;rw[getitemInPython_of_ne hT.not_modules];refine j' (wpAny_specialOf hT hl ?_);have fin:LV (model prog w) A (subscripted slice K' o i) (λr s₃=>LV (model prog w) A (letTemporaryGo value o r >>= λ_=>pure r) Q E s₃) E s₂:=by
  rw[hs o i];exact wpAny_operating (N8 h₂ (λr s₃ h₃=>j' (wpAny_letTemporaryGo (LL h₃))) λ_ _ x=>x)
 first
 |exact LL (j' fin)
 |exact j' (LL (j' fin))
 |exact j' fin
def LC (ty td:TE):TE:=λσ H Q=>ty σ H λy H1=>td σ H1 λx H2=>∃ a o,x=.ref a/\Ch H2 a y o/\Q (.bl o.isSome) H2
def Gw (ty td:TE):TE:=λσ H Q=>ty σ H λy H1=>td σ H1 λx H2=>∃ a o,x=.ref a/\Ch H2 a y o/\Q (.bl (!o.isSome)) H2
def JJ (td ty tv:TE):TS:=λD σ H=>tv σ H λv H1=>td σ H1 λx H2=>ty σ H2 λy H3=>∃ a H4,x=.ref a/\EE H3 a y v H4/\D.nx σ H4
section
variable {X:Cx}{o i e value:Expr}{pos pos' tpos:Pos}{td ty tv:TE}
def Fc (hu:X.A.units+1 < Oc) (hi:PE X i ty) (ho:PE X o td):PC X .In i o (LC ty td):=by
 intro Oj s σ H Q I h;refine thn (hi Oj s σ H _ I h) λiv s1 ⟨y,H1,I1,ry,q1⟩=>thn (ho Oj s1 σ H1 _ I1 q1) λu s2 ur34=>?_
 obtain⟨x,H2,I2,rx,a,ov,ex,g,q2⟩:=ur34;subst ex;obtain rfl:u=Ml a:=rx;exact Li hu I2 g ry λs3 I3=>⟨.bl ov.isSome,H2,I3,rfl,q2⟩
def lX (hu:X.A.units+1 < Oc) (hi:PE X i ty) (ho:PE X o td):PC X .NotIn i o (Gw ty td):=by
 intro Oj s σ H Q I h;refine thn (hi Oj s σ H _ I h) λiv s1 ⟨y,H1,I1,ry,q1⟩=>thn (ho Oj s1 σ H1 _ I1 q1) λu s2 ur35=>?_
 obtain⟨x,H2,I2,rx,a,ov,ex,g,q2⟩:=ur35;subst ex;obtain rfl:u=Ml a:=rx;exact FE hu I2 g ry λs3 I3=>⟨.bl (!ov.isSome),H2,I3,rfl,q2⟩
def sY (hu:X.A.units+1 < Oc) (ho:PE X o td) (hi:PE X i ty) (hv:PE X value tv) (hs:swapsWith value (f' (.Subscript o i pos')) pos.line X.env=pure K') :
 PS X (.Assign [.Subscript o i pos'] value pos) (JJ td ty tv):=by
 intro Oj s σ H D I h;refine wpAny_Assign_Subscript (thn (hv Oj s σ H _ I h) λr s1 ⟨v,H1,I1,rv,q1⟩=>thn (ho Oj s1 σ H1 _ I1 q1) λu s2 ⟨x,H2,I2,rx,q2⟩=>thn (hi Oj s2 σ H2 _ I2 q2) λiv s3 ur36=>?_) hs;obtain⟨y,H3,I3,ry,a,H4,ex,g,q3⟩:=ur36;subst ex;obtain rfl:u=Ml a:=rx;exact C3 hu I3 g ry rv λs4 I4=>⟨σ,H4,I4,q3⟩
end
def DE {P:Mg}{w:LZ}{H:Hp}(h:Mi) (hb:Ng < h.objs.size):cQ P w H (h.push { cls:=.type "dict",data:=.dict #[] }) h.objs.size (.dK []) :=
 ⟨Ny _,beq_eq_false_iff_ne.mpr (NA (Mv hb)),[],.nil,Mi.DictOf.new h⟩
def EJ:TE:=λ_ H Q=>∀ p,H p=LJ->Q (.ref p) (upd H p (.dK []))
section
variable {X:Cx}{pos:Pos}
def kU:PE X (.Dict [] [] pos) EJ:=λOj s σ H Q I h =>
 wpAny_Dict_empty ⟨.ref s.heap.objs.size,_,I.laid (a:=s.heap.objs.size) (o:=.dK []) (t':=s.toks) (λ_ _ q=>LH _ q) (LS _) (DE s.heap I.big),rfl,h _ (I.hok.fresh (LS _))⟩
end
structure M1 (X:Cx) (o:Expr) (m:Str) (apos:Pos) (e:Expr) (cpos:Pos):Prop where
 base:attributeBase o m X.env (eval o X.env)=eval o X.env
 few:((N6 cpos (Mu [e] X.env)).all (λx=>!x.1) && (backToKw cpos (keywordEach [] X.env)).all (λx=>x.1.isSome)
  && decide (([e]:List Expr).length+([]:List Keyword).length+(if ([]:List Keyword).isEmpty then 0 else 1) < 30))=l'
 line:(apos.endLine == cpos.line)=l'
 trees:N6 cpos (Mu [e] X.env)=[(K',eval e X.env)]
structure M2 (X:Cx) (o:Expr) (m:Str) (apos:Pos) (e f:Expr) (cpos:Pos):Prop where
 base:attributeBase o m X.env (eval o X.env)=eval o X.env
 few:((N6 cpos (Mu [e,f] X.env)).all (λx=>!x.1) && (backToKw cpos (keywordEach [] X.env)).all (λx=>x.1.isSome)
  && decide (([e,f]:List Expr).length+([]:List Keyword).length+(if ([]:List Keyword).isEmpty then 0 else 1) < 30))=l'
 line:(apos.endLine == cpos.line)=l'
 trees:N6 cpos (Mu [e,f] X.env)=[(K',eval e X.env),(K',eval f X.env)]
def IsD (H:Hp) (a:D'):Prop:=(∃ kvs,Rd H a (.dK kvs))\/∃ kvs,Rd H a (.dT kvs)
def ED {X:Cx}{Oj:List (D' × M6)}{σ:St}{H:Hp}{s:LK}{a:D'}(I:Inv X Oj σ H s) (d:IsD H a) :
 s.TypeIs (.ref a) "dict"/\(∀ b,Ml a=.ref b->∃ ob,s.heap.get? b=f' ob/\ob.dict=LJ)/\(a == Ng)=K':=by
 rcases d with⟨kvs,e⟩|⟨kvs,e⟩
 . obtain⟨_,hd,vs,_,dd⟩:=Ea I.hok e;refine⟨dd.typeIs,λb q=>?_,hd⟩;cases q;obtain⟨ob,_,_,h1,h2,_⟩:=dd;exact⟨ob,h1,h2.2.1⟩
 . obtain⟨_,hd,xs,_,dd⟩:=Dl I.hok e;refine⟨dd.typeIs,λb q=>?_,hd⟩;cases q;obtain⟨ob,_,_,h1,h2,_⟩:=dd;exact⟨ob,h1,h2.2.1⟩
section
variable {X:Cx}{Oj:List (D' × M6)}{σ:St}{H:Hp}{s:LK}{a:D'}{y d:V}{u r:G'}{o:Option V}{A:Mr}{E:G'->LK->Prop}
end
def Ik (td ty:TE):TE:=λσ H Q=>td σ H λx H1=>∃ a,x=.ref a/\IsD H1 a/\ty σ H1 λy H2=>∃ kvs k v,H2 a=f' (.dK kvs)/\y=kV k/\pq kvs k=f' v/\Q v (upd H2 a (.dK (mX kvs k)))
section
variable {X:Cx}{o e f:Expr}{apos cpos:Pos}{td ty tx:TE}
def tq (ho:PE X o td) (he:PE X e ty) (m:M1 X o "pop" apos e cpos):PE X (.Call (.Attribute o "pop" apos) [e] [] cpos) (Ik td ty):=by
 intro Oj s σ H Q I h;refine wpAny_Call_method m.base m.few m.line NP NZ PySem.F.type_dict_pop (thn (ho Oj s σ H _ I h) λu s1 ur37=>?_);obtain⟨x,H1,I1,rx,a,ex,d,q1⟩:=ur37;subst ex;obtain rfl:u=Ml a:=rx;obtain⟨t1,t2,_⟩:=ED I1 d;refine⟨t1,t2,?_⟩;rw[m.trees];refine ND rfl (Nw (Nh (thn (he Oj s1 σ H1 _ I1 q1) λiv s2 ⟨y,H2,I2,ry,kvs,k,v,ea,ey,l,q2⟩=>N4 ?_)));subst ey;exact IV I2 ea ry l (.inl rfl) λw' s3 I3 rw'=>⟨v,_,I3,rw',q2⟩
end
section
variable {X:Cx}{Oj:List (D' × M6)}{σ:St}{H:Hp}{s:LK}{a:D'}{kvs:List (Key × V)}{A:Mr}{E:G'->LK->Prop}
end
section
variable {X:Cx}{Oj:List (D' × M6)}{σ:St}{H:Hp}{s:LK}{a:D'}{y:V}{u:G'}{A:Mr}{E:G'->LK->Prop}
end
end L2
namespace Att
open PySem PySem.W PySem.Calls PyProof.Rows
def pe {P:Params}{h:Mi}:∀ (ns:List Int) (vs:List G'),WellAll P h vs (ns.map WData.int)->IntsAre vs ns:=by
 intro ns
 induction ns with
|nil =>
  intro vs w;rw[map_nil]at w;cases w;exact .nil
|cons n ns ih =>
  intro vs w;rw[Nn]at w;cases w with
 |cons a b =>
   cases a;exact .cons _ _ (ih _ b)
def C2 {l:OpenLaw}{n:Nat}(hn:l.most=f' n) {P:Params}{h:Mi}{args:List WData}{vals:List G'}
 (hpre:l.row.toRowW.claim.pre args=l') (hwl:WellAll P h vals args) :
 ∃ a vs ns,vals=[Ml a]/\args=[WData.list (ns.map WData.int)]/\h.get? a=f' { cls:=.type "list",data:=.seq vs.toArray }/\IntsAre vs ns/\ns.length <= n:=by
 have hsh:WShape.hasAll [] args [.list .int]=l':=(pre_splitW hpre).1;have hc:l.pre.holds [] { args:=args }=l':=(pre_splitW hpre).2;obtain⟨d,r,rfl,h1,h2⟩:=hasAllW_cons hsh;obtain rfl:=hasAllW_nil h2;obtain⟨xs,rfl,h3⟩:=hasW_list h1;obtain⟨ns,rfl⟩:=items_int h3;have hlen:ns.length <= n:=by
  unfold OpenLaw.pre at hc;have h4:(WTm.not (.lt (.lit (.int (n:Int))) (.len (.arg 0)))).holds [] { args:=[.list (ns.map .int)] }=l':=by
   have h4:=(holds_andW hc).1;rw[hn]at h4;exact h4
  have h5:=condW_of h4 (w_not (w_lt w_lit (w_len_list (w_arg rfl))));rw[Md]at h5;refine Nat.le_of_not_lt λq=>?_
  have q':(n:Int) < ((ns.length:Nat):Int):=by omega
  first
  |(rw[SI q']at h5;exact absurd h5 (by decide))
  |(simp at h5;omega)
 cases hwl with
|cons w1 w2 =>
  cases w2;cases w1 with
 |list ho hall=>exact⟨_,_,ns,rfl,rfl,ho,pe ns _ hall,hlen⟩
def BY (l:OpenLaw) (args:List WData):l.row.toRowW.claim.post args (.bool l') args=l' :=
 postW_of (r:=l.row.toRowW) (X:=(l' == l'))
  (show WShape.has [] (.bool l') .bool=l' by first|rfl|decide|simp[WShape.has,WShape.arms,WShape.armsAll])
  (show (WTm.eq .res (.lit (.bool l'))).value [] { args:=args,res:=f' (.bool l'),after:=args }=f' (.bool (l' == l')) from w_eq_bool (w_res rfl) w_lit) rfl
def attach_call {l:OpenLaw}{n:Nat}{q:Mg}{loose:List Str}{XP:(Str->Option G')->Mi->Prop}{YP:LZ->Mi->Prop}{d:DefRec}
 (hn:l.most=f' n) (hdf:d.params.defaults=[])
 (call:∀ (w:LZ) (s₀ s₁:LK) (mg mb:Str->Option G') (fa:D') (o:M6) (pm cd doc:G') (a:D') (vs:List G') (ns:List Int),
  Ground q loose [] XP w s₀ mg mb s₁.heap->YP w s₁.heap ->
  s₁.heap.get? fa=f' o->o.data=.func (docDef d.name d.params d.body d.scope pm cd doc)->s₁.heap.CodeRec cd d.name->mg d.name=f' (.ref fa) ->
  s₁.heap.get? a=f' { cls:=.type "list",data:=.seq vs.toArray }->IntsAre vs ns->ns.length <= n->s₁.gens=#[] ->
  codeAny (model l.prog w) callerA (.call (.ref fa) ⟨[.ref a],[]⟩) (λr s'=>r=.ok (.ret (.bool l'))/\OldK s₁.heap s'.heap/\s'.os=s₁.os/\AllBare s'.gens) s₁) :
 WalkO q loose XP YP l.row.toRowW d [] (λf vs=>PySem.call f vs):=by
 intro w s₀ s₁ mg mb G Y fa o pm cd doc dV kV ho hd hcd hD hmg hg args vals as hpre hlay hrd hwl hlo;obtain rfl:dV=.none:=Dflts.none hD hdf;obtain rfl:kV=.none:=Dflts.noKw hD;obtain⟨a,vs,ns,rfl,rfl,hobj,hints,hlen⟩:=C2 hn hpre hwl;refine enter_call (codeAny_mono (call w s₀ s₁ mg mb fa o pm cd doc a vs ns G Y ho (fd_plain hd) hcd hmg hobj hints hlen hg) λr s' hq=>?_);obtain⟨rfl,h2,h3,h4⟩:=hq;exact⟨.inl ⟨.bool l',.bool l',[],rfl,λ_=>rfl,.bool l',BY l _,λ_=>⟨Pairwise.nil,λ_ hm=>(nomatch hm)⟩⟩,h2,h3,h4⟩
section
variable {prog:Mg}{w:LZ}{A:Mr}{E:G'->LK->Prop}{s:LK}{K:Frag}
def KL (h:Mi) (L d:D'):List (D' × M6):=(Ob h.objs.size).filterMap λa=>if a=L\/a=d then LJ else (h.get? a).map λo=>(a,o)
end
end Att
namespace L2
open PySem PySem.Spec PyProof.Rows
theorem vG:∀ {vs:List G'}{ns:List Int},IntsAre vs ns->bV (ns.map V.int) vs
|_,_,.nil=>.nil
|_,_,.cons n t h=>.cons ⟨t,rfl⟩ (vG h)
def JG (H:Hp):Prop:=∀ b,H b=LJ\/∃ o xs,H b=f' (.frz o (.lst xs))
def Dv {P:Mg}{w:LZ}{K:LN}{mg mb:Str->Option G'}{CX:CXT}{k:Nat}{fa a:D'}{fd:LX}{x:Str}{sp:Sp}{s₁:LK}{vs:List G'}{ns:List Int}
 (KX:K.In s₁.heap) (hns:s₁.heap.Ns Mt mg) (hb:s₁.heap.Ns builtinsNs mb) (hbb:∀ x:Str,x≠"__name__"->mb x=MO x) (hlim:s₁.heap.NoLimit) (hg:s₁.gens=#[])
 (ha:s₁.heap.get? a=f' { cls:=.type "list",data:=.seq vs.toArray }) (hi:IntsAre vs ns) (hl:ns.length <= LP) (hr:Room k callerA)
 (F:∀ base:Mi,K.In base->base.Ns Mt mg->FnOk P w K mg base CX k fa fd [x] sp) (hbind:∀ (s:LK) (u:G'),BindsTo s fd ⟨[u],[]⟩ [(x,u)])
 (hsp:∀ H:Hp,JG H->SqL K H a (ns.map V.int)->sp [.ref a] H (λv _=>v=.bl l') λ_ _ _=>False)
 (hCX:∀ H e s',CX [] H s₁ (λ_ _ _=>False) e s'->False) :
 codeAny (model P w) callerA (.call (.ref fa) ⟨[.ref a],[]⟩) (λr s'=>r=.ok (.ret (.bool l'))/\OldK s₁.heap s'.heap/\s'.os=s₁.os/\AllBare s'.gens) s₁:=by
 have rv:=vG hi;have lenV:=hi.length;have core:∀ H:Hp,JG H->SqL K H a (ns.map V.int)->HOk P w H s₁.heap->(∀ b,H b≠LJ->b=a)->(H a≠LJ->K.lookup a=LJ) ->
  codeAny (model P w) callerA (.call (.ref fa) ⟨[.ref a],[]⟩) (λr s'=>r=.ok (.ret (.bool l'))/\OldK s₁.heap s'.heap/\s'.os=s₁.os/\AllBare s'.gens) s₁:=by
  intro H hO hS hok hA hK;have base_of:∀ {b:D'} {o:M6},s₁.heap.get? b=f' o->H b=LJ->(CW s₁.heap H).get? b=f' o:=λe n=>D1 e n
  have noA:∀ {b:D'} {o:M6} {es:Array MA} {ep:Nat},s₁.heap.get? b=f' o->o.data=.dict es ep->H b=LJ:=λ{b o es ep} e d=>by
   cases q:H b with
  |none=>rfl
  |some u =>
    have e':b=a:=hA b (by rw[q];simp);subst e';rw[ha]at e;cases e;have d':Data.seq vs.toArray _=Data.dict es ep:=d;cases d'
  have nsK:∀ {b:D'} {m:Str->Option G'},s₁.heap.Ns b m->(CW s₁.heap H).Ns b m:=λ{b m} ⟨o,es,ep,e,d,r⟩=>⟨o,es,ep,base_of e (noA e d),d,r⟩
  have hKb:K.In (CW s₁.heap H):=λb o e=>base_of (KX b o e) (by
   cases q:H b with
  |none=>rfl
  |some u =>
    have e':b=a:=hA b (by rw[q];simp);subst e';rw[hK (by rw[q];simp)]at e;cases e)
  have hM:Mod K mg (CW s₁.heap H):=⟨hKb,nsK hns,⟨mb,nsK hb,hbb⟩,let ⟨mc,h1,h2⟩:=hlim;⟨mc,nsK h1,h2⟩⟩
  have e0:Env0 P w K mg (CW s₁.heap H) callerA [] s₁ H:=⟨rfl,hM,λb o e=>Ft e,Nat.le_of_eq (By _ _),trivial,λb hb=>absurd (show b∈([]:List D') from hb) (by simp),hok,.of_eq hg⟩
  refine codeAny_mono ((F _ hKb (nsK hns)).run callerA [] s₁ H ⟨[.ref a],[]⟩ [.ref a] [.ref a] _ _ hr e0 (hbind s₁ (.ref a)) (.cons rfl .nil) (hsp H hO hS)) λr s' h=>?_
  cases r with
 |error e=>exact(hCX H e s' h).elim
 |ok fl =>
   cases fl with
  |next=>exact Nf h
  |brk=>exact Nf h
  |cont=>exact Nf h
  |ret u =>
    obtain⟨v,H',os,bare,un,hok',r',q⟩:=h;have q':v=.bl l':=q;subst q';obtain rfl:u=G'.bool l':=r';refine⟨rfl,OldK.of_keep λb o e=>?_,os,bare⟩;cases q:H b with
   |none=>exact un.keep b o e q (by intro z;exact absurd (show b∈([]:List D') from z) (by simp)) (by simp)
   |some u =>
     rcases hO b with z|⟨ob,xs,z⟩
     . rw[q]at z;cases z
     . have z2:=un.frzs b ob _ z;obtain⟨e1,_⟩:=hok b _ z;obtain⟨e2,_⟩:=hok' b _ z2;rw[e]at e1;cases e1;exact e2
 cases hk:K.lookup a with
|some o =>
  have e:=KX a o hk;rw[ha]at e;cases e;refine core (λ_=>LJ) (λ_=>.inl rfl) (.inr ⟨_,vs.toArray,_,hk,rfl,rfl,rfl,by rw[Mj,lenV];exact hl,by simpa using rv⟩) (λb u z=>by have z':(LJ:Option HO)=f' u:=z;cases z') (λb z=>absurd rfl z) λz=>absurd rfl z
|none =>
  refine core (λb=>if b=a then f' (.frz { cls:=.type "list",data:=.seq vs.toArray } (.lst (ns.map V.int))) else LJ) (λb=>?_) (.inl (.inr ⟨{ cls:=.type "list",data:=.seq vs.toArray },SF rfl⟩)) (λb u z=>?_) (λb z=>?_) λ_=>hk
  . by_cases hb:b=a
    . exact .inr ⟨_,_,SF hb⟩
    . exact .inl (SG hb)
  . by_cases hb:b=a
    . have z':=(SF hb).symm.trans z;cases z';subst hb;exact⟨ha,by rw[Md];exact hl,vs,_,rv,ha⟩
    . have z':=(SG hb).symm.trans z;cases z'
  . by_cases hb:b=a
    . exact hb
    . exact absurd (SG hb) z
def walk_of {l:PySem.W.OpenLaw}{n k:Nat}{q:Mg}{loose:List Str}{XP:(Str->Option G')->Mi->Prop}{YP:LZ->Mi->Prop}{d:DefRec}{K:Params->LN}{CX:LZ->CXT}{sp:LZ->Sp}{x:Str}
 (hn:l.most=f' n) (hn2:n <= LP) (hdf:d.params.defaults=[]) (hr:Room k callerA)
 (hY:∀ (w:LZ) (h:Mi),YP w h->(K w.params).In h)
 (F:∀ (w:LZ) (mg:Str->Option G') (fa:D') (h:Mi),(K w.params).In h->h.Ns Mt mg->mg d.name=f' (.ref fa) ->
  ∃ fd:LX,(∀ (s:LK) (u:G'),BindsTo s fd ⟨[u],[]⟩ [(x,u)]) /\
   ∀ base:Mi,(K w.params).In base->base.Ns Mt mg->FnOk l.prog w (K w.params) mg base (CX w) k fa fd [x] (sp w))
 (hsp:∀ (w:LZ) (H:Hp) (a:D') (ns:List Int),ns.length <= n->JG H->SqL (K w.params) H a (ns.map V.int)->sp w [.ref a] H (λv _=>v=.bl l') λ_ _ _=>False)
 (hCX:∀ (w:LZ) (H:Hp) (s:LK) (e:G') (s':LK),CX w [] H s (λ_ _ _=>False) e s'->False) :
 PySem.W.WalkO q loose XP YP l.row.toRowW d [] (λf vs=>PySem.call f vs):=by
 refine Att.attach_call hn hdf λw s₀ s₁ mg mb fa o pm cd doc a vs ns G Y ho hd hcd hmg hobj hints hlen hg=>?_
 have KX:=hY w _ Y;obtain⟨fd,hb,hF⟩:=F w mg fa _ KX G.T.g hmg;exact Dv KX G.T.g G.T.b G.T.builtins G.T.nolimit hg hobj hints (MG hlen hn2) hr hF hb (λH hO hS=>hsp w H a ns hlen hO hS) λH e s'=>hCX w H s₁ e s'
def ay (s:MJ) (j:Nat):MJ:=match s with
|.ClassDef _ _ _ body _ _ _ _ _ _ _=>body.getD j (.Pass ⟨0,0,0,0⟩)
|_=>.Pass ⟨0,0,0,0⟩
def fY (s:MJ):Arguments:=match s with
|.FunctionDef _ a _ _ _ _ _ _ _ _=>a
|_=>{ posonlyargs:=[],args:=[],vararg:=LJ,kwonlyargs:=[],kw_defaults:=[],kwarg:=LJ,defaults:=[] }
def dZ (s:MJ):List MJ:=match s with
|.FunctionDef _ _ b _ _ _ _ _ _ _=>b
|_=>[]
def ai (s:MJ):Scope:=match s with
|.FunctionDef _ _ _ _ _ _ sc _ _ _=>sc
|_=>{ kind:=.function,names:=[],isGenerator:=K',isCoroutine:=K' }
abbrev CX0:CXT:=λ_ _ _ _ _ _=>False
abbrev E0:XK:=λ_ _ _=>False
def aq {X:Cx}:gF CX0 X E0:=λ_ _ _ _ _ _ _ h=>h.elim
structure Fun (K:LN) (x qual:Str) (st:MJ) (f:D') (fd:LX):Prop where
 ex:∃ (oc:G') (od:Option D') (kV doc pm:G') (an:Option D') (cdv ct:G') (osl:Array (Option G')),
  fd=fnOf x qual (fY st) (dZ st) (ai st) .none kV doc pm an cdv ct/\K.lookup f=f' ⟨oc,od,.func fd,osl⟩/\codeIn K cdv qual=l'
 kp:keepIn K (.ref f)=l'
section
variable {P:Mg}{w:LZ}{K:LN}{mg:Str->Option G'}{base:Mi}
def Fun.ok {x qual:Str}{st:MJ}{f:D'}{fd:LX}{N ps:List Str}{k:Nat}{sp:Sp}(F:Fun K x qual st f fd) (S:FnScope N ps (ai st)) (len:∀ vs H Q E,sp vs H Q E->vs.length=ps.length)
 (hbody:∀ (cdv:G') (A:Mr) (outer:List Env) (s:LK) (H:Hp) (vs:List V) (Q:VK) (E:XK),Room k (A.deeper (envOfC qual (ai st) s.heap.objs.size f cdv))->sp vs H Q E ->
  ∃ t,PSs (Fh CX0 P w K mg base N qual (ai st) f cdv A outer s H E).nox (dZ st) t/\t { nx:=λ_ H'=>Q .non H',rt:=Q } (sM N vs) H):FnOk P w K mg base CX0 (k+1) f fd ps sp:=by
 obtain⟨oc,od,kV,doc,pm,an,cdv,ct,osl,rfl,lk,hcd⟩:=F.ex;refine Jf lk hcd S len λA outer s H vs Q E hr hsp=>?_
 obtain⟨t,h,q⟩:=hbody cdv A outer s H vs Q E hr hsp;exact⟨t,h.nox,q⟩
def Fun.binds {x qual:Str}{st:MJ}{f:D'}{fd:LX}{ps:List Str}(F:Fun K x qual st f fd)
 (h:∀ (kV doc pm:G') (an:Option D') (cdv ct:G') (us:List G'),us.length=ps.length->bindArgs (fnOf x qual (fY st) (dZ st) (ai st) .none kV doc pm an cdv ct) ⟨us,[]⟩=pure (ps.zip us)):az K fd ps []:=by
 obtain⟨oc,od,kV,doc,pm,an,cdv,ct,osl,rfl,lk,hcd⟩:=F.ex;exact .all (h kV doc pm an cdv ct)
def fun_mk {x qual:Str}{st:MJ}{f:D'}{oc:G'}{od an:Option D'}{osl:Array (Option G')}{kV doc pm cdv ct:G'}(l:K.lookup f=f' ⟨oc,od,.func (fnOf x qual (fY st) (dZ st) (ai st) .none kV doc pm an cdv ct),osl⟩)
 (c:codeIn K cdv qual=l') (k:keepIn K (.ref f)=l'):Fun K x qual st f (fnOf x qual (fY st) (dZ st) (ai st) .none kV doc pm an cdv ct):=⟨⟨oc,od,kV,doc,pm,an,cdv,ct,osl,rfl,l,c⟩,k⟩
end
def bP {A:Mr}{k:Nat}(hr:Room k A):A.units+1 < Oc:=Nat.lt_of_le_of_lt (Nat.add_le_add_left (by decide:1 <= 64) _) hr.units
section
variable {X:Cx}
def pv (i:Nat) {x:Str}{pos:Pos}(hN:X.N[i]?=f' x:=by rfl) (hv:Vis X.env.scope x:=by first|exact Mx rfl|exact Or.inr (Mx rfl)|exact Or.inr (Or.inr rfl)) (hd:(x == ("__debug__":Str))=K':=by decide)
 (hcd:(x == ("__classdict__":Str))=K':=by decide):PE X (.Name x pos) (nJ i):=Il hN hv hd hcd
end
def cW {A B:Prop}(h:B):if K'=l' then A else B:=by
 rw[SG Me];exact h
def fP {A B:Prop}(h:A):if l'=l' then A else B:=by
 rw[SF rfl];exact h
def Kv {c A B:Prop} [Decidable c] (h1:c->A) (h2:¬ c->B):if c then A else B:=by
 by_cases h:c
 . rw[SF h];exact h1 h
 . rw[SG h];exact h2 h
def aZ (H H':Hp):Prop:=∀ b o,H b=f' o->H' b=f' o
def aZ.refl (H:Hp):aZ H H:=λ_ _ h=>h
def aZ.trans {H H1 H2:Hp}(a:aZ H H1) (b:aZ H1 H2):aZ H H2:=λc o h=>b c o (a c o h)
def aZ.seq {K:LN}{H H':Hp}{a:D'}{xs:List V}(e:aZ H H') (h:SqL K H a xs):SqL K H' a xs:=by
 rcases h with (h|⟨o,h⟩)|h
 . exact .inl (.inl (e _ _ h))
 . exact .inl (.inr ⟨o,e _ _ h⟩)
 . exact .inr h
section
variable {X:Cx}
end
section
variable {κ:Type} [DecidableEq κ]
end
def uo:MO "int"=f' (.type "int"):=by decide +kernel
def Am:MO "bool"=f' (.type "bool"):=by decide +kernel
def B2:MO "list"=f' (.type "list"):=by decide +kernel
def gS:MO "tuple"=f' (.type "tuple"):=by decide +kernel
def lv:MO "str"=f' (.type "str"):=by decide +kernel
def vW:MO "reversed"=f' (.type "reversed"):=by decide +kernel
def aX:MO "isinstance"=f' (.builtin "isinstance"):=by decide +kernel
def fJ:MO "len"=f' (.builtin "len"):=by decide +kernel
section
variable {X:Cx}
def cb:kZ X (.builtin "isinstance") (λxs H Q=>∃ x c t b,xs=[x,V.ty c]/\TyOf X.K H x t/\Og X.K t (.type c)=f' b/\Q (.bl b) H):=by
 intro Oj s σ H xs us Q I r h;obtain⟨x,c,t,b,rfl,ty,e,q⟩:=h;obtain⟨u,w',rfl,ru,rw⟩:=Az r;cases rw;exact AU I ru ty e λtk=>⟨.bl b,H,I.tok _,rfl,q⟩
def Kq (_i j:Int):Prop:=0 < j/\j < 2 ^ 40
def Ci:OpR X (binaryOp .FloorDiv) (rI Kq λi j=>.int (i / j)):=opI λi j _ _ _ _ _ hc q=>by
 have h1:(0:Int) < j:=hc.1;have h2:j < 2 ^ 40:=hc.2;refine floordiv_int (by omega) (by rw[Int.fdiv_eq_ediv_of_nonneg i (by omega)];exact q) (.inl (PyProof.noPylong_of_log2 ?_));have h3:j.natAbs≠0:=by omega
 have h4:j.natAbs.log2 < 40:=(log2_lt h3).mpr (by omega);omega
end
def i9 {c A B:Prop} [Decidable c] (hc:c) (h:A):if c then A else B:=by
 rw[SF hc];exact h
def cz {c A B:Prop} [Decidable c] (hc:¬ c) (h:B):if c then A else B:=by
 rw[SG hc];exact h
def Bp {i j:Int}(h0:0 <= i) (h1:i < 4294967296):Jh i j:=.inl ⟨Int.lt_of_lt_of_le (by decide) h0,Int.lt_trans h1 (by decide)⟩
def af {H:Hp}{p:D'}{o:HO}(h:H p=LJ):aZ H (upd H p o):=λb u e=>by
 rw[ac (ae e h)];exact e
section
variable {X:Cx}
end
end L2
set_option Elab.async false
set_option maxRecDepth 100000
set_option maxHeartbeats 4000000
namespace MX
open PySem PySem.W
mutual
def kd:LO->Bool
|.int _=>l'
|.str x=>M8 x
|.tuple xs=>kds xs
|.none=>K'
|.bool _=>K'
|.list _=>K'
|.dict _=>K'
def kds:List LO->Bool
|[]=>l'
|x :: xs=>kd x && kds xs
end
mutual
def hashD (w:LZ):LO->Int
|.int i=>hashInt i
|.str x=>hashStr w x
|.tuple xs=>reduceHash (Builtin.Tuple.tupleHashOf (vw w xs))
|.none=>0
|.bool _=>0
|.list _=>0
|.dict _=>0
def vw (w:LZ):List LO->List Int
|[]=>[]
|x :: xs=>hashD w x :: vw w xs
end
mutual
theorem kd_lay:∀ d:LO,kd d=l'->d.canLay0=l'
|.int _,_=>rfl
|.str _,h=>h
|.tuple xs,h=>B7 xs h
|.none,h=>by cases h
|.bool _,h=>by cases h
|.list _,h=>by cases h
|.dict _,h=>by cases h
theorem B7:∀ xs:List LO,kds xs=l'->Nr xs=l'
|[],_=>rfl
|x :: xs,h=>by
  have h':(kd x && kds xs)=l':=h;rw[MC]at h';show (x.canLay0 && Nr xs)=l';rw[kd_lay x h'.1,B7 xs h'.2];rfl
end
def F0 {p q:Prop}(h1:¬ p) (h2:¬ q):p ↔ q:=⟨λz=>(h1 z).elim,λz=>(h2 z).elim⟩
mutual
theorem eqv_iff:∀ d e:LO,kd d=l'->kd e=l'->(Mc d e=l' ↔ d=e)
|.int a,.int b,_,_=>by
  show (a == b)=l' ↔ _;rw[beq_iff_eq];exact⟨λz=>by rw[z],λz=>by injection z⟩
|.str a,.str b,_,_=>by
  show (a == b)=l' ↔ _;rw[beq_iff_eq];exact⟨λz=>by rw[z],λz=>by injection z⟩
|.tuple xs,.tuple ys,h1,h2=>by
  have q:=eqvs_iff xs ys h1 h2;show Nl xs ys=l' ↔ _;rw[q];exact⟨λz=>by rw[z],λz=>by injection z⟩
|.int _,.str _,_,_=>F0 (λz=>by cases z) (λz=>by cases z)
|.int _,.tuple _,_,_=>F0 (λz=>by cases z) (λz=>by cases z)
|.str _,.int _,_,_=>F0 (λz=>by cases z) (λz=>by cases z)
|.str _,.tuple _,_,_=>F0 (λz=>by cases z) (λz=>by cases z)
|.tuple _,.int _,_,_=>F0 (λz=>by cases z) (λz=>by cases z)
|.tuple _,.str _,_,_=>F0 (λz=>by cases z) (λz=>by cases z)
theorem eqvs_iff:∀ xs ys:List LO,kds xs=l'->kds ys=l'->(Nl xs ys=l' ↔ xs=ys)
|[],[],_,_=>⟨λ_=>rfl,λ_=>rfl⟩
|[],_ :: _,_,_=>F0 (λz=>by cases z) (λz=>by cases z)
|_ :: _,[],_,_=>F0 (λz=>by cases z) (λz=>by cases z)
|x :: xs,y :: ys,h1,h2=>by
  have h1':(kd x && kds xs)=l':=h1;have h2':(kd y && kds ys)=l':=h2;rw[MC]at h1' h2';show (Mc x y && Nl xs ys)=l' ↔ _;rw[MC,eqv_iff x y h1'.1 h2'.1,eqvs_iff xs ys h1'.2 h2'.2];exact⟨λz=>by rw[z.1,z.2],λz=>by injection z with a b;exact⟨a,b⟩⟩
end
section
variable {prog:Mg}{w:LZ}{E:G'->LK->Prop}
mutual
theorem wH:∀ (k:LO) (v:G') (as:List D') (A:Mr) (s:LK) (Q:Int->LK->Prop),kd k=l'->Reads s.heap v k as->A.units+k.depth < Oc ->
 (∀ tk,Q (hashD w k) { s with toks:=tk })->LV (model prog w) A (pyHash v) Q E s
|.int i,_,_,A,s,Q,_,x,_,h=>by cases x;exact wpAny_pyHash_int (h _)
|.str y,_,_,A,s,Q,_,x,_,h=>by cases x;exact wpAny_pyHash_str (h _)
|.tuple xs,_,_,A,s,Q,hk,x,hu,h=>by
  cases x with
 |@tuple a o vs n _ _ hg hc hdt hw =>
   refine pyHash_slot (T:="tuple") ⟨_,hg,hc⟩ F.slot_tuple_hash F.entry_tuple_hash (F.args_tuple_hash_1 _) (beq_builtin_none _) (.inr (Nat.lt_of_le_of_lt (Nat.le_add_right _ _) hu)) ?_;show LV _ _ (Builtin.Tuple.tupleItemsOf (.ref a) >>= _) _ _ s;refine j' (wpAny_tupleItemsOf hg hdt (j' ?_));rw[<-Array.forIn_toList];refine x0 xs _ _ A.in1 s #[] _ hk hw (by simp only[LO.depth,Mr.in1_units]at hu |-;omega) λtk b hb=>?_
   show LV _ _ (retInt (Builtin.Tuple.tupleHashOf b.toList)) _ _ _;rw[hb];exact j' (wpAny_mkInt (LL ⟨_,_,rfl,h _⟩))
|.none,_,_,_,_,_,h,_,_,_=>by cases h
|.bool _,_,_,_,_,_,h,_,_,_=>by cases h
|.list _,_,_,_,_,_,h,_,_,_=>by cases h
|.dict _,_,_,_,_,_,h,_,_,_=>by cases h
theorem x0:∀ (xs:List LO) (vs:List G') (as:List D') (A:Mr) (s:LK) (b:Array Int) (Q:Array Int->LK->Prop),kds xs=l'->ReadsAll s.heap vs xs as->A.units+N0 xs < Oc ->
 (∀ tk b',b'.toList=b.toList++vw w xs->Q b' { s with toks:=tk }) ->
 LV (model prog w) A (forIn vs b λx r=>do let h <-pyHash x;pure PUnit.unit;pure (ForInStep.yield (r.push h))) Q E s
|[],_,_,A,s,b,Q,_,x,_,h=>by cases x;exact LL (h s.toks b (by simp[vw]))
|k :: xs,_,_,A,s,b,Q,hk,x,hu,h=>by
  cases x with
 |cons x1 x2 =>
   have hk':(kd k && kds xs)=l':=hk;rw[MC]at hk';simp only[N0]at hu;rw[forIn_cons];refine j' (j' (wH k _ _ A s _ hk'.1 x1 (by omega) λtk=>j' (LL (LL ?_))));exact x0 xs _ _ A _ _ Q hk'.2 x2 (by omega) λtk' b' hb=>h tk' b' (by simp[hb,vw])
end
def ya:∀ (n:Nat) (k:LO) (v:G') (as:List D') (A:Mr) (s:LK) (Q:Bool->LK->Prop),kd k=l'->Reads s.heap v k as->k.depth <= n ->
 Q l' s->LV (model prog w) A (eqIsQuiet n v) Q E s:=by
 intro n
 induction n with
|zero =>
  intro k v as A s Q hk x hu h;cases x with
 |int i t=>rw[eqIsQuiet_byValue 0 rfl];exact LL h
 |str i t=>rw[eqIsQuiet_byValue 0 rfl];exact LL h
 |tuple=>simp only[LO.depth]at hu;omega
 |none=>cases hk
 |bool=>cases hk
 |list=>cases hk
 |dict=>cases hk
|succ n ih =>
  intro k v as A s Q hk x hu h;cases x with
 |int i t=>rw[eqIsQuiet_byValue _ rfl];exact LL h
 |str i t=>rw[eqIsQuiet_byValue _ rfl];exact LL h
 |none=>cases hk
 |bool=>cases hk
 |list=>cases hk
 |dict=>cases hk
 |@tuple a o vs m xs _ hg hc hdt hw =>
   have hT:s.TypeIs (.ref a) "tuple":=⟨_,hg,hc⟩
   unfold eqIsQuiet;refine j' (wpAny_specialOf hT F.slot_tuple_eq.lookup ?_);show LV _ _ (isInstance (.ref a) (.type "tuple") >>= _) _ _ s;refine j' (wpAny_isInstance hT isSubtype_tuple_tuple ?_);simp only[NT,Mz,if_false];refine j' (NX hg hdt (j' ?_));show LV _ _ (forIn vs _ _) _ _ s;rw[<-Array.forIn_toList];refine wpAny_forIn_list _ (λcx r s'=>r.1=LJ/\s'=s/\∃ ys bs,ReadsAll s.heap cx ys bs/\kds ys=l'/\N0 ys <= n) _ ?_ ?_ _ _
    ⟨rfl,rfl,xs,_,hw,hk,by simp only[LO.depth]at hu;omega⟩
   . rintro y cx r s' ⟨hr,rfl,ys,bs,rd,hks,hdp⟩;cases rd with
    |@cons _ _ d ds _ _ r1 r2 =>
      have hks':(kd d && kds ds)=l':=hks;rw[MC]at hks';simp only[N0]at hdp;refine j' (ih d _ _ A _ _ hks'.1 r1 (by omega) ?_);simp only[NT,Mz,if_false];exact LL ⟨rfl,rfl,ds,_,r2,hks'.2,by omega⟩
   . rintro⟨r1,r2⟩ s' ⟨hr,rfl,_⟩;simp only at hr;subst hr;exact LL h
def Ent (w:LZ) (h:Mi) (k:LO) (e:MA):Prop:=kd k=l'/\k.depth <= 8/\(∃ as,Reads h e.key k as)/\e.hash=hashD w k
def Ask (h:Mi) (k:LO) (v:G'):Prop:=kd k=l'/\k.depth <= 8/\(∃ as,Reads h v k as)/\((∃ x t,v=.str x t)\/∃ a,v=.ref a)
abbrev Ents (w:LZ) (h:Mi) (ks:List LO) (es:List MA):Prop:=Mn (Ent w h) ks es
theorem f2_get {α β:Type}{R:α->β->Prop}:∀ {xs:List α}{ys:List β},Mn R xs ys->∀ (j:Nat) (y:β),ys[j]?=f' y->∃ x,xs[j]?=f' x/\R x y
|_,_,.nil,j,y,h=>by simp at h
|_,_,.cons r t,0,y,h=>by simp at h;subst h;exact⟨_,rfl,r⟩
|_,_,.cons r t,j+1,y,h=>by
  obtain⟨x,e,q⟩:=f2_get t j y (by simpa using h);exact⟨x,by simpa using e,q⟩
theorem ww {α β:Type}{R:α->β->Prop}:∀ {xs:List α}{ys:List β},Mn R xs ys->∀ (j:Nat) (x:α),xs[j]?=f' x->∃ y,ys[j]?=f' y/\R x y
|_,_,.nil,j,y,h=>by simp at h
|_,_,.cons r t,0,y,h=>by simp at h;subst h;exact⟨_,rfl,r⟩
|_,_,.cons r t,j+1,y,h=>by
  obtain⟨x,e,q⟩:=ww t j y (by simpa using h);exact⟨x,by simpa using e,q⟩
def yL {n:Nat}{f:Nat->Option Int}{h:Int}{j:Nat}(hj:j < n) (e:f j=f' h):j∈M4 n f h:=by
 unfold M4;exact Oh.mpr ⟨mem_range.mpr hj,by rw[e];simp⟩
def pX {n:Nat}{f:Nat->Option Int}{h:Int}{j:Nat}(hj:j∈M4 n f h):j < n:=by
 unfold M4 at hj;exact mem_range.mp (Oh.mp hj).1
def uP {n:Nat}{f:Nat->Option Int}{h:Int}:(M4 n f h).Nodup:=by
 unfold M4;exact Nodup.sublist List.filter_sublist List.nodup_range
def Je {α:Type}{xs:List α}(hn:xs.Nodup) {i j:Nat}{k:α}(hi:xs[i]?=f' k) (hj:xs[j]?=f' k):i=j :=
 (List.getElem?_inj (Mh.mp hi).1 hn).mp (hi.trans hj.symm)
variable {A:Mr}{s:LK}
def F4 {d:D'}{o:M6}{es:Array MA}{ep:Nat}{ks:List LO}{k:LO}{key:G'}{Q:Option Nat->LK->Prop}(hu:A.units+8 < Oc) (hk:Ask s.heap k key)
 (ho:s.heap.get? d=f' o) (hd:o.data=.dict es ep) (hes:Ents w s.heap ks es.toList) (hn:ks.Nodup) (hnone:k ∉ ks->Q LJ s) (hsome:∀ j:Nat,ks[j]?=f' k->Q (f' j) s) :
 LV (model prog w) A (dictFind d key (hashD w k)) Q E s:=by
 obtain⟨kk,kdp,⟨as,kr⟩,ksh⟩:=hk;have hget:∀ (j:Nat) (e:MA),es[j]?=f' e->∃ k',ks[j]?=f' k'/\Ent w s.heap k' e:=λj e h=>f2_get hes j e (by rw[MI];exact h)
 have hget':∀ (j:Nat) (k':LO),ks[j]?=f' k'->∃ e,es[j]?=f' e/\Ent w s.heap k' e:=λj k' h=>by
  obtain⟨e,h1,h2⟩:=ww hes j k' h;exact⟨e,by rw[<-MI];exact h1,h2⟩
 have hplace:∀ j:Nat,ks[j]?=f' k->j∈M4 es.size (λi=>es[i]?.map (·.hash)) (hashD w k):=λj h=>by
  obtain⟨e,h1,_,_,_,h2⟩:=hget' j k h;exact yL (Array.getElem?_eq_some_iff.mp h1).1 (by rw[h1,<-h2];rfl)
 have heq:∀ (k':LO) (e:MA) (R:Bool->LK->Prop),Ent w s.heap k' e->(k'=k->R l' s)->(k'≠k->R K' s)->LV (model prog w) A (eqBool e.key key) R E s:=λk' e R h h1 h2=>by
  obtain⟨ek,ed,⟨bs,er⟩,_⟩:=h;refine SeqAt.eqAt_reads k' k A s _ _ _ _ er kr (kd_lay _ ek) (kd_lay _ kk) (by omega) prog w E R ?_;by_cases z:k'=k
  . rw[(eqv_iff k' k ek kk).mpr z];exact h1 z
  . have:Mc k' k=K':=by
     cases q:Mc k' k with
    |false=>rfl
    |true=>exact absurd ((eqv_iff k' k ek kk).mp q) z
    rw[this];exact h2 z
 have none_of:(∀ j:Nat,ks[j]?=f' k->j∈([]:List Nat))->Q LJ s:=λh=>hnone λm=>by
  obtain⟨j,hj⟩:=mem_iff_getElem?.mp m;exact absurd (h j hj) (by simp)
 have plain:LV (model prog w) A (dictWalkPlain d key (hashD w k) es (M4 es.size (λi=>es[i]?.map (·.hash)) (hashD w k))) Q E s:=by
  refine j' ?_;refine wpAny_forIn_list _ (λcx b s'=>s'=s/\b=(LJ,())/\(∀ j:Nat,ks[j]?=f' k->j∈cx)/\∀ j∈cx,j < es.size) _ ?_ ?_ _ _ ⟨rfl,rfl,hplace,λj=>pX⟩
  . rintro x cx b s' ⟨rfl,rfl,hin,hlt⟩;have hx:=hlt x LY;have hlt':∀ j∈cx,j < es.size:=λj hj=>hlt j (Ma _ hj)
    obtain⟨k',hk',he⟩:=hget x es[x] (Mm hx);have next:k'≠k->∀ j:Nat,ks[j]?=f' k->j∈cx:=λz j hj=>by
     rcases Mf.mp (hin j hj) with q|q
     . subst q;rw[hk']at hj;exact absurd (Ms hj) z
     . exact q
    simp only[Mm hx];by_cases hh:(es[x].hash == hashD w k)=l'
    . rw[SF hh];refine j' (Nj ho hd (j' (heq k' es[x] _ he (λz=>j' (Nj ho hd ?_)) (λz=>j' (Nj ho hd ?_)))))
      . show LV _ _ (if (ep != ep)=l' then _ else _) _ E _;rw[SG (by simp)];exact j' (Nq (LL (LL (hsome x (z ▸ hk')))))
      . show LV _ _ (if (ep != ep)=l' then _ else _) _ E _;rw[SG (by simp)];exact j' (Nq (LL ⟨rfl,rfl,next z,hlt'⟩))
    . rw[SG hh];refine LL ⟨rfl,rfl,next λz=>hh ?_,hlt'⟩;rw[he.2.2.2,z];simp
  . rintro b s' ⟨rfl,rfl,hin,_⟩;exact LL (none_of hin)
 have hstored:∀ v∈(M4 es.size (λi=>es[i]?.map (·.hash)) (hashD w k)).filterMap (λi=>es[i]?.map (·.key)),∃ k' bs,kd k'=l'/\k'.depth <= 8/\Reads s.heap v k' bs:=λv hv=>by
  obtain⟨i,_,hi⟩:=mem_filterMap.mp hv;cases q:es[i]? with
 |none=>rw[q]at hi;cases hi
 |some e =>
   rw[q]at hi;have z:e.key=v:=by simpa using hi
   obtain⟨k',_,h1,h2,⟨bs,h3⟩,_⟩:=hget i e q;exact⟨k',bs,h1,h2,z ▸ h3⟩
 have htell:∀ (R:Bool->LK->Prop),R K' s->LV (model prog w) A (tableMayTell key ((M4 es.size (λi=>es[i]?.map (·.hash)) (hashD w k)).filterMap (λi=>es[i]?.map (·.key)))) R E s:=λR h=>by
  unfold tableMayTell;split
  . exact LL h
  . refine j' (ya 8 k key _ A s _ kk kr kdp ?_);simp only[NT,Mz,if_false];refine j' ?_;refine wpAny_forIn_list _ (λcx r s'=>s'=s/\r=(LJ,())/\∀ v∈cx,∃ k' bs,kd k'=l'/\k'.depth <= 8/\Reads s.heap v k' bs) _ ?_ ?_ _ _ ⟨rfl,rfl,hstored⟩
    . rintro x cx r s' ⟨rfl,rfl,hr⟩;obtain⟨k',bs,h1,h2,h3⟩:=hr x LY;refine j' (ya 8 k' x _ A _ _ h1 h3 h2 ?_);simp only[NT,Mz,if_false];exact LL ⟨rfl,rfl,λv hv=>hr v (Ma _ hv)⟩
    . rintro r s' ⟨rfl,rfl,_⟩;exact LL h
 have hany:∀ a:D',key=.ref a->¬ (es.any λe=>e.key == Ml a && e.hash != hashD w k)=l':=by
  rintro a rfl h;rw[<-Array.any_toList,any_eq_true]at h;obtain⟨e,hin,hc⟩:=h;obtain⟨j,hj⟩:=mem_iff_getElem?.mp hin;obtain⟨k',hk',h1,h2,⟨bs,h3⟩,h4⟩:=hget j e (by rw[<-MI];exact hj);rw[MC]at hc;have z1:e.key=.ref a:=beq_iff_eq.mp hc.1;rw[z1]at h3;have z2:=SeqAt.Reads.unique k' k _ _ _ (kd_lay _ h1) h3 kr;rw[h4,z2]at hc;simp at hc
 unfold dictFind;refine MT ?_;refine j' (wpAny_dictEntries ho hd ?_);dsimp only;rcases ksh with⟨x,t,rfl⟩|⟨a,rfl⟩
 . dsimp only;by_cases hstr:(es.all λe=>isExactStrKey e.key)=l'
   . rw[SF hstr];unfold foundByValue;have kx:k=.str x:=by cases kr;rfl
     have hkey:∀ (j:Nat) (e:MA),es[j]?=f' e->∃ k',ks[j]?=f' k'/\Ent w s.heap k' e/\(e.key.isStr x=l' ↔ k'=k):=λj e h=>by
      obtain⟨k',h1,h2⟩:=hget j e h;refine⟨k',h1,h2,?_⟩;have hs:isExactStrKey e.key=l':=by
       have q:=Array.all_eq_true.mp hstr;obtain⟨hl,he⟩:=Array.getElem?_eq_some_iff.mp h;have:=q j hl;rw[he]at this;exact this
      obtain⟨_,_,⟨bs,h3⟩,_⟩:=h2;cases hv:e.key with
     |str y u =>
       rw[hv]at h3;cases h3;show (y == x)=l' ↔ _;rw[kx,beq_iff_eq];exact⟨λz=>by rw[z],λz=>by injection z⟩
     |_=>rw[hv]at hs;cases hs
     cases hf:es.findIdx? (λe=>e.key.isStr x) with
    |none =>
      refine LL (hnone λm=>?_);obtain⟨j,hj⟩:=mem_iff_getElem?.mp m;obtain⟨e,he,_⟩:=hget' j k hj;obtain⟨k',h1,_,h2⟩:=hkey j e he;rw[hj]at h1;have h3:=Array.findIdx?_eq_none_iff.mp hf e (Array.mem_of_getElem? he);rw[h2.mpr (Ms h1).symm]at h3;cases h3
    |some i =>
      obtain⟨hlt,hi,_⟩:=Array.findIdx?_eq_some_iff_getElem.mp hf;obtain⟨k',h1,h2,h3⟩:=hkey i es[i] (Mm hlt);have z:k'=k:=h3.mp hi;simp only[Mm hlt];refine j' (Nj ho hd (j' (heq k' es[i] _ h2 (λ_=>j' (Nj ho hd ?_)) (λq=>absurd z q))));rw[SG (by simp)];simp only[if_true];exact j' (Nq (LL (hsome i (z ▸ h1))))
   . rw[SG hstr];by_cases hall:((G'.str x t :: (M4 es.size (λi=>es[i]?.map (·.hash)) (hashD w k)).filterMap (λi=>es[i]?.map (·.key))).all carriedByValue)=l'
     . rw[SF hall];exact plain
     . rw[SG hall];by_cases hone:(((M4 es.size (λi=>es[i]?.map (·.hash)) (hashD w k)).filterMap (λi=>es[i]?.map (·.key))) == [G'.str x t])=l'
       all_goals
        first
        |(rw[SF hone];refine j' (LL ?_))
        |(rw[SG hone];refine j' (htell _ ?_))
        rw[SG (by simp)];refine j' (wpAny_forIn_list _ (λcx b s'=>s'=s/\∃ hit,b=(LJ,hit)/\((hit=LJ/\∀ j:Nat,ks[j]?=f' k->j∈cx)\/∃ j,hit=f' j/\ks[j]?=f' k/\j ∉ cx)/\(∀ j∈cx,j < es.size)/\cx.Nodup) _ ?_ ?_ _ _
         ⟨rfl,LJ,rfl,.inl ⟨rfl,hplace⟩,λj=>pX,uP⟩)
        . rintro x cx b s' ⟨rfl,hit,rfl,hin,hlt,hnd⟩;have hx:=hlt x LY;have hlt':∀ j∈cx,j < es.size:=λj hj=>hlt j (Ma _ hj)
          obtain⟨hxr,hnd'⟩:=NW.mp hnd;obtain⟨k',hk',he⟩:=hget x es[x] (Mm hx);have next:k'≠k->((hit=LJ/\∀ j:Nat,ks[j]?=f' k->j∈cx)\/∃ j,hit=f' j/\ks[j]?=f' k/\j ∉ cx):=λz=>by
           rcases hin with⟨h0,hin⟩|⟨j,h0,hj,hjr⟩
           . refine .inl ⟨h0,λj hj=>?_⟩;rcases Mf.mp (hin j hj) with q|q
             . subst q;rw[hk']at hj;exact absurd (Ms hj) z
             . exact q
           . exact .inr ⟨j,h0,hj,λq=>hjr (Ma _ q)⟩
          simp only[Mm hx];by_cases hh:(es[x].hash == hashD w k)=l'
          . rw[SF hh];refine j' (Nj ho hd (j' (heq k' es[x] _ he (λz=>j' (Nj ho hd ?_)) (λz=>j' (Nj ho hd ?_)))))
            . rw[SG (by simp)];have hkx:ks[x]?=f' k:=z ▸ hk';rcases hin with⟨rfl,hin⟩|⟨j,_,hj,hjr⟩
              . simp only[isSome_none,Mz,if_false,if_true];refine j' (Nq ?_);split
                . exact LL (LL (hsome x hkx))
                . exact LL ⟨rfl,f' x,rfl,.inr ⟨x,rfl,hkx,hxr⟩,hlt',hnd'⟩
              . exact absurd (Je hn hj hkx ▸ LY) hjr
            . rw[SG (by simp)];simp only[Mz,if_false];refine j' (Nq ?_)
              try rw[SG (by simp)]
              exact LL ⟨rfl,hit,rfl,next z,hlt',hnd'⟩
          . rw[SG hh];refine LL ⟨rfl,hit,rfl,next λz=>hh ?_,hlt',hnd'⟩;rw[he.2.2.2,z];simp
        . rintro b s' ⟨rfl,hit,rfl,hin,_⟩;rcases hin with⟨rfl,hin⟩|⟨j,rfl,hj,_⟩
          . exact LL (none_of hin)
          . exact LL (hsome j hj)
 . dsimp only;rw[SG (show ¬ ((Ml a :: (M4 es.size (λi=>es[i]?.map (·.hash)) (hashD w k)).filterMap (λi=>es[i]?.map (·.key))).all carriedByValue)=l' from by simp[carriedByValue]),SG (hany a rfl)];by_cases hone:(((M4 es.size (λi=>es[i]?.map (·.hash)) (hashD w k)).filterMap (λi=>es[i]?.map (·.key))) == [Ml a])=l'
   all_goals
    first
    |(rw[SF hone];refine j' (LL ?_))
    |(rw[SG hone];refine j' (htell _ ?_))
    rw[SG (by simp)];refine j' (wpAny_forIn_list _ (λcx b s'=>s'=s/\∃ hit,b=(LJ,hit)/\((hit=LJ/\∀ j:Nat,ks[j]?=f' k->j∈cx)\/∃ j,hit=f' j/\ks[j]?=f' k/\j ∉ cx)/\(∀ j∈cx,j < es.size)/\cx.Nodup) _ ?_ ?_ _ _
     ⟨rfl,LJ,rfl,.inl ⟨rfl,hplace⟩,λj=>pX,uP⟩)
    . rintro x cx b s' ⟨rfl,hit,rfl,hin,hlt,hnd⟩;have hx:=hlt x LY;have hlt':∀ j∈cx,j < es.size:=λj hj=>hlt j (Ma _ hj)
      obtain⟨hxr,hnd'⟩:=NW.mp hnd;obtain⟨k',hk',he⟩:=hget x es[x] (Mm hx);have next:k'≠k->((hit=LJ/\∀ j:Nat,ks[j]?=f' k->j∈cx)\/∃ j,hit=f' j/\ks[j]?=f' k/\j ∉ cx):=λz=>by
       rcases hin with⟨h0,hin⟩|⟨j,h0,hj,hjr⟩
       . refine .inl ⟨h0,λj hj=>?_⟩;rcases Mf.mp (hin j hj) with q|q
         . subst q;rw[hk']at hj;exact absurd (Ms hj) z
         . exact q
       . exact .inr ⟨j,h0,hj,λq=>hjr (Ma _ q)⟩
      simp only[Mm hx];by_cases hh:(es[x].hash == hashD w k)=l'
      . rw[SF hh];refine j' (Nj ho hd (j' (heq k' es[x] _ he (λz=>j' (Nj ho hd ?_)) (λz=>j' (Nj ho hd ?_)))))
        . rw[SG (by simp)];have hkx:ks[x]?=f' k:=z ▸ hk';rcases hin with⟨rfl,hin⟩|⟨j,_,hj,hjr⟩
          . simp only[isSome_none,Mz,if_false,if_true];refine j' (Nq ?_);split
            . exact LL (LL (hsome x hkx))
            . exact LL ⟨rfl,f' x,rfl,.inr ⟨x,rfl,hkx,hxr⟩,hlt',hnd'⟩
          . exact absurd (Je hn hj hkx ▸ LY) hjr
        . rw[SG (by simp)];simp only[Mz,if_false];refine j' (Nq ?_)
          try rw[SG (by simp)]
          exact LL ⟨rfl,hit,rfl,next z,hlt',hnd'⟩
      . rw[SG hh];refine LL ⟨rfl,hit,rfl,next λz=>hh ?_,hlt',hnd'⟩;rw[he.2.2.2,z];simp
    . rintro b s' ⟨rfl,hit,rfl,hin,_⟩;rcases hin with⟨rfl,hin⟩|⟨j,rfl,hj,_⟩
      . exact LL (none_of hin)
      . exact LL (hsome j hj)
def DictE (h:Mi) (d:D') (es:List MA) (ep:Nat):Prop:=∃ o,h.get? d=f' o/\o.ExactDict/\o.data=.dict es.toArray ep
def kC (h:Mi) (d:D') (es:List MA):Prop:=∃ o ep,h.get? d=f' o/\o.ExactDict/\o.data=.dict es.toArray ep
def kC.ep {h:Mi}{d:D'}{es:List MA}(x:kC h d es):∃ ep,DictE h d es ep:=let ⟨o,ep,e⟩:=x;⟨ep,o,e⟩
def DictE.es {h:Mi}{d:D'}{es:List MA}{ep:Nat}(x:DictE h d es ep):kC h d es:=let ⟨o,e⟩:=x;⟨o,ep,e⟩
def kC.typeIs {s:LK}{d:D'}{es:List MA}(x:kC s.heap d es):s.TypeIs (.ref d) "dict":=let ⟨o,_,ho,hc,_⟩:=x;⟨o,ho,hc.1⟩
def Jw {d:D'}{es:List MA}{ks:List LO}{k:LO}{key:G'}{Q:Option G'->LK->Prop}(hu:A.units+8 < Oc) (hk:Ask s.heap k key)
 (hm:kC s.heap d es) (hes:Ents w s.heap ks es) (hn:ks.Nodup) (hnone:k ∉ ks->∀ tk,Q LJ { s with toks:=tk })
 (hsome:∀ (j:Nat) (e:MA),ks[j]?=f' k->es[j]?=f' e->∀ tk,Q (f' e.val) { s with toks:=tk }):LV (model prog w) A (dictGet d key) Q E s:=by
 obtain⟨o,ep,ho,hc,hd⟩:=hm;obtain⟨kk,kdp,⟨as,kr⟩,ksh⟩:=id hk;unfold dictGet;refine MT (j' (wH k key as A s _ kk kr (by omega) λtk=>j' (F4 (s:={ s with toks:=tk }) hu hk ho hd hes hn ?_ ?_)))
 . exact λh=>LL (hnone h tk)
 . intro j hj;refine j' (wpAny_dictEntries (s:={ s with toks:=tk }) ho hd ?_);obtain⟨e,he,_⟩:=ww hes j k hj;have q:es.toArray[j]?=f' e:=by rw[List.getElem?_toArray];exact he
   rw[q];exact LL (hsome j e hj he tk)
def Ks {d:D'}{es:List MA}{ks:List LO}{k:LO}{key v:G'}{Q:Unit->LK->Prop}(hu:A.units+8 < Oc) (hk:Ask s.heap k key)
 (hm:kC s.heap d es) (hes:Ents w s.heap ks es) (hn:ks.Nodup) (hsz:es.length <= LP)
 (hQ:∀ (h':Mi) (tk:Nat) (es':List MA),kC h' d es'->MV d s.heap h'->((k ∉ ks/\es'=es++[⟨hashD w k,key,v⟩])\/∃ j:Nat,ks[j]?=f' k/\es'=es.modify j λe=>{ e with val:=v }) ->
  Q () { s with heap:=h',toks:=tk }):LV (model prog w) A (dictSet d key v) Q E s:=by
 obtain⟨o,ep,ho,hc,hd⟩:=hm;obtain⟨kk,kdp,⟨as,kr⟩,ksh⟩:=id hk;unfold dictSet;refine MT (j' (wH k key as A s _ kk kr (by omega) λtk=>?_));unfold dictSetHashed;refine MT (j' (F4 (s:={ s with toks:=tk }) hu hk ho hd hes hn ?_ ?_))
 . intro h;refine j' (Nq (wpAny_updateDictKeys (hz:=by simpa using hsz) (s:={ s with toks:=tk }) ho hd (hQ _ tk (es++[⟨hashD w k,key,v⟩]) ⟨_,ep+1,M3 _ ho (M6.isFreed_of_dict (M6.data_mapDictKeys hd _)),hc.mapDictKeys _,?_⟩ (ML ..) (.inl ⟨h,rfl⟩))));rw[M6.data_mapDictKeys hd _];simp
 . intro j hj;refine j' (Nq (j' (wpAny_updateDict (s:={ s with toks:=tk }) ho hd (wpAny_point (hQ _ tk (es.modify j λe=>{ e with val:=v }) ⟨_,ep,M3 _ ho (M6.isFreed_of_dict (M6.data_mapDict hd _)),hc.mapDict _,?_⟩ (ML ..) (.inr ⟨j,hj,rfl⟩))))));rw[M6.data_mapDict hd _];simp
def meets_D (d:D') (key dflt:G') (hd:(d == Ng)=K') :
 MeetsIn prog w (Builtin.«dict.get» ⟨[.ref d,key,dflt],[]⟩) (λA R s=>A.in1.units+8 < Oc/\∃ k ks es,Ask s.heap k key/\kC s.heap d es/\Ents w s.heap ks es/\ks.Nodup /\
  (k ∉ ks->∀ tk,R (.ok (.ret dflt)) { s with toks:=tk })/\∀ (j:Nat) (e:MA),ks[j]?=f' k->es[j]?=f' e->∀ tk,R (.ok (.ret e.val)) { s with toks:=tk }) :=
 .of_wp λA R s ⟨hu,k,ks,es,hk,hm,hes,hn,h1,h2⟩=>by
  show LV _ _ (dictGet d key >>= _) _ _ s;refine j' (Jw hu hk hm hes hn (λh tk=>?_) λj e hj he tk=>LL ⟨_,rfl,h2 j e hj he tk⟩);show LV _ _ (Builtin.Dict.missed d key >>= _) _ _ _;exact j' (wpAny_missed_other hd (LL ⟨dflt,rfl,h1 h tk⟩))
def put_D {d:D'}{es:List MA}{ks:List LO}{k:LO}{key v:G'}{Q:Unit->LK->Prop}(hu:A.in1.units+8 < Oc) (hk:Ask s.heap k key)
 (hm:kC s.heap d es) (hes:Ents w s.heap ks es) (hn:ks.Nodup) (hsz:es.length <= LP)
 (hQ:∀ (h':Mi) (tk:Nat) (es':List MA),kC h' d es'->MV d s.heap h'->((k ∉ ks/\es'=es++[⟨hashD w k,key,v⟩])\/∃ j:Nat,ks[j]?=f' k/\es'=es.modify j λe=>{ e with val:=v }) ->
  Q () { s with heap:=h',toks:=tk }):LV (model prog w) A (setItem (.ref d) key v) Q E s:=by
 unfold setItem;refine MT (j' (wpAny_sequenceKey hm.typeIs (by decide) (j' (MH (name:=Na "__setitem__") hm.typeIs slot_dict_setitem
  (MB slot_dict_setitem hm.typeIs entry_dict_setitem ?_ (args_dict_setitem _ _ _))))))
 show LV _ _ (Builtin.Dict.notOrdered "__setitem__" ⟨[.ref d,key,v],[]⟩ >>= _) _ _ s;refine j' (wpAny_notOrdered_dict hm.typeIs ?_);show LV _ _ (dictSet d key v >>= _) _ _ s;exact j' (Ks hu hk hm hes hn hsz λh' tk es' a b c=>LL ⟨.none,rfl,LL (hQ h' tk es' a b c)⟩)
end
end MX
namespace L2
open PySem PySem.Spec PyProof.Rows
mutual
def DV (H:Hp):LO->V->Prop
|.none,x=>x=.non
|.bool b,x=>x=.bl b
|.int i,x=>x=.int i
|.str t,x=>x=.str t
|.list ds,x=>∃ (a:D') (vs:List V),x=.ref a/\H a=f' (.lst vs)/\DVs H ds vs
|.tuple ds,x=>∃ (a:D') (vs:List V),x=.ref a/\H a=f' (.tup vs)/\DVs H ds vs
|.dict _,_=>False
def DVs (H:Hp):List LO->List V->Prop
|[],vs=>vs=[]
|d :: ds,vs=>∃ (v:V) (r:List V),vs=v :: r/\DV H d v/\DVs H ds r
end
section
variable {P:Mg}{w:LZ}{H H':Hp}{h:Mi}
mutual
theorem DV.reads (ok:HOk P w H h):∀ (d:LO) (x:V) (u:G'),DV H d x->cy x u->∃ as,Reads h u d as
|.none,_,_,e,r=>by cases e;cases r;exact⟨_,.none⟩
|.bool b,_,_,e,r=>by cases e;cases r;exact⟨_,.bool b⟩
|.int i,_,_,e,r=>by cases e;obtain⟨t,rfl⟩:=r;exact⟨_,.int i t⟩
|.str y,_,_,e,r=>by cases e;obtain⟨t,rfl⟩:=r;exact⟨_,.str y t⟩
|.list ds,_,_,e,r=>by
  obtain⟨a,vs,rfl,ha,hv⟩:=e;cases r;obtain⟨_,its,n,rv,hg⟩:=ok a _ ha;obtain⟨as,q⟩:=DVs.reads ok ds vs its hv rv;exact⟨_,.list hg rfl rfl (by simpa using q)⟩
|.tuple ds,_,_,e,r=>by
  obtain⟨a,vs,rfl,ha,hv⟩:=e;cases r;obtain⟨_,its,rv,o,hg,hc,n,hd⟩:=ok a _ ha;obtain⟨as,q⟩:=DVs.reads ok ds vs its hv rv;exact⟨_,.tuple hg hc hd (by simpa using q)⟩
|.dict _,_,_,e,_=>Nf e
theorem DVs.reads (ok:HOk P w H h):∀ (ds:List LO) (vs:List V) (us:List G'),DVs H ds vs->bV vs us->∃ as,ReadsAll h us ds as
|[],_,_,e,r=>by cases e;cases r;exact⟨_,.nil⟩
|d :: ds,_,_,e,r=>by
  obtain⟨v,vs,rfl,h1,h2⟩:=e;cases r with
 |cons r1 r2 =>
   obtain⟨as,q1⟩:=DV.reads ok d _ _ h1 r1;obtain⟨bs,q2⟩:=DVs.reads ok ds _ _ h2 r2;exact⟨_,.cons q1 q2⟩
end
mutual
theorem DV.mono (hs:∀ b vs,H b=f' (.lst vs)->H' b=f' (.lst vs)) (ht:∀ b vs,H b=f' (.tup vs)->H' b=f' (.tup vs)):∀ (d:LO) (x:V),DV H d x->DV H' d x
|.none,_,e=>e
|.bool _,_,e=>e
|.int _,_,e=>e
|.str _,_,e=>e
|.list ds,_,⟨a,vs,e,ha,hv⟩=>⟨a,vs,e,hs _ _ ha,DVs.mono hs ht ds vs hv⟩
|.tuple ds,_,⟨a,vs,e,ha,hv⟩=>⟨a,vs,e,ht _ _ ha,DVs.mono hs ht ds vs hv⟩
|.dict _,_,e=>e
theorem DVs.mono (hs:∀ b vs,H b=f' (.lst vs)->H' b=f' (.lst vs)) (ht:∀ b vs,H b=f' (.tup vs)->H' b=f' (.tup vs)):∀ (ds:List LO) (vs:List V),DVs H ds vs->DVs H' ds vs
|[],_,e=>e
|d :: ds,_,⟨v,r,e,h1,h2⟩=>⟨v,r,e,DV.mono hs ht d v h1,DVs.mono hs ht ds r h2⟩
end
mutual
theorem DV.keep (ht:∀ b vs,H b=f' (.tup vs)->H' b=f' (.tup vs)):∀ (d:LO) (x:V),MX.kd d=l'->DV H d x->DV H' d x
|.int _,_,_,e=>e
|.str _,_,_,e=>e
|.tuple ds,_,k,⟨a,vs,e,ha,hv⟩=>⟨a,vs,e,ht _ _ ha,DVs.keep ht ds vs k hv⟩
|.none,_,k,_=>by cases k
|.bool _,_,k,_=>by cases k
|.list _,_,k,_=>by cases k
|.dict _,_,k,_=>by cases k
theorem DVs.keep (ht:∀ b vs,H b=f' (.tup vs)->H' b=f' (.tup vs)):∀ (ds:List LO) (vs:List V),MX.kds ds=l'->DVs H ds vs->DVs H' ds vs
|[],_,_,e=>e
|d :: ds,_,k,⟨v,r,e,h1,h2⟩=>by
  have k':(MX.kd d && MX.kds ds)=l':=k;rw[MC]at k';exact⟨v,r,e,DV.keep ht d v k'.1 h1,DVs.keep ht ds r k'.2 h2⟩
end
theorem DVs.snoc:∀ {ds:List LO}{vs:List V}{d:LO}{v:V},DVs H ds vs->DV H d v->DVs H (ds++[d]) (vs++[v])
|[],_,d,v,e,h=>by cases e;exact⟨v,[],rfl,h,rfl⟩
|c :: ds,_,d,v,⟨v',r,e,h1,h2⟩,h=>by subst e;exact⟨v',r++[v],rfl,h1,DVs.snoc h2 h⟩
end
def ue (d:LO):Prop:=d.canLay0=l'/\d.depth <= 16
def ue.key {d:LO}(h:MX.kd d=l') (h2:d.depth <= 8):ue d:=⟨MX.kd_lay d h,by omega⟩
theorem ue.int (i:Int):ue (.int i):=⟨rfl,by show 0 <= 16;decide⟩
def Kd (neg:Bool):R2:=λx y H Q=>∃ d e,DV H d x/\DV H e y/\ue d/\ue e/\Q (.bl (if neg then !PyData.eqv d e else Mc d e)) H
section
variable {X:Cx}
def lf (hu:X.A.units+64 < Oc):OpR X (Nm .Eq) (Kd K'):=by
 intro Oj s σ H x y v u Q I rx ry h;obtain⟨d,e,h1,h2,l1,l2,q⟩:=h;obtain⟨as,r1⟩:=DV.reads I.hok d x v h1 rx;obtain⟨bs,r2⟩:=DV.reads I.hok e y u h2 ry;exact SeqAt.compareEq_reads r1 r2 l1.1 l2.1 (by have:=l1.2;omega) ⟨.bl _,H,I,rfl,q⟩
def rH (hu:X.A.units+64 < Oc):OpR X (Nm .NotEq) (Kd l'):=by
 intro Oj s σ H x y v u Q I rx ry h;obtain⟨d,e,h1,h2,l1,l2,q⟩:=h;obtain⟨as,r1⟩:=DV.reads I.hok d x v h1 rx;obtain⟨bs,r2⟩:=DV.reads I.hok e y u h2 ry;exact SeqAt.neOverData X.prog X.w X.A X.xe s v u d e as bs _ r1 r2 l1.1 l2.1 (by have:=l1.2;omega) ⟨.bl _,H,I,rfl,q⟩
end
def qf (a:D') (es:List MA) (ep:Nat):HO:=.ext λh=>(a == Ng)=K'/\MX.DictE h a es ep
def Dg (w:LZ) (H:Hp) (p:LO × V) (e:MA):Prop:=MX.kd p.1=l'/\p.1.depth <= 8/\e.hash=MX.hashD w p.1/\(∃ x,cy x e.key/\DV H p.1 x)/\cy p.2 e.val
def MD (w:LZ) (H:Hp) (a:D') (kvs:List (LO × V)):Prop:=∃ es ep,H a=f' (qf a es ep)/\Mn (Dg w H) kvs es/\(kvs.map (·.1)).Nodup/\kvs.length <= LP
def vK (H:Hp) (k:LO) (y:V):Prop:=MX.kd k=l'/\k.depth <= 8/\DV H k y/\((∃ t,y=.str t)\/∃ b,y=.ref b)
def fZ (kvs:List (LO × V)) (k:LO):Option V:=(kvs.find? λp=>Mc p.1 k).map (·.2)
def vJ (kvs:List (LO × V)) (k:LO) (v:V):List (LO × V) :=
 if (kvs.any λp=>Mc p.1 k)=l' then kvs.map (λp=>if Mc p.1 k=l' then (p.1,v) else p) else kvs++[(k,v)]
def qf.ok {P:Mg}{w:LZ}{H:Hp}{h:Mi}{a:D'}{es:List MA}{ep:Nat}(hs:(a == Ng)=K') (hm:MX.DictE h a es ep):cQ P w H h a (qf a es ep):=by
 refine⟨⟨hs,hm⟩,?_,λh1 h2 uq10 k=>by(obtain⟨z,o,e,r⟩:=uq10;exact ⟨z,o,k o e,r⟩)⟩;obtain⟨o,e,_⟩:=hm;exact⟨o,e⟩
def qf.of {P:Mg}{w:LZ}{H:Hp}{h:Mi}{a:D'}{es:List MA}{ep:Nat}(ok:HOk P w H h) (e:H a=f' (qf a es ep)):(a == Ng)=K'/\MX.DictE h a es ep:=by
 obtain⟨q,_⟩:=ok a _ e;exact q
theorem Paired.keys {w:LZ}{H:Hp}:∀ {kvs:List (LO × V)}{es:List MA},Mn (Dg w H) kvs es->kvs.length=es.length
|_,_,.nil=>rfl
|_,_,.cons _ t=>by rw[Mw,Mw,Paired.keys t]
theorem vR {P:Mg}{w:LZ}{H:Hp}{h:Mi}(ok:HOk P w H h):∀ {kvs:List (LO × V)}{es:List MA},Mn (Dg w H) kvs es->MX.Ents w h (kvs.map (·.1)) es
|_,_,.nil=>.nil
|_,_,.cons ⟨k1,k2,k3,⟨x,rx,dx⟩,_⟩ t=>.cons ⟨k1,k2,DV.reads ok _ _ _ dx rx,k3⟩ (vR ok t)
def Fo {P:Mg}{w:LZ}{H:Hp}{h:Mi}{k:LO}{y:V}{u:G'}(ok:HOk P w H h) (hk:vK H k y) (r:cy y u):MX.Ask h k u:=by
 obtain⟨k1,k2,k3,k4⟩:=hk;refine⟨k1,k2,DV.reads ok _ _ _ k3 r,?_⟩;rcases k4 with⟨t,rfl⟩|⟨b,rfl⟩
 . obtain⟨tk,rfl⟩:=r;exact .inl ⟨_,_,rfl⟩
 . cases r;exact .inr ⟨_,rfl⟩
section
variable {w:LZ}{H:Hp}
def fM {d e:LO}(h1:MX.kd d=l') (h2:MX.kd e=l') (n:d≠e):Mc d e=K':=by
 cases q:Mc d e with
|false=>rfl
|true=>exact absurd ((MX.eqv_iff d e h1 h2).mp q) n
def di {d:LO}(h1:MX.kd d=l'):Mc d d=l':=(MX.eqv_iff d d h1 h1).mpr rfl
def KK (kvs:List (LO × V)):Prop:=∀ p∈kvs,MX.kd p.1=l'
def KK.of {kvs:List (LO × V)}{es:List MA}:Mn (Dg w H) kvs es->KK kvs:=by
 intro r
 induction r with
|nil=>intro p h;cases h
|cons a _ ih =>
  intro p h;rcases Mf.mp h with rfl|h
  . exact a.1
  . exact ih p h
theorem ye {k:LO}(hk:MX.kd k=l'):∀ {kvs:List (LO × V)}{j:Nat},KK kvs->(kvs.map (·.1)).Nodup->(kvs.map (·.1))[j]?=f' k->∃ v,kvs[j]?=f' (k,v)/\fZ kvs k=f' v
|[],j,_,_,e=>by simp at e
|(a,v) :: r,0,kk,_,e=>by
  simp at e;subst e;refine⟨v,rfl,?_⟩;unfold fZ;rw[NI,di hk];rfl
|(a,v) :: r,j+1,kk,nd,e=>by
  have nd':(a :: r.map (·.1)).Nodup:=nd;obtain⟨n1,n2⟩:=NW.mp nd';have e':(r.map (·.1))[j]?=f' k:=by simpa using e
  obtain⟨v',h1,h2⟩:=ye hk (λp h=>kk p (Ma _ h)) n2 e';refine⟨v',by simpa using h1,?_⟩;have ne:a≠k:=λz=>n1 (by rw[z];exact MF e')
  unfold fZ at h2 |-;rw[NI,fM (kk _ LY) hk ne];exact h2
def xa {k:LO}(hk:MX.kd k=l') {kvs:List (LO × V)}(kk:KK kvs) (n:k ∉ kvs.map (·.1)):fZ kvs k=LJ:=by
 unfold fZ;rw[find?_eq_none.mpr λp hp=>?_]
 . rfl
 . rw[fM (kk p hp) hk λz=>n (NK.mpr ⟨p,hp,z⟩)];decide
def AO {k:LO}(hk:MX.kd k=l') {kvs:List (LO × V)}(kk:KK kvs) (n:k ∉ kvs.map (·.1)) (v:V):vJ kvs k v=kvs++[(k,v)]:=by
 unfold vJ;rw[SG];intro h;obtain⟨p,hp,e⟩:=any_eq_true.mp h;exact n (NK.mpr ⟨p,hp,(MX.eqv_iff _ _ (kk p hp) hk).mp e⟩)
def zG {k:LO}(hk:MX.kd k=l') {kvs:List (LO × V)}(kk:KK kvs) (n:k ∉ kvs.map (·.1)) (v:V):kvs.map (λp=>if Mc p.1 k=l' then (p.1,v) else p)=kvs:=by
 induction kvs with
|nil=>rfl
|cons p r ih =>
  have hp:p.1≠k:=λz=>n (NK.mpr ⟨p,LY,z⟩)
  rw[Nn,fM (kk p LY) hk hp,ih (λq h=>kk q (Ma _ h)) λh=>n (by rw[Nn];exact Ma _ h)];simp
theorem EF {k:LO}(hk:MX.kd k=l') {v:V}{u:G'}(rv:cy v u):∀ {kvs:List (LO × V)}{es:List MA}{j:Nat},Mn (Dg w H) kvs es->(kvs.map (·.1)).Nodup->(kvs.map (·.1))[j]?=f' k ->
 Mn (Dg w H) (kvs.map (λp=>if Mc p.1 k=l' then (p.1,v) else p)) (es.modify j λe=>{ e with val:=u })
|_,_,j,.nil,_,e=>by simp at e
|(a,v') :: r,e0 :: es,0,.cons q t,nd,e=>by
  simp at e;subst e;have nd':(a :: r.map (·.1)).Nodup:=nd;rw[Nn,di hk,zG hk (KK.of t) (NW.mp nd').1];exact .cons ⟨q.1,q.2.1,q.2.2.1,q.2.2.2.1,rv⟩ t
|(a,v') :: r,e0 :: es,j+1,.cons q t,nd,e=>by
  have nd':(a :: r.map (·.1)).Nodup:=nd;obtain⟨n1,n2⟩:=NW.mp nd';have e':(r.map (·.1))[j]?=f' k:=by simpa using e
  have ne:a≠k:=λz=>n1 (by rw[z];exact MF e')
  rw[Nn,fM q.1 hk ne];exact .cons q (EF hk rv t n2 e')
def HY {k:LO}(hk:MX.kd k=l') {kvs:List (LO × V)}{j:Nat}(e:(kvs.map (·.1))[j]?=f' k):(kvs.any λp=>Mc p.1 k)=l':=by
 obtain⟨p,hp,z⟩:=NK.mp (MF e);exact any_eq_true.mpr ⟨p,hp,by rw[z];exact di hk⟩
def Ac {k:LO}{v:V}{kvs:List (LO × V)}:(kvs.map (λp=>if Mc p.1 k=l' then (p.1,v) else p)).map (·.1)=kvs.map (·.1):=by
 rw[map_map];congr 1;funext p;show (if Mc p.1 k=l' then (p.1,v) else p).1=p.1;split<;>rfl
def Du (kvs:List (LO × V)) (k:LO) (v:V):(vJ kvs k v).length <= kvs.length+1:=by
 unfold vJ;split
 . rw[Md];omega
 . rw[LU];exact LS _
end
section
variable {w:LZ}{H H':Hp}{a:D'}{kvs:List (LO × V)}
theorem Dg.keep (ht:∀ b vs,H b=f' (.tup vs)->H' b=f' (.tup vs)) {p:LO × V}{e:MA}(q:Dg w H p e):Dg w H' p e:=by
 obtain⟨k1,k2,k3,⟨x,rx,dx⟩,k5⟩:=q;exact⟨k1,k2,k3,⟨x,rx,DV.keep ht _ _ k1 dx⟩,k5⟩
theorem MD.keep (m:MD w H a kvs) (ha:H' a=H a) (ht:∀ b vs,H b=f' (.tup vs)->H' b=f' (.tup vs)):MD w H' a kvs:=by
 obtain⟨es,ep,h1,h2,h3⟩:=m;exact⟨es,ep,by rw[ha];exact h1,Paired.mapP h2 λ_ _ q=>q.keep ht,h3⟩
end
section
variable {X:Cx}{Oj:List (D' × M6)}{σ:St}{H:Hp}{s:LK}{a:D'}{kvs:List (LO × V)}{k:LO}{y v d:V}{u r:G'}{A:Mr}{E:G'->LK->Prop}
def KC {A:Mr}(hu:A.units+64 < Oc):A.in1.units+8 < Oc:=by
 rw[Mr.in1_units];omega
def FQ {Q:G'->LK->Prop}(hu:A.units+64 < Oc) (I:Inv X Oj σ H s) (m:MD X.w H a kvs) (hk:vK H k y) (ry:cy y u) (rd:cy d r) (h:∀ w' s',Inv X Oj σ H s'->cy ((fZ kvs k).getD d) w'->Q w' s') :
 LV (model X.prog X.w) A (call (.builtin "dict.get") [.ref a,u,r]) Q E s:=by
 obtain⟨es,ep,h1,h2,h3,h4⟩:=m;obtain⟨hs,hme⟩:=qf.of I.hok h1;have hm:=hme.es;refine call_meetsIn NH hm.typeIs PySem.F.entry_dict_get (PySem.F.args_dict_get_3 _ _ _) (MX.meets_D a u r hs) ⟨KC hu,k,_,es,Fo I.hok hk ry,hm,vR I.hok h2,h3,λn tk=>h _ _ (I.tok _) ?_,λj e hj he tk=>h _ _ (I.tok _) ?_⟩
 . rw[xa hk.1 (KK.of h2) n];exact rd
 . obtain⟨v',g1,g2⟩:=ye hk.1 (KK.of h2) h3 hj;rw[g2];obtain⟨p,e1,e2⟩:=MX.f2_get h2 j e he;rw[g1]at e1;cases e1;exact e2.2.2.2.2
def HZ {Q:Unit->LK->Prop}(hu:A.units+64 < Oc) (I:Inv X Oj σ H s) (m:MD X.w H a kvs) (hl:kvs.length < LP) (hk:vK H k y) (ry:cy y u) (rv:cy v r)
 (h:∀ H' s',Inv X Oj σ H' s'->(∀ b,b≠a->H' b=H b)->MD X.w H' a (vJ kvs k v)->Q () s'):LV (model X.prog X.w) A (setItem (.ref a) u r) Q E s:=by
 obtain⟨es,ep,h1,h2,h3,h4⟩:=m;obtain⟨hs,hme⟩:=qf.of I.hok h1;have hm:=hme.es;have kk:=KK.of h2;have hz:es.length <= LP:=by rw[<-Paired.keys h2];omega
 refine MX.put_D (KC hu) (Fo I.hok hk ry) hm (vR I.hok h2) h3 hz λh' tk es' hm' hsb hor=>?_
 obtain⟨ep',hm2⟩:=hm'.ep;have I':Inv X Oj σ (upd H a (qf a es' ep')) { s with heap:=h',toks:=tk }:=sD I (by rw[h1];exact NQ) hsb (let ⟨o,e,_⟩:=hm2;⟨o,e⟩) (qf.ok hs hm2);refine h _ _ I' (λb hb=>ac hb) ⟨es',ep',a8,?_⟩;have ht:∀ b vs,H b=f' (.tup vs)->upd H a (qf a es' ep') b=f' (.tup vs):=λb vs e=>by
  rw[ac (jo e h1 (by intro z;cases z))];exact e
 rcases hor with⟨n,rfl⟩|⟨j,hj,rfl⟩
 . rw[AO hk.1 kk n];refine⟨?_,?_,by rw[LU];show kvs.length+1 <= LP;omega⟩
   . refine Mn.snoc (Paired.mapP h2 λ_ _ q=>q.keep ht) ⟨hk.1,hk.2.1,rfl,⟨y,ry,DV.keep ht _ _ hk.1 hk.2.2.1⟩,rv⟩
   . rw[NV];exact nd_snocP h3 n
 . have e:vJ kvs k v=kvs.map (λp=>if Mc p.1 k=l' then (p.1,v) else p):=by
    unfold vJ;rw[SF (HY hk.1 hj)]
   rw[e];exact⟨Paired.mapP (EF hk.1 rv h2 h3 hj) λ_ _ q=>q.keep ht,by rw[Ac];exact h3,by rw[Md];exact h4⟩
where
 nd_snocP {l:List LO} {k:LO} (hn:l.Nodup) (hk:k ∉ l):(l++[k]).Nodup:=by
  rw[NS];exact⟨hn,by simp,λx hx y hy=>by
   rw[LM.mp hy];exact λz=>hk (z ▸ hx)⟩
end
def JZ:TE:=λ_ H Q=>∀ p,H p=LJ->Q (.ref p) (upd H p (qf p [] 0))
def JP (w:LZ) (td ty tv:TE):TS:=λD σ H=>tv σ H λv H1=>td σ H1 λx H2=>ty σ H2 λy H3=>∃ a kvs k,x=.ref a/\MD w H3 a kvs/\kvs.length < LP/\vK H3 k y /\
 ∀ H4,(∀ b,b≠a->H4 b=H3 b)->MD w H4 a (vJ kvs k v)->D.nx σ H4
def Hq (w:LZ) (td ty tx:TE):TE:=λσ H Q=>td σ H λx H1=>∃ a,x=.ref a/\(∃ kvs,MD w H1 a kvs)/\ty σ H1 λy H2=>tx σ H2 λz H3=>∃ kvs k,MD w H3 a kvs/\vK H3 k y/\Q ((fZ kvs k).getD z) H3
section
variable {X:Cx}{o i e f value:Expr}{pos pos' apos cpos:Pos}{td ty tv tx:TE}
def Gd:PE X (.Dict [] [] pos) JZ:=λOj s σ H Q I h =>
 wpAny_Dict_empty ⟨.ref s.heap.objs.size,_,I.laid (a:=s.heap.objs.size) (o:=qf s.heap.objs.size [] 0) (t':=s.toks) (λ_ _ q=>LH _ q) (LS _)
  (qf.ok (beq_eq_false_iff_ne.mpr (NA (Mv I.big))) ⟨_,LW _ rfl,⟨rfl,rfl,rfl⟩,rfl⟩),rfl,h _ (I.hok.fresh (LS _))⟩
def FC (hu:X.A.units+64 < Oc) (ho:PE X o td) (hi:PE X i ty) (hv:PE X value tv) (hs:swapsWith value (f' (.Subscript o i pos')) pos.line X.env=pure K') :
 PS X (.Assign [.Subscript o i pos'] value pos) (JP X.w td ty tv):=by
 intro Oj s σ H D I h;refine wpAny_Assign_Subscript (thn (hv Oj s σ H _ I h) λr s1 ⟨v,H1,I1,rv,q1⟩=>thn (ho Oj s1 σ H1 _ I1 q1) λu s2 ⟨x,H2,I2,rx,q2⟩=>thn (hi Oj s2 σ H2 _ I2 q2) λiv s3 ur38=>?_) hs;obtain⟨y,H3,I3,ry,a,kvs,k,ex,m,hl,hk,q3⟩:=ur38;subst ex;obtain rfl:u=Ml a:=rx;exact HZ hu I3 m hl hk ry rv λH4 s4 I4 g1 g2=>⟨σ,H4,I4,q3 H4 g1 g2⟩
def Co (hu:X.A.units+64 < Oc) (ho:PE X o td) (he:PE X e ty) (hf:PE X f tx) (m:M2 X o "get" apos e f cpos):PE X (.Call (.Attribute o "get" apos) [e,f] [] cpos) (Hq X.w td ty tx):=by
 intro Oj s σ H Q I h;refine wpAny_Call_method m.base m.few m.line NP NH PySem.F.type_dict_get (thn (ho Oj s σ H _ I h) λu s1 ur39=>?_);obtain⟨x,H1,I1,rx,a,ex,⟨kv0,es,ep,e1,_⟩,q1⟩:=ur39;subst ex;obtain rfl:u=Ml a:=rx;obtain⟨_,ob,g1,g2,g3⟩:=qf.of I1.hok e1;refine⟨⟨ob,g1,g2.1⟩,λb eb=>by injection eb with eb;subst eb;exact⟨ob,g1,g2.2.1⟩,?_⟩;rw[m.trees];refine ND rfl (Nw (Nh (thn (he Oj s1 σ H1 _ I1 q1) λiv s2 ⟨y,H2,I2,ry,q2⟩ =>
  Nh (thn (hf Oj s2 σ H2 _ I2 q2) λfv s3 ⟨z,H3,I3,rz,kvs,k,md,hk,q3⟩=>N4 ?_))))
 exact FQ hu I3 md hk ry rz λw' s4 I4 rw'=>⟨_,H3,I4,rw',q3⟩
end
def Itv (K:LN) (a:D') (n:Nat):It :=
 ⟨λi H=>i < n/\∃ xs,SqL K H a xs/\xs.length=n,λi H x H'=>H'=H/\∀ xs,SqL K H a xs->xs[n - 1 - i]?=f' x,λi _=>i=n⟩
def Cz {P:Mg}{w:LZ}{K:LN}{tg:Expr}(a it:D') (n:Nat):Turn P w K tg (Itv K a n) [it] it (λi h=>h.IsRevIter it a ((n:Int) - 1 - i)) where
 mem:=LM.mpr rfl
 obj:=λi h st b hb=>by
  obtain rfl:b=it:=LM.mp hb;obtain⟨o,e,c,d⟩:=st;exact⟨o,e,λv z=>by rw[d]at z;cases z⟩
 keep:=λi h h' st k=>st.at λo e=>k it (LM.mpr rfl) o e
 item:=by
  intro X hP hw hK hc i Oj s σ H E I hf st hg;subst hP hw hK;obtain⟨hi,xs,hq,hn⟩:=hg;obtain⟨its,rv,p,hz⟩:=I.list hq;have hlt:n - 1 - i < xs.length:=by omega
  obtain⟨u,hu,ru⟩:=rv.get (LQ hlt);obtain⟨f0,f1,f2,f3,f4,f5⟩:=hf it (LM.mpr rfl);have ei:(n:Int) - 1 - i=((n - 1 - i:Nat):Int):=by omega
  rw[ei]at st;refine wpAny_pyNext_rev_item st p.isList (x:=u) (by simpa using hu) λh' st' sb=>?_
  have I1:Inv X Oj σ H { s with heap:=h' }:=I.turned (t':=s.toks) (λb o hb e=>(sb.2 b hb).trans e) f0 f1 f3 f4 f5;have ej:((n - 1 - i:Nat):Int) - 1=(n:Int) - 1 - ((i+1:Nat):Int):=by omega
  rw[ej]at st';obtain⟨o,e,c,d⟩:=id st';exact⟨u,rfl,AI (s:={ s with heap:=h' }) e c d (by decide) ⟨_,H,I1,ru,⟨rfl,λys hy=>by rw[I.list_inj hy hq];exact LQ hlt⟩,st',λb hb=>(hf b hb).1⟩⟩
 done:=by
  intro X hP hw hK hc i Oj s σ H E I hf st hg;subst hP hw hK;obtain⟨f0,f1,f2,f3,f4,f5⟩:=hf it (LM.mpr rfl);have hg':i=n:=hg;have ei:(n:Int) - 1 - i=-1:=by omega
  rw[ei]at st;exact wpAny_pyNext_rev_end (I.ok.hd hc) st λh' eb=>⟨rfl,I.turned (t':=s.toks) (λb o hb e=>eb b o hb e) f0 f1 f3 f4 f5⟩
 self:=λ_ _ _ _ _ st h=>wpAny_pyIter_revIter st h
def L9 (K:LN) (ta:TA):TI:=λσ H R=>ta σ H λvs H1=>∃ a xs,vs=[.ref a]/\SqL K H1 a xs/\R (Itv K a xs.length) H1
section
variable {X:Cx}{tg:Expr}
def Hy {l:Expr}{ta:TA}{p pos:Pos}(hg:Gl X "reversed") (hm:X.mg "reversed"=LJ) (ha:PA X [l] ta) (hs:Mu [l] X.env=[(K',eval l X.env)]:=by rfl):PI X tg (.Call (.Name "reversed" p) [l] [] pos) (L9 X.K ta):=by
 intro Oj s σ H R I h;refine Call_ (nL I hg hm vW (Nb (thn (ha pos Oj s σ H _ I h) λus s1 ur40=>?_) hs rfl));obtain⟨vs,H1,I1,r1,a,xs,ev,hq,q⟩:=ur40;subst ev;obtain⟨u,rfl,ru⟩:=pj r1;cases ru;obtain⟨its,rv,pl,hz⟩:=I1.list hq;have hlen:=rv.length;refine call_reversed_list pl.isList ?_;have sz:((its.toArray.size:Nat):Int) - 1=(xs.length:Int) - 1 - ((0:Nat):Int):=by simp;omega
 rw[sz];have st0:(s1.heap.push (revObj a ((xs.length:Int) - 1 - ((0:Nat):Int)))).IsRevIter s1.heap.objs.size a ((xs.length:Int) - 1 - ((0:Nat):Int)):=⟨_,LW _ rfl,rfl,rfl⟩
 refine wpAny_pyIter_revIter (s:={ s1 with heap:=s1.heap.push (revObj a ((xs.length:Int) - 1 - ((0:Nat):Int))) }) st0 ?_;refine⟨s1.heap.objs.size,[s1.heap.objs.size],_,_,H1,rfl,I1.kept (t':=s1.toks) λb o e=>LH _ e,Cz a _ xs.length,st0,λb hb=>?_,q⟩;obtain rfl:b=s1.heap.objs.size:=LM.mp hb;exact I1.fpOk (LS _) (I1.hok.fresh (LS _))
def Fs {K:LN}{a:D'}{xs:List V}{g:TG}{tb:TS}{D:Ends}{σ:St}{H:Hp}(Pv:Nat->St->Hp->Prop) (h0:Pv 0 σ H) (hl:∀ i σ H,i <= xs.length->Pv i σ H->SqL K H a xs)
 (hs:∀ i x σ H,i < xs.length->xs[xs.length - 1 - i]?=f' x->Pv i σ H->g x σ H λσ2 H2=>tb { D with nx:=Pv (i+1),ct:=Pv (i+1),bk:=D.nx } σ2 H2) (hd:∀ σ H,Pv xs.length σ H->D.nx σ H) :
 ∃ W:Nat->Nat->St->Hp->Prop,(∃ m,W 0 m σ H)/\∀ i m σ H,W i m σ H->((Itv K a xs.length).stop i H/\D.nx σ H)\/((Itv K a xs.length).go i H/\∃ N:St->Hp->Prop,(∀ σ' H',N σ' H'->∃ m',m' < m/\W (i+1) m' σ' H') /\
  ∀ x H',(Itv K a xs.length).yld i H x H'->g x σ H' λσ2 H2=>tb { D with nx:=N,ct:=N,bk:=D.nx } σ2 H2):=by
 refine⟨λi m σ H=>Pv i σ H/\i <= xs.length/\m=xs.length - i,⟨_,h0,Ny _,rfl⟩,?_⟩;rintro i m σ H ⟨hp,hi,rfl⟩;by_cases z:i=xs.length
 . subst z;exact .inl ⟨rfl,hd σ H hp⟩
 . have hlt:i < xs.length:=by omega
   refine .inr ⟨⟨hlt,xs,hl i σ H hi hp,rfl⟩,Pv (i+1),λσ' H' q=>⟨xs.length - (i+1),by omega,q,hlt,rfl⟩,?_⟩;rintro x H' ⟨rfl,hx⟩;exact hs i x σ H' hlt (hx xs (hl i σ H' hi hp)) hp
end
section
variable {X:Cx}
end
def nhr:¬ (("held":Str)="rows"):=by decide +kernel
def stF (hd rl:D'):List (Str × V):=bj "rows" (.ref rl) (bj "held" (.ref hd) [])
def xW {hd rl:D'}:(stF hd rl).lookup ("held":Str)=f' (.ref hd):=by
 unfold stF;rw[a9,SG nhr,a9,SF rfl]
def kW {hd rl:D'}:(stF hd rl).lookup ("rows":Str)=f' (.ref rl):=by
 unfold stF;rw[a9,SF rfl]
def cK {hd rl:D'}{m:Str}(h1:¬ m="rows") (h2:¬ m="held"):(stF hd rl).lookup m=LJ:=by
 unfold stF;rw[a9,SG h1,a9,SG h2]
 all_goals rfl
def sdI:Bool->Int
|false=>0
|true=>1
def qU {l:Bool->D'}(b:Bool):atI [V.ref (l K'),V.ref (l l')] (sdI b)=f' (.ref (l b)):=by
 cases b<;>rfl
theorem vK.keep {H H':Hp}{k:LO}{y:V}(h:vK H k y) (ht:∀ b vs,H b=f' (.tup vs)->H' b=f' (.tup vs)):vK H' k y :=
 ⟨h.1,h.2.1,DV.keep ht _ _ h.1 h.2.2.1,h.2.2.2⟩
def Wt (H:Hp) (p:LO × V) (tv:V):Prop:=∃ t cv,tv=.ref t/\H t=f' (.tup [cv,p.2])/\vK H p.1 cv
theorem Wt.keep {H H':Hp}{p:LO × V}{tv:V}(h:Wt H p tv) (ht:∀ b vs,H b=f' (.tup vs)->H' b=f' (.tup vs)):Wt H' p tv:=by
 obtain⟨t,cv,e,h1,h2⟩:=h;exact⟨t,cv,e,ht _ _ h1,h2.keep ht⟩
def B9 (H:Hp) (l:D') (es:List (LO × V)):Prop:=∃ ts:List V,H l=f' (.lst ts)/\Mn (Wt H) es ts
theorem B9.keep {H H':Hp}{l:D'}{es:List (LO × V)}(h:B9 H l es) (hl:∀ o,H l=f' o->H' l=f' o) (ht:∀ b vs,H b=f' (.tup vs)->H' b=f' (.tup vs)):B9 H' l es:=by
 obtain⟨ts,h1,h2⟩:=h;exact⟨ts,hl _ h1,Paired.mapP h2 λ_ _ q=>q.keep ht⟩
theorem b9 {α β:Type}{F:α->β->Prop}:∀ {xs:List α}{ys:List β},Mn F xs ys->xs.length=ys.length
|_,_,.nil=>rfl
|_,_,.cons _ t=>by rw[Mw,Mw,b9 t]
def setR {α:Type}(r:Bool->α) (b:Bool) (v:α):Bool->α:=λc=>if c=b then v else r c
def b8 {α:Type}{r:Bool->α}{b:Bool}{v:α}:setR r b v b=v:=SF rfl
def eN {α:Type}{r:Bool->α}{b c:Bool}{v:α}(h:c≠b):setR r b v c=r c:=SG h
structure Sto (w:LZ) (C:D') (H:Hp) (x hd rl:D') (l:Bool->D') (M:List (LO × V)) (r:Bool->List (LO × V)):Prop where
 ob:∃ dx,H x=f' (.ins C dx (stF hd rl))
 me:MD w H hd M
 ro:H rl=f' (.lst [.ref (l K'),.ref (l l')])
 rw:∀ b,B9 H (l b) (r b)
 nl:l K'≠l l'
 nr:∀ b,l b≠rl
def Kp (xs:List D') (H H':Hp):Prop:=∀ c o,c ∉ xs->H c=f' o->H' c=f' o
def Kp.refl (xs:List D') (H:Hp):Kp xs H H:=λ_ _ _ e=>e
def Kp.trans {xs:List D'}{H H1 H2:Hp}(a:Kp xs H H1) (b:Kp xs H1 H2):Kp xs H H2:=λc o n e=>b c o n (a c o n e)
def Kp.mono {xs ys:List D'}{H H':Hp}(a:Kp xs H H') (h:∀ c,c∈xs->c∈ys):Kp ys H H':=λc o n e=>a c o (λz=>n (h c z)) e
section
variable {w:LZ}{C:D'}{H H':Hp}{x hd rl:D'}{l:Bool->D'}{M:List (LO × V)}{r:Bool->List (LO × V)}
def MD.there (m:MD w H hd M):∃ ee:List MA × Nat,H hd=f' (qf hd ee.1 ee.2):=let ⟨es,ep,h,_⟩:=m;⟨(es,ep),h⟩
def MD.keepS (m:MD w H hd M) (ha:∀ o,H hd=f' o->H' hd=f' o) (ht:∀ b vs,H b=f' (.tup vs)->H' b=f' (.tup vs)):MD w H' hd M:=by
 obtain⟨es,ep,h1,h2⟩:=id m;exact m.keep ((ha _ h1).trans h1.symm) ht
theorem Sto.keep (S:Sto w C H x hd rl l M r) (h:∀ c o,(c=x\/c=hd\/c=rl\/∃ b,c=l b)->H c=f' o->H' c=f' o) (ht:∀ b vs,H b=f' (.tup vs)->H' b=f' (.tup vs)):Sto w C H' x hd rl l M r:=by
 obtain⟨dx,e⟩:=S.ob;exact⟨⟨dx,h _ _ (.inl rfl) e⟩,S.me.keepS (λo=>h _ o (.inr (.inl rfl))) ht,h _ _ (.inr (.inr (.inl rfl))) S.ro,λb=>(S.rw b).keep (λo=>h _ o (.inr (.inr (.inr ⟨b,rfl⟩)))) ht,S.nl,S.nr⟩
def Sto.same (S:Sto w C H x hd rl l M r) (h:aZ H H'):Sto w C H' x hd rl l M r:=S.keep (λc o _ e=>h c o e) λb vs e=>h b _ e
def Sto.own (x hd rl:D') (l:Bool->D') (c:D'):Prop:=c=x\/c=hd\/c=rl\/c=l K'\/c=l l'
theorem Sto.there (S:Sto w C H x hd rl l M r) {c:D'}(h:Sto.own x hd rl l c):∃ o,H c=f' o/\(∀ xs,o≠.tup xs):=by
 rcases h with rfl|rfl|rfl|rfl|rfl
 . obtain⟨dx,e⟩:=S.ob;exact⟨_,e,λ_ z=>by cases z⟩
 . obtain⟨es,e⟩:=S.me.there;exact⟨_,e,λ_ z=>by cases z⟩
 . exact⟨_,S.ro,λ_ z=>by cases z⟩
 . obtain⟨ts,e,_⟩:=S.rw K';exact⟨_,e,λ_ z=>by cases z⟩
 . obtain⟨ts,e,_⟩:=S.rw l';exact⟨_,e,λ_ z=>by cases z⟩
end
def mj (M:List (LO × V)) (es:List (LO × V)):List (LO × V):=es.foldl (λM p=>vJ M p.1 p.2) M
def cA (M es:List (LO × V)) (k:LO):V:=match es.reverse.find? (λp=>Mc p.1 k) with
|some p=>p.2
|none=>(fZ M k).getD (.int 0)
def Ed (es:List (LO × V)) (k:LO):Option V:=(es.reverse.find? λp=>Mc p.1 k).map (·.2)
def xj (M es:List (LO × V)) (k:LO):cA M es k=((Ed es k).or (fZ M k)).getD (.int 0):=by
 unfold cA Ed;cases es.reverse.find? (λp=>Mc p.1 k)<;>rfl
theorem yz {k k':LO}(h:MX.kd k=l') (h':MX.kd k'=l') (v:V):∀ {M:List (LO × V)},KK M->fZ (M.map λp=>if Mc p.1 k'=l' then (p.1,v) else p) k=(fZ M k).map λx=>if Mc k' k=l' then v else x
|[],_=>rfl
|p :: r,kk=>by
  have ih:=yz h h' v (M:=r) λq hq=>kk q (Ma _ hq)
  have kp:=kk p LY;unfold fZ at ih |-;rw[Nn,NI,NI];have e1:(if Mc p.1 k'=l' then (p.1,v) else p).1=p.1:=by split<;>rfl
  rw[e1];cases z:Mc p.1 k with
 |false=>exact ih
 |true =>
   have pk:=(MX.eqv_iff _ _ kp h).mp z;show f' (if Mc p.1 k'=l' then (p.1,v) else p).2=f' (if Mc k' k=l' then v else p.2);by_cases y:k'=k
   . subst y;rw[di h',z];rfl
   . rw[fM h' h y,pk,fM h h' λq=>y q.symm];rfl
def wY {M:List (LO × V)}{k k':LO}(kk:KK M) (h':MX.kd k'=l') (h:MX.kd k=l') (v:V):fZ (vJ M k' v) k=if Mc k' k=l' then f' v else fZ M k:=by
 by_cases n:k'∈M.map (·.1)
 . obtain⟨p,hp,e⟩:=NK.mp n;have ha:(M.any λp=>Mc p.1 k')=l':=any_eq_true.mpr ⟨p,hp,by rw[e];exact di h'⟩;unfold vJ;rw[SF ha,yz h h' v kk];by_cases y:k'=k
   . subst y;rw[di h'];have:(fZ M k').isSome=l':=by
      unfold fZ;rw[isSome_map,List.find?_isSome];exact⟨p,hp,by rw[e];exact di h'⟩
     cases z:fZ M k' with
    |none=>rw[z]at this;cases this
    |some x=>rfl
   . rw[fM h' h y];cases fZ M k<;>rfl
 . rw[AO h' kk n];unfold fZ;rw[List.find?_append,NI];by_cases y:k'=k
   . subst y;have z:=xa h' kk n;unfold fZ at z;rw[Option.map_eq_none_iff]at z;rw[z,di h'];rfl
   . rw[fM h' h y];cases M.find? (λp=>Mc p.1 k)<;>rfl
mutual
theorem Gg {H:Hp}{D:D'}{o:HO}(hD:H D=LJ) (ho:∀ xs,o≠.tup xs):∀ {k:LO}{y:V},MX.kd k=l'->DV (upd H D o) k y->DV H k y
|.int _,_,_,e=>e
|.str _,_,_,e=>e
|.tuple ds,_,h,⟨a,vs,e,ha,hv⟩=>by
  have ne:a≠D:=λz=>by
   rw[z,a8]at ha;exact ho vs (Ms ha)
  exact⟨a,vs,e,by rw[ac ne]at ha;exact ha,xN hD ho h hv⟩
|.none,_,h,_=>by cases h
|.bool _,_,h,_=>by cases h
|.list _,_,h,_=>by cases h
|.dict _,_,h,_=>by cases h
theorem xN {H:Hp}{D:D'}{o:HO}(hD:H D=LJ) (ho:∀ xs,o≠.tup xs):∀ {ds:List LO}{vs:List V},MX.kds ds=l'->DVs (upd H D o) ds vs->DVs H ds vs
|[],_,_,e=>e
|d :: ds,_,h,⟨v,r,e,h1,h2⟩=>by
  have h':(MX.kd d && MX.kds ds)=l':=h;rw[MC]at h';exact⟨v,r,e,Gg hD ho h'.1 h1,xN hD ho h'.2 h2⟩
end
theorem mem_of_lookup {β:Type}{y:Str}{c:β}:∀ {l:List (Str × β)},l.lookup y=f' c->(y,c)∈l
|[],h=>by cases h
|(k,v) :: r,h=>by
  rw[List.lookup_cons]at h;cases e:y == k with
 |true =>
   rw[e]at h;cases h;rw[beq_iff_eq.mp e];exact LY
 |false =>
   rw[e]at h;exact Ma _ (mem_of_lookup h)
def aL (X:Cx) (scope:Scope) (cl:List (Str × D')) (C:D') (xs N':List Str) (s₃:LK) (H₃:Hp) (Oj:List (D' × M6)) (ex:List D') (E':G'->LK->Prop):Cx :=
 { X with N:=N',s₀:=s₃,H₀:=H₃,env:=compEnvC scope cl C X.env,outer:=X.stack,stack:=X.stack,ex:=ex,fn:=λy=>xs.contains y,pn:=X.pn++Oj,xe:=E' }
abbrev cxR (X:Cx) (scope:Scope) (cl:List (Str × D')) (xs caps:List Str) (s₃:LK) (H₃:Hp) (Oj:List (D' × M6)) (fp:List D') (R:Result->LK->Prop):Cx:=aL X scope cl s₃.heap.objs.size xs (xs++caps) s₃ H₃ Oj fp (notedBy (model X.prog X.w) X.A (compEnvC scope cl s₃.heap.objs.size X.env) λe s'=>R (.error e) s')
structure CompOk (X:Cx) (scope:Scope) (cl:List (Str × D')) (xs:List Str):Prop where
 kind:scope.kind=.function
 clos:closureFor scope X.env=pure cl
 nocell:∀ y∈scope.names,y.2≠.cell
 names:∀ y∈scope.names,y.2=.local->scope.names.lookup y.1=f' .local
 xloc:∀ x∈xs,scope.names.lookup x=f' .local
 sub:∀ p∈cl,X.env.cells.lookup p.1=f' p.2
 has:∀ p∈scope.names,p.2=.free->∃ c,cl.lookup p.1=f' c
 nox:∀ x∈xs,cl.lookup x=LJ
def A2 (X:Cx) (scope:Scope) (cl:List (Str × D')):List Str->List Nat->Prop
|[],[]=>True
|y :: ys,j :: js=>((∃ c,cl.lookup y=f' c)/\X.N[j]?=f' y/\(X.env.scope.names.lookup y=f' .cell\/X.env.scope.names.lookup y=f' .free)/\((relabel scope X.env).names.lookup y=f' .cell\/(relabel scope X.env).names.lookup y=f' .free))/\A2 X scope cl ys js
|_,_=>False
theorem A2.len {X:Cx}{scope:Scope}{cl:List (Str × D')}:∀ {caps:List Str}{js:List Nat},A2 X scope cl caps js->caps.length=js.length
|[],[],_=>rfl
|_ :: _,_ :: _,⟨_,h⟩=>by rw[Mw,Mw,h.len]
theorem A2.at' {X:Cx}{scope:Scope}{cl:List (Str × D')}{y:Str}:∀ {caps:List Str}{js:List Nat}{i:Nat},A2 X scope cl caps js->caps[i]?=f' y->∃ j,js[i]?=f' j/\(∃ c,cl.lookup y=f' c)/\X.N[j]?=f' y/\(X.env.scope.names.lookup y=f' .cell\/X.env.scope.names.lookup y=f' .free)/\((relabel scope X.env).names.lookup y=f' .cell\/(relabel scope X.env).names.lookup y=f' .free)
|[],[],_,_,e=>by simp at e
|_ :: _,j :: _,0,⟨h,_⟩,e=>by cases e;exact⟨j,rfl,h⟩
|_ :: _,_ :: _,i+1,⟨_,h⟩,e=>h.at' (i:=i) e
def PTs (X:Cx) (ifs:List Expr) (t:TT):Prop :=
 ∀ (Oj:List (D' × M6)) (s:LK) (σ:St) (H:Hp) (Q:Bool->Hp->Prop),Inv X Oj σ H s->t σ H Q ->
  LV (model X.prog X.w) X.A (forIn ifs l' λc r=>if r=l' then do let ok <-isTrue c X.env (eval c X.env);pure (ForInStep.yield ok) else pure (ForInStep.yield r)) (TP X Oj σ Q) X.xe s
def ge {X:Cx}:PTs X [] (λ_ H Q=>Q l' H):=λOj s σ H Q I h=>by
 rw[forIn_nil];exact LL ⟨H,I,h⟩
def BE {X:Cx}{c:Expr}{t:TT}(h:PT X c t):PTs X [c] t:=λOj s σ H Q I q=>wpAny_tests_one (h Oj s σ H Q I q)
def tT (σ:St) (js:List Nat):St:=js.map λj=>(σ[j]?).getD LJ
def IJ (wi:TI) (js:List Nat) (tc:TT) (te:TE):TE:=λσ H Q=>wi σ H λJ H1=>∀ D,H1 D=LJ->∃ W:Nat->Nat->List V->Hp->Prop,(∃ m,W 0 m [] (upd H1 D (.lst []))) /\
 ∀ i m ys H2,W i m ys H2->H2 D=f' (.lst ys)/\ys.length < LP/\((J.stop i H2/\Q (.ref D) H2)\/(J.go i H2/\∀ x H3,J.yld i H2 x H3 ->
  tc (f' x :: tT σ js) H3 λb H4=>if b=l' then te (f' x :: tT σ js) H4 λy H5=>H5 D=f' (.lst ys)/\∃ m',m' < m/\W (i+1) m' (ys++[y]) (upd H5 D (.lst (ys++[y])))
   else ∃ m',m' < m/\W (i+1) m' ys H4))
def Fj (wi:TI) (g:TG) (js:List Nat) (tc:TT) (te:TE):TE:=λσ H Q=>wi σ H λJ H1=>∀ D,H1 D=LJ->∃ W:Nat->Nat->List V->Hp->Prop,(∃ m,W 0 m [] (upd H1 D (.lst []))) /\
 ∀ i m ys H2,W i m ys H2->H2 D=f' (.lst ys)/\ys.length < LP/\((J.stop i H2/\Q (.ref D) H2)\/(J.go i H2/\∀ x H3,J.yld i H2 x H3->∀ v0 v1:Option V,
  g x (v0 :: v1 :: tT σ js) H3 λσ' H'=>∃ v0' v1',σ'=v0' :: v1' :: tT σ js/\tc σ' H' λb H4=>if b=l' then te σ' H4 λy H5=>H5 D=f' (.lst ys)/\∃ m',m' < m/\W (i+1) m' (ys++[y]) (upd H5 D (.lst (ys++[y])))
   else ∃ m',m' < m/\W (i+1) m' ys H4))
def RN (n:Nat) (g:TG) (js:List Nat) (tc:TT) (te:TE) (σ:St) (Q:VK) (J:It) (H1:Hp):Prop:=∀ D,H1 D=LJ->∃ W:Nat->Nat->List V->Hp->Prop,(∃ m,W 0 m [] (upd H1 D (.lst []))) /\
 ∀ i m ys H2,W i m ys H2->H2 D=f' (.lst ys)/\ys.length < LP/\((J.stop i H2/\Q (.ref D) H2)\/(J.go i H2/\∀ x H3,J.yld i H2 x H3->∀ vs:St,vs.length=n->∃ Pk:St->Hp->Prop,g x (vs++tT σ js) H3 Pk/\∀ σ' H',Pk σ' H'->∃ vs':St,vs'.length=n/\σ'=vs'++tT σ js /\
  tc σ' H' λb H4=>if b=l' then te σ' H4 λy H5=>H5 D=f' (.lst ys)/\∃ m',m' < m/\W (i+1) m' (ys++[y]) (upd H5 D (.lst (ys++[y])))
   else ∃ m',m' < m/\W (i+1) m' ys H4))
def AF {X:Cx}{x1 x2:Str}{p1 p2 pos:Pos}{k:Nat}(hc:X.calm=l') (hN:X.N.Nodup) (h0:X.N[0]?=f' x1) (h1:X.N[1]?=f' x2) (l1:Loc X.env.scope x1) (l2:Loc X.env.scope x2) (f1:X.fn x1=l') (f2:X.fn x2=l') :
 PG X (.Tuple [.Name x1 p1,.Name x2 p2] k pos) (Ir X.K 2 (sI (jP 0) (sI (jP 1) IB))) :=
 EC hc (oj (fV hN h0 l1 (.inl f1)) (oj (fV hN h1 l2 (.inl f2)) Bx))
abbrev GF (ifs:List Expr) (env:Env):Sem Bool:=forIn ifs l' λc r=>if r=l' then do
 let ok <-isTrue c env (eval c env)
 pure (ForInStep.yield ok) else pure (ForInStep.yield r)
def x9 {P:Mg}{w:LZ}{A:Mr}{R:Result->LK->Prop}{s:LK}{elt tg iter:Expr}{ifs:List Expr}{sc:Scope}{ps:Pos}{it acc:G'}{env:Env}(J:Nat->LK->Prop)
 (turn:∀ k t,J k t->LV (model P w) A (pyNext it) (λo t1=>match o with
 |none=>R (.ok .next) t1
 |some y=>LV (model P w) A (letOwnedTupleGo tg it y) (λ_ t2=>LV (model P w) A (assign tg env y) (λ_ t3=>LV (model P w) A (GF ifs env) (λok t4 =>
   if ok=l' then LV (model P w) A (eval elt env) (λx t5=>LV (model P w) A (call (.builtin "list.append") [acc,x]) (λ_ t6=>∃ j,j < k/\J j t6) (notedBy (model P w) A env λe t'=>R (.error e) t') t5) (notedBy (model P w) A env λe t'=>R (.error e) t') t4
   else ∃ j,j < k/\J j t4) (notedBy (model P w) A env λe t'=>R (.error e) t') t3) (notedBy (model P w) A env λe t'=>R (.error e) t') t2) (notedBy (model P w) A env λe t'=>R (.error e) t') t1) (notedBy (model P w) A env λe t'=>R (.error e) t') t)
 (k:Nat) (h:J k s):codeAny (model P w) A (.compLoop (.ListComp elt [⟨tg,iter,ifs,0⟩] sc ps) 0 it acc env) R s:=by
 refine codeAny_loop rfl J (λk t hJ=>?_) k h;show LV _ A (Sem.onRaise (compTurn (.ListComp elt [⟨tg,iter,ifs,0⟩] sc ps) 0 it acc env) (λy=>do noteFrame y env;theTreesLotGoes y)) _ _ t;refine wpAny_noted ?_;rw[compTurn_list];refine j' (wpAny_standAt (j' (thn (turn k t hJ) λo t1 h1=>?_)));cases o with
|none=>exact LL h1
|some y =>
  refine j' (thn h1 λ_ t2 h2=>j' (thn h2 λ_ t3 h3=>j' (thn h3 λok t4 h4=>?_)));cases ok with
 |false=>exact LL ⟨rfl,h4⟩
 |true =>
   rw[SF rfl]at h4;refine j' (j' (thn h4 λx t5 h5=>j' (thn h5 λ_ t6 h6=>?_)));exact LL (LL ⟨rfl,h6⟩)
section
variable {X:Cx}{scope:Scope}{cl:List (Str × D')}{xs N':List Str}
def wG {names:List (Str × NameKind)}{env:Env}{y:Str}{k:NameKind}(h:(names.map λ(n,k)=>if (k == NameKind.free && env.scope.kind == .function && env.kindOf n == f' .cell) then (n,NameKind.cell) else (n,k)).lookup y=f' k) (hk:k=.cell\/k=.free) (hn:∀ p∈names,p.2≠.cell):∃ p∈names,p.1=y/\p.2=.free:=by
 obtain⟨⟨n,k0⟩,hp,e⟩:=NK.mp (mem_of_lookup h);dsimp only at e;split at e
 . rename_i hc;injection e with e1 e2
   refine⟨_,hp,e1,?_⟩;rw[MC,MC]at hc;exact beq_iff_eq.mp hc.1.1
 . injection e with e1 e2
   refine⟨_,hp,e1,?_⟩;rcases hk with rfl|rfl
   . exact absurd e2 (hn _ hp)
   . exact e2
def yK {Oj:List (D' × M6)}{σ:St}{H₃:Hp}{s₃:LK}{ex:List D'}{E':G'->LK->Prop}(O:CompOk X scope cl xs) (I:Inv X Oj σ H₃ s₃) (hf:∀ b∈ex,tU X Oj H₃ b/\b < s₃.heap.objs.size) :
 (aL X scope cl s₃.heap.objs.size xs N' s₃ H₃ Oj ex E').Ok where
 mod:=I.ok.mod
 kind:=O.kind
 glob:=I.ok.glob
 blt:=I.ok.blt
 above:=LS _
 inj:=λy z c h1 h2=>I.ok.inj y z c (O.sub _ (mem_of_lookup h1)) (O.sub _ (mem_of_lookup h2))
 has:=λy h=>by
  have h':∃ k,(relabel scope X.env).names.lookup y=f' k/\(k=.cell\/k=.free):=by
   rcases h with h|h
   . exact⟨_,h,.inl rfl⟩
   . exact⟨_,h,.inr rfl⟩
  obtain⟨k,e,hk⟩:=h';obtain⟨p,hp,rfl,e2⟩:=wG e hk O.nocell;exact O.has p hp e2
 cab:=λy c h1 h2=>by
  have h2':cl.lookup y=f' c:=h2;rw[O.nox y (contains_iff_mem.mp h1)]at h2';cases h2'
 hd:=I.ok.hd
 frames:=I.ok.frames
 stk:=.inl rfl
 exf:=λb hb=>⟨Mv (hf b hb).2,λy c e=>(hf b hb).1.2.2.2.2.1 y c (O.sub _ (mem_of_lookup e))⟩
 bs:=I.bs
 bsz:=MG I.ok.bsz I.sz
 noex:=λb o e hb=>by
  obtain⟨_,_,_,h4,_⟩:=(hf b hb).1;rcases h4 with z|z
  . exact I.ok.noex b o e z
  . have g1:b < X.base.objs.size:=Mb e;exact absurd (LR g1 (MG I.ok.bsz z)) (NM _)
 exfs:=λb hb z=>by
  obtain⟨_,h2,h3,_⟩:=(hf b hb).1;rcases Mf.mp (I.stkSub b z) with q|q
  . exact h2 q
  . exact h3 q
 funs:=I.stack
 frf:=I.stkFree
def Inv.block {Oj:List (D' × M6)}{σ σ':St}{H₃ H':Hp}{s₃ s':LK}{ex:List D'}{E':G'->LK->Prop}{h':Mi}(I:Inv X Oj σ H₃ s₃) (hf:∀ b∈ex,tU X Oj H₃ b)
 (I':Inv (aL X scope cl s₃.heap.objs.size xs N' s₃ H₃ Oj ex E') [] σ' H' s') (hs:MV s₃.heap.objs.size s'.heap h'):Inv X Oj σ H' { s' with heap:=h' }:=by
 have ne:∀ b o,s₃.heap.get? b=f' o->b≠s₃.heap.objs.size:=λb o e=>Mv (Mb e)
 have fr:H' s₃.heap.objs.size=LJ:=I'.free;have hok:HOk X.prog X.w H' h':=λa o e=>by
  refine(I'.hok a o e).stay (λb u hb q=>(hs.2 b ?_).trans q) (λ_ q=>q) λ_ _ q=>q
  rintro rfl;rcases hb with z|z
  . rw[<-z,fr]at e;cases e
  . rw[fr]at z;cases z
 have u:Un (frs X.stack) ex H₃ H' s₃.heap h':=by
  obtain⟨k1,k2,k3,k4,k5,k6,k7⟩:=I'.base;refine⟨λb o q n hb hx=>(hs.2 b (ne b o q)).trans (k1 b o q n hb hx),λb o q n hb hx=>?_,k3,λb o q hx=>?_,k5,k6,k7⟩
  . obtain⟨sl,e⟩:=k2 b o q n hb hx;exact⟨sl,(hs.2 b (ne b o q)).trans e⟩
  . obtain⟨o',e⟩:=k4 b o q hx;exact⟨o',(hs.2 b (ne b o q)).trans e⟩
 exact I.call' (s':={ s' with heap:=h' }) I'.os u hok I'.bare λb hb=>⟨(hf b hb).2.2.2.1,(hf b hb).2.1,(hf b hb).2.2.2.2.1,(hf b hb).2.2.2.2.2⟩
def Inv.enter {Oj:List (D' × M6)}{σ:St}{H₃:Hp}{s₃:LK}{ex:List D'}{E':G'->LK->Prop}{caps:List Str}{js:List Nat}{h₁:Mi}{tk:Nat}(O:CompOk X scope cl xs) (I:Inv X Oj σ H₃ s₃)
 (hf:∀ b∈ex,tU X Oj H₃ b/\b < s₃.heap.objs.size) (hcp:A2 X scope cl caps js)
 (hn:h₁.Ns s₃.heap.objs.size λ_=>LJ) (hk:∀ b o,s₃.heap.get? b=f' o->h₁.get? b=f' o) :
 Inv (aL X scope cl s₃.heap.objs.size xs (xs++caps) s₃ H₃ Oj ex E') [] (replicate xs.length LJ++tT σ js) H₃ { s₃ with heap:=h₁,toks:=tk }:=by
 have hlen:=hcp.len;obtain⟨m0,hm0,hl0⟩:=I.loc;refine⟨yK O I hf,rfl,I.bare,Un.kept hk,⟨_,hn,λi y v e1 e2 e3=>?_⟩,λy c e=>?_,I.hok.fresh (LS _),λy c e=>I.freeC y c (O.sub _ (mem_of_lookup e)),λp hp=>?_,I.hok.kept hk,?_⟩
 . have e1':(xs++caps)[i]?=f' y:=e1;have e2':(replicate xs.length (LJ:Option V)++tT σ js)[i]?=f' (f' v):=e2;by_cases hi:i < xs.length
   . rw[List.getElem?_append_left (by rw[Nx];exact hi),List.getElem?_replicate,SF hi]at e2';cases e2'
   . rw[List.getElem?_append_right (by omega)]at e1';rw[List.getElem?_append_right (by rw[Nx];omega),Nx]at e2';obtain⟨j,ej,⟨c,hc⟩,hN,hk1,hk2⟩:=hcp.at' e1';unfold tT at e2';rw[Mp,ej]at e2';have e3':(σ[j]?).getD LJ=f' v:=by simpa using e2'
     have e4:σ[j]?=f' (f' v):=by
      cases q:σ[j]? with
     |none=>rw[q]at e3';cases e3'
     |some z=>rw[q]at e3';rw[show z=f' v from e3']
     obtain⟨u,r,l⟩:=hl0 j y v hN e4 (by rcases hk1 with z|z;exact .inr (.inl z);exact .inr (.inr z));refine⟨u,r,.inr ⟨hk2,c,hc,?_⟩⟩;rcases l with⟨z,_⟩|⟨_,c',z1,o,z2,z3⟩
     . have z':X.env.scope.names.lookup y=f' .local:=z;rcases hk1 with q|q<;>(rw[q]at z';cases z')
     . rw[O.sub _ (mem_of_lookup hc)]at z1;cases z1;exact⟨o,hk _ _ z2,z3⟩
 . obtain⟨v,o,z2,z3⟩:=I.cell y c (O.sub _ (mem_of_lookup e));exact⟨v,o,hk _ _ z2,z3⟩
 . have hp':p∈X.pn++Oj:=by simpa [aL] using hp
   obtain⟨g1,g2,g3,g4,g5⟩:=I.pin p hp';refine⟨hk _ _ g1,g2,Mv (Mb g1),λz=>?_,g5⟩;rcases Mf.mp (I.stkSub p.1 z) with q|q
   . exact g3 q
   . exact g4 q
 . show (replicate xs.length LJ++tT σ js).length=(xs++caps).length;unfold tT;rw[LU,LU,Nx,Md,hlen]
def oY {tg:Expr}{g:TG}{pos np:Pos}{iter elt:Expr}{ifs:List Expr}{caps:List Str}{js:List Nat}{wi:TI}{tc:TT}{te:TE}{use:Option (G'->Sem Unit)}{QQ:G'->LK->Prop}{Q:VK}{Rd:It->Hp->Prop}{Oj:List (D' × M6)}{s:LK}{σ:St}{H:Hp}
 (hc:X.calm=l') (O:CompOk X scope cl xs) (hg:∀ C s₃ H₃ Oj ex E',PG (aL X scope cl C xs (xs++caps) s₃ H₃ Oj ex E') tg g)
 (hcp:A2 X scope cl caps js)
 (hi:PI X tg iter wi) (ht:∀ C s₃ H₃ Oj ex E',PTs (aL X scope cl C xs (xs++caps) s₃ H₃ Oj ex E') ifs tc) (he:∀ C s₃ H₃ Oj ex E',PE (aL X scope cl C xs (xs++caps) s₃ H₃ Oj ex E') elt te)
 (hs:∀ x,foldedSetIterable iter X.env x=pure x) (I:Inv X Oj σ H s) (h:wi σ H Rd) (hR:∀ J H1,Rd J H1->RN xs.length g js tc te σ Q J H1)
 (fl:∀ (s₃:LK) (H₃ H':Hp) (s':LK) (D:D') (f:Flow) (mm:Str->Option G'),Inv X Oj σ H₃ s₃->s'.heap.Ns s₃.heap.objs.size mm->H' s₃.heap.objs.size=LJ->(∀ h',MV s₃.heap.objs.size s'.heap h'->Inv X Oj σ H' { s' with heap:=h' })->Q (.ref D) H'->compPost (model X.prog X.w) X.A X.xe use QQ (.ref D) s₃.heap.objs.size (.ok f) s') :
 LV (model X.prog X.w) X.A (comprehension (.ListComp elt [⟨tg,iter,ifs,0⟩] scope pos) scope X.env np (newList []) K' (eval iter X.env) use) QQ X.xe s:=by
 refine wpAny_comprehension_free rfl hs O.clos O.kind O.names (thn (hi Oj s σ H _ I h) λv s1 h1=>thn h1 λitv s2 ur41=>?_);obtain⟨it,fp,tn,J,H1,e,I2,T,t0,hf,q0⟩:=ur41;subst e;have q:=hR _ _ q0;refine MR (wpAny_newFunctionEnv O.nocell (by intro y hy;cases hy) (λh₁ hns₁ hsb₁=>?_) O.kind);obtain⟨W,⟨m0,w0⟩,step⟩:=q s2.heap.objs.size (I2.hok.fresh (LS _));have I3:Inv X Oj σ (upd H1 s2.heap.objs.size (.lst [])) { s2 with heap:=s2.heap.push { cls:=.type "list",data:=.seq ([]:List G').toArray } }:=I2.lnew (t':=s2.toks) (its:=[]) .nil (Ny _);have fpl:∀ b∈fp,b < s2.heap.objs.size:=λb hb=>by
  obtain⟨o,e,_⟩:=T.obj _ _ t0 b hb;exact Mb e
 have hf3:∀ b∈fp,tU X Oj (upd H1 s2.heap.objs.size (.lst [])) b:=λb hb=>by
  obtain⟨f0,f⟩:=hf b hb;exact⟨by rw[ac (Mv (fpl b hb))];exact f0,f⟩
 generalize hs3:({ s2 with heap:=s2.heap.push { cls:=.type "list",data:=.seq ([]:List G').toArray } }:LK)=s₃ at *;generalize hH3:upd H1 s2.heap.objs.size (.lst [])=H₃ at *;have hsz:s2.heap.objs.size < s₃.heap.objs.size:=by rw[<-hs3];show _ < (s2.heap.push _).objs.size;rw[MM];exact lt_succ_self _
 have hk2:∀ b o,s2.heap.get? b=f' o->s₃.heap.get? b=f' o:=λb o e=>by rw[<-hs3];exact LH _ e
 have hk3:∀ b o,s₃.heap.get? b=f' o->h₁.get? b=f' o:=λb o e=>hsb₁.extBut b o (Mv (Mb e)) (LH _ e)
 have t3:tn 0 h₁:=T.keep _ _ _ t0 λb _ o e=>hk3 b o (hk2 b o e)
 have loop:∀ (R:Result->LK->Prop),(∀ f s',(∃ σ' H',Inv (cxR X scope cl xs caps s₃ H₃ Oj fp R) [] σ' H' s'/\Q (.ref s2.heap.objs.size) H')->R (.ok f) s') ->
  ∀ tk,codeAny (model X.prog X.w) X.A (.compLoop (.ListComp elt [⟨tg,iter,ifs,0⟩] scope pos) 0 (.ref it) (.ref s2.heap.objs.size) (compEnvC scope cl s₃.heap.objs.size X.env)) R { s₃ with heap:=h₁,toks:=tk }:=by
  intro R hR tk;have I4:=Inv.enter (E':=notedBy (model X.prog X.w) X.A (compEnvC scope cl s₃.heap.objs.size X.env) λe s'=>R (.error e) s') (tk:=tk) O I3 (λb hb=>⟨hf3 b hb,Nat.lt_trans (fpl b hb) hsz⟩) hcp (by simpa using hns₁) hk3;have stat:∀ {H':Hp},(∀ b∈fp,H' b=LJ)->∀ b∈fp,tU (cxR X scope cl xs caps s₃ H₃ Oj fp R) [] H' b:=λhn b hb=>by
   obtain⟨f0,f1,f2,f3,f4,f5⟩:=hf3 b hb;refine⟨hn b hb,Mv (Nat.lt_trans (fpl b hb) hsz),λz=>?_,.inl hb,λy c e=>f4 y c (O.sub _ (mem_of_lookup e)),λp hp=>f5 p (by simpa [cxR,aL] using hp)⟩;rcases Mf.mp (I3.stkSub b z) with q|q
   . exact f1 q
   . exact f2 q
  refine x9 (λn s'=>∃ (i:Nat) (vs:St) (ys:List V) (H':Hp),vs.length=xs.length/\Inv (cxR X scope cl xs caps s₃ H₃ Oj fp R) [] (vs++tT σ js) H' s'/\tn i s'.heap/\(∀ b∈fp,H' b=LJ)/\W i n ys H') ?_ m0
   ⟨0,_,[],H₃,Nx,I4,t3,λb hb=>(hf3 b hb).1,w0⟩
  rintro n s4 ⟨i,vs,ys,H4,vl,J4,t4,fr4,w4⟩;obtain⟨hD,hlen,hor⟩:=step i n ys H4 w4;rcases hor with⟨stop,qn⟩|⟨go,hy⟩
  . refine thn (T.done (cxR X scope cl xs caps s₃ H₃ Oj fp R) rfl rfl rfl hc i [] s4 _ H4 _ J4 (stat fr4) t4 stop) λr s5 ur42=>?_
    obtain⟨hr,J5⟩:=ur42;subst hr;exact hR _ _ ⟨_,H4,J5,qn⟩
  . refine thn (T.item (cxR X scope cl xs caps s₃ H₃ Oj fp R) rfl rfl rfl hc i [] s4 _ H4 _ J4 (stat fr4) t4 go) λr s5 ur43=>?_
    obtain⟨u,hr,h5⟩:=ur43;subst hr;refine thn h5 λ_ s6 ur44=>?_
    obtain⟨y,H6,J6,ry,yl,t6,fr6⟩:=ur44;have J6':=J6.pinned (stat fr6) (T.obj _ _ t6);obtain⟨Pk,hy6,hPk⟩:=hy y H6 yl vs vl;refine thn (hg _ _ _ _ _ _ _ s6 _ H6 y u _ J6' ry hy6) λ_ s7 ur45=>?_
    obtain⟨σ7,H7,J7,q7⟩:=ur45;obtain⟨vs',vl',e7,hy7⟩:=hPk _ _ q7;subst e7;refine thn (ht _ _ _ _ _ _ _ s7 _ H7 _ J7 hy7) λok s8 ur46=>?_
    obtain⟨H8,J8,q8⟩:=ur46;have back:∀ {σ9:St} {H9:Hp} {s9:LK},Inv (cxR X scope cl xs caps s₃ H₃ Oj fp R) ([]++nS fp s6.heap) σ9 H9 s9->tn (i+1) s9.heap/\∀ b∈fp,H9 b=LJ:=λJ9=>by
     refine⟨T.keep _ _ _ t6 λb hb o e=>(J9.pin (b,o) (ME _ (ME _ (eO hb e)))).1,λb hb=>?_⟩;obtain⟨o,e,d⟩:=T.obj _ _ t6 b hb;exact(J9.pin (b,o) (ME _ (ME _ (eO hb e)))).2.1
    cases ok with
   |false =>
     rw[SG (by decide)];rw[SG (by decide)]at q8;obtain⟨m',hm,w8⟩:=q8;obtain⟨b1,b2⟩:=back J8;exact⟨m',hm,i+1,vs',ys,H8,vl',J8.unpinned,b1,b2,w8⟩
   |true =>
     rw[SF rfl];rw[SF rfl]at q8;refine thn (he _ _ _ _ _ _ _ s8 _ H8 _ J8 q8) λz s9 ur47=>?_
     obtain⟨vz,H9,J9,rz,hD9,m',hm,w9⟩:=ur47;refine thn (fC (X:=(cxR X scope cl xs caps s₃ H₃ Oj fp R)) _ s9 _ H9 (.ref s2.heap.objs.size) [vz] (.ref s2.heap.objs.size) [z] (λ_ H10=>H10=upd H9 s2.heap.objs.size (.lst (ys++[vz]))) J9 rfl (.cons rz .nil) ⟨_,ys,vz,rfl,rfl,hD9,hlen,rfl⟩) λ_ s10 ur48=>?_
     obtain⟨v10,H10,J10,r10,e10⟩:=ur48;subst e10;obtain⟨b1,b2⟩:=back J10;exact⟨m',hm,i+1,vs',ys++[vz],_,vl',J10.unpinned,b1,b2,w9⟩
 have fin:∀ tk,codeAny (model X.prog X.w) X.A (.compLoop (.ListComp elt [⟨tg,iter,ifs,0⟩] scope pos) 0 (.ref it) (.ref s2.heap.objs.size) (compEnvC scope cl s₃.heap.objs.size X.env)) (compPost (model X.prog X.w) X.A X.xe use QQ (.ref s2.heap.objs.size) s₃.heap.objs.size) { s₃ with heap:=h₁,toks:=tk }:=λtk=>by
  refine loop _ (λf s' ur49=>?_) tk;obtain⟨σ',H',J',qn⟩:=ur49;obtain⟨mm,hmm,_⟩:=J'.loc;exact fl s₃ H₃ H' s' _ f mm I3 hmm J'.free (λh' hs'=>Inv.block I3 hf3 J' hs') qn
 exact codeAny_compStart_list (fin _) (T.self _ _ _ _ _ t3 (fin _))
end
section
variable {X:Cx}{scope:Scope}{cl:List (Str × D')}{x x2 x3:Str}{js:List Nat}{tc:TT}{te:TE}{σ:St}{Q:VK}{J:It}{H1:Hp}{g:TG}{caps:List Str}{pos:Pos}{tg iter elt:Expr}{ifs:List Expr}{wi:TI}
def Kz (h:∀ D,H1 D=LJ->∃ W:Nat->Nat->List V->Hp->Prop,(∃ m,W 0 m [] (upd H1 D (.lst []))) /\
 ∀ i m ys H2,W i m ys H2->H2 D=f' (.lst ys)/\ys.length < LP/\((J.stop i H2/\Q (.ref D) H2)\/(J.go i H2/\∀ x H3,J.yld i H2 x H3 ->
  tc (f' x :: tT σ js) H3 λb H4=>if b=l' then te (f' x :: tT σ js) H4 λy H5=>H5 D=f' (.lst ys)/\∃ m',m' < m/\W (i+1) m' (ys++[y]) (upd H5 D (.lst (ys++[y])))
   else ∃ m',m' < m/\W (i+1) m' ys H4))):RN 1 (jP 0) js tc te σ Q J H1:=λD hD=>by
 obtain⟨W,w0,step⟩:=h D hD;refine⟨W,w0,λi m ys H2 hw=>?_⟩;obtain⟨a,b,c⟩:=step i m ys H2 hw;refine⟨a,b,c.imp_right λ⟨g1,g2⟩=>⟨g1,λx H3 yl vs hl=>?_⟩⟩
 match vs,hl with
|[v0],_=>exact⟨λσ' H'=>σ'=f' x :: tT σ js/\H'=H3,⟨rfl,rfl⟩,λσ' H' uq11=>by(obtain⟨e1,e2⟩:=uq11;exact ⟨[f' x],rfl,e1,by rw[e1,e2];exact g2 x H3 yl⟩)⟩
def KU (h:∀ D,H1 D=LJ->∃ W:Nat->Nat->List V->Hp->Prop,(∃ m,W 0 m [] (upd H1 D (.lst []))) /\
 ∀ i m ys H2,W i m ys H2->H2 D=f' (.lst ys)/\ys.length < LP/\((J.stop i H2/\Q (.ref D) H2)\/(J.go i H2/\∀ x H3,J.yld i H2 x H3->∀ v0 v1:Option V,
  g x (v0 :: v1 :: tT σ js) H3 λσ' H'=>∃ v0' v1',σ'=v0' :: v1' :: tT σ js/\tc σ' H' λb H4=>if b=l' then te σ' H4 λy H5=>H5 D=f' (.lst ys)/\∃ m',m' < m/\W (i+1) m' (ys++[y]) (upd H5 D (.lst (ys++[y])))
   else ∃ m',m' < m/\W (i+1) m' ys H4))):RN 2 g js tc te σ Q J H1:=λD hD=>by
 obtain⟨W,w0,step⟩:=h D hD;refine⟨W,w0,λi m ys H2 hw=>?_⟩;obtain⟨a,b,c⟩:=step i m ys H2 hw;refine⟨a,b,c.imp_right λ⟨g1,g2⟩=>⟨g1,λx H3 yl vs hl=>?_⟩⟩
 match vs,hl with
|[v0,v1],_=>exact⟨_,g2 x H3 yl v0 v1,λσ' H' uq12=>by(obtain⟨a1,a2,e1,e2⟩:=uq12;exact ⟨[a1,a2],rfl,e1,e2⟩)⟩
def KD {px:Pos}{C:D'}{s₃:LK}{H₃:Hp}{Oj:List (D' × M6)}{ex:List D'}{E':G'->LK->Prop}(O:CompOk X scope cl [x]) (hnd:(x :: caps).Nodup):PG (aL X scope cl C [x] ([x]++caps) s₃ H₃ Oj ex E') (.Name x px) (jP 0) :=
 fV (i:=0) hnd rfl (.inl (lookup_relabel_local (O.xloc x LY))) (.inl (show [x].contains x=l' from contains_iff_mem.mpr LY))
def wR {Oj:List (D' × M6)}(s₃:LK) (H₃ H':Hp) (s':LK) (D:D') (f:Flow) (mm:Str->Option G') (_:Inv X Oj σ H₃ s₃) (hm:s'.heap.Ns s₃.heap.objs.size mm) (_:H' s₃.heap.objs.size=LJ) (hb:∀ h',MV s₃.heap.objs.size s'.heap h'->Inv X Oj σ H' { s' with heap:=h' }) (qn:Q (.ref D) H'):compPost (model X.prog X.w) X.A X.xe LJ (EP X Oj σ Q) (.ref D) s₃.heap.objs.size (.ok f) s' :=
 ⟨mm,hm,λh' hs'=>⟨.ref D,H',hb h' hs',rfl,qn⟩⟩
def lz {px:Pos}(hc:X.calm=l') (O:CompOk X scope cl [x]) (hnd:(x :: caps).Nodup)
 (hcp:A2 X scope cl caps js)
 (hi:PI X (.Name x px) iter wi) (ht:∀ C s₃ H₃ Oj ex E',PTs (aL X scope cl C [x] (x :: caps) s₃ H₃ Oj ex E') ifs tc) (he:∀ C s₃ H₃ Oj ex E',PE (aL X scope cl C [x] (x :: caps) s₃ H₃ Oj ex E') elt te)
 (hs:∀ x,foldedSetIterable iter X.env x=pure x:=by intro _;rfl):PE X (.ListComp elt [⟨.Name x px,iter,ifs,0⟩] scope pos) (IJ wi js tc te):=by
 intro Oj s σ H Q I h;rw[eval_ListComp];exact oY hc O (λ_ _ _ _ _ _=>KD O hnd) hcp hi ht he hs I h (λ_ _=>Kz) wR
def yx (hc:X.calm=l') (O:CompOk X scope cl [x,x2]) (hg:∀ C s₃ H₃ Oj ex E',PG (aL X scope cl C [x,x2] (x :: x2 :: caps) s₃ H₃ Oj ex E') tg g)
 (hcp:A2 X scope cl caps js)
 (hi:PI X tg iter wi) (ht:∀ C s₃ H₃ Oj ex E',PTs (aL X scope cl C [x,x2] (x :: x2 :: caps) s₃ H₃ Oj ex E') ifs tc) (he:∀ C s₃ H₃ Oj ex E',PE (aL X scope cl C [x,x2] (x :: x2 :: caps) s₃ H₃ Oj ex E') elt te)
 (hs:∀ x,foldedSetIterable iter X.env x=pure x:=by intro _;rfl):PE X (.ListComp elt [⟨tg,iter,ifs,0⟩] scope pos) (Fj wi g js tc te):=by
 intro Oj s σ H Q I h;rw[eval_ListComp];exact oY hc O hg hcp hi ht he hs I h (λ_ _=>KU) wR
def IR {Oj:List (D' × M6)}{D:Ends}{yT:Str}{iN:Nat}{py:Pos}(hN:X.N.Nodup) (hiN:X.N[iN]?=f' yT) (hyL:Loc X.env.scope yT) (hfN:X.fn yT=l'\/X.env.scope.names.lookup yT=f' .local) (s₃:LK) (H₃ H':Hp) (s':LK) (Da:D') (f:Flow) (mm:Str->Option G') (I3:Inv X Oj σ H₃ s₃) (hmm:s'.heap.Ns s₃.heap.objs.size mm) (fr:H' s₃.heap.objs.size=LJ) (hb:∀ h',MV s₃.heap.objs.size s'.heap h'->Inv X Oj σ H' { s' with heap:=h' }) (qn:jP iN (.ref Da) σ H' D.nx) :
 compPost (model X.prog X.w) X.A X.xe (f' (assign (.Name yT py) X.env)) (λ_ s'=>SP X Oj D .next s') (.ref Da) s₃.heap.objs.size (.ok f) s':=by
 have I5:Inv X Oj σ H' s':=hb _ (MV.refl _ _);show LV _ _ (assign (.Name yT py) X.env _) _ _ _;refine wpAny_assign_Name (vd I5 hN hiN hyL (v:=.ref Da) rfl (λs6 I6 ur50=>?_) hfN);obtain⟨a6,hs6,ha6⟩:=ur50;have neL:s₃.heap.objs.size≠X.env.locals:=(Mv I3.lt).symm;have neCl:∀ y c,X.env.cells.lookup y=f' c->c≠s₃.heap.objs.size:=λy c z=>by
  obtain⟨v,q⟩:=I3.cell _ _ z;exact Mv q.lt
 have neC:s₃.heap.objs.size≠a6:=by
  rcases ha6 with z|z
  . rw[z];exact neL
  . exact(neCl _ _ z).symm
 refine⟨mm,Mi.Ns.sameBut hmm hs6 neC,λh' hs'=>⟨_,H',I6.turned (t':=s6.toks) (it:=s₃.heap.objs.size) (λb o hb e=>(hs'.2 b hb).trans e) fr neL (.inr I3.sz) neCl (λp hp=>Mv (Mb (I3.pin p hp).1)),qn⟩⟩
def De {Oj:List (D' × M6)}{s:LK}{H:Hp}{D:Ends}{yT:Str}{py spos:Pos}(hsw:swapsWith (.ListComp elt [⟨tg,iter,ifs,0⟩] scope pos) (f' (.Name yT py)) spos.line X.env=pure l')
 (h:∀ (np:Pos) (s:LK),Inv X Oj σ H s->LV (model X.prog X.w) X.A (comprehension (.ListComp elt [⟨tg,iter,ifs,0⟩] scope pos) scope X.env np (newList []) K' (eval iter X.env) (f' (assign (.Name yT py) X.env))) (λ_ s'=>SP X Oj D .next s') X.xe s) (I:Inv X Oj σ H s) :
 LV (model X.prog X.w) X.A (exec (.Assign [.Name yT py] (.ListComp elt [⟨tg,iter,ifs,0⟩] scope pos) spos) X.env) (SP X Oj D) X.xe s:=by
 rw[exec_Assign_Name_used _ _ _ _ hsw];refine j' (wpAny_standAt (j' ?_));exact j' (N8 (h _ _ (by first|exact I|exact I.stood _)) (λ_ s' hq=>LL (LL hq)) λ_ _ e=>e)
def zM {px py spos:Pos}{yT:Str}{iN:Nat}(hN:X.N.Nodup) (hiN:X.N[iN]?=f' yT) (hyL:Loc X.env.scope yT) (hsw:swapsWith (.ListComp elt [⟨.Name x px,iter,ifs,0⟩] scope pos) (f' (.Name yT py)) spos.line X.env=pure l') (hc:X.calm=l') (O:CompOk X scope cl [x]) (hnd:(x :: caps).Nodup)
 (hcp:A2 X scope cl caps js)
 (hi:PI X (.Name x px) iter wi) (ht:∀ C s₃ H₃ Oj ex E',PTs (aL X scope cl C [x] (x :: caps) s₃ H₃ Oj ex E') ifs tc) (he:∀ C s₃ H₃ Oj ex E',PE (aL X scope cl C [x] (x :: caps) s₃ H₃ Oj ex E') elt te)
 (hs:∀ x,foldedSetIterable iter X.env x=pure x:=by intro _;rfl) (hfN:X.fn yT=l'\/X.env.scope.names.lookup yT=f' .local:=by first|exact .inl rfl|exact .inr rfl|assumption) :
 PS X (.Assign [.Name yT py] (.ListComp elt [⟨.Name x px,iter,ifs,0⟩] scope pos) spos) (Jj (IJ wi js tc te) (jP iN)):=λ_ _ σ _ D I h =>
 De hsw (λ_ _ I=>oY (Q:=λv H1=>jP iN v σ H1 D.nx) hc O (λ_ _ _ _ _ _=>KD O hnd) hcp hi ht he hs I h (λ_ _=>Kz (Q:=λv H1=>jP iN v σ H1 D.nx)) (IR hN hiN hyL hfN)) I
end
def BQ (env:Env):List (Str × D')->Prop
|[]=>True
|p :: r=>env.cells.lookup p.1=f' p.2/\BQ env r
theorem BQ.all {env:Env}:∀ {cl:List (Str × D')},BQ env cl->∀ p∈cl,env.cells.lookup p.1=f' p.2
|[],_,p,h=>by cases h
|q :: r,⟨a,b⟩,p,h=>by
  rcases Mf.mp h with rfl|h
  . exact a
  . exact BQ.all b p h
theorem all_map {α β:Type}{f:α->β}{b:β}:∀ {xs:List α},xs.map f=xs.map (λ_=>b)->∀ x∈xs,f x=b
|[],_,_,h=>by cases h
|y :: ys,e,x,h=>by
  rw[Nn,Nn]at e;injection e with e1 e2
  rcases Mf.mp h with z|z
  . rw[z];exact e1
  . exact all_map e2 x z
def ky {X:Cx}{scope:Scope}{cl:List (Str × D')}{xs:List Str}(kind:scope.kind=.function) (clos:closureFor scope X.env=pure cl) (nocell:∀ y∈scope.names,y.2≠.cell) (names:∀ y∈scope.names,y.2=.local->scope.names.lookup y.1=f' .local)
 (xloc:xs.map (λx=>scope.names.lookup x)=xs.map λ_=>f' .local) (sub:BQ X.env cl) (has:(scope.names.all λp=>p.2 != .free || (cl.lookup p.1).isSome)=l') (nox:xs.map (λx=>cl.lookup x)=xs.map λ_=>LJ):CompOk X scope cl xs :=
 ⟨kind,clos,nocell,names,all_map xloc,sub.all,λp hp hf=>by
  have h:=all_eq_true.mp has p hp;rw[hf]at h;have h':(cl.lookup p.1).isSome=l':=by simpa using h
  exact isSome_iff_exists.mp h',all_map nox⟩
section
variable {X:Cx}
end
def Lj (t u:TS):TS:=λD σ H=>∃ B:St->Hp->Prop,t { D with nx:=B } σ H/\∀ σ' H',B σ' H'->u D σ' H'
def gC {X:Cx}{st:MJ}{cx:List MJ}{t u:TS}(h1:PS X st t) (h2:PSs X cx u):PSs X (st :: cx) (Lj t u):=by
 intro Oj s σ H D I h;obtain⟨B,h,k⟩:=h;refine wpAny_execs_cons (thn (h1 Oj s σ H { D with nx:=B } I h) λf s1 q=>?_);cases f with
|next =>
  obtain⟨σ',H',I',q⟩:=q;exact h2 Oj s1 σ' H' D I' (k σ' H' q)
|ret v=>exact q
|brk=>exact q
|cont=>exact q
def Kl (t:TT):TT:=λσ H Q=>∃ B:Bool->Hp->Prop,t σ H B/\∀ b H',B b H'->Q b H'
def oW {X:Cx}{e:Expr}{t:TT}(h:PT X e t):PT X e (Kl t):=by
 intro Oj s σ H Q I q;obtain⟨B,q,k⟩:=q;exact thn (h Oj s σ H B I q) λb s1 uq13=>by(obtain⟨H1,I1,z⟩:=uq13;exact ⟨H1,I1,k b H1 z⟩)
mutual
theorem eqv_refl:∀ d:LO,d.canLay0=l'->Mc d d=l'
|.none,_=>rfl
|.bool b,_=>by simp[Mc]
|.int i,_=>by simp[Mc]
|.str t,_=>by simp[Mc]
|.list xs,h=>by
  have h':Nr xs=l':=by simpa [LO.canLay0] using h
  simpa [Mc] using lB xs h'
|.tuple xs,h=>by
  have h':Nr xs=l':=by simpa [LO.canLay0] using h
  simpa [Mc] using lB xs h'
|.dict _,h=>by simp[LO.canLay0]at h
theorem lB:∀ xs:List LO,Nr xs=l'->Nl xs xs=l'
|[],_=>rfl
|x :: xs,h=>by
  have h':x.canLay0=l'/\Nr xs=l':=by simpa [Nr] using h
  simp[Nl,eqv_refl x h'.1,lB xs h'.2]
end
section
variable {X:Cx}{pos:Pos}
def Hf:V->G'
|.ty c=>.type c
|.ref a=>.ref a
|_=>.none
def vI:V->Bool
|.ty _=>l'
|.ref _=>l'
|_=>K'
theorem yh:∀ {vs:List V}{us:List G'},bV vs us->vs.all vI=l'->us=vs.map Hf
|_,_,.nil,_=>rfl
|v :: vs,u :: us,.cons r t,h=>by
  rw[all_cons,MC]at h;rw[Nn,<-yh t h.2];congr 1;cases v with
 |ty c=>exact r
 |ref a=>exact r
 |_=>cases h.1
end
def aZ.seqT {K:LN}{H H':Hp}{a:D'}{xs:List V}(e:aZ H H') (h:SqT K H a xs):SqT K H' a xs:=by
 rcases h with z|z
 . rcases z with z|⟨o,z⟩
   . exact .inl (.inl (e _ _ z))
   . exact .inl (.inr ⟨o,e _ _ z⟩)
 . exact .inr z
def cQ.here {P:Mg}{w:LZ}{H:Hp}{h:Mi}{a:D'}{o:HO}(x:cQ P w H h a o):∃ ob,h.get? a=f' ob:=by
 cases o with
|lst xs=>obtain⟨_,_,_,_,e⟩:=x;exact⟨_,e⟩
|tup xs=>obtain⟨_,_,_,_,e,_⟩:=x;exact⟨_,e⟩
|dK kvs=>obtain⟨_,_,_,_,o,_,_,e,_⟩:=x;exact⟨_,e⟩
|dT kvs=>obtain⟨_,_,_,_,o,_,_,e,_⟩:=x;exact⟨_,e⟩
|set S n=>obtain⟨o,_,_,_,e,_⟩:=x;exact⟨_,e⟩
|ins C dx fs=>obtain⟨_,_,_,e,_⟩:=x;exact⟨_,e⟩
|own y=>exact x
|xd fs=>obtain⟨_,⟨_,_,_,e,_⟩,_⟩:=x;exact⟨_,e⟩
|rng lo hi=>obtain⟨_,_,_,e⟩:=x;exact⟨_,e⟩
|frz ob u=>exact⟨_,x.1⟩
|tbl ps=>exact⟨_,show h.get? a=f' _ from x⟩
|met f y=>exact⟨_,show h.get? a=f' _ from x⟩
|ext φ=>exact x.2.1
def HOk.nothing {P:Mg}{w:LZ}{H:Hp}{h:Mi}{a:D'}(ok:HOk P w H h) (e:h.get? a=LJ):H a=LJ:=by
 cases q:H a with
|none=>rfl
|some o =>
  obtain⟨ob,e'⟩:=(ok a o q).here;rw[e']at e;cases e
def Trc (h:Mi) (e T:D') (cls fl:G'):Prop :=
 ∃ oe vs oT ts a0,h.get? e=f' oe/\(oe.cls=cls/\vs[0]?=f' a0)/\oe.data=.fields vs/\vs[1]?=f' (.ref T)/\T≠e/\h.get? T=f' oT/\oT.data=.fields ts/\ts[3]?=f' fl
def Trc.on {h B:Mi}{e T:D'}{cls fl:G'}(x:Trc h e T cls fl) (hB:B.get? T=LJ):∃ a0,h.TracedAtW B e cls a0 fl:=by
 obtain⟨oe,vs,oT,ts,a0,h1,h2,h3,h4,h5,h6,h7,h8⟩:=x;exact⟨a0,oe,vs,T,oT,ts,h1,h2,h3,h4,hB,h5,h6,h7,h8⟩
def Apt (X:Cx) (Oj:List (D' × M6)) (H:Hp) (b:D'):Prop :=
 X.s₀.heap.get? b=LJ/\H b=LJ/\b≠X.env.locals/\(∀ x c,X.env.cells.lookup x=f' c->c≠b)/\∀ p∈X.pn++Oj,p.1≠b
section
variable {X:Cx}{Oj:List (D' × M6)}{σ:St}{H H':Hp}{s:LK}{h':Mi}
def Inv.apt (I:Inv X Oj σ H s) (hx:X.ex=[]) {b:D'}(e:s.heap.get? b=LJ) (n:H' b=LJ):Apt X Oj H' b:=by
 refine⟨?_,n,?_,λx c hc z=>?_,λp hp z=>?_⟩
 . cases q:X.s₀.heap.get? b with
  |none=>rfl
  |some o =>
    obtain⟨o',e'⟩:=I.base.there b o q (by rw[hx];simp);rw[e]at e';cases e'
 . rintro rfl;obtain⟨m,⟨o,_,_,ho,_⟩,_⟩:=I.loc;rw[e]at ho;cases ho
 . obtain⟨v,o,ho,_⟩:=I.cell x c hc;rw[z,e]at ho;cases ho
 . have ho:=(I.pin p hp).1;rw[z,e]at ho;cases ho
def Inv.fsIn (I:Inv X Oj σ H s):∀ b∈X.fs,b∈frs X.stack:=λb hb=>by
 rcases I.ok.stk with e|⟨e,f⟩
 . rw[e];exact hb
 . rw[e];show b∈List.filterMap (·.frame) (X.env :: X.outer);rw[filterMap_cons,f];exact Ma _ hb
def Inv.moved (I:Inv X Oj σ H s) (ch:List D') (hch:∀ b∈ch,Apt X Oj H b) (keep:∀ b o,b ∉ ch->b ∉ frs X.stack->s.heap.get? b=f' o->h'.get? b=f' o)
 (slot:∀ b o,b∈frs X.stack->s.heap.get? b=f' o->∃ sl,h'.get? b=f' { o with slots:=sl }):Inv X Oj σ H { s with heap:=h' }:=by
 have up:∀ b o,b ∉ ch->s.heap.get? b=f' o->∃ sl,h'.get? b=f' { o with slots:=sl }:=λb o n e=>by
  by_cases z:b∈frs X.stack
  . exact slot b o z e
  . exact⟨o.slots,keep b o n z e⟩
 have neL:∀ b o,X.s₀.heap.get? b=f' o->b≠X.env.locals:=λb o e=>Mv (LR (Mb e) I.ok.above)
 have neC:∀ b o,X.s₀.heap.get? b=f' o->b ∉ ch:=λb o e z=>by
  rw[(hch b z).1]at e;cases e
 have nst:∀ b,b≠X.env.locals->b ∉ X.fs->b ∉ frs X.stack:=λb n1 n2 z=>(Mf.mp (I.stkSub b z)).elim n1 n2
 have cellU:∀ x c,X.env.cells.lookup x=f' c->∀ v,s.heap.IsCell c v->h'.IsCell c v:=λx c hc v ⟨o,ho,hd⟩=>by
  obtain⟨sl,q⟩:=up c o (λz=>(hch c z).2.2.2.1 x c hc rfl) ho;exact⟨_,q,hd⟩
 refine⟨I.ok,I.os,I.bare,⟨λb o e n hb hx=>?_,λb o e n hb hx=>?_,I.base.free,λb o e hx=>?_,I.base.tups,I.base.frzs,I.base.tbls⟩,?_,λx c e=>?_,I.free,I.freeC,λp hp=>?_,λa o e=>?_,I.len⟩
 . exact keep b o (neC b o e) (nst b (neL b o e) hb) (I.base.keep b o e n hb hx)
 . obtain⟨sl,e1⟩:=I.base.slot b o e n hb hx;obtain⟨sl',e2⟩:=slot b _ (I.fsIn b hb) e1;exact⟨sl',e2⟩
 . obtain⟨o',e1⟩:=I.base.there b o e hx;obtain⟨sl,e2⟩:=up b o' (neC b o e) e1;exact⟨_,e2⟩
 . obtain⟨m,⟨o,es,ep,ho,r⟩,hl⟩:=I.loc;obtain⟨sl,q⟩:=up _ o (λz=>(hch _ z).2.2.1 rfl) ho;refine⟨m,⟨_,es,ep,q,r⟩,λi x v e1 e2 e3=>?_⟩;obtain⟨u,r',l⟩:=hl i x v e1 e2 e3;refine⟨u,r',?_⟩;rcases l with l|⟨k,c,e,z⟩
   . exact .inl l
   . exact .inr ⟨k,c,e,cellU x c e _ z⟩
 . obtain⟨v,z⟩:=I.cell x c e;exact⟨v,cellU x c e v z⟩
 . obtain⟨e,n,ne,nf,d⟩:=I.pin p hp;exact⟨keep p.1 p.2 (λz=>(hch p.1 z).2.2.2.2 p hp rfl) (nst p.1 ne nf) e,n,ne,nf,d⟩
 . refine(I.hok a o e).stay (λb u hb q=>keep b u (λz=>?_) (λz=>?_) q) (λ_ q=>q) λ_ _ q=>q
   . have n:=(hch b z).2.1;rcases hb with rfl|hb
     . rw[n]at e;cases e
     . rw[n]at hb;cases hb
   . have n:=I.stkFree b z;rcases hb with rfl|hb
     . rw[n]at e;cases e
     . rw[n]at hb;cases hb
abbrev hid (X:Cx) (h:Mi) (e T:D'):Mi:=hideAll h (e :: T :: frs X.stack)
def ik {h:Mi}{e T:D'}:(hid X h e T).StaysIn h:=λ_ _ q=>of_hideAll _ q
def gl {h:Mi}{e T:D'}(F:h.FunFrames X.base X.stack):h.FunFrames (hid X h e T) X.stack :=
 funFrames_hide F λenv he a ha=>Ma _ (Ma _ (mem_filterMap.mpr ⟨env,he,ha⟩))
def Bb {h:Mi}{e T:D'}:(hid X h e T).get? e=LJ:=hideAll_none _ LY
def Bl {h:Mi}{e T:D'}:(hid X h e T).get? T=LJ:=hideAll_none _ (Ma _ LY)
def Inv.flown (hx:X.ex=[]) (I:Inv X Oj σ H s) {e T:D'}{cls a0 fl:G'}(aE:Apt X Oj H e) (aT:Apt X Oj H T) (k1:(hid X s.heap e T).StaysIn h') (k2:h'.FunFrames (hid X s.heap e T) X.stack)
 (k3:h'.TracedAtW (hid X s.heap e T) e cls a0 fl) (k4:s.heap.UpToSlots h'):Inv X Oj σ H { s with heap:=h' }/\∃ T',Trc h' e T' cls fl/\Apt X Oj H T':=by
 refine⟨I.moved [e,T] (λb hb=>?_) (λb o n1 n2 q=>?_) (λb o hb q=>?_),?_⟩
 . rcases Mf.mp hb with rfl|hb
   . exact aE
   . rw[LM.mp hb];exact aT
 . refine k1 b o (hideAll_get _ q λz=>?_);rcases Mf.mp z with z|z
   . exact n1 (by rw[z];exact LY)
   . rcases Mf.mp z with z|z
     . exact n1 (by rw[z];simp)
     . exact n2 z
 . obtain⟨_,o',e',hd⟩:=I.stack.mem hb;rw[q]at e';cases e';exact k4 b o q hd
 . obtain⟨oe,vs,T',oT,ts,h1,h2,h3,h4,h5,h6,h7,h8,h9⟩:=k3;refine⟨T',⟨oe,vs,oT,ts,a0,h1,h2,h3,h4,h6,h7,h8,h9⟩,?_⟩;by_cases z:T'=T
   . rw[z];exact aT
   . have nf:T' ∉ frs X.stack:=λy=>by
      obtain⟨_,o',e',hd⟩:=k2.mem y;rw[h7]at e';cases e';exact hd _ h8
     have hn:s.heap.get? T'=LJ:=by
      cases q:s.heap.get? T' with
     |none=>rfl
     |some o =>
       have:=hideAll_get (e :: T :: frs X.stack) q λy=>by
        rcases Mf.mp y with y|y
        . exact h6 y
        . rcases Mf.mp y with y|y
          . exact z y
          . exact nf y
       rw[h5]at this;cases this
     exact I.apt hx hn (I.hok.nothing hn)
end
def CXv (P:Mg) (w:LZ):CXT:=λouter H s E e s'=>∃ (ex T:D') (cls:G') (H':Hp),e=.ref ex/\s'.os=s.os/\AllBare s'.gens/\Un (frs outer) [] H H' s.heap s'.heap/\HOk P w H' s'.heap/\Trc s'.heap ex T cls .none /\
 s.heap.get? ex=LJ/\s.heap.get? T=LJ/\H' ex=LJ/\H' T=LJ/\E cls LJ H'
structure Raisy (X:Cx) (E:XK):Prop where
 ex:X.ex=[]
 stk:X.stack=X.env :: X.outer
 frm:X.env.frame=f' X.env.locals
 xe:X.xe=λe s'=>LV (model X.prog X.w) X.A («leaving» X.env e) (λ_ s''=>CXv X.prog X.w X.outer X.H₀ X.s₀ E e s'') (λe' s''=>CXv X.prog X.w X.outer X.H₀ X.s₀ E e' s'') s'
section
variable {X:Cx}{Oj:List (D' × M6)}{σ:St}{H H':Hp}{s:LK}{E:XK}
def Inv.out (hx:X.ex=[]) (I:Inv X Oj σ H s) {e T:D'}{cls:G'}(t:Trc s.heap e T cls .none) (aE:Apt X Oj H e) (aT:Apt X Oj H T) (q:E cls LJ H):CXv X.prog X.w X.outer X.H₀ X.s₀ E (.ref e) s:=by
 refine⟨e,T,cls,H,rfl,I.os,I.bare,?_,I.hok,t,aE.1,aT.1,aE.2.1,aT.2.1,q⟩;have u:=I.base;rw[hx]at u;exact u
def zF (R:Raisy X E) (I:Inv X Oj σ H s) {e:D'}{cls:G'}{args:List G'}{h2:Mi}(M:Mi.MadeExcOf s.heap h2 e cls args) (q:E cls LJ H):X.xe (.ref e) { s with heap:=h2 }:=by
 rw[R.xe];have aE:Apt X Oj H e:=I.apt R.ex M.new (I.hok.nothing M.new);have I2:Inv X Oj σ H { s with heap:=h2 }:=I.kept (t':=s.toks) M.keeps;obtain⟨t,he,_,_⟩:=M.there;have hA:X.A.frames=f' (X.env :: X.outer):=by rw[<-R.stk];exact I.ok.frames
 have FF:=gl (e:=e) (T:=e) I2.stack;rw[R.stk]at FF;refine wpAny_leaving_firstW (base:=hid X h2 e e) (a0:=.ref t) hA FF R.frm he ik Bb rfl rfl rfl λh' hL=>?_
 obtain⟨k1,k2,k3,k4⟩:=hL;rw[<-R.stk]at k2;obtain⟨I3,T',t3,aT⟩:=I2.flown R.ex aE aE k1 k2 k3 k4;exact I3.out R.ex t3 aE aT q
def Raisy.passes (R:Raisy X E):gF (CXv X.prog X.w) X E:=by
 intro Oj σ H s e s' I h;obtain⟨ex,T,cls,H',rfl,os,bare,un,hok,t,n1,n2,n3,n4,q⟩:=h;have I2:Inv X Oj σ H' s':=I.call' (ch:=[]) os un hok bare (λb z=>absurd z (by simp));have aE:Apt X Oj H' ex:=I.apt R.ex n1 n3;have aT:Apt X Oj H' T:=I.apt R.ex n2 n4;rw[R.xe];have hA:X.A.frames=f' (X.env :: X.outer):=by rw[<-R.stk];exact I.ok.frames
 have FF:=gl (e:=ex) (T:=T) I2.stack;rw[R.stk]at FF;obtain⟨a0,tw⟩:=t.on (Bl (X:=X) (h:=s'.heap) (e:=ex) (T:=T));refine wpAny_leaving_nextW (base:=hid X s'.heap ex T) (a0:=a0) hA FF R.frm tw ik Bb λh' hL=>?_
 obtain⟨k1,k2,k3,k4⟩:=hL;rw[<-R.stk]at k2;obtain⟨I3,T',t3,aT'⟩:=I2.flown R.ex aE aT k1 k2 k3 k4;exact I3.out R.ex t3 aE aT' q
end
def veB:List G':=[.type "ValueError",.type "Exception",.type "BaseException",.type "object"]
def GV {K:LN}{h:Mi}{C:D'}(X:K.In h) (q:excIn K C veB "ValueError.__new__"=l') :
 ∃ bm N nm qn bs hd sn sub ab col dd k0 k1 k2 k3 k5 mN,h.get? C=f' (excClassObj nm qn C N bs bm hd sn sub ab col dd k0 k1 k2 k3 k5 "ValueError.__new__")/\h.Ns N mN/\mN "__init__"=LJ/\OwnTail h veB bm:=by
 unfold excIn at q;split at q
 . rename_i dd cd sl ho;split at q
   . rename_i C' bm k0 k1 k2 k3 n k5 hm hs;obtain⟨nm,bs,mro,ns,qn,hd,sn,sub,ab,col,del⟩:=cd;simp only[MC,beq_iff_eq,NL]at q hm;have q1:=q.1.1.1.1.1;have q2:=q.1.1.1.1.2;have q3:=q.1.1.1.2;have es:sl=#[k0,k1,k2,k3,f' (.builtin n),k5]:=Array.ext' hs;rw[hm,q3,es,q1,q2]at ho;have hok:=q.1.2;refine⟨bm,ns,nm,qn,bs,hd,sn,sub,ab,col,dd,k0,k1,k2,k3,k5,h.nsMap ns,X _ _ ho,?_,nsMap_none_of_in X hok q.2,tail_of_in X q.1.1.2⟩;exact Mi.Ns.of_isNs (isNs_of_in X hok)
   . cases q
 . cases q
def Fk (E:XK) (C:D') (t:TA):TS:=λ_ σ H=>t σ H λvs H1=>vs.length <= LP/\E (.ref C) LJ H1
def c6 {X:Cx}{E:XK}{x:Str}{C:D'}{e:Expr}{es:List Expr}{t:TA}{np cpos pos:Pos}(R:Raisy X E) (hh:X.A.handled=LJ) (hg:Gl X x) (hm:X.mg x=f' (.ref C)) (hc:excIn X.K C veB "ValueError.__new__"=l')
 (ha:PA X (e :: es) t) (hdb:(x == ("__debug__":Str))=K':=by decide) (he:Mu (e :: es) X.env=(K',eval e X.env) :: Mu es X.env:=by rfl) (hpl:(N6 cpos (Mu (e :: es) X.env)).any (·.1)=K':=by rfl) :
 PS X (.Raise (f' (.Call (.Name x np) (e :: es) [] cpos)) LJ pos) (Fk E C t):=by
 intro Oj s σ H D I h;obtain⟨bm,N,nm,qn,bs,hd,sn,sub,ab,col,dd,k0,k1,k2,k3,k5,mN,hC,hN,hni,TL⟩:=GV I.ok.mod.kin hc;refine wpAny_Raise_call_subT (C:=C) (nm:=nm) (q:=qn) (N:=N) (bs:=bs) (bm:=bm) (hdct:=hd) (sn:=sn) (sub:=sub) (ab:=ab) (col:=col) (dd:=dd) (k0:=k0) (k1:=k1) (k2:=k2) (k3:=k3) (k5:=k5) PySem.F.excBase_ValueError (mN:=mN)
  (TL.hasType PySem.F.excBase_ValueError.hasBase) hh hpl hni (eT I hg hm ⟨rfl,?_⟩ hdb)
 have hq:=ha cpos Oj s σ H _ I h;have e2:N6 cpos (Mu (e :: es) X.env)=N6 cpos ((K',eval e X.env) :: Mu es X.env):=by rw[he]
 rw[e2]at hq |-;refine Nw (thn hq λus s2 ur51=>?_);obtain⟨vs,H2,I2,r,z,q⟩:=ur51;exact⟨rfl,by rw[<-r.length];exact z,I2.bk _ _ hC,hN.keeps I2.bk,TL.keeps I2.bk,λh' ex M=>zF R I2 M q⟩
def Fun.okX {P:Mg}{w:LZ}{K:LN}{mg:Str->Option G'}{base:Mi}{x qual:Str}{st:MJ}{f:D'}{fd:LX}{N ps:List Str}{k:Nat}{sp:Sp}(F:Fun K x qual st f fd) (S:FnScope N ps (ai st)) (len:∀ vs H Q E,sp vs H Q E->vs.length=ps.length)
 (hbody:∀ (cdv:G') (A:Mr) (outer:List Env) (s:LK) (H:Hp) (vs:List V) (Q:VK) (E:XK),Room k (A.deeper (envOfC qual (ai st) s.heap.objs.size f cdv))->Raisy (Fh (CXv P w) P w K mg base N qual (ai st) f cdv A outer s H E) E->sp vs H Q E ->
  ∃ t,PSs (Fh (CXv P w) P w K mg base N qual (ai st) f cdv A outer s H E) (dZ st) t/\t { nx:=λ_ H'=>Q .non H',rt:=Q } (sM N vs) H):FnOk P w K mg base (CXv P w) (k+1) f fd ps sp:=by
 obtain⟨oc,od,kV,doc,pm,an,cdv,ct,osl,rfl,lk,hcd⟩:=F.ex;exact Jf lk hcd S len λA outer s H vs Q E hr hsp=>hbody cdv A outer s H vs Q E hr ⟨rfl,rfl,rfl,rfl⟩ hsp
abbrev Cx.tryX (X:Cx) (Oj:List (D' × M6)) (R:St->G'->Hp->Prop):Cx :=
 { X with pn:=X.pn++Oj,xe:=λe s'=>∃ (ex T:D') (cls:G') (σ':St) (H':Hp),e=.ref ex/\Inv X Oj σ' H' s'/\Trc s'.heap ex T cls .none/\Apt X Oj H' ex/\Apt X Oj H' T/\R σ' cls H' }
abbrev Cx.inH (X:Cx) (e:G'):Cx:={ X with A:=X.A.mark (f' e),calm:=K',xe:=λ_ _=>False }
section
variable {X:Cx}{Oj pins':List (D' × M6)}{σ:St}{H H':Hp}{s:LK}{R:St->G'->Hp->Prop}{e:G'}
def Cx.Ok.try_ (ok:X.Ok):(X.tryX Oj R).Ok:=⟨ok.mod,ok.kind,ok.glob,ok.blt,ok.above,ok.inj,ok.has,ok.cab,ok.hd,ok.frames,ok.stk,ok.exf,ok.bs,ok.bsz,ok.noex,ok.exfs,ok.funs,ok.frf⟩
def Cx.Ok.untry (ok:(X.tryX Oj R).Ok):X.Ok:=⟨ok.mod,ok.kind,ok.glob,ok.blt,ok.above,ok.inj,ok.has,ok.cab,ok.hd,ok.frames,ok.stk,ok.exf,ok.bs,ok.bsz,ok.noex,ok.exfs,ok.funs,ok.frf⟩
theorem Inv.try_ (I:Inv X Oj σ H s):Inv (X.tryX Oj R) [] σ H s:=⟨I.ok.try_,I.os,I.bare,I.base,I.loc,I.cell,I.free,I.freeC,λp hp=>I.pin p (by simpa [Cx.tryX] using hp),I.hok,I.len⟩
theorem Inv.untry (I:Inv (X.tryX Oj R) pins' σ H s):Inv X Oj σ H s:=⟨I.ok.untry,I.os,I.bare,I.base,I.loc,I.cell,I.free,I.freeC,λp hp=>I.pin p (mem_append_left _ hp),I.hok,I.len⟩
theorem Cx.Ok.inH (ok:X.Ok):(X.inH e).Ok:=⟨ok.mod,ok.kind,ok.glob,ok.blt,ok.above,ok.inj,ok.has,ok.cab,λz=>(by cases z),ok.frames,ok.stk,ok.exf,ok.bs,ok.bsz,ok.noex,ok.exfs,ok.funs,ok.frf⟩
theorem Inv.inH (I:Inv X Oj σ H s):Inv (X.inH e) Oj σ H s:=⟨I.ok.inH,I.os,I.bare,I.base,I.loc,I.cell,I.free,I.freeC,I.pin,I.hok,I.len⟩
def Inv.outH (ok:X.Ok) (I:Inv (X.inH e) Oj σ H s):Inv X Oj σ H s:=⟨ok,I.os,I.bare,I.base,I.loc,I.cell,I.free,I.freeC,I.pin,I.hok,I.len⟩
theorem SP.outH {D:Ends}{f:Flow}{s':LK}(ok:X.Ok) (h:SP (X.inH e) Oj D f s'):SP X Oj D f s':=by
 cases f with
|next=>obtain⟨σ',H',I,q⟩:=h;exact⟨σ',H',I.outH ok,q⟩
|brk=>obtain⟨σ',H',I,q⟩:=h;exact⟨σ',H',I.outH ok,q⟩
|cont=>obtain⟨σ',H',I,q⟩:=h;exact⟨σ',H',I.outH ok,q⟩
|ret u=>obtain⟨v,σ',H',I,r,q⟩:=h;exact⟨v,σ',H',I.outH ok,r,q⟩
theorem SP.untry {D:Ends}{f:Flow}{s':LK}(h:SP (X.tryX Oj R) pins' D f s'):SP X Oj D f s':=by
 cases f with
|next=>obtain⟨σ',H',I,q⟩:=h;exact⟨σ',H',I.untry,q⟩
|brk=>obtain⟨σ',H',I,q⟩:=h;exact⟨σ',H',I.untry,q⟩
|cont=>obtain⟨σ',H',I,q⟩:=h;exact⟨σ',H',I.untry,q⟩
|ret u=>obtain⟨v,σ',H',I,r,q⟩:=h;exact⟨v,σ',H',I.untry,r,q⟩
end
structure Framed (X:Cx):Prop where
 ex:X.ex=[]
 stk:X.stack=X.env :: X.outer
 frm:X.env.frame=f' X.env.locals
abbrev TH:=Ends->St->G'->Hp->Prop
def PH (X:Cx) (hs:List ExceptHandler) (t:TH):Prop :=
 ∀ (Oj:List (D' × M6)) (s:LK) (σ:St) (H:Hp) (D:Ends) (ex T:D') (cls:G'),Inv X Oj σ H s->Trc s.heap ex T cls .none->Apt X Oj H ex->Apt X Oj H T->t D σ cls H ->
  LV (model X.prog X.w) X.A (handleBy (.ref ex) X.env hs) (SP X Oj D) X.xe s
def Ke:TH:=λ_ _ _ _=>False
def IE {X:Cx}:PH X [] Ke:=λ_ _ _ _ _ _ _ _ _ _ _ _ h=>h.elim
section
variable {X:Cx}
def Trc.ty {M:Model}{h:Mi}{e T:D'}{cls fl:G'}(t:Trc h e T cls fl):PySem.W.Looks M h (typeOf (.ref e)) cls:=by
 obtain⟨oe,vs,oT,ts,a0,h1,⟨rfl,_⟩,_⟩:=t;exact(PySem.W.Looks.ld h1).andThen .now
def JQ {Oj:List (D' × M6)}{σ:St}{H:Hp}{s:LK}{ex T:D'}{cls fl:G'}{A:Mr}{Q:Unit->LK->Prop}{E:G'->LK->Prop}(hx:X.ex=[]) (I:Inv X Oj σ H s) (t:Trc s.heap ex T cls fl) (aE:Apt X Oj H ex) (aT:Apt X Oj H T)
 (h:∀ s' T',Inv X Oj σ H s'->Trc s'.heap ex T' cls .none->Apt X Oj H T'->Q () s'):LV (model X.prog X.w) A (setFlight (.ref ex) LJ) Q E s:=by
 obtain⟨a0,tw⟩:=t.on (Bl (X:=X) (h:=s.heap) (e:=ex) (T:=T));refine wpAny_setFlight_noneW (base:=hid X s.heap ex T) (l:=X.stack) ik (gl I.stack) tw λh' k1 k2 k3 k4=>?_
 obtain⟨I3,T',t3,aT'⟩:=I.flown hx aE aT k1 k2 k3.at λb o q n=>⟨o.slots,k4 b o q n⟩
 exact h _ T' I3 t3 aT'
def Lf (tb:(St->G'->Hp->Prop)->TS) (th:TH):TS:=λD σ H=>∃ R:St->G'->Hp->Prop,tb R D σ H/\∀ σ' cls H',R σ' cls H'->th D σ' cls H'
def IH {body:List MJ}{h₀:ExceptHandler}{hs:List ExceptHandler}{pos:Pos}{tb:(St->G'->Hp->Prop)->TS}{th:TH}(F:Framed X) (hb:∀ Oj R,PSs (X.tryX Oj R) body (tb R)) (hh:PH X (h₀ :: hs) th):PS X (.Try body (h₀ :: hs) [] [] pos) (Lf tb th):=by
 intro Oj s σ H D I h;obtain⟨R,h,k⟩:=h;refine wpAny_Try_except (N8 (hb Oj R [] s σ H D I.try_ h) (λf s1 q=>?_) λe s1 q=>?_)
 . have q':=q.untry;cases f with
  |next=>exact wpAny_execs_nil q'
  |brk=>exact q'
  |cont=>exact q'
  |ret u=>exact q'
 . obtain⟨ex,T,cls,σ',H',rfl,I1,t,aE,aT,r⟩:=q;have hA:X.A.frames=f' (X.env :: X.outer):=by rw[<-F.stk];exact I.ok.frames
   have FF:=gl (e:=ex) (T:=T) I1.stack;rw[F.stk]at FF;obtain⟨a0,tw⟩:=t.on (Bl (X:=X) (h:=s1.heap) (e:=ex) (T:=T));refine wpAny_noteFrame_onW (base:=hid X s1.heap ex T) (a0:=a0) hA FF F.frm tw ik Bb λh' hL=>?_
   obtain⟨k1,k2,k3,k4⟩:=hL;rw[<-F.stk]at k2;obtain⟨I2,T2,t2,aT2⟩:=I1.flown F.ex aE aT k1 k2 k3 k4;exact JQ F.ex I2 t2 aE aT2 λs3 T3 I3 t3 aT3=>hh Oj s3 σ' H' D ex T3 cls I3 t3 aE aT3 (k σ' cls H' r)
end
def Iq (C:D') (m:Str) (sp:Sp) (dvs:List V) (R:St->G'->Hp->Prop) (ta:TE) (t:TA):TE:=λσ H Q=>ta σ H λx H1=>∃ a dx fs,x=.ref a/\H1 a=f' (.ins C dx fs)/\fs.lookup m=LJ /\
 t σ H1 λvs H2=>sp (x :: (vs++dvs)) H2 Q λcls _ H'=>R σ cls H'
section
variable {X:Cx}{k:Nat}{f C:D'}{fd:LX}{ps:List Str}{sp:Sp}{dvs:List V}{ds:List G'}{x m:Str}{p pos apos:Pos}{e o:Expr}{es:List Expr}{ta:TE}{t:TA}{Oj:List (D' × M6)}{R:St->G'->Hp->Prop}
def FL {pins':List (D' × M6)}{σ:St}{H:Hp}{s:LK}{Q:VK}{us:List G'}{vs:List V}(hx:X.ex=[]) (F:FnOk X.prog X.w X.K X.mg X.base (CXv X.prog X.w) k f fd ps sp) (hr:Room k X.A) (hb:az X.K fd ps ds) (hd:bV dvs ds)
 (I:Inv (X.tryX Oj R) pins' σ H s) (r:bV vs us) (h:sp (vs++dvs) H Q λcls _ H'=>R σ cls H'):LV (model X.prog X.w) X.A (call (.ref f) us) (EP (X.tryX Oj R) pins' σ Q) (X.tryX Oj R).xe s:=by
 have r2:bV (vs++dvs) (us++ds):=r.append hd;have hl:(us++ds).length=ps.length:=r2.length.symm.trans (F.len _ _ _ _ h);refine wpAny_call (codeAny_mono (F.run X.A X.stack s H ⟨us,[]⟩ _ _ Q _ hr I.env0 (hb s us I.kIn hl) r2 h) λr s' hq=>?_);cases r with
|error e =>
  obtain⟨ex,T,cls,H',rfl,os,bare,un,hok,t,n1,n2,n3,n4,q⟩:=hq;exact⟨ex,T,cls,σ,H',rfl,(I.call' (ch:=[]) os un hok bare (λb z=>absurd z (by simp))).untry,t,I.untry.apt hx n1 n3,I.untry.apt hx n2 n4,q⟩
|ok fl =>
  cases fl with
 |ret u=>exact I.after hq
 |next=>exact Nf hq
 |brk=>exact Nf hq
 |cont=>exact Nf hq
def Ee {pl:Sem Bool}(hx:X.ex=[]) (he:PE (X.tryX Oj R) o ta) (c:Cls X.K C) (hm:Meth X.K C m f) (F:FnOk X.prog X.w X.K X.mg X.base (CXv X.prog X.w) k f fd ps sp) (hr:Room k X.A) (hb:az X.K fd ps ds) (hd:bV dvs ds) (ha:PA (X.tryX Oj R) (e :: es) t)
 (hst:Mu (e :: es) X.env=(K',eval e X.env) :: Mu es X.env:=by rfl) (hpl:(N6 pos (Mu es X.env)).any (·.1)=K':=by rfl)
 (ht:eval (.Call (.Attribute o m apos) (e :: es) [] pos) X.env=(do
  let ov <-eval o X.env
  standAt apos.atName
  let (f,first) <-holding [ov] (getMethod ov m pl)
  callWith pos f first (N6 pos (Mu (e :: es) X.env)) (backToKw pos (keywordEach [] X.env))):=by rfl) :
 PE (X.tryX Oj R) (.Call (.Attribute o m apos) (e :: es) [] pos) (Iq C m sp dvs R ta t):=by
 intro pins' s σ H Q I h;refine methodCall_KW (pl:=pl) (thn (he pins' s σ H _ I h) λu s1 z=>?_) ht;obtain⟨x,H1,I1,rx,a,dx,fs,ex,ea,l,q⟩:=z;subst ex;cases (show u=Ml a from rx);refine nk I1 ea c hm l (callWith_K (first:=[.ref a]) (h₀:=X.base) I.ok.mod.kin hm.kp (thn (ha pos pins' s1 σ H1 _ I1 q) λus s2 z=>?_) hst hpl);obtain⟨vs,H2,I2,r,q2⟩:=z;exact⟨I2.kIn,FL (us:=.ref a :: us) (vs:=.ref a :: vs) hx F hr hb hd I2 (.cons rfl r) q2⟩
end
end L2
namespace PySem.W
open PySem PySem.Calls PyProof.Rows Builtin Builtin.ObjectAttr Builtin.Getset_descriptor
structure XCls (K:Frag) (C:D'):Prop where
 ga:findIn K (.ref C) "__getattribute__"=f' (f' (.builtin "BaseException.__getattribute__"))
 gt:findIn K (.ref C) "__getattr__"=f' LJ
 cl:findIn K (.ref C) "__class__"=f' (f' (.builtin "object.__class__"))
 ob:mroIn K C (.type "object")=f' l'
 be:subIn K (.ref C) (.type "BaseException")=f' l'
 is:isClsIn K C=l'
section
variable {prog:Mg}{w:LZ}{A:Mr}{E:G'->LK->Prop}{h:Mi}{g:Array GenState}{d:Drawn}{t:Nat}{os:OsState}{K:Frag}{x C:D'}{ox:M6}
def GD {R:Result->LK->Prop}{tp:G'}(X:K.In h) (Z:XCls K C) (hx:h.get? x=f' ox) (hc:ox.cls=.ref C) (hq:R (.ok (.ret (.ref C))) ⟨h,g,d,t,os⟩) :
 codeAny (model prog w) A (.call (.builtin "getset_descriptor.__get__") ⟨[.builtin "object.__class__",.ref x,tp],[]⟩) R ⟨h,g,d,t,os⟩:=by
 have L0:Looks (model prog w) h (typeOf (.ref x)) (.ref C):=hc ▸ (Looks.ld hx).andThen .now;have L1:=looks_mroIn (M:=model prog w) X Z.ob;refine codeAny_call_builtin KF.slot_gs.plain KF.entry_gs (KF.slot_gs.check _ _ _ _ _ _ _ _ KF.type_class (KF.args_gs _ _ _) ?_);unfold Builtin.«getset_descriptor.__get__» descrGet;rw[dga_obj];refine j' (LL ?_);unfold descrGetter descrCheckInstance descrNameAndClass isInstance;simp only[KF.owner_class]
 repeat lk
 refine⟨Code.quiet_builtin _ (by decide +kernel),codeAny_builtin KF.entry_class ?_⟩;unfold Builtin.«object.__class__» shownTypeOf
 repeat lk
 exact hq
def AE {M:Model}{nameV:G'}{Q:Unit->LK->Prop}(X:K.In h) (Z:XCls K C) (hx:h.get? x=f' ox) (hc:ox.cls=.ref C) (hq:Q () ⟨h,g,d,t,os⟩) :
 LV M A (checkBuiltinCall "BaseException.__getattribute__" ⟨[.ref x,nameV],[]⟩) Q E ⟨h,g,d,t,os⟩:=by
 have hk:builtinKind "BaseException.__getattribute__"=f' .slot:=by decide +kernel
 have hsplit:splitId "BaseException.__getattribute__"=f' ("BaseException","__getattribute__"):=by decide +kernel
 have ha:=F.args_bexc_ga (.ref x) nameV;have LI:Looks M h (isInstance (.ref x) (.type "BaseException")) l':=(show Looks M h (typeOf (.ref x)) (.ref C) from hc ▸ (Looks.ld hx).andThen .now).andThen (looks_subIn X Z.be);simp only[checkBuiltinCall,hk,hsplit];refine j' (LI.at ?_)
 repeat (first|assumption|wp_step)
def Cb {tk:Tok}{Q:Fin->LK->Prop}(X:K.In h) (Z:XCls K C) (hx:h.get? x=f' ox) (hc:ox.cls=.ref C) (hq:Q (.done (.ret (.ref C))) ⟨h,g,d,t,os⟩) :
 LV (model prog w) A (Builtin.«object.__getattribute__» ⟨[.ref x,.str "__class__" tk],[]⟩) Q E ⟨h,g,d,t,os⟩:=by
 have hT5:(⟨h,g,d,t,os⟩:LK).TypeIs (.builtin "object.__class__") "getset_descriptor":=F.typeOf_object_class;have f5:=F.typeOf_object_class;have f6:=F.slot_gs_get.lookup;have f7:=F.slot_gs_set.lookup;have L1:=looks_findIn (M:=model prog w) X Z.cl
 repeat (any_goals (first|assumption|(with_reducible refine wpAny_loadPart_at hx ?_;rw[hc])|with_reducible refine L1.at ?_|wp_step))
 refine GD X Z hx hc ?_
 repeat (any_goals (first|assumption|wp_step))
def Ec {tk:Tok}{R:Result->LK->Prop}(X:K.In h) (Z:XCls K C) (hx:h.get? x=f' ox) (hc:ox.cls=.ref C) (hq:R (.ok (.ret (.ref C))) ⟨h,g,d,t,os⟩) :
 codeAny (model prog w) A (.call (.builtin "BaseException.__getattribute__") ⟨[.ref x,.str "__class__" tk],[]⟩) R ⟨h,g,d,t,os⟩ :=
 codeAny_call_builtin F.excAttr_ValueError.ga.plain F.entry_bexc_ga (AE X Z hx hc (Cb X Z hx hc hq))
def IG {tk:Tok}{fill expr:Bool}{Q:G'->LK->Prop}(X:K.In h) (Z:XCls K C) (hx:h.get? x=f' ox) (hc:ox.cls=.ref C) (hq:Q (.ref C) ⟨h,g,d,t,os⟩) :
 LV (model prog w) A (getAttrBy (.ref x) (.str "__class__" tk) fill expr) Q E ⟨h,g,d,t,os⟩:=by
 have f3:=F.excAttr_ValueError.ga.bind (.ref x);have hx0:(expr && onTheHeap (G'.builtin "BaseException.__getattribute__"))=K':=by cases expr<;>rfl
 have hx2:(G'.builtin "BaseException.__getattribute__" == G'.builtin "object.__getattribute__")=K':=by decide +kernel
 have hx1:(onTheHeap (Ml C) && G'.builtin "BaseException.__getattribute__" == G'.builtin "object.__getattribute__")=K':=by rw[hx2];rfl
 have L1:=looks_findIn (M:=model prog w) X Z.ga;have L2:=looks_findIn (M:=model prog w) X Z.gt
 repeat (any_goals (first|assumption|(with_reducible refine wpAny_loadPart_at hx ?_;rw[hc])|with_reducible refine L1.at ?_|with_reducible refine L2.at ?_|wp_step))
 refine Ec X Z hx hc ?_
 repeat (any_goals (first|assumption|wp_step))
def DP {Q:Option G'->LK->Prop}(X:K.In h) (Z:XCls K C) (hx:h.get? x=f' ox) (hc:ox.cls=.ref C) (hq:Q (f' (.ref C)) ⟨h,g,d,t+1,os⟩) :
 LV (model prog w) A (getAttr? (.ref x) "__class__") Q E ⟨h,g,d,t,os⟩:=by
 unfold getAttr? getAttrBy?
 repeat (any_goals (first|assumption|with_reducible apply IG X Z hx hc|wp_step))
end
def kitx_exc {K:Frag}{x C:D'}(Z:XCls K C):KitX K (.ref x) (.ref C) (λh=>∃ o,h.get? x=f' o/\o.cls=.ref C) where
 ty:=λ_ _ _ uq14=>by(obtain⟨_,hx,hc⟩:=uq14;exact hc ▸ (Looks.ld hx).andThen .now)
 it:=λ_ _ X _=>by
  obtain⟨cd,hcd⟩:=isSome_iff_exists.mp Z.is;unfold clsIn at hcd;split at hcd
  . rename_i c' d' cd' sl' ho;intro A' Q' E' s' k q;unfold isType loadHead;exact j' (wpAny_loadPart (k _ _ (X _ _ ho)) (LL q))
  . cases hcd
 ne:=λh tp dd its n sl X htp=>by
  obtain⟨cd,hcd⟩:=isSome_iff_exists.mp Z.is;refine Bool.eq_false_iff.mpr λq=>?_
  have e:C=tp:=Ml.inj (beq_iff_eq.mp q);subst e;unfold clsIn at hcd;split at hcd
  . rename_i c' d' cd' sl' ho;have z:=(X _ _ ho).symm.trans htp;cases z
  . cases hcd
 ca:=λ{_ _ _ _ _ s} X ⟨_,hx,hc⟩ k=>by
  obtain⟨h,g,d,t,os⟩:=s;exact DP X Z hx hc k
end PySem.W
namespace L2
open PySem PySem.Spec PyProof.Rows
def sF:MO "ValueError"=f' (.type "ValueError"):=by decide +kernel
def zZ (x C:D'):HO:=.ext λh=>∃ o vs,h.get? x=f' o/\o.cls=.ref C/\o.data=.fields vs
section
variable {X:Cx}{Oj:List (D' × M6)}{σ:St}{H:Hp}{s:LK}
def FD {P:Mg}{w:LZ}{H':Hp}{h:Mi}{x C:D'}{o:M6}{vs:Array G'}(e:h.get? x=f' o) (c:o.cls=.ref C) (d:o.data=.fields vs):cQ P w H' h x (zZ x C) :=
 ⟨⟨o,vs,e,c,d⟩,⟨o,e⟩,λ_ _ uq15 k=>by(obtain⟨o',vs',e',z⟩:=uq15;exact ⟨o',vs',k _ e',z⟩)⟩
def Inv.excAt {x C:D'}(I:Inv X Oj σ H s) (e:H x=f' (zZ x C)):∃ o,s.heap.get? x=f' o/\o.cls=.ref C:=by
 obtain⟨⟨o,_,h1,h2,_⟩,_⟩:=(show cQ X.prog X.w H s.heap x (zZ x C) from I.hok x _ e)
 exact⟨o,h1,h2⟩
def Inv.seen {x:D'}{o:HO}(I:Inv X Oj σ H s) (a:Apt X Oj H x) (new:cQ X.prog X.w (upd H x o) s.heap x o):Inv X Oj σ (upd H x o) s:=by
 obtain⟨a1,a2,a3,a4,a5⟩:=a;have ne:∀ b u,H b=f' u->b≠x:=λb u e z=>by rw[z,a2]at e;cases e
 refine⟨I.ok,I.os,I.bare,⟨I.base.keep,I.base.slot,λb u e n hx=>?_,I.base.there,λb xs e=>?_,λb u v e=>?_,λb ps e=>?_⟩,I.loc,I.cell,?_,λy c e=>?_,λp hp=>?_,λb u e=>?_,I.len⟩
 . rw[ac (λz=>by rw[z,a1]at e;cases e)];exact I.base.free b u e n hx
 . have q:=I.base.tups b xs e;rw[ac (ne _ _ q)];exact q
 . have q:=I.base.frzs b u v e;rw[ac (ne _ _ q)];exact q
 . obtain⟨more,q⟩:=I.base.tbls b ps e;exact⟨more,by rw[ac (ne _ _ q)];exact q⟩
 . rw[ac (NA a3)];exact I.free
 . rw[ac (a4 y c e)];exact I.freeC y c e
 . obtain⟨e,n,r⟩:=I.pin p hp;exact⟨e,by rw[ac (a5 p hp)];exact n,r⟩
 . by_cases hb:b=x
   . subst hb;rw[a8]at e;cases e;exact new
   . rw[ac hb]at e;refine(I.hok b u e).stay (λ_ _ _ q=>q) (λc q=>?_) λc xs q=>?_
     . rw[ac (ne _ _ q)];exact q
     . rw[ac (ne _ _ q)];exact q
def mq {A:Mr}{E:G'->LK->Prop}{i:Nat}{x:Str}{pos:Pos}{Q:Unit->LK->Prop}(I:Inv X Oj σ H s) (hN:X.N.Nodup) (hi:X.N[i]?=f' x) (hk:X.env.kindOf x=f' .local)
 (h:∀ s',Inv X Oj (σ.set i LJ) H s'->Q () s'):LV (model X.prog X.w) A (do bindName X.env x .none;unbindBehindTheSuite X.env x pos) Q E s:=by
 obtain⟨m,hn,hl⟩:=id I.loc;have hcls:(X.env.scope.kind == .class || (X.env.scope.kind == .module && X.env.locals != X.env.globals))=K':=by rw[I.ok.kind];rfl
 have hiσ:i < σ.length:=by rw[I.len];exact(Mh.mp hi).1
 have cne:=I.cne;refine wpAny_nameGoes_keeps hk hn hcls λh' v hn' hs=>?_
 obtain⟨oL,_,_,hoL,_⟩:=id hn;refine h { s with heap:=h',toks:=s.toks+1 } ⟨I.ok,I.os,I.bare,⟨λb o e n hb hx=>?_,λb o e n hb hx=>?_,I.base.free,λb o e hx=>?_,I.base.tups,I.base.frzs,I.base.tbls⟩,⟨_,hn',λj y v' e1 e2 e3=>?_⟩,λy c e=>?_,I.free,I.freeC,λp hp=>?_,λb ob e=>?_,by simpa using I.len⟩
 . exact(hs.2 b (Mv (LR (Mb e) I.ok.above))).trans (I.base.keep b o e n hb hx)
 . obtain⟨sl,e1⟩:=I.base.slot b o e n hb hx;exact⟨sl,(hs.2 b (Mv (LR (Mb e) I.ok.above))).trans e1⟩
 . obtain⟨o',e1⟩:=I.base.there b o e hx;exact⟨o',(hs.2 b (Mv (LR (Mb e) I.ok.above))).trans e1⟩
 . by_cases hj:j=i
   . subst hj;rw[List.getElem?_set_self hiσ]at e2;cases e2
   . rw[List.getElem?_set_ne (NA hj)]at e2;obtain⟨u',r',q⟩:=hl j y v' e1 e2 e3;refine⟨u',r',?_⟩;rcases q with⟨k,e⟩|⟨k,c,e,z⟩
     . refine .inl ⟨k,?_⟩;have:y≠x:=λe=>hj (rP hN e1 (e ▸ hi))
       simp[this,e]
     . exact .inr ⟨k,c,e,z.sameBut hs (cne y c e)⟩
 . obtain⟨w',z⟩:=I.cell y c e;exact⟨w',z.sameBut hs (cne y c e)⟩
 . obtain⟨e,n,ne,nf,d⟩:=I.pin p hp;exact⟨(hs.2 p.1 ne).trans e,n,ne,nf,d⟩
 . refine(I.hok b ob e).stay (λc w' hc q=>(hs.2 c ?_).trans q) (λ_ q=>q) λ_ _ q=>q
   rintro rfl;rcases hc with rfl|hc
   . rw[I.free]at e;cases e
   . rw[I.free]at hc;cases hc
def Ends.gone (D:Ends) (i:Nat):Ends:=⟨λσ H=>D.nx (σ.set i LJ) H,D.rt,λσ H=>D.bk (σ.set i LJ) H,λσ H=>D.ct (σ.set i LJ) H⟩
def L6 (K:LN) (C:D') (i:Nat) (tb:TS) (tr:TH):TH:=λD σ cls H=>∃ b,Oi K cls (.ref C)=f' b/\if b=l' then ∃ c,cls=.ref c/\∀ ex,H ex=LJ->tb (D.gone i) (σ.set i (f' (.ref ex))) (upd H ex (zZ ex c)) else tr D σ cls H
def Jz {x n:Str}{i:Nat}{C:D'}{b₀:MJ}{suite:List MJ}{np pos:Pos}{cx:List ExceptHandler}{tb:TS}{tr:TH}(F:Framed X) (hN:X.N.Nodup) (hi:X.N[i]?=f' n) (hl:X.env.kindOf n=f' .local) (hL:Loc X.env.scope n) (hg:Gl X x) (hm:X.mg x=f' (.ref C))
 (hb:∀ e,PSs (X.inH e) (b₀ :: suite) tb) (hr:PH X cx tr) (hdb:(x == ("__debug__":Str))=K':=by decide) (hf:X.fn n=l'\/X.env.scope.names.lookup n=f' .local:=by first|exact .inl rfl|exact .inr rfl|assumption) :
 PH X (.ExceptHandler (f' (.Name x np)) (f' n) (b₀ :: suite) pos :: cx) (L6 X.K C i tb tr):=by
 intro Oj s σ H D ex T cls I t aE aT h;obtain⟨b,hx,h⟩:=h;refine wpAny_handleBy_cons (codeAny_handlers_test (eT (X:=X.inH (.ref ex)) I.inH hg hm ?_ hdb)) (by intro q;cases q);refine(exm_one (M:=model X.prog X.w) I.kIn t.ty hx).at ?_;cases b with
|false=>exact hr Oj s σ H D ex T cls I t aE aT h
|true =>
  obtain⟨c,rfl,h⟩:=h;refine codeAny_handlers_suite_as (JQ F.ex I t aE aT λs' T' I' t' aT'=>?_);obtain⟨oe,vs,oT,ts,a0,h1,⟨h2,_⟩,h3,_⟩:=t';have I1:=I'.seen (o:=zZ ex c) aE (FD h1 h2 h3);refine sL I1 hN hi hL (v:=.ref ex) rfl (λs2 I2=>?_) hf;refine N8 (hb (.ref ex) Oj s2 _ _ (D.gone i) I2.inH (h ex aE.2.1)) (λf s3 q=>?_) λ_ _ z=>Nf z
  have q':=q.outH I.ok;cases f with
 |next=>obtain⟨σ',H',I3,q⟩:=q';exact mq I3 hN hi hl λs4 I4=>⟨_,_,I4,q⟩
 |brk=>obtain⟨σ',H',I3,q⟩:=q';exact mq I3 hN hi hl λs4 I4=>⟨_,_,I4,q⟩
 |cont=>obtain⟨σ',H',I3,q⟩:=q';exact mq I3 hN hi hl λs4 I4=>⟨_,_,I4,q⟩
 |ret u=>obtain⟨v,σ',H',I3,r,q⟩:=q';exact mq I3 hN hi hl λs4 I4=>⟨_,_,_,I4,r,q⟩
def uG:kZ X (.builtin "isinstance") (λxs H Q=>∃ x c C b,xs=[.ref x,c]/\H x=f' (zZ x C)/\PySem.W.XCls X.K C/\vI c=l'/\Og X.K (.ref C) (Hf c)=f' b/\Q (.bl b) H):=by
 intro Oj s σ H xs us Q I r h;obtain⟨x,c,C,b,rfl,hx,Z,hc,e,q⟩:=h;obtain⟨u,w',rfl,ru,rw⟩:=Az r;cases (show u=Ml x from ru);obtain⟨o,h1,h2⟩:=I.excAt hx;have ew:w'=Hf c:=by
  cases c with
 |ty c=>exact rw
 |ref a=>exact rw
 |_=>cases hc
 rw[ew];exact kia_one (PySem.W.kitx_exc Z) I.kIn ⟨o,h1,h2⟩ e (λz=>nomatch z) λtk=>⟨.bl b,H,I.tok _,rfl,q⟩
def rT:kZ X (.builtin "isinstance") (λxs H Q=>∃ x tp vs C b,xs=[.ref x,.ref tp]/\H tp=f' (.tup vs)/\vs.all vI=l'/\H x=f' (zZ x C)/\PySem.W.XCls X.K C/\kitAny X.K (.ref C) (vs.map Hf)=f' b/\Q (.bl b) H):=by
 intro Oj s σ H xs us Q I r h;obtain⟨x,tp,vs,C,b,rfl,htp,hall,hx,Z,e,q⟩:=h;obtain⟨u,w',rfl,ru,rw⟩:=Az r;cases rw;cases (show u=Ml x from ru);obtain⟨ox,h1,h2⟩:=I.excAt hx;obtain⟨_,its,rv,o,g1,g2,n,g3⟩:=(show cQ X.prog X.w H s.heap tp (.tup vs) from I.hok tp _ htp)
 rw[<-yh rv hall]at e;obtain⟨c1,d1,dt1,sl1⟩:=o;simp only at g2 g3;subst g2 g3;exact kia_tup (PySem.W.kitx_exc Z) I.kIn ⟨ox,h1,h2⟩ g1 e (λz=>nomatch z) λtk=>⟨.bl b,H,I.tok _,rfl,q⟩
end
end L2
namespace PySem
open Sem (wp)
def SqI (b:Bool) (h:Mi) (i l:D') (k:Nat):Prop:=match b with
|false=>h.IsListIter i l k
|true=>h.IsTupleIter i l k
def SqA (b:Bool) (h:Mi) (l:D') (xs:Array G'):Prop:=match b with
|false=>h.IsList l xs
|true=>h.IsTuple l xs
def SqI.at {b:Bool}{h h':Mi}{i l:D'}{k:Nat}(x:SqI b h i l k) (e:∀ o,h.get? i=f' o->h'.get? i=f' o):SqI b h' i l k:=by
 cases b<;>(obtain⟨o,h1,r⟩:=x;exact⟨o,e o h1,r⟩)
def SqA.at {b:Bool}{h h':Mi}{l:D'}{xs:Array G'}(x:SqA b h l xs) (e:∀ o,h.get? l=f' o->h'.get? l=f' o):SqA b h' l xs:=by
 cases b<;>(obtain⟨o,h1,r⟩:=x;exact⟨o,e o h1,r⟩)
def SqI.obj {b:Bool}{h:Mi}{i l:D'}{k:Nat}(x:SqI b h i l k):∃ o,h.get? i=f' o/\∀ v,o.data≠.cell v:=by
 cases b<;>(obtain⟨o,h1,_,h3⟩:=x;exact⟨o,h1,λv z=>by rw[h3]at z;cases z⟩)
def SqA.lt {b:Bool}{h:Mi}{l:D'}{xs:Array G'}(x:SqA b h l xs):l < h.objs.size:=by
 cases b<;>(obtain⟨o,h1,_⟩:=x;exact Mb h1)
section
variable {prog:Mg}{w:LZ}{A:Mr}{E:G'->LK->Prop}{s:LK}
def Ah {b:Bool}{it l:D'}{i:Nat}{items:Array G'}{x:G'}{Q:G'->LK->Prop}(hit:SqI b s.heap it l i) (hl:SqA b s.heap l items) (hx:items[i]?=f' x)
 (hQ:∀ h',SqI b h' it l (i+1)->MV it s.heap h'->Q x { s with heap:=h' }):LV (model prog w) A (M7 (.ref it)) Q E s:=by
 cases b with
|false=>exact wpAny_nextOf_list_item hit hl hx hQ
|true =>
  have hty:s.TypeIs (.ref it) "tuple_iterator":=Mi.IsTupleIter.typeIs hit;obtain⟨o,ho,hc,hd⟩:=id hit;obtain⟨ol,hol,_,nl,hdl⟩:=hl;unfold M7;refine j' (MH (name:=Na "__next__") hty F.slot_tuple_iterator_next (MB F.slot_tuple_iterator_next hty F.entry_tuple_iterator_next ?_ (F.args_tuple_iterator_next_1 _)));show LV _ _ (field (.ref it) 0 >>= _) _ _ s;refine j' (M0 ho hd (x:=.ref l) rfl ?_);show LV _ _ (if (Ml l == MK)=l' then _ else _) _ _ s;rw[SG (show ¬ ((Ml l == MK)=l') from Me)];show LV _ _ (field (.ref it) 1 >>= _) _ _ s;refine j' (M0 ho hd (x:=.int i 0) rfl ?_);show LV _ _ (seqItems? (.ref l) >>= _) _ _ s;refine j' (NX hol hdl ?_);simp only[toNat_natCast,hx];refine j' (NF ho hd (by simp) (LL ⟨x,rfl,LL (hQ _ ?_ (ML ..))⟩));exact⟨_,M3 _ ho (M6.isFreed_of_fields (M6.data_mapFields hd _)),(M6.cls_mapFields ..).trans hc,by rw[M6.data_mapFields hd];simp[NJ]⟩
def wE {b:Bool}{it l:D'}{i:Nat}{items:Array G'}{Q:G'->LK->Prop}(hh:A.handled=LJ) (hit:SqI b s.heap it l i) (hl:SqA b s.heap l items) (hx:items[i]?=LJ)
 (hE:∀ h' e,Mi.ExtBut it s.heap h'->(∃ o,h'.get? e=f' o/\o.cls=.type "StopIteration")->E (.ref e) { s with heap:=h' }):LV (model prog w) A (M7 (.ref it)) Q E s:=by
 cases b with
|false=>exact wpAny_nextOf_list_end hh hit hl hx hE
|true =>
  have hty:s.TypeIs (.ref it) "tuple_iterator":=Mi.IsTupleIter.typeIs hit;obtain⟨o,ho,hc,hd⟩:=id hit;obtain⟨ol,hol,_,nl,hdl⟩:=hl;unfold M7;refine j' (MH (name:=Na "__next__") hty F.slot_tuple_iterator_next (MB F.slot_tuple_iterator_next hty F.entry_tuple_iterator_next ?_ (F.args_tuple_iterator_next_1 _)));show LV _ _ (field (.ref it) 0 >>= _) _ _ s;refine j' (M0 ho hd (x:=.ref l) rfl ?_);show LV _ _ (if (Ml l == MK)=l' then _ else _) _ _ s;rw[SG (show ¬ ((Ml l == MK)=l') from Me)];show LV _ _ (field (.ref it) 1 >>= _) _ _ s;refine j' (M0 ho hd (x:=.int i 0) rfl ?_);show LV _ _ (seqItems? (.ref l) >>= _) _ _ s;refine j' (NX hol hdl ?_);simp only[toNat_natCast,hx];refine j' (Nq (j' (NF ho hd (by simp) ?_)));show LV _ _ (newExc (.type "StopIteration") [] >>= _) _ _ _;refine j' ?_;simp only[newExc,newTuple];refine j' (MR ?_ (by size_fits));refine j' (m:=firstArgMember _ _) (wpAny_of_eq (a:=MK) (by first|rfl|(simp only[firstArgMember];rfl)) ?_);refine MR ?_ (by size_fits);simp only[raiseNew];refine j' (wpAny_handled ?_)
  first|rw[show A.in1.handled=LJ from hh]|rw[hh]
  refine j' (LL (wpAny_throw ?_));exact hE _ _ (((ML ..).extBut.push _).push _) ⟨_,LW _ rfl,rfl⟩
def wF {b b2:Bool}{z TI TO i1 i2 l1 l2:D'}{k1 k2:Nat}{xs ys:Array G'}{x y a c:G'}{Q:Option G'->LK->Prop}(D:ZipApart z TI TO i1 i2 l1 l2)
 (hz:IsZip s.heap z TI TO .none) (hTI:IsPair s.heap TI (.ref i1) (.ref i2)) (hTO:IsPair s.heap TO a c)
 (h1:SqI b s.heap i1 l1 k1) (h2:SqI b2 s.heap i2 l2 k2) (hl1:SqA b s.heap l1 xs) (hl2:SqA b2 s.heap l2 ys) (hx:xs[k1]?=f' x) (hy:ys[k2]?=f' y)
 (hQ:∀ h',IsZip h' z TI TO (NJ s.heap.objs.size)->IsPair h' TO x y->SqI b h' i1 l1 (k1+1)->SqI b2 h' i2 l2 (k2+1)->IsPair h' s.heap.objs.size x y ->
  (∀ c o,c≠z->c≠TO->c≠i1->c≠i2->s.heap.get? c=f' o->h'.get? c=f' o)->Q (f' (.ref s.heap.objs.size)) { s with heap:=h' }):LV (model prog w) A (pyNext (.ref z)) Q E s:=by
 have hT:s.TypeIs (.ref z) "zip":=⟨_,hz,rfl⟩
 unfold pyNext;refine j' (wpAny_attempt (MH (name:=Na "__next__") hT F.slot_zip_next (MB F.slot_zip_next hT F.entry_zip_next ?_ (F.args_zip_next_1 _))));show LV _ _ (field (.ref z) 2 >>= _) _ _ _;refine j' (M0 hz rfl (x:=.bool K') rfl ?_);show LV _ _ (field (.ref z) 3 >>= _) _ _ _;refine j' (M0 hz rfl (x:=.ref TI) rfl (j' (NX hTI rfl ?_)));show LV _ _ (Nu (.ref z) >>= _) _ _ _;refine j' ?_;unfold Nu;refine j' (M0 hz rfl (x:=.none) rfl (LL ?_));simp only[if_true];refine j' (Nq (j' (M0 hz rfl (x:=.ref TO) rfl (j' (wpAny_setField_rec hz (by simp) λg1 z1 e1=>?_)))))
 replace z1:IsZip g1 z TI TO .ellipsis:=z1
 refine j' ?_;simp only[List.zipIdx_cons,List.zipIdx_nil,forIn_cons,forIn_nil];refine j' (j' (wpAny_onRaise ?_));show LV _ _ (M7 (.ref i1) >>= _) _ _ _;refine j' (Ah (h1.at λo e=>e1.extBut _ _ D.i1z e) (hl1.at λo e=>e1.extBut _ _ D.l1z e) hx λg2 h1' e2=>LL ?_);have t2:IsPair g2 TO a c:=e2.extBut _ _ D.TOi1 (e1.extBut _ _ D.TOz hTO);refine j' (NX t2 rfl (j' (wpAny_updateSeq_pair t2 λg3 t3 e3=>?_)))
 replace t3:IsPair g3 TO x c:=t3
 refine j' (wpAny_letGo (LL ?_));refine j' (j' (wpAny_onRaise ?_));show LV _ _ (M7 (.ref i2) >>= _) _ _ _;refine j' (Ah (h2.at λo e=>e3.extBut _ _ D.TOi2.symm (e2.extBut _ _ D.i12.symm (e1.extBut _ _ D.i2z e))) (hl2.at λo e=>e3.extBut _ _ D.l2TO (e2.extBut _ _ D.l2i1 (e1.extBut _ _ D.l2z e))) hy λg4 h2' e4=>LL ?_);have t4:IsPair g4 TO x c:=e4.extBut _ _ D.TOi2 t3;refine j' (NX t4 rfl (j' (wpAny_updateSeq_pair t4 λg5 t5 e5=>?_)))
 replace t5:IsPair g5 TO x y:=t5
 refine j' (wpAny_letGo (LL (LL ?_)));refine j' (NX t5 rfl (j' (wpAny_newTuple ?_)));have hsz:g5.objs.size=s.heap.objs.size:=by rw[e5.1,e4.1,e3.1,e2.1,e1.1]
 have z5:IsZip g5 z TI TO .ellipsis:=e5.extBut _ _ D.TOz.symm (e4.extBut _ _ D.i2z.symm (e3.extBut _ _ D.TOz.symm (e2.extBut _ _ D.i1z.symm z1)));have k5:∀ c o,c≠z->c≠TO->c≠i1->c≠i2->s.heap.get? c=f' o->g5.get? c=f' o:=λc o c1 c2 c3 c4 e =>
  e5.extBut _ _ c2 (e4.extBut _ _ c4 (e3.extBut _ _ c2 (e2.extBut _ _ c3 (e1.extBut _ _ c1 e))))
 have w1:SqI b g5 i1 l1 (k1+1):=h1'.at λo e=>e5.extBut _ _ D.TOi1.symm (e4.extBut _ _ D.i12 (e3.extBut _ _ D.TOi1.symm e))
 have w2:SqI b2 g5 i2 l2 (k2+1):=h2'.at λo e=>e5.extBut _ _ D.TOi2.symm e
 have zlt:z < g5.objs.size:=Mb z5;show LV _ _ (Builtin.SmallTypes.ownedTupleHandOut (.ref z) (.ref g5.objs.size) >>= _) _ _ _;refine j' ?_;unfold Builtin.SmallTypes.ownedTupleHandOut;have z6:IsZip (g5.push { cls:=.type "tuple",data:=.seq #[x,y] }) z TI TO .ellipsis:=LH _ z5;refine j' (wpAny_setField_rec z6 (by simp) λg7 z7 e7=>?_)
 replace z7:IsZip g7 z TI TO (NJ g5.objs.size):=z7
 refine wpAny_setField_rec z7 (by simp) λg8 z8 e8=>?_
 replace z8:IsZip g8 z TI TO (NJ g5.objs.size):=z8
 have up:∀ c o,c≠z->g5.get? c=f' o->g8.get? c=f' o:=λc o c1 e=>e8.extBut _ _ c1 (e7.extBut _ _ c1 (LH _ e))
 have t8:IsPair g8 g5.objs.size x y:=e8.extBut _ _ (ne_of_gt zlt) (e7.extBut _ _ (ne_of_gt zlt) (LW _ rfl));rw[hsz]at z8 t8;refine LL ⟨_,rfl,LL ?_⟩;show Q (f' (.ref g5.objs.size)) _;rw[hsz];exact hQ g8 z8 (up _ _ D.TOz t5) (w1.at λo e=>up _ o D.i1z e) (w2.at λo e=>up _ o D.i2z e) t8 λc o c1 c2 c3 c4 e=>up c o c1 (k5 c o c1 c2 c3 c4 e)
def zb {b:Bool}{z TI TO i1 i2 l1 l2:D'}{k1:Nat}{xs:Array G'}{Q:Option G'->LK->Prop}(hh:A.handled=LJ) (D:ZipApart z TI TO i1 i2 l1 l2)
 (hz:IsZip s.heap z TI TO .none) (hTI:IsPair s.heap TI (.ref i1) (.ref i2)) (h1:SqI b s.heap i1 l1 k1) (hl1:SqA b s.heap l1 xs) (hx:xs[k1]?=LJ)
 (hQ:∀ h',(∀ c o,c≠z->c≠i1->s.heap.get? c=f' o->h'.get? c=f' o)->Q LJ { s with heap:=h' }):LV (model prog w) A (pyNext (.ref z)) Q E s:=by
 have hT:s.TypeIs (.ref z) "zip":=⟨_,hz,rfl⟩
 unfold pyNext;refine j' (wpAny_attempt (MH (name:=Na "__next__") hT F.slot_zip_next (MB F.slot_zip_next hT F.entry_zip_next ?_ (F.args_zip_next_1 _))));show LV _ _ (field (.ref z) 2 >>= _) _ _ _;refine j' (M0 hz rfl (x:=.bool K') rfl ?_);show LV _ _ (field (.ref z) 3 >>= _) _ _ _;refine j' (M0 hz rfl (x:=.ref TI) rfl (j' (NX hTI rfl ?_)));show LV _ _ (Nu (.ref z) >>= _) _ _ _;refine j' ?_;unfold Nu;refine j' (M0 hz rfl (x:=.none) rfl (LL ?_));simp only[if_true];refine j' (Nq (j' (M0 hz rfl (x:=.ref TO) rfl (j' (wpAny_setField_rec hz (by simp) λg1 z1 e1=>?_)))))
 replace z1:IsZip g1 z TI TO .ellipsis:=z1
 refine j' ?_;simp only[List.zipIdx_cons,List.zipIdx_nil,forIn_cons,forIn_nil];refine j' (j' (wpAny_onRaise ?_));show LV _ _ (M7 (.ref i1) >>= _) _ _ _;refine j' (wE hh (h1.at λo e=>e1.extBut _ _ D.i1z e) (hl1.at λo e=>e1.extBut _ _ D.l1z e) hx λg2 e e2 he=>?_);obtain⟨oe,hoe,hce⟩:=he;have z2:IsZip g2 z TI TO .ellipsis:=e2 _ _ D.i1z.symm z1;have hez:e≠z:=λq=>by subst q;rw[z2]at hoe;cases hoe;simp at hce
 refine wpAny_setField_rec z2 (by simp) λg3 _ e3=>?_
 refine j' (wpAny_isInstance (T:="StopIteration") (b:=l') ⟨oe,e3.extBut _ _ hez hoe,hce⟩ isSubtype_stop ?_);exact LL (hQ g3 λc o c1 c2 q=>e3.extBut _ _ c1 (e2 _ _ c2 (e1.extBut _ _ c1 q)))
abbrev CG (h:Mi) (l1:D'):Mi:=h.push { cls:=.type "tuple_iterator",data:=.fields #[.ref l1,.int 0 0] }
abbrev En (h:Mi) (l1 l2:D'):Mi:=(CG h l1).push { cls:=.type "tuple_iterator",data:=.fields #[.ref l2,.int 0 0] }
abbrev Dp (h:Mi) (l1 l2:D'):Mi:=(En h l1 l2).push { cls:=.type "tuple",data:=.seq #[.ref h.objs.size,.ref (CG h l1).objs.size] }
abbrev Cw (h:Mi) (l1 l2:D'):Mi:=(Dp h l1 l2).push { cls:=.type "tuple",data:=.seq #[.none,.none] }
abbrev yX (h:Mi) (l1 l2:D'):Mi:=(Cw h l1 l2).push { cls:=.type "zip",data:=.fields #[.none,.bool K',.bool K',.ref (En h l1 l2).objs.size,.ref (Dp h l1 l2).objs.size] }
def zq (l1 l2:D') (xs ys:Array G') :
 Meets (Builtin.«zip.__new__» ⟨[.type "zip",.ref l1,.ref l2],[]⟩) (λ_ R s=>s.heap.IsTuple l1 xs/\s.heap.IsTuple l2 ys/\R (.ok (.ret (.ref (Cw s.heap l1 l2).objs.size))) { s with heap:=yX s.heap l1 l2 }) :=
 .of_wp λprog w A R s h=>by
  obtain⟨hp,g,d,tk,os⟩:=s;obtain⟨hl1,hl2,h⟩:=h;have hsub:=sub_zip;have hL1:Mi.IsTuple (LK.heap ⟨hp,g,d,tk,os⟩) l1 xs:=hl1;have hL2:Mi.IsTuple (LK.heap ⟨hp.push { cls:=.type "tuple_iterator",data:=.fields #[.ref l1,.int 0 0] },g,d,tk,os⟩) l2 ys:=Mi.IsTuple.push hl2 _
  wp_walk using wpAny_pyIter_tuple hL1,wpAny_pyIter_tuple hL2
  exact⟨_,rfl,h⟩
def wx {b:Bool}{l1 l2:D'}{xs ys:Array G'}{Q:G'->LK->Prop}(hl1:SqA b s.heap l1 xs) (hl2:SqA b s.heap l2 ys)
 (h:∀ h',IsZip h' (s.heap.objs.size+4) (s.heap.objs.size+2) (s.heap.objs.size+3) .none->IsPair h' (s.heap.objs.size+2) (.ref s.heap.objs.size) (.ref (s.heap.objs.size+1)) ->
  IsPair h' (s.heap.objs.size+3) .none .none->SqI b h' s.heap.objs.size l1 0->SqI b h' (s.heap.objs.size+1) l2 0->(∀ c o,s.heap.get? c=f' o->h'.get? c=f' o)->Q (.ref (s.heap.objs.size+4)) { s with heap:=h' }) :
 LV (model prog w) A (call (.type "zip") [.ref l1,.ref l2]) Q E s:=by
 cases b with
|false=>exact call_zip_2 hl1 hl2 λh' a1 a2 a3 a4 a5 _ a7=>h h' a1 a2 a3 a4 a5 a7
|true =>
  refine callType_new F.called_zip (by decide) (F.typeCall_zip_2 _ _) (F.newCall_zip_2 _ _) (λobj=>F.args_object_init_3 obj _ _) F.entry_zip_new (zq l1 l2 xs ys) ⟨hl1,hl2,?_⟩;have z1:(CG s.heap l1).objs.size=s.heap.objs.size+1:=MM ..;have z2:(En s.heap l1 l2).objs.size=s.heap.objs.size+2:=by rw[MM,z1]
  have z3:(Dp s.heap l1 l2).objs.size=s.heap.objs.size+3:=by rw[MM,z2]
  have z4:(Cw s.heap l1 l2).objs.size=s.heap.objs.size+4:=by rw[MM,z3]
  have g5:(yX s.heap l1 l2).get? (Cw s.heap l1 l2).objs.size=f' _:=LW _ rfl;have g4:(yX s.heap l1 l2).get? (Dp s.heap l1 l2).objs.size=f' _:=LH _ (LW _ rfl);have g3:(yX s.heap l1 l2).get? (En s.heap l1 l2).objs.size=f' _:=LH _ (LH _ (LW _ rfl));have g2:(yX s.heap l1 l2).get? (CG s.heap l1).objs.size=f' _:=LH _ (LH _ (LH _ (LW _ rfl)));have g1:(yX s.heap l1 l2).get? s.heap.objs.size=f' _:=LH _ (LH _ (LH _ (LH _ (LW _ rfl))));show _/\_;rw[z2,z3,z4]at g5;rw[z1,z2]at g3;rw[z3]at g4;rw[z1]at g2;rw[z4];exact⟨⟨_,g5,rfl⟩,h _ g5 g3 g4 ⟨_,g1,rfl,rfl⟩ ⟨_,g2,rfl,rfl⟩ λc o x=>LH _ (LH _ (LH _ (LH _ (LH _ x))))⟩
end
end PySem
namespace L2
open PySem PySem.Spec PyProof.Rows
def Sq (b:Bool) (K:LN) (H:Hp) (a:D') (xs:List V):Prop:=match b with
|false=>SqL K H a xs
|true=>SqT K H a xs
section
variable {X:Cx}
def Inv.sq {Oj:List (D' × M6)}{σ:St}{H:Hp}{s:LK}{b:Bool}{a:D'}{xs:List V}(I:Inv X Oj σ H s) (h:Sq b X.K H a xs):∃ its:List G',bV xs its/\SqA b s.heap a its.toArray:=by
 cases b with
|false=>obtain⟨its,r,p,_⟩:=I.list h;exact⟨its,r,p.isList⟩
|true=>obtain⟨its,r,p,_⟩:=I.tuple h;exact⟨its,r,p⟩
def Inv.sq_inj {Oj:List (D' × M6)}{σ:St}{H:Hp}{s:LK}{b:Bool}{a:D'}{xs ys:List V}(I:Inv X Oj σ H s) (h:Sq b X.K H a xs) (h':Sq b X.K H a ys):xs=ys:=by
 cases b
 . exact I.list_inj h h'
 . exact I.tuple_inj h h'
def Inv.turnedL {Oj:List (D' × M6)}{σ:St}{H:Hp}{s:LK}{h':Mi}{t':Nat}{ch:List D'}(I:Inv X Oj σ H s) (hf:∀ b∈ch,tU X Oj H b) (k:∀ b o,b ∉ ch->s.heap.get? b=f' o->h'.get? b=f' o):Inv X Oj σ H { s with heap:=h',toks:=t' }:=by
 refine I.step (g':=s.gens) (d':=s.drawn) (ch:=ch) (λb hb=>?_) (λb o _ _ n e _=>k b o n e) (λb o _ _ n e _=>⟨o.slots,k b o n e⟩) (λ_ _ _ _ n=>n) (λb o n e=>⟨o,k b o n e⟩) (λ_ _ q=>q) (λ_ _ _ q=>q) (λ_ ps q=>⟨#[],by rw[Array.append_empty];exact q⟩) (λm hm=>?_) (λa o e=>?_) I.bare
 . obtain⟨_,f1,_,f3,f4,f5⟩:=hf b hb;exact⟨f3,f1,f4,f5⟩
 . obtain⟨o,es,ep,ho,r⟩:=hm;exact⟨o,es,ep,k _ o (λz=>(hf _ z).2.1 rfl) ho,r⟩
 . refine(I.hok a o e).stay (λb u hb q=>k b u (λz=>?_) q) (λ_ q=>q) λ_ _ q=>q
   have n:=(hf b z).1;rcases hb with rfl|hb
   . rw[n]at e;cases e
   . rw[n]at hb;cases hb
def Inv.aptSz {Oj:List (D' × M6)}{σ:St}{H:Hp}{s:LK}{b:D'}(I:Inv X Oj σ H s) (hb:s.heap.objs.size <= b) (hn:H b=LJ):Apt X Oj H b:=by
 obtain⟨_,f1,_,_,f4,f5⟩:=I.fpOk hb hn;refine⟨?_,hn,f1,f4,f5⟩;cases q:X.s₀.heap.get? b with
|none=>rfl
|some o=>exact absurd (LR (Mb q) (MG I.sz hb)) (NM _)
def Izm (b b2:Bool) (K:LN) (a1 a2:D'):It :=
 ⟨λi H=>∃ xs ys x y,Sq b K H a1 xs/\Sq b2 K H a2 ys/\xs[i]?=f' x/\ys[i]?=f' y,
  λi H v H'=>∃ T x y,H T=LJ/\v=.ref T/\H'=upd H T (.tup [x,y])/\(∀ xs,Sq b K H a1 xs->xs[i]?=f' x)/\∀ ys,Sq b2 K H a2 ys->ys[i]?=f' y,
  λi H=>∃ xs,Sq b K H a1 xs/\xs.length <= i⟩
abbrev Itz (b:Bool) (K:LN) (a1 a2:D'):It:=Izm b b K a1 a2
def xB {P:Mg}{w:LZ}{K:LN}{elts:List Expr}{kt:Nat}{pt:Pos}{b b2:Bool}{z TI TO i1 i2 a1 a2:D'}(D:ZipApart z TI TO i1 i2 a1 a2) :
 Turn P w K (.Tuple elts kt pt) (Izm b b2 K a1 a2) [z,TI,TO,i1,i2] z (λi h=>IsZip h z TI TO .none/\IsPair h TI (.ref i1) (.ref i2)/\(∃ a c,IsPair h TO a c)/\SqI b h i1 a1 i/\SqI b2 h i2 a2 i) where
 mem:=LY
 obj:=λi h st c hc=>by
  obtain⟨s1,s2,⟨_,_,s3⟩,s4,s5⟩:=st;simp only[Mf,MZ,or_false]at hc;rcases hc with rfl|rfl|rfl|rfl|rfl
  . exact⟨_,s1,λv q=>by cases q⟩
  . exact⟨_,s2,λv q=>by cases q⟩
  . exact⟨_,s3,λv q=>by cases q⟩
  . exact s4.obj
  . exact s5.obj
 keep:=λi h h' st k=>by
  obtain⟨s1,s2,⟨u,v,s3⟩,s4,s5⟩:=st;exact⟨k z (by simp) _ s1,k TI (by simp) _ s2,⟨u,v,k TO (by simp) _ s3⟩,s4.at λo e=>k i1 (by simp) o e,s5.at λo e=>k i2 (by simp) o e⟩
 item:=by
  intro X hP hw hK hc i Oj s σ H E I hf st hg;subst hP hw hK;obtain⟨s1,s2,⟨u,v,s3⟩,s4,s5⟩:=st;obtain⟨xs,ys,x,y,q1,q2,hx,hy⟩:=hg;obtain⟨us,r1,p1⟩:=I.sq q1;obtain⟨ws,r2,p2⟩:=I.sq q2;obtain⟨ux,hux,rx⟩:=r1.get hx;obtain⟨uy,huy,ry⟩:=r2.get hy;refine wF D s1 s2 s3 s4 s5 p1 p2 (x:=ux) (y:=uy) (by simpa using hux) (by simpa using huy) λh' t1 t2 t3 t4 t5 kk=>?_
  have hfresh:H s.heap.objs.size=LJ:=I.hok.fresh (LS _);have lt:∀ {c o},s.heap.get? c=f' o->c≠s.heap.objs.size:=λe=>Mv (Mb e)
  refine⟨_,rfl,wpAny_letOwnedTupleGo_zip t1 λh'' u1 e2=>?_⟩;have ch:∀ c o,c ∉ [z,TO,i1,i2]->s.heap.get? c=f' o->h''.get? c=f' o:=λc o n e=>by
   have n1:c≠z:=λq=>n (by simp[q])
   exact e2.extBut _ _ n1 (kk c o n1 (λq=>n (by simp[q])) (λq=>n (by simp[q])) (λq=>n (by simp[q])) e)
  have sub:∀ c∈[z,TO,i1,i2],c∈[z,TI,TO,i1,i2]:=λc hc=>by
   simp only[Mf,MZ,or_false]at hc |-;rcases hc with h|h|h|h<;>simp[h]
  have I1:Inv X Oj σ H { s with heap:=h'' }:=I.turnedL (t':=s.toks) (λb hb=>hf b (sub b hb)) ch;have T5:IsPair h'' s.heap.objs.size ux uy:=e2.extBut _ _ (lt s1).symm t5;have apt:=I.aptSz (LS s.heap.objs.size) hfresh;have I2:=I1.seen (o:=.tup [x,y]) apt ⟨by show 2 <= LP;decide,[ux,uy],.cons rx (.cons ry .nil),⟨_,T5,rfl,_,rfl⟩⟩;refine⟨.ref s.heap.objs.size,_,I2,rfl,⟨_,x,y,hfresh,rfl,rfl,λzs hz=>by rw[I.sq_inj hz q1];exact hx,λzs hz=>by rw[I.sq_inj hz q2];exact hy⟩,⟨u1,e2.extBut _ _ D.TIz (kk _ _ D.TIz D.TITO D.TIi1 D.TIi2 s2),⟨_,_,e2.extBut _ _ D.TOz t2⟩,t3.at λo e=>e2.extBut _ _ D.i1z e,t4.at λo e=>e2.extBut _ _ D.i2z e⟩,λb hb=>?_⟩;obtain⟨o,ho,_⟩:∃ o,s.heap.get? b=f' o/\True:=by
   simp only[Mf,MZ,or_false]at hb;rcases hb with rfl|rfl|rfl|rfl|rfl
   . exact⟨_,s1,trivial⟩
   . exact⟨_,s2,trivial⟩
   . exact⟨_,s3,trivial⟩
   . obtain⟨o,e,_⟩:=s4.obj;exact⟨o,e,trivial⟩
   . obtain⟨o,e,_⟩:=s5.obj;exact⟨o,e,trivial⟩
  rw[ac (lt ho)];exact(hf b hb).1
 done:=by
  intro X hP hw hK hc i Oj s σ H E I hf st hg;subst hP hw hK;obtain⟨s1,s2,_,s4,s5⟩:=st;obtain⟨xs,q1,hx⟩:=hg;obtain⟨us,r1,p1⟩:=I.sq q1;have hl:=r1.length;exact zb (I.ok.hd hc) D s1 s2 s4 p1 (by simp;omega) λh' kk=>⟨rfl,I.turnedL (t':=s.toks) (ch:=[z,i1]) (λb hb=>hf b (by
   simp only[Mf,MZ,or_false]at hb |-;rcases hb with q|q<;>simp[q])) λb o n e=>kk b o (λq=>n (by simp[q])) (λq=>n (by simp[q])) e⟩
 self:=λA i s Q E st hQ=>wpAny_pyIter_zip st.1 hQ
def K8 (K:LN) (ta:TA):TI:=λσ H R=>ta σ H λvs H1=>∃ b a1 a2 xs ys,vs=[.ref a1,.ref a2]/\Sq b K H1 a1 xs/\Sq b K H1 a2 ys/\R (Itz b K a1 a2) H1
def wW:MO "zip"=f' (.type "zip"):=by decide +kernel
def vj {n l1 l2:Nat}(h1:l1 < n) (h2:l2 < n):ZipApart (n+4) (n+2) (n+3) n (n+1) l1 l2:=by
 constructor<;>(show (_:Nat)≠_;omega)
def HK {a c:Expr}{ta:TA}{p pos pt:Pos}{elts:List Expr}{kt:Nat}(hg:Gl X "zip") (hm:X.mg "zip"=LJ) (ha:PA X [a,c] ta) (hs:Mu [a,c] X.env=[(K',eval a X.env),(K',eval c X.env)]:=by rfl) (hs2:Mu [c] X.env=[(K',eval c X.env)]:=by rfl) :
 PI X (.Tuple elts kt pt) (.Call (.Name "zip" p) [a,c] [] pos) (K8 X.K ta):=by
 intro Oj s σ H R I h;refine Call_ (nL I hg hm wW (Nb (thn (ha pos Oj s σ H _ I h) λus s1 ur52=>?_) (by rw[hs,hs2]) (by rw[hs2];rfl)));obtain⟨vs,H1,I1,r1,q1⟩:=ur52;obtain⟨b,a1,a2,xs,ys,e,h1,h2,q⟩:=q1;subst e;obtain⟨u,w',rfl,ru,rw⟩:=Az r1;cases ru;cases rw;obtain⟨us,_,p1⟩:=I1.sq h1;obtain⟨ws,_,p2⟩:=I1.sq h2;refine wx p1 p2 λh' z1 z2 z3 z4 z5 kk=>wpAny_pyIter_zip z1 ?_
 have fr:∀ b,s1.heap.objs.size <= b->tU X Oj H1 b:=λb hb=>I1.fpOk hb (I1.hok.fresh hb)
 refine⟨_,[s1.heap.objs.size+4,s1.heap.objs.size+2,s1.heap.objs.size+3,s1.heap.objs.size,s1.heap.objs.size+1],_,_,H1,rfl,I1.kept (t':=s1.toks) kk,xB (vj p1.lt p2.lt),⟨z1,z2,⟨_,_,z3⟩,z4,z5⟩,λb hb=>fr b ?_,q⟩;simp only[Mf,MZ,or_false]at hb;rcases hb with rfl|rfl|rfl|rfl|rfl<;>omega
end
section
variable {X:Cx}
def vi:MO "sorted"=f' (.builtin "sorted"):=by decide +kernel
end
section
variable {X:Cx}
end
def wO {prog:Mg}{w:LZ}{A:Mr}{E:G'->LK->Prop}{s:LK}{Q:Int->LK->Prop}(h:Q 4238894112 { s with toks:=s.toks+1 }):LV (model prog w) A (pyHash .none) Q E s:=by
 have hT:s.TypeIs MK "NoneType":=rfl;unfold pyHash;have hv:[MK].any G'.onHeap=K':=rfl;refine j' ?_;rw[cRoomFor,SG (by rw[hv];exact Me)];refine LL ?_;refine j' (wpAny_specialOf hT PySem.F.slot_NoneType_hash.lookup ?_);show LV _ _ (if (f' (G'.builtin "NoneType.__hash__") == f' MK)=l' then _ else _) Q E s;rw[SG (by rw[beq_builtin_none];exact Me)];refine j' (wpAny_specialOf hT PySem.F.slot_NoneType_hash.lookup ?_);show LV _ _ (callSpecialIfBoundUnlessNone? MK "__hash__" _ >>= _) Q E s;refine j' (wpAny_callSpecialIfBoundUnlessNone?_slot hT PySem.F.slot_NoneType_hash
  (MB PySem.F.slot_NoneType_hash hT PySem.F.entry_NoneType_hash
   (show LV _ _ (do ret (<-mkInt 4238894112)) _ _ s from wpAny_ret_mkInt ?_) (PySem.F.args_NoneType_hash_1 _)))
 show LV _ _ (if (decide (-(2:Int) ^ 63 <= 4238894112) && decide ((4238894112:Int) < 2 ^ 63))=l' then _ else _) Q E _;rw[SF (by decide)];exact LL h
def Ic:Option Key->G'->Bool
|none,.none=>l'
|none,_=>K'
|some k,v=>qa k v
def eP {v:G'}(h:Ic LJ v=l'):v=.none:=by
 cases v<;>first|rfl|cases h
def wP (prog:Mg) (w:LZ):PySem.KeyKind prog w (Option Key) where
 is:=Ic
 hash:=λk=>match k with
 |none=>4238894112
 |some k=>KW w k
 inj:=λv a b ha hb=>by
  cases a with
 |none =>
   cases eP ha;cases b with
  |none=>rfl
  |some k=>rcases bc (show qa k MK=l' from hb) with⟨i,t,_,e⟩|⟨x,t,_,e⟩<;>cases e
 |some k =>
   cases b with
  |none =>
    cases eP hb;rcases bc (show qa k MK=l' from ha) with⟨i,t,_,e⟩|⟨x,t,_,e⟩<;>cases e
  |some k'=>rw[(bA prog w).inj v k k' ha hb]
 byValue:=λk v h=>by
  cases k with
 |none=>cases eP h;rfl
 |some k=>exact(bA prog w).byValue k v h
 pyHash:=λ{A E s k v Q} hv h=>by
  cases k with
 |none=>cases eP hv;exact wO h
 |some k=>exact(bA prog w).pyHash (k:=k) hv h
 eqBool:=λ{A E s a b u v Q} hu hv h=>by
  cases a with
 |none =>
   cases eP hu;cases b with
  |none=>cases eP hv;exact MN.same MK _ _ _ _ h
  |some k =>
    rcases bc (show qa k v=l' from hv) with⟨i,t,rfl,rfl⟩|⟨x,t,rfl,rfl⟩
    . exact MN.none_int i t _ _ _ _ h
    . exact MN.none_str x t _ _ _ _ h
 |some k =>
   cases b with
  |none =>
    cases eP hv;rcases bc (show qa k u=l' from hu) with⟨i,t,rfl,rfl⟩|⟨x,t,rfl,rfl⟩
    . exact MN.int_none i t _ _ _ _ h
    . exact MN.str_none x t _ _ _ _ h
  |some k' =>
    refine(bA prog w).eqBool (a:=k) (b:=k') hu hv ?_;have e:decide (f' k=f' k')=decide (k=k'):=by
     rw[decide_eq_decide];exact⟨λz=>Ms z,λz=>by rw[z]⟩
    rw[<-e];exact h
 «strs»:=λk x t v h=>by
  cases k with
 |none=>cases h
 |some k=>exact(bA prog w).strs k x t v h
theorem ub {P:Mg}{w:LZ}:∀ {es:List MA}{vs:List (Key × G')},Pairs (bA P w) es vs->Pairs (wP P w) es (vs.map λq=>(f' q.1,q.2))
|_,_,.nil=>.nil
|_,_,.cons a b t=>.cons a b (ub t)
def D7 {P:Mg}{w:LZ}{h:Mi}{a:D'}{vs:List (Key × G')}(d:h.DictOf (bA P w) a vs):h.DictOf (wP P w) a (vs.map λq=>(f' q.1,q.2)):=by
 obtain⟨o,es,ep,h1,h2,h3,h4,h5,h6⟩:=d;refine⟨o,es,ep,h1,h2,h3,λe he=>?_,ub h5,?_⟩
 . obtain⟨k,a,b⟩:=h4 e he;exact⟨f' k,a,b⟩
 . rw[map_map];have:((λq:Option Key × G'=>q.1) ∘ λq:Key × G'=>(f' q.1,q.2))=f' ∘ (λq:Key × G'=>q.1):=rfl;rw[this,<-map_map];exact Pairwise.map _ (λa b n z=>n (Ms z)) h6
theorem F6:∀ (vs:List (Key × G')),valueAt (vs.map λq=>(f' q.1,q.2)) (LJ:Option Key)=LJ
|[]=>rfl
|q :: vs=>by
  have:=F6 vs;unfold valueAt at this |-;rw[Nn,NI];have e:decide (((f' q.1,q.2):Option Key × G').1=LJ)=K':=rfl;rw[e];exact this
def Gq (td ty tx:TE):TE:=λσ H Q=>td σ H λx H1=>∃ a,x=.ref a/\IsD H1 a/\ty σ H1 λy H2=>tx σ H2 λz H3=>∃ kvs,H3 a=f' (.dK kvs) /\
 ((∃ k,y=kV k/\(∀ v,pq kvs k=f' v->Q v (upd H3 a (.dK (mX kvs k))))/\(pq kvs k=LJ->Q z H3))\/(y=.non/\Q z H3))
def BO {X:Cx}{o e f:Expr}{apos cpos:Pos}{td ty tx:TE}(ho:PE X o td) (he:PE X e ty) (hf:PE X f tx) (m:M2 X o "pop" apos e f cpos):PE X (.Call (.Attribute o "pop" apos) [e,f] [] cpos) (Gq td ty tx):=by
 intro Oj s σ H Q I h;refine wpAny_Call_method m.base m.few m.line NP NZ PySem.F.type_dict_pop (thn (ho Oj s σ H _ I h) λu s1 ur53=>?_);obtain⟨x,H1,I1,rx,a,ex,d,q1⟩:=ur53;subst ex;obtain rfl:u=Ml a:=rx;obtain⟨t1,t2,_⟩:=ED I1 d;refine⟨t1,t2,?_⟩;rw[m.trees];refine ND rfl (Nw (Nh (thn (he Oj s1 σ H1 _ I1 q1) λiv s2 ⟨y,H2,I2,ry,q2⟩ =>
  Nh (thn (hf Oj s2 σ H2 _ I2 q2) λfv s3 ⟨z,H3,I3,rz,kvs,ea,q3⟩=>N4 ?_))))
 rcases q3 with⟨k,ey,q3,q4⟩|⟨ey,q4⟩
 . subst ey;cases l:pq kvs k with
  |some v=>exact IV I3 ea ry l (.inr ⟨fv,rfl⟩) λw' s4 I4 rw'=>⟨v,_,I4,rw',q3 v l⟩
  |none=>exact Iw I3 ea ry l λs4 I4=>⟨z,H3,I4,rz,q4 l⟩
 . subst ey;cases ry;obtain⟨zz,hd,vs,rel,dd⟩:=Dj I3.hok ea;exact call_meetsIn NZ dd.typeIs PySem.F.entry_dict_pop (PySem.F.args_dict_pop_3 _ _ _) (meets_dict_pop_default (wP X.prog X.w) a (k:=LJ) (key:=MK) rfl hd rfl fv) ⟨_,D7 dd,F6 vs,⟨z,H3,I3.tok _,rz,q4⟩⟩
def Aj {x hd rl:D'}{l:Bool->D'}{c:D'}(hc:c=x\/c=hd\/c=rl\/∃ b,c=l b):Sto.own x hd rl l c:=by
 rcases hc with h|h|h|⟨b',h⟩
 . exact .inl h
 . exact .inr (.inl h)
 . exact .inr (.inr (.inl h))
 . cases b'
   . exact .inr (.inr (.inr (.inl h)))
   . exact .inr (.inr (.inr (.inr h)))
def G3 {x hd rl:D'}{l:Bool->D'}(b:Bool):Sto.own x hd rl l (l b):=Aj (.inr (.inr (.inr ⟨b,rfl⟩)))
def IS {x hd rl:D'}{l:Bool->D'}:Sto.own x hd rl l hd:=.inr (.inl rfl)
def Sto.kp {w:LZ}{C:D'}{H H':Hp}{x hd rl:D'}{l:Bool->D'}{M:List (LO × V)}{r:Bool->List (LO × V)}{xs:List D'}(S:Sto w C H x hd rl l M r) (k:Kp xs H H') (h:∀ c∈xs,¬ Sto.own x hd rl l c) (ht:∀ c∈xs,∀ vs,H c≠f' (.tup vs)):Sto w C H' x hd rl l M r :=
 S.keep (λc o hc e=>k c o (λz=>h c z (Aj hc)) e) λc vs e=>k c _ (λz=>ht c z vs e) e
def Kp.one {H:Hp}{c:D'}{o:HO}:Kp [c] H (upd H c o):=λb u n e=>by rw[ac λz=>n (LM.mpr z)];exact e
def fld {K:LN}{H:Hp}{a C dx:D'}{fs:List (Str × V)}{v:V}{f:Str}{Q:V->Prop}(hx:H a=f' (.ins C dx fs)) (c:Cls K C) (na:aP K C f) (l:fs.lookup f=f' v) (q:Q v) :
 ∃ a' C' dx' fs' v',V.ref a=.ref a'/\H a'=f' (.ins C' dx' fs')/\Cls K C'/\aP K C' f/\fs'.lookup f=f' v'/\Q v':=⟨a,C,dx,fs,v,rfl,hx,c,na,l,q⟩
structure RP where
 s:Int
 R:Int
 e:Bool
structure RP.Ok (p:RP):Prop where
 s0:0 < p.s
 s8:p.s <= 8
 sR:0 < p.s * p.R
structure SA where
 x:D'
 hd:D'
 rl:D'
 l:Bool->D'
abbrev SA.At (w:LZ) (C:D') (H:Hp) (z:SA) (M:List (LO × V)) (r:Bool->List (LO × V)):Prop:=Sto w C H z.x z.hd z.rl z.l M r
def SA.own (z:SA) (c:D'):Prop:=Sto.own z.x z.hd z.rl z.l c
def rF (st:D') (b:Bool) (w0 w1 w2:Str) (p:RP):List (Str × V) :=
 bj "counter_first" (.bl p.e) (bj "rounds" (.int p.R) (bj "size" (.int p.s) (bj "fetched" (.str w2) (bj "laid" (.str w1) (bj "word" (.str w0) (bj "side" (.int (sdI b)) (bj "shelf" (.ref st) [])))))))
section
variable {st:D'}{b:Bool}{w0 w1 w2:Str}{p:RP}
def gQ:(rF st b w0 w1 w2 p).lookup ("shelf":Str)=f' (.ref st):=by unfold rF;repeat (first|rw[a9,SF rfl]|rw[a9,SG (by decide +kernel)]);try rfl
def jT:(rF st b w0 w1 w2 p).lookup ("side":Str)=f' (.int (sdI b)):=by unfold rF;repeat (first|rw[a9,SF rfl]|rw[a9,SG (by decide +kernel)]);try rfl
def GU:(rF st b w0 w1 w2 p).lookup ("word":Str)=f' (.str w0):=by unfold rF;repeat (first|rw[a9,SF rfl]|rw[a9,SG (by decide +kernel)]);try rfl
def tf:(rF st b w0 w1 w2 p).lookup ("laid":Str)=f' (.str w1):=by unfold rF;repeat (first|rw[a9,SF rfl]|rw[a9,SG (by decide +kernel)]);try rfl
def mU:(rF st b w0 w1 w2 p).lookup ("fetched":Str)=f' (.str w2):=by unfold rF;repeat (first|rw[a9,SF rfl]|rw[a9,SG (by decide +kernel)]);try rfl
def sP:(rF st b w0 w1 w2 p).lookup ("size":Str)=f' (.int p.s):=by unfold rF;repeat (first|rw[a9,SF rfl]|rw[a9,SG (by decide +kernel)]);try rfl
def vF:(rF st b w0 w1 w2 p).lookup ("rounds":Str)=f' (.int p.R):=by unfold rF;repeat (first|rw[a9,SF rfl]|rw[a9,SG (by decide +kernel)]);try rfl
def tK:(rF st b w0 w1 w2 p).lookup ("counter_first":Str)=f' (.bl p.e):=by unfold rF;repeat (first|rw[a9,SF rfl]|rw[a9,SG (by decide +kernel)]);try rfl
def mK:(rF st b w0 w1 w2 p).lookup ("filled":Str)=LJ:=by unfold rF;repeat (first|rw[a9,SF rfl]|rw[a9,SG (by decide +kernel)]);try rfl
def Aq:(rF st b w0 w1 w2 p).lookup ("is_full":Str)=LJ:=by unfold rF;repeat (first|rw[a9,SF rfl]|rw[a9,SG (by decide +kernel)]);try rfl
def sS:(rF st b w0 w1 w2 p).lookup ("place_at":Str)=LJ:=by unfold rF;repeat (first|rw[a9,SF rfl]|rw[a9,SG (by decide +kernel)]);try rfl
def mP:(rF st b w0 w1 w2 p).lookup ("write_further":Str)=LJ:=by unfold rF;repeat (first|rw[a9,SF rfl]|rw[a9,SG (by decide +kernel)]);try rfl
def Ff:(rF st b w0 w1 w2 p).lookup ("lay":Str)=LJ:=by unfold rF;repeat (first|rw[a9,SF rfl]|rw[a9,SG (by decide +kernel)]);try rfl
def yr:(rF st b w0 w1 w2 p).lookup ("fetch":Str)=LJ:=by unfold rF;repeat (first|rw[a9,SF rfl]|rw[a9,SG (by decide +kernel)]);try rfl
end
def Rn (CR:D') (H:Hp) (q st:D') (b:Bool) (w0 w1 w2:Str) (p:RP):Prop:=∃ dx,H q=f' (.ins CR dx (rF st b w0 w1 w2 p))
def gK (ns:List Int):List (Key × V):=ns.map λi=>(.inl i,.bl l')
theorem jS (i:Int):∀ ns:List Int,pq (gK ns) (.inl i)=if ns.contains i then f' (.bl l') else LJ
|[]=>rfl
|n :: ns=>by
  by_cases h:n=i
  . subst h;show pq ((Nz n,V.bl l') :: gK ns) _=_;rw[oC rfl,contains_cons];simp
  . show pq ((Nz n,V.bl l') :: gK ns) _=_;rw[oa (λz=>h (Nz.inj z)),jS i ns,contains_cons];have:(i == n)=K':=by simpa using λz=>h z.symm
    rw[this];rfl
def xz (i:Int) (ns:List Int) (h:ns.contains i=K'):vx (gK ns) (.inl i) (.bl l')=gK (ns++[i]):=by
 unfold vx;rw[o8,jS,h];simp[gK]
def Gj (i:Int) (ns:List Int) (h:ns.contains i=l'):vx (gK ns) (.inl i) (.bl l')=gK ns:=by
 unfold vx;rw[o8,jS,h];simp only[if_true,isSome_some];unfold gK;rw[map_map];refine List.map_congr_left λx _=>?_
 show (if Nz x=Nz i then _ else _)=_;split<;>rfl
theorem pZ (i:Int):∀ ns:List Int,mX (gK ns) (.inl i)=gK (ns.filter (λn=>decide (n≠i)))
|[]=>rfl
|n :: ns=>by
  have ih:=pZ i ns;unfold mX gK at ih |-;rw[Nn,Oa,Oa,ih];have e:decide (((Nz n,V.bl l'):Key × V).1≠Nz i)=decide (n≠i):=by
   by_cases h:n=i
   . subst h;simp
   . have:(Nz n:Key)≠Nz i:=λz=>h (Nz.inj z)
     simp[h,this]
  rw[e];split<;>rfl
def yg (ns:List Int):(gK ns).length=ns.length:=by unfold gK;rw[Md]
def wI (ns:List Int) (i:Int):List Int:=if ns.contains i then ns else ns++[i]
def GR (i:Int) (ns:List Int):vx (gK ns) (.inl i) (.bl l')=gK (wI ns i):=by
 unfold wI;cases h:ns.contains i with
|true=>rw[Gj i ns h];rfl
|false=>rw[xz i ns h];rfl
structure HA where
 h:D'
 ra:D'
 rb:D'
 gd:D'
def hF (z:HA) (n:Int):List (Str × V):=bj "going" (.ref z.gd) (bj "names" (.int n) (bj "answers" (.ref z.rb) (bj "asks" (.ref z.ra) [])))
section
variable {z:HA}{n:Int}
def AQ:(hF z n).lookup ("asks":Str)=f' (.ref z.ra):=by unfold hF;repeat (first|rw[a9,SF rfl]|rw[a9,SG (by decide +kernel)]);try rfl
def rL:(hF z n).lookup ("answers":Str)=f' (.ref z.rb):=by unfold hF;repeat (first|rw[a9,SF rfl]|rw[a9,SG (by decide +kernel)]);try rfl
def Dt:(hF z n).lookup ("names":Str)=f' (.int n):=by unfold hF;repeat (first|rw[a9,SF rfl]|rw[a9,SG (by decide +kernel)]);try rfl
def oo:(hF z n).lookup ("going":Str)=f' (.ref z.gd):=by unfold hF;repeat (first|rw[a9,SF rfl]|rw[a9,SG (by decide +kernel)]);try rfl
def wS:(hF z n).lookup ("least_free":Str)=LJ:=by unfold hF;repeat (first|rw[a9,SF rfl]|rw[a9,SG (by decide +kernel)]);try rfl
def xb:(hF z n).lookup ("check_ask":Str)=LJ:=by unfold hF;repeat (first|rw[a9,SF rfl]|rw[a9,SG (by decide +kernel)]);try rfl
def HX:(hF z n).lookup ("ask":Str)=LJ:=by unfold hF;repeat (first|rw[a9,SF rfl]|rw[a9,SG (by decide +kernel)]);try rfl
def yY:(hF z n).lookup ("collect":Str)=LJ:=by unfold hF;repeat (first|rw[a9,SF rfl]|rw[a9,SG (by decide +kernel)]);try rfl
def Cs:(hF z n).lookup ("something_waits":Str)=LJ:=by unfold hF;repeat (first|rw[a9,SF rfl]|rw[a9,SG (by decide +kernel)]);try rfl
end
structure Hn (CH CR:D') (H:Hp) (z:HA) (st:D') (p:RP) (n:Int) (aw:List Int):Prop where
 ob:∃ dx,H z.h=f' (.ins CH dx (hF z n))
 ra:Rn CR H z.ra st K' "ask" "asked" "taken" p
 rb:Rn CR H z.rb st K' "answer" "answered" "handed" p
 go:H z.gd=f' (.dK (gK aw))
def HA.own (z:HA) (c:D'):Prop:=c=z.h\/c=z.ra\/c=z.rb\/c=z.gd
structure TA' where
 h:D'
 ra:D'
 rb:D'
 gd:D'
def tF (z:TA'):List (Str × V):=bj "doing" (.ref z.gd) (bj "answers" (.ref z.rb) (bj "asks" (.ref z.ra) []))
section
variable {z:TA'}
def Ax:(tF z).lookup ("asks":Str)=f' (.ref z.ra):=by unfold tF;repeat (first|rw[a9,SF rfl]|rw[a9,SG (by decide +kernel)]);try rfl
def rN:(tF z).lookup ("answers":Str)=f' (.ref z.rb):=by unfold tF;repeat (first|rw[a9,SF rfl]|rw[a9,SG (by decide +kernel)]);try rfl
def rZ:(tF z).lookup ("doing":Str)=f' (.ref z.gd):=by unfold tF;repeat (first|rw[a9,SF rfl]|rw[a9,SG (by decide +kernel)]);try rfl
def Fy:(tF z).lookup ("take":Str)=LJ:=by unfold tF;repeat (first|rw[a9,SF rfl]|rw[a9,SG (by decide +kernel)]);try rfl
def xR:(tF z).lookup ("check_answer":Str)=LJ:=by unfold tF;repeat (first|rw[a9,SF rfl]|rw[a9,SG (by decide +kernel)]);try rfl
def AN:(tF z).lookup ("answer":Str)=LJ:=by unfold tF;repeat (first|rw[a9,SF rfl]|rw[a9,SG (by decide +kernel)]);try rfl
def DX:(tF z).lookup ("something_waits":Str)=LJ:=by unfold tF;repeat (first|rw[a9,SF rfl]|rw[a9,SG (by decide +kernel)]);try rfl
end
structure Tn (CT CR:D') (H:Hp) (z:TA') (st:D') (p:RP) (ts:List Int):Prop where
 ob:∃ dx,H z.h=f' (.ins CT dx (tF z))
 ra:Rn CR H z.ra st l' "ask" "asked" "taken" p
 rb:Rn CR H z.rb st l' "answer" "answered" "handed" p
 go:H z.gd=f' (.dK (gK ts))
def TA'.own (z:TA') (c:D'):Prop:=c=z.h\/c=z.ra\/c=z.rb\/c=z.gd
section
variable {CH CT CR:D'}{H H':Hp}{st:D'}{p:RP}{n:Int}{aw:List Int}
def Rn.keep {q:D'}{b:Bool}{w0 w1 w2:Str}(r:Rn CR H q st b w0 w1 w2 p) (k:∀ o,H q=f' o->H' q=f' o):Rn CR H' q st b w0 w1 w2 p:=by
 obtain⟨dx,hx⟩:=r;exact⟨dx,k _ hx⟩
theorem Hn.keep {z:HA}(B:Hn CH CR H z st p n aw) (k:∀ c o,z.own c->H c=f' o->H' c=f' o):Hn CH CR H' z st p n aw:=by
 obtain⟨dx,hx⟩:=B.ob;exact⟨⟨dx,k _ _ (.inl rfl) hx⟩,B.ra.keep λo=>k _ o (.inr (.inl rfl)),B.rb.keep λo=>k _ o (.inr (.inr (.inl rfl))),k _ _ (.inr (.inr (.inr rfl))) B.go⟩
def Hn.same {z:HA}(B:Hn CH CR H z st p n aw) (q:aZ H H'):Hn CH CR H' z st p n aw:=B.keep λc o _=>q c o
def Hn.there {z:HA}(B:Hn CH CR H z st p n aw) {c:D'}(hc:z.own c):∃ o,H c=f' o/\((∃ C dx fs,o=.ins C dx fs)\/∃ kvs,o=.dK kvs):=by
 rcases hc with rfl|rfl|rfl|rfl
 . obtain⟨dx,hx⟩:=B.ob;exact⟨_,hx,.inl ⟨_,_,_,rfl⟩⟩
 . obtain⟨dx,hx⟩:=B.ra;exact⟨_,hx,.inl ⟨_,_,_,rfl⟩⟩
 . obtain⟨dx,hx⟩:=B.rb;exact⟨_,hx,.inl ⟨_,_,_,rfl⟩⟩
 . exact⟨_,B.go,.inr ⟨_,rfl⟩⟩
def Hn.lists {z:HA}{xs:List D'}(B:Hn CH CR H z st p n aw) (k:Kp xs H H') (hx:∀ c∈xs,(∃ ys,H c=f' (.lst ys))\/∃ ee:List MA × Nat,H c=f' (qf c ee.1 ee.2)):Hn CH CR H' z st p n aw :=
 B.keep λc o hc q=>k c o (λm=>by
  obtain⟨o',e,s⟩:=B.there hc;rcases hx c m with⟨ys,e'⟩|⟨ee,e'⟩
  . rw[e]at e';cases e';rcases s with⟨_,_,_,s⟩|⟨_,s⟩<;>cases s
  . rw[e]at e';cases e';rcases s with⟨_,_,_,s⟩|⟨_,s⟩<;>cases s) q
theorem Tn.keep {z:TA'}(B:Tn CT CR H z st p aw) (k:∀ c o,z.own c->H c=f' o->H' c=f' o):Tn CT CR H' z st p aw:=by
 obtain⟨dx,hx⟩:=B.ob;exact⟨⟨dx,k _ _ (.inl rfl) hx⟩,B.ra.keep λo=>k _ o (.inr (.inl rfl)),B.rb.keep λo=>k _ o (.inr (.inr (.inl rfl))),k _ _ (.inr (.inr (.inr rfl))) B.go⟩
def Tn.there {z:TA'}(B:Tn CT CR H z st p aw) {c:D'}(hc:z.own c):∃ o,H c=f' o/\((∃ C dx fs,o=.ins C dx fs)\/∃ kvs,o=.dK kvs):=by
 rcases hc with rfl|rfl|rfl|rfl
 . obtain⟨dx,hx⟩:=B.ob;exact⟨_,hx,.inl ⟨_,_,_,rfl⟩⟩
 . obtain⟨dx,hx⟩:=B.ra;exact⟨_,hx,.inl ⟨_,_,_,rfl⟩⟩
 . obtain⟨dx,hx⟩:=B.rb;exact⟨_,hx,.inl ⟨_,_,_,rfl⟩⟩
 . exact⟨_,B.go,.inr ⟨_,rfl⟩⟩
def Tn.lists {z:TA'}{xs:List D'}(B:Tn CT CR H z st p aw) (k:Kp xs H H') (hx:∀ c∈xs,(∃ ys,H c=f' (.lst ys))\/∃ ee:List MA × Nat,H c=f' (qf c ee.1 ee.2)):Tn CT CR H' z st p aw :=
 B.keep λc o hc q=>k c o (λm=>by
  obtain⟨o',e,s⟩:=B.there hc;rcases hx c m with⟨ys,e'⟩|⟨ee,e'⟩
  . rw[e]at e';cases e';rcases s with⟨_,_,_,s⟩|⟨_,s⟩<;>cases s
  . rw[e]at e';cases e';rcases s with⟨_,_,_,s⟩|⟨_,s⟩<;>cases s) q
end
def fE (n:Nat) (aw:List Int):Option Int:=(Ob n).map (λ(k:Nat)=>(k:Int)) |>.find? λk=>!aw.contains k
def zc {n i:Nat}{aw:List Int}(hi:i < n) (h:aw.contains (i:Int)=K') (hno:∀ j < i,aw.contains (j:Int)=l'):fE n aw=f' (i:Int):=by
 unfold fE;rw[List.find?_eq_some_iff_getElem];refine⟨by rw[h];rfl,i,by simpa using hi,by simp,λj hj=>?_⟩;simp only[List.getElem_map,List.getElem_range];rw[hno j hj];rfl
def yR {n:Nat}{aw:List Int}(hno:∀ j < n,aw.contains (j:Int)=l'):fE n aw=LJ:=by
 unfold fE;rw[find?_eq_none];intro x hx;obtain⟨j,hj,rfl⟩:=NK.mp hx;rw[hno j (mem_range.mp hj)];decide
def qT {n:Nat}{aw:List Int}{k:Int}(h:fE n aw=f' k):aw.contains k=K':=by
 unfold fE at h;have:=List.find?_some h;simpa using this
def oE {n:Nat}{aw:List Int}{k:Int}(h:fE n aw=f' k):0 <= k/\k < n:=by
 unfold fE at h;have:=List.mem_of_find?_eq_some h;obtain⟨j,hj,rfl⟩:=NK.mp this;have:=mem_range.mp hj;omega
theorem lS (i:Str):∀ ns:List Str,inV (.str i) (ns.map V.str)=ns.contains i
|[]=>rfl
|n :: ns=>by
  have ih:=lS i ns;unfold inV at ih |-;rw[Nn,any_cons,ih,contains_cons];congr 1;show eqV (.str n) (.str i)=(i == n)
  simp only[eqV];rw[Nk,beq_iff_eq,beq_iff_eq];exact eq_comm
theorem eG:∀ ns:List Str,(ns.map V.str).all rW=l'
|[]=>rfl
|n :: ns=>by rw[Nn,all_cons,eG ns];rfl
def qZ {α:Type}{r:Bool->α}{b:Bool}{u v:α}:setR (setR r b u) b v=setR r b v:=by
 funext c;unfold setR;split<;>rfl
def kS {H:Hp}{t:Str}(h:M8 t=l'):vK H (.str t) (.str t):=⟨h,by show 0 <= 8;decide,rfl,.inl ⟨_,rfl⟩⟩
def kT {H:Hp}{a:D'}{t:Str}{i:Int}(h:M8 t=l') (ha:H a=f' (.tup [.str t,.int i])):vK H (.tuple [.str t,.int i]) (.ref a):=⟨by
 show (M8 _ && (l' && l'))=l';rw[h];rfl,by show 1 <= 8;decide,⟨a,_,rfl,ha,⟨_,_,rfl,rfl,_,_,rfl,rfl,rfl⟩⟩,.inr ⟨_,rfl⟩⟩
def up1 {H:Hp}{a b:D'}{o:HO}(h:upd H a o b=LJ):b≠a/\H b=LJ:=by
 have n:b≠a:=λz=>by rw[z,a8]at h;cases h
 exact⟨n,by rw[ac n]at h;exact h⟩
def jL {H H':Hp}{c:D'}(e:aZ H H') (h:H' c=LJ):H c=LJ:=by
 cases z:H c with
|none=>rfl
|some o=>rw[e c o z]at h;cases h
def gL {H H':Hp}{xs:List D'}{c:D'}(e:Kp xs H H') (h:H' c=LJ) (n:∀ x∈xs,H' x≠LJ):H c=LJ:=by
 cases z:H c with
|none=>rfl
|some o=>rw[e c o (λm=>n c m h) z]at h;cases h
def oQ (p:RP) (w0 w1:Str) (A:Int) (t:V):List (LO × V) :=
 if p.e then [(.str w1,.int ((A+1) % (p.s * p.R))),(.tuple [.str w0,.int (A % p.s)],t)] else [(.tuple [.str w0,.int (A % p.s)],t),(.str w1,.int ((A+1) % (p.s * p.R)))]
def Sto.noT {w:LZ}{C:D'}{H:Hp}{x hd rl:D'}{l:Bool->D'}{M:List (LO × V)}{r:Bool->List (LO × V)}(S:Sto w C H x hd rl l M r) {b:Bool}{c:D'}{vs:List V}(h:H c=f' (.tup vs)):c ∉ [l b]:=λz=>by
 obtain⟨ts,e,_⟩:=S.rw b;rw[LM.mp z,e]at h;cases h
def Sto.noI {w:LZ}{C:D'}{H:Hp}{x hd rl:D'}{l:Bool->D'}{M:List (LO × V)}{r:Bool->List (LO × V)}(S:Sto w C H x hd rl l M r) {b:Bool}{c C' dx:D'}{fs:List (Str × V)}(h:H c=f' (.ins C' dx fs)):c ∉ [l b]:=λz=>by
 obtain⟨ts,e,_⟩:=S.rw b;rw[LM.mp z,e]at h;cases h
def Sto.noD {w:LZ}{C:D'}{H:Hp}{x hd rl:D'}{l:Bool->D'}{M:List (LO × V)}{r:Bool->List (LO × V)}(S:Sto w C H x hd rl l M r) {c:D'}{kvs:List (Key × V)}(h:H c=f' (.dK kvs)):¬ Sto.own x hd rl l c:=λz=>by
 rcases z with rfl|rfl|rfl|rfl|rfl
 . obtain⟨dx,e⟩:=S.ob;rw[e]at h;cases h
 . obtain⟨es,e⟩:=S.me.there;rw[e]at h;cases h
 . rw[S.ro]at h;cases h
 . obtain⟨ts,e,_⟩:=S.rw K';rw[e]at h;cases h
 . obtain⟨ts,e,_⟩:=S.rw l';rw[e]at h;cases h
def Ar {X:Cx}:gF (CXv X.prog X.w) X E0:=λ_ _ _ _ _ _ _ h=>by
 obtain⟨_,_,_,_,_,_,_,_,_,_,_,_,_,_,q⟩:=h;exact q.elim
def gm {K:LN}{H:Hp}{a C:D'}{fs:List (Str × V)}{v:V}{f:Str}{Q:V->Prop}(hx:∃ dx,H a=f' (.ins C dx fs)) (c:Cls K C) (na:aP K C f) (l:fs.lookup f=f' v) (q:Q v) :
 ∃ a' C' dx' fs' v',V.ref a=.ref a'/\H a'=f' (.ins C' dx' fs')/\Cls K C'/\aP K C' f/\fs'.lookup f=f' v'/\Q v':=let ⟨dx,hx⟩:=hx;⟨a,C,dx,fs,v,rfl,hx,c,na,l,q⟩
def fc {H:Hp}{a C:D'}{fs:List (Str × V)}{m:Str}{q:Prop}(hx:∃ dx,H a=f' (.ins C dx fs)) (l:fs.lookup m=LJ) (h:q) :
 ∃ a' dx' fs',V.ref a=.ref a'/\H a'=f' (.ins C dx' fs')/\fs'.lookup m=LJ/\q:=let ⟨dx,hx⟩:=hx;⟨a,dx,fs,rfl,hx,l,h⟩
section
variable {w:LZ}{CH CR CS:D'}{H H':Hp}{z:HA}{sa:SA}{p:RP}{n:Int}{aw:List Int}{M:List (LO × V)}{r:Bool->List (LO × V)}
end
section
variable {w:LZ}{CT CR CS:D'}{H H':Hp}{z:TA'}{sa:SA}{p:RP}{aw:List Int}{M:List (LO × V)}{r:Bool->List (LO × V)}
end
def RD (H:Hp) (p:LO × V) (d:LO):Prop:=∃ x,d=.tuple [p.1,x]/\DV H x p.2
theorem xI {H:Hp}:∀ {es:List (LO × V)}{ts:List V}{ds:List LO},Mn (Wt H) es ts->Mn (RD H) es ds->DVs H ds ts
|_,_,_,.nil,.nil=>rfl
|_,_,_,.cons ⟨t,cv,e,ht,hk⟩ r,.cons ⟨x,e',dx⟩ r'=>by
  subst e e';exact⟨_,_,rfl,⟨t,_,rfl,ht,_,_,rfl,hk.2.2.1,_,_,rfl,dx,rfl⟩,xI r r'⟩
theorem rJ:∀ {ds:List LO},(∀ d∈ds,MX.kd d=l'/\d.depth <= 9)->Nr ds=l'/\N0 ds <= 9
|[],_=>⟨rfl,Ny _⟩
|d :: ds,h=>by
  obtain⟨a,b⟩:=rJ λu hu=>h u (Ma _ hu)
  have hd:=h d LY;refine⟨?_,?_⟩
  . show (LO.canLay0 d && Nr ds)=l';rw[MX.kd_lay _ hd.1,a];rfl
  . show max d.depth (N0 ds) <= 9;have:=hd.2;omega
def mf {H H':Hp}{h dh:D'}{C:D'}(nh:H h=LJ) (ndh:H dh=LJ) (kp:Kp [h] (upd (upd H dh (.own h)) h (.ins C dh [])) H'):aZ H H':=λc o e=>by
 have y1:=ae e ndh;have y2:=ae e nh;exact kp c o (λz=>y2 (LM.mp z)) (by rw[ac y2,ac y1];exact e)
def DI {x:V}:[x].length <= LP:=by show 1 <= LP;decide
def Gn:([]:List V).length <= LP:=by show 0 <= LP;decide
def Ck {K:LN}:Og K (.type "tuple") (.type "tuple")=f' l':=by rfl
def IL {K:LN}:Og K (.type "int") (.type "tuple")=f' K':=by rfl
inductive Cn where
|asked|taken|answered|handed|hs|ts
instance:DecidableEq Cn:=λa b=>by
 cases a<;>cases b<;>first|exact isTrue rfl|exact isFalse (λh=>by cases h)
def Cn.key:Cn->Str
|.asked=>"asked"
|.taken=>"taken"
|.answered=>"answered"
|.handed=>"handed"
|.hs=>"hand sleeps"
|.ts=>"heart sleeps"
def vM:Bool->Str
|false=>"ask"
|true=>"answer"
def pk (g:Bool) (i:Int):LO:=.tuple [.str (vM g),.int i]
inductive Wr where
|c (k:Cn) (i:Int)
|p (g:Bool) (i nm wt:Int)
def Wr.key:Wr->LO
|.c k _=>.str k.key
|.p g i _ _=>pk g i
def Wr.dat:Wr->LO
|.c _ i=>.int i
|.p _ _ nm wt=>.tuple [.int nm,.int wt]
def Wr.Ok:Wr->Prop
|.c _ _=>True
|.p _ i nm _=>(0 <= i/\i < 8)/\0 <= nm/\nm < 9
def Wr.cnt (k:Cn):Wr->Option Int
|.c k' i=>if k'=k then f' i else LJ
|.p _ _ _ _=>LJ
def Wr.plc (g:Bool) (i:Int):Wr->Option (Int × Int)
|.c _ _=>LJ
|.p g' i' nm wt=>if g'=g/\i'=i then f' (nm,wt) else LJ
structure Mem where
 c:Cn->Int
 p:Bool->Int->Option (Int × Int)
def Mem.zero:Mem:=⟨λ_=>0,λ_ _=>LJ⟩
def Mem.put (m:Mem) (x:Wr):Mem:=⟨λk=>(x.cnt k).getD (m.c k),λg i=>(x.plc g i).or (m.p g i)⟩
def rdC (m:Mem) (row:List Wr) (k:Cn):Int:=(row.reverse.findSome? (Wr.cnt k)).getD (m.c k)
def rdP (m:Mem) (row:List Wr) (g:Bool) (i:Int):Option (Int × Int):=(row.reverse.findSome? (Wr.plc g i)).or (m.p g i)
def zB (k:Cn):M8 k.key=l':=by cases k<;>decide +kernel
def JC (g:Bool):M8 (vM g)=l':=by cases g<;>decide +kernel
def Iz {k k':Cn}(h:k.key=k'.key):k=k':=by
 cases k<;>cases k'<;>first|rfl|exact absurd h (by decide +kernel)
def IF {g g':Bool}(h:vM g=vM g'):g=g':=by
 cases g<;>cases g'<;>first|rfl|exact absurd h (by decide +kernel)
def wb (g:Bool) (i:Int):MX.kd (pk g i)=l':=by
 show (M8 (vM g) && (l' && l'))=l';rw[JC];rfl
def wQ (k:Cn):MX.kd (.str k.key)=l':=zB k
def Wr.key_kd (x:Wr):MX.kd x.key=l':=by
 cases x with
|c k i=>exact wQ k
|p g i nm wt=>exact wb g i
def Wr.dat_kd (x:Wr):MX.kd x.dat=l':=by cases x<;>rfl
def HM {g g':Bool}{i i':Int}(h:pk g i=pk g' i'):g=g'/\i=i':=by
 injection h with h
 injection h with h1 h2
 injection h1 with h1
 injection h2 with h2 _
 injection h2 with h2
 exact⟨IF h1,h2⟩
def tQ {x:Wr}{d:LO}(hd:MX.kd d=l'):Mc x.key d=l' ↔ x.key=d:=MX.eqv_iff _ _ x.key_kd hd
def Wr.cnt_some {x:Wr}{k:Cn}{i:Int}(h:x.cnt k=f' i):x=.c k i:=by
 cases x with
|c k' j =>
  unfold Wr.cnt at h;dsimp only at h;split at h
  . rename_i e;cases e;cases h;rfl
  . cases h
|p=>cases h
def Wr.plc_some {x:Wr}{g:Bool}{i nm wt:Int}(h:x.plc g i=f' (nm,wt)):x=.p g i nm wt:=by
 cases x with
|c=>cases h
|p g' j a b =>
  unfold Wr.plc at h;dsimp only at h;split at h
  . rename_i e;obtain⟨e1,e2⟩:=e;cases e1;cases e2;cases h;rfl
  . cases h
def Wr.cnt_none {x:Wr}{k:Cn}(h:x.cnt k=LJ):x.key≠.str k.key:=by
 intro e;cases x with
|c k' j =>
  have:=Iz (Mo.inj e);unfold Wr.cnt at h;dsimp only at h;rw[SF this]at h;cases h
|p=>cases e
def Wr.plc_none {x:Wr}{g:Bool}{i:Int}(h:x.plc g i=LJ):x.key≠pk g i:=by
 intro e;cases x with
|c=>cases e
|p g' j a b =>
  have:=HM e;unfold Wr.plc at h;dsimp only at h;rw[SF this]at h;cases h
def WrR (H:Hp) (x:Wr) (q:LO × V):Prop:=x.Ok/\q.1=x.key/\DV H x.dat q.2
theorem WrR.keep {H H':Hp}{x:Wr}{q:LO × V}(h:WrR H x q) (ht:∀ b vs,H b=f' (.tup vs)->H' b=f' (.tup vs)):WrR H' x q:=⟨h.1,h.2.1,DV.keep ht _ _ x.dat_kd h.2.2⟩
def lJ:List LO:=[.str (Cn.key .asked),.str (Cn.key .taken),.str (Cn.key .answered),.str (Cn.key .handed),.str (Cn.key .hs),.str (Cn.key .ts),
 pk K' 0,pk K' 1,pk K' 2,pk K' 3,pk K' 4,pk K' 5,pk K' 6,pk K' 7,pk l' 0,pk l' 1,pk l' 2,pk l' 3,pk l' 4,pk l' 5,pk l' 6,pk l' 7]
def Wr.key_all {x:Wr}(h:x.Ok):x.key∈lJ:=by
 cases x with
|c k i=>cases k<;>first|exact MF (i:=0) rfl|exact MF (i:=1) rfl|exact MF (i:=2) rfl|exact MF (i:=3) rfl|exact MF (i:=4) rfl|exact MF (i:=5) rfl
|p g i a b =>
  obtain⟨m,rfl⟩:=Int.eq_ofNat_of_zero_le h.1.1;have h':m < 8:=Int.ofNat_lt.mp h.1.2;have e:∀ m:Nat,m < 8->lJ[6+m]?=f' (pk K' m)/\lJ[14+m]?=f' (pk l' m):=by intro m hm;match m,hm with|0,_|1,_|2,_|3,_|4,_|5,_|6,_|7,_=>exact⟨rfl,rfl⟩
  cases g
  . exact MF (e m h').1
  . exact MF (e m h').2
theorem m4 {α:Type} [DecidableEq α]:∀ {l ks:List α},l.Nodup->(∀ a∈l,a∈ks)->l.length <= ks.length
|[],_,_,_=>Ny _
|a :: l,ks,h,hs=>by
  have ha:=hs a LY;have hn:=NW.mp h;have:=m4 (l:=l) (ks:=ks.erase a) hn.2 λb hb=>(List.mem_erase_of_ne (λe=>hn.1 (by rw[<-e];exact hb))).mpr (hs b (Ma _ hb))
  rw[List.length_erase_of_mem ha]at this;have h0:0 < ks.length:=List.length_pos_of_mem ha;rw[Mw];omega
structure MemR (H:Hp) (M:List (LO × V)) (m:Mem):Prop where
 c:∀ k:Cn,(fZ M (.str k.key)).getD (.int 0)=.int (m.c k)
 p:∀ g i,(m.p g i=LJ/\fZ M (pk g i)=LJ)\/∃ nm wt v,m.p g i=f' (nm,wt)/\fZ M (pk g i)=f' v/\DV H (.tuple [.int nm,.int wt]) v
 ks:∀ q∈M,q.1∈lJ
 ok:∀ g i nm wt,m.p g i=f' (nm,wt)->0 <= nm/\nm < 9
def za:∀ d∈lJ,MX.kd d=l':=by
 intro d hd;simp only[lJ,Mf,MZ,or_false]at hd;rcases hd with rfl|rfl|rfl|rfl|rfl|rfl|rfl|rfl|rfl|rfl|rfl|rfl|rfl|rfl|rfl|rfl|rfl|rfl|rfl|rfl|rfl|rfl<;>first|exact wQ _|exact wb _ _
def MemR.kk {H:Hp}{M:List (LO × V)}{m:Mem}(h:MemR H M m):KK M:=λq hq=>za _ (h.ks q hq)
theorem MemR.zero {H:Hp}:MemR H [] Mem.zero:=⟨λ_=>rfl,λ_ _=>.inl ⟨rfl,rfl⟩,λ_ h=>(by cases h),λ_ _ _ _ h=>(by cases h)⟩
theorem MemR.keep {H H':Hp}{M:List (LO × V)}{m:Mem}(h:MemR H M m) (ht:∀ b vs,H b=f' (.tup vs)->H' b=f' (.tup vs)):MemR H' M m :=
 ⟨h.c,λg i=>(h.p g i).imp id λuq16=>by(obtain⟨nm,wt,v,a,b,c⟩:=uq16;exact ⟨nm,wt,v,a,b,DV.keep ht _ _ rfl c⟩),h.ks,h.ok⟩
def I8 {M:List (LO × V)}{k:LO}{v:V}{K:List LO}(h:∀ q∈M,q.1∈K) (hk:k∈K):∀ q∈vJ M k v,q.1∈K:=by
 intro q hq;unfold vJ at hq;split at hq
 . obtain⟨p,hp,e⟩:=NK.mp hq;have:=h p hp;rw[<-e];split<;>exact this
 . rcases Np.mp hq with z|z
   . exact h q z
   . rw[LM.mp z];exact hk
theorem MemR.put {H:Hp}{M:List (LO × V)}{m:Mem}{x:Wr}{q:LO × V}(h:MemR H M m) (hx:WrR H x q):MemR H (vJ M q.1 q.2) (m.put x):=by
 obtain⟨ho,hk,hd⟩:=hx;refine⟨λk=>?_,λg i=>?_,I8 h.ks (by rw[hk];exact Wr.key_all ho),λg i nm wt e=>?_⟩
 . rw[hk,wY h.kk x.key_kd (wQ k)];unfold Mem.put;dsimp only;cases e:x.cnt k with
  |some i =>
    have ex:=Wr.cnt_some e;subst ex;rw[SF (show Mc (Wr.key (.c k i)) (.str k.key)=l' from di (wQ k))];exact hd
  |none =>
    rw[SG λz=>Wr.cnt_none e ((tQ (wQ k)).mp z)];exact h.c k
 . rw[hk,wY h.kk x.key_kd (wb g i)];unfold Mem.put;dsimp only;cases e:x.plc g i with
  |some nw =>
    have ex:=Wr.plc_some (nm:=nw.1) (wt:=nw.2) e;subst ex;rw[SF (show Mc (Wr.key (.p g i nw.1 nw.2)) (pk g i)=l' from di (wb g i))];exact .inr ⟨nw.1,nw.2,q.2,rfl,rfl,hd⟩
  |none =>
    rw[SG λz=>Wr.plc_none e ((tQ (wb g i)).mp z)];exact h.p g i
 . have e':(x.plc g i).or (m.p g i)=f' (nm,wt):=e;cases q:x.plc g i with
  |none=>rw[q]at e';exact h.ok g i nm wt e'
  |some nw =>
    rw[q]at e';cases e';have ex:=Wr.plc_some q;subst ex;exact ho.2
theorem Paired.rev {α β:Type}{F:α->β->Prop}:∀ {xs:List α}{ys:List β},Mn F xs ys->Mn F xs.reverse ys.reverse
|_,_,.nil=>.nil
|_,_,.cons r t=>by
  rw[List.reverse_cons,List.reverse_cons];exact Mn.snoc (Paired.rev t) r
theorem EL {H:Hp}{k:Cn}:∀ {row:List Wr}{es:List (LO × V)},Mn (WrR H) row es ->
 (es.find? λp=>Mc p.1 (.str k.key)).map (·.2)=(row.findSome? (Wr.cnt k)).map V.int
|_,_,.nil=>rfl
|x :: row,q :: es,.cons ⟨_,hk,hd⟩ t=>by
  rw[NI,List.findSome?_cons];cases e:x.cnt k with
 |some i =>
   have ex:=Wr.cnt_some e;subst ex;have:Mc q.1 (.str k.key)=l':=by rw[hk];exact di (wQ k)
   rw[this];show f' q.2=f' (V.int i);exact congrArg f' hd
 |none =>
   have:Mc q.1 (.str k.key)=K':=by
    rw[hk];cases z:Mc x.key (.str k.key) with
   |false=>rfl
   |true=>exact absurd ((tQ (wQ k)).mp z) (Wr.cnt_none e)
   rw[this];exact EL t
theorem ET {H:Hp}{g:Bool}{i:Int}:∀ {row:List Wr}{es:List (LO × V)},Mn (WrR H) row es ->
 (row.findSome? (Wr.plc g i)=LJ/\(es.find? λp=>Mc p.1 (pk g i))=LJ)\/∃ nm wt q,row.findSome? (Wr.plc g i)=f' (nm,wt)/\(es.find? λp=>Mc p.1 (pk g i))=f' q/\DV H (.tuple [.int nm,.int wt]) q.2
|_,_,.nil=>.inl ⟨rfl,rfl⟩
|x :: row,q :: es,.cons ⟨_,hk,hd⟩ t=>by
  rw[NI,List.findSome?_cons];cases e:x.plc g i with
 |some nw =>
   have ex:=Wr.plc_some (nm:=nw.1) (wt:=nw.2) e;subst ex;have:Mc q.1 (pk g i)=l':=by rw[hk];exact di (wb g i)
   rw[this];exact .inr ⟨nw.1,nw.2,q,rfl,rfl,hd⟩
 |none =>
   have:Mc q.1 (pk g i)=K':=by
    rw[hk];cases z:Mc x.key (pk g i) with
   |false=>rfl
   |true=>exact absurd ((tQ (wb g i)).mp z) (Wr.plc_none e)
   rw[this];exact ET t
def cF {H:Hp}{M es:List (LO × V)}{m:Mem}{row:List Wr}(h:MemR H M m) (r:Mn (WrR H) row es) (k:Cn):cA M es (.str k.key)=.int (rdC m row k):=by
 rw[xj];unfold Ed rdC;rw[EL (Paired.rev r)];cases row.reverse.findSome? (Wr.cnt k) with
|some i=>rfl
|none=>exact h.c k
def BI {H:Hp}{M es:List (LO × V)}{m:Mem}{row:List Wr}(h:MemR H M m) (r:Mn (WrR H) row es) (g:Bool) (i:Int) :
 (rdP m row g i=LJ/\cA M es (pk g i)=.int 0)\/∃ nm wt c,rdP m row g i=f' (nm,wt)/\cA M es (pk g i)=.ref c/\H c=f' (.tup [.int nm,.int wt]):=by
 rw[xj];unfold Ed rdP;have tup:∀ {nm wt:Int} {v:V},DV H (.tuple [.int nm,.int wt]) v->∃ c,v=.ref c/\H c=f' (.tup [.int nm,.int wt]):=λ{nm wt v} h=>by
  obtain⟨c,vs,e,hc,v1,r1,e1,d1,v2,r2,e2,d2,e3⟩:=h;cases d1;cases d2;cases e3;subst e2 e1;exact⟨c,e,hc⟩
 rcases ET (g:=g) (i:=i) (Paired.rev r) with⟨e1,e2⟩|⟨nm,wt,q,e1,e2,d⟩
 . rw[e1,e2];rcases h.p g i with⟨a,b⟩|⟨nm,wt,v,a,b,c⟩
   . rw[a,b];exact .inl ⟨rfl,rfl⟩
   . rw[a,b];obtain⟨c',rfl,hc⟩:=tup c;exact .inr ⟨nm,wt,c',rfl,rfl,hc⟩
 . rw[e1,e2];obtain⟨c',e,hc⟩:=tup d;exact .inr ⟨nm,wt,c',rfl,by show q.2=_;exact e,hc⟩
theorem Aw {H:Hp}{g:Bool}{i nm wt:Int}:∀ {row:List Wr}{es:List (LO × V)},Mn (WrR H) row es->row.findSome? (Wr.plc g i)=f' (nm,wt)->0 <= nm/\nm < 9
|_,_,.nil,h=>by cases h
|x :: row,_,.cons hx t,h=>by
  rw[List.findSome?_cons]at h;cases q:x.plc g i with
 |none=>rw[q]at h;exact Aw t h
 |some nw =>
   rw[q]at h;cases h;have ex:=Wr.plc_some q;subst ex;exact hx.1.2
def IQ {H:Hp}{M es:List (LO × V)}{m:Mem}{row:List Wr}(h:MemR H M m) (r:Mn (WrR H) row es) {g:Bool}{i nm wt:Int}(e:rdP m row g i=f' (nm,wt)):0 <= nm/\nm < 9:=by
 unfold rdP at e;cases q:row.reverse.findSome? (Wr.plc g i) with
|none=>rw[q]at e;exact h.ok g i nm wt e
|some nw =>
  rw[q]at e;cases e;exact Aw (Paired.rev r) q
def StT (w:LZ) (C:D') (H:Hp) (sa:SA) (m:Mem) (rs:Bool->List Wr):Prop:=∃ M r,sa.At w C H M r/\MemR H M m/\∀ b,Mn (WrR H) (rs b) (r b)
section
variable {w:LZ}{C:D'}{H H':Hp}{sa:SA}{m:Mem}{rs:Bool->List Wr}
theorem StT.keep (S:StT w C H sa m rs) (h:∀ c o,sa.own c->H c=f' o->H' c=f' o) (ht:∀ b vs,H b=f' (.tup vs)->H' b=f' (.tup vs)):StT w C H' sa m rs:=by
 obtain⟨M,r,S,R,P⟩:=S;exact⟨M,r,S.keep (λc o hc=>h c o (Aj hc)) ht,R.keep ht,λb=>Paired.mapP (P b) λ_ _ q=>q.keep ht⟩
def StT.same (S:StT w C H sa m rs) (h:aZ H H'):StT w C H' sa m rs:=S.keep (λc o _=>h c o) λb vs=>h b _
theorem StT.there (S:StT w C H sa m rs) {c:D'}(h:sa.own c):∃ o,H c=f' o/\(∀ xs,o≠.tup xs):=by
 obtain⟨M,r,S,_⟩:=S;exact S.there h
theorem StT.ob (S:StT w C H sa m rs):∃ dx,H sa.x=f' (.ins C dx (stF sa.hd sa.rl)):=by
 obtain⟨M,r,S,_⟩:=S;exact S.ob
def StT.names (S:StT w C H sa m rs) {b g:Bool}{i nm wt:Int}(e:rdP m (rs b) g i=f' (nm,wt)):0 <= nm/\nm < 9:=by
 obtain⟨M,r,S,R,P⟩:=S;exact IQ R (P b) e
def StT.small {M:List (LO × V)}{r:Bool->List (LO × V)}(S:sa.At w C H M r) (R:MemR H M m):M.length <= 22:=by
 obtain⟨es,ep,_,_,nd,_⟩:=S.me;have:=@m4 LO (λa b=>Classical.propDecidable (a=b)) _ lJ nd λd hd=>by
  obtain⟨q,hq,rfl⟩:=NK.mp hd;exact R.ks q hq
 rw[Md]at this;exact this
end
theorem kY {α β:Type}{F:α->β->Prop}:∀ {xs:List α}{ys:List β}{xs':List α}{ys':List β},Mn F xs ys->Mn F xs' ys'->Mn F (xs++xs') (ys++ys')
|_,_,_,_,.nil,t=>t
|_,_,_,_,.cons r t,t'=>.cons r (kY t t')
def StT.grow {w:LZ}{C:D'}{H H':Hp}{sa:SA}{m:Mem}{rs:Bool->List Wr}{M:List (LO × V)}{r:Bool->List (LO × V)}{b:Bool}{ws:List Wr}{es:List (LO × V)}(R:MemR H M m) (P:∀ b,Mn (WrR H) (rs b) (r b)) (S2:sa.At w C H' M (setR r b (r b++es))) (ht:∀ c vs,H c=f' (.tup vs)->H' c=f' (.tup vs)) (hn:Mn (WrR H') ws es):StT w C H' sa m (setR rs b (rs b++ws)):=by
 refine⟨M,_,S2,R.keep ht,λc=>?_⟩;by_cases e:c=b
 . subst e;rw[b8,b8];exact kY (Paired.mapP (P c) λ_ _ q=>q.keep ht) hn
 . rw[eN e,eN e];exact Paired.mapP (P c) λ_ _ q=>q.keep ht
def bC (p:RP) (m:Mem) (row:List Wr) (a b:Cn):Int:=(rdC m row a - rdC m row b) % (p.s * p.R)
def lW (p:RP) (m:Mem) (row:List Wr) (a:Cn):Wr:=.c a ((rdC m row a+1) % (p.s * p.R))
def BW (p:RP) (m:Mem) (row:List Wr) (g:Bool) (a:Cn) (nm wt:Int):List Wr :=
 if p.e then [lW p m row a,.p g (rdC m row a % p.s) nm wt] else [.p g (rdC m row a % p.s) nm wt,lW p m row a]
def yA {H:Hp}{p:RP}{m:Mem}{row:List Wr}{g:Bool}{a:Cn}{nm wt:Int}{t:D'}(hp:p.Ok) (hn:0 <= nm/\nm < 9) (ht:H t=f' (.tup [.int nm,.int wt])):Mn (WrR H) (BW p m row g a nm wt) (oQ p (vM g) a.key (rdC m row a) (.ref t)):=by
 have h1:WrR H (.p g (rdC m row a % p.s) nm wt) (.tuple [.str (vM g),.int (rdC m row a % p.s)],.ref t):=by
  have a1:=Int.emod_nonneg (rdC m row a) (show p.s≠0 by have:=hp.s0;omega);have a2:=Int.emod_lt_of_pos (rdC m row a) hp.s0;have:=hp.s8;exact⟨⟨⟨a1,by omega⟩,hn⟩,rfl,⟨t,_,rfl,ht,_,_,rfl,rfl,_,_,rfl,rfl,rfl⟩⟩
 have h2:WrR H (lW p m row a) (.str a.key,.int ((rdC m row a+1) % (p.s * p.R))):=⟨trivial,rfl,rfl⟩
 unfold BW oQ;cases p.e with
|true=>exact .cons h2 (.cons h1 .nil)
|false=>exact .cons h1 (.cons h2 .nil)
structure LA where
 sd:D'
 md:D'
 rw:D'
 l:Bool->D'
 ud:D'
 tk:D'
section
variable {H:Hp}{la:LA}{p:RP}{n:Int}
end
section
variable {w:LZ}{H H':Hp}{la:LA}{p:RP}{n:Int}{m:Mem}{rs:Bool->List Wr}{un tk:List Int}
end
theorem Bo (i:Int):∀ ns:List Int,inV (.int i) (ns.map V.int)=ns.contains i
|[]=>rfl
|n :: ns=>by
  have ih:=Bo i ns;unfold inV at ih |-;rw[Nn,any_cons,ih,contains_cons];congr 1;show eqV (.int n) (.int i)=(i == n)
  simp only[eqV];rw[Nk,beq_iff_eq,beq_iff_eq];exact eq_comm
def aU {α:Type}{x:α}{xs:List α}:atI (x :: xs) 0=f' x:=by
 unfold atI ixN;simp
theorem tY {α β:Type}{F:α->β->Prop}:∀ {xs:List α}{ys:List β}{j:Nat}{y:β},Mn F xs ys->ys[j]?=f' y->∃ x,xs[j]?=f' x/\F x y
|_,_,_,_,.nil,e=>by simp at e
|_,_,0,_,.cons r _,e=>by simp at e;subst e;exact⟨_,rfl,r⟩
|_,_,j+1,_,.cons _ t,e=>by
  obtain⟨x,a,b⟩:=tY (j:=j) t (by simpa using e);exact⟨x,by simpa using a,b⟩
def KO (own:D'->Prop) (H H':Hp):Prop:=∀ c o,¬ own c->H c=f' o->H' c=f' o
def KO.refl (own:D'->Prop) (H:Hp):KO own H H:=λ_ _ _ e=>e
def KO.of_kp {own:D'->Prop}{xs:List D'}{H H':Hp}(k:Kp xs H H') (h:∀ c∈xs,own c):KO own H H':=λc o n e=>k c o (λm=>n (h c m)) e
def KO.of_same {own:D'->Prop}{H H':Hp}(s:aZ H H'):KO own H H':=λc o _ e=>s c o e
def KO.trans {own own':D'->Prop}{H H1 H2:Hp}(a:KO own H H1) (b:KO own' H1 H2) (h:∀ c,own' c->own c\/H c=LJ):KO own H H2:=λc o n e=>b c o (λz=>by
 rcases h c z with y|y
 . exact n y
 . rw[y]at e;cases e) (a c o n e)
section
variable {w:LZ}{CH CT CR CS:D'}{H H':Hp}{z:HA}{zt:TA'}{sa:SA}{la:LA}{p:RP}{n:Int}{m:Mem}{rs:Bool->List Wr}{un tk aw:List Int}{nn:Int}{st:D'}
end
def scD:LO->Bool
|.none=>l'
|.bool _=>l'
|.int _=>l'
|.str _=>l'
|_=>K'
def flD:LO->Bool
|.tuple ds=>ds.all scD
|d=>scD d
def DV.sc {H H':Hp}:∀ {d:LO}{v:V},scD d=l'->DV H d v->DV H' d v
|.none,_,_,h=>h
|.bool _,_,_,h=>h
|.int _,_,_,h=>h
|.str _,_,_,h=>h
|.list _,_,h,_=>by cases h
|.tuple _,_,h,_=>by cases h
|.dict _,_,h,_=>by cases h
theorem DVs.sc {H H':Hp}:∀ {ds:List LO}{vs:List V},ds.all scD=l'->DVs H ds vs->DVs H' ds vs
|[],_,_,h=>h
|d :: ds,_,h,⟨v,r,e,h1,h2⟩=>by
  rw[all_cons,MC]at h;exact⟨v,r,e,DV.sc h.1 h1,DVs.sc h.2 h2⟩
def DV.fl {H H':Hp}(ht:∀ b vs,H b=f' (.tup vs)->H' b=f' (.tup vs)):∀ {d:LO}{v:V},flD d=l'->DV H d v->DV H' d v
|.none,_,_,h=>h
|.bool _,_,_,h=>h
|.int _,_,_,h=>h
|.str _,_,_,h=>h
|.list _,_,h,_=>by cases h
|.tuple ds,_,h,⟨a,vs,e,ha,hv⟩=>⟨a,vs,e,ht _ _ ha,DVs.sc h hv⟩
|.dict _,_,h,_=>by cases h
def Nms (k:Int) (ns:List Int):Prop:=ns.Nodup/\∀ x∈ns,0 <= x/\x < k
def Nms.nil (k:Int):Nms k []:=⟨nodup_nil,λ_ h=>by cases h⟩
def Nms.len {k:Int}{ns:List Int}(h:Nms k ns) (hk:k <= 9):ns.length <= 9:=by
 have:=m4 (l:=ns) (ks:=[0,1,2,3,4,5,6,7,8]) h.1 λx hx=>by
  have:=h.2 x hx;have:x=0\/x=1\/x=2\/x=3\/x=4\/x=5\/x=6\/x=7\/x=8:=by omega
  simp only[Mf,MZ,or_false];exact this
 exact this
def Nms.snoc {k x:Int}{ns:List Int}(h:Nms k ns) (hx:ns.contains x=K') (hb:0 <= x/\x < k):Nms k (ns++[x]):=by
 refine⟨?_,λy hy=>?_⟩
 . rw[NS];refine⟨h.1,NW.mpr ⟨by simp,nodup_nil⟩,λa ha b hb' e=>?_⟩;rw[LM.mp hb']at e;rw[Nv,decide_eq_false_iff_not]at hx;exact hx (e ▸ ha)
 . rcases Np.mp hy with z|z
   . exact h.2 y z
   . rw[LM.mp z];exact hb
theorem Nms.filter {k x:Int}{ns:List Int}(h:Nms k ns):Nms k (ns.filter λy=>decide (y≠x)) :=
 ⟨Pairwise.filter _ h.1,λy hy=>h.2 y (Oh.mp hy).1⟩
def Nms.next {k x:Int}{ns:List Int}(h:Nms k ns) (hb:0 <= x/\x < k):Nms k (wI ns x):=by
 unfold wI;cases e:ns.contains x with
|true=>exact h
|false=>exact h.snoc e hb
section
variable {g:Bool}{a f:Cn}{s N:Int}{W:List Wr}{A:List (Int × Int)}{na nf:Nat}
end
section
variable {g:Bool}{a f:Cn}{s N:Int}{W:List Wr}{A:List (Int × Int)}{na nf:Nat}
end
section
variable {s R:Int}{m:Mem}{rs:Bool->List Wr}{A B:List (Int × Int)}{T Hd:Nat}{Wf Wt:List Wr}{df dt:Nat}{A' B':List (Int × Int)}{a' h' b' t':Nat}
end
section
variable {s R:Int}{n:Nat}{m:Mem}{rs:Bool->List Wr}{un tk:List Int}{A B:List (Int × Int)}{T Hd:Nat}
end
section
variable {X:Cx}
def Ite (K:LN) (a:D'):It :=
 ⟨λi H=>∃ xs x,SqL K H a xs/\xs[i]?=f' x,
  λi H v H'=>∃ T x,H T=LJ/\v=.ref T/\H'=upd H T (.tup [.int (i:Int),x])/\∀ xs,SqL K H a xs->xs[i]?=f' x,
  λi H=>∃ xs,SqL K H a xs/\xs.length <= i⟩
def BS {P:Mg}{w:LZ}{K:LN}{elts:List Expr}{kt:Nat}{pt:Pos}{e it a:D'}(hne:e≠it) :
 Turn P w K (.Tuple elts kt pt) (Ite K a) [e,it] e (λi h=>(∃ old,IsEnum h e it (i:Int) old)/\h.IsListIter it a i) where
 mem:=LY
 obj:=λi h st c hc=>by
  obtain⟨⟨_,s1⟩,o,s2,_,s3⟩:=st;simp only[Mf,MZ,or_false]at hc;rcases hc with rfl|rfl
  . exact⟨_,s1,λv q=>by cases q⟩
  . exact⟨o,s2,λv q=>by rw[s3]at q;cases q⟩
 keep:=λi h h' st k=>by
  obtain⟨⟨u,s1⟩,o,s2,s3⟩:=st;exact⟨⟨u,k e (by simp) _ s1⟩,o,k it (by simp) _ s2,s3⟩
 item:=by
  intro X hP hw hK hc i Oj s σ H E I hf st hg;subst hP hw hK;obtain⟨⟨u,s1⟩,s2⟩:=st;obtain⟨xs,x,q1,hx⟩:=hg;obtain⟨us,r1,p1,_⟩:=I.list q1;obtain⟨ux,hux,rx⟩:=r1.get hx;refine wpAny_pyNext_enum_item s1 s2 p1.isList (x:=ux) (by simpa using hux) hne λh' t1 t2 t3 t4 kk=>?_
  have hfresh:H s.heap.objs.size=LJ:=I.hok.fresh (LS _);have lt:∀ {c o},s.heap.get? c=f' o->c≠s.heap.objs.size:=λe=>Mv (Mb e)
  refine⟨_,rfl,wpAny_letOwnedTupleGo_enum t1 λh'' u1 e2=>?_⟩;have ch:∀ c o,c ∉ [e,it]->s.heap.get? c=f' o->h''.get? c=f' o:=λc o n ee=>by
   have n1:c≠e:=λq=>n (by simp[q])
   exact e2.extBut _ _ n1 (kk c o n1 (λq=>n (by simp[q])) ee)
  have I1:Inv X Oj σ H { s with heap:=h'',toks:=s.toks+1 }:=I.turnedL (t':=s.toks+1) (λb hb=>hf b hb) ch;have T5:h''.get? s.heap.objs.size=f' { cls:=.type "tuple",data:=.seq #[.int (i:Int) s.toks,ux] }:=e2.extBut _ _ (lt s1).symm t3;have apt:=I.aptSz (LS s.heap.objs.size) hfresh;have I2:=I1.seen (o:=.tup [.int (i:Int),x]) apt ⟨by show 2 <= LP;decide,[.int (i:Int) s.toks,ux],.cons ⟨_,rfl⟩ (.cons rx .nil),⟨_,T5,rfl,_,rfl⟩⟩;refine⟨.ref s.heap.objs.size,_,I2,rfl,⟨_,x,hfresh,rfl,rfl,λzs hz=>by rw[I.list_inj hz q1];exact hx⟩,⟨⟨_,u1⟩,?_⟩,λb hb=>?_⟩
  . obtain⟨o,a1,a2⟩:=t2;exact⟨o,e2.extBut _ _ hne.symm a1,a2⟩
  . obtain⟨o,ho,_⟩:∃ o,s.heap.get? b=f' o/\True:=by
     simp only[Mf,MZ,or_false]at hb;rcases hb with rfl|rfl
     . exact⟨_,s1,trivial⟩
     . obtain⟨o,a1,_⟩:=s2;exact⟨o,a1,trivial⟩
    rw[ac (lt ho)];exact(hf b hb).1
 done:=by
  intro X hP hw hK hc i Oj s σ H E I hf st hg;subst hP hw hK;obtain⟨⟨u,s1⟩,s2⟩:=st;obtain⟨xs,q1,hx⟩:=hg;obtain⟨us,r1,p1,_⟩:=I.list q1;have hl:=r1.length;exact wpAny_pyNext_enum_end (I.ok.hd hc) s1 s2 p1.isList (by simp;omega) λh' kk=>⟨rfl,I.turnedL (t':=s.toks) (ch:=[it]) (λb hb=>hf b (by
   rw[LM.mp hb];simp)) λb o n ee=>kk b o (λq=>n (by simp[q])) ee⟩
 self:=λA i s Q E st hQ=>by
  obtain⟨⟨u,s1⟩,_⟩:=st;exact wpAny_pyIter_enum s1 hQ
def Ka (K:LN) (ta:TA):TI:=λσ H R=>ta σ H λvs H1=>∃ a xs,vs=[.ref a]/\SqL K H1 a xs/\R (Ite K a) H1
def Ay:MO "enumerate"=f' (.type "enumerate"):=by decide +kernel
def GY {a:Expr}{ta:TA}{p pos pt:Pos}{elts:List Expr}{kt:Nat}(hg:Gl X "enumerate") (hm:X.mg "enumerate"=LJ) (ha:PA X [a] ta) (hs:Mu [a] X.env=[(K',eval a X.env)]:=by rfl) :
 PI X (.Tuple elts kt pt) (.Call (.Name "enumerate" p) [a] [] pos) (Ka X.K ta):=by
 intro Oj s σ H R I h;refine Call_ (nL I hg hm Ay (Nb (thn (ha pos Oj s σ H _ I h) λus s1 ⟨vs,H1,I1,r1,q1⟩=>?_) (by rw[hs];rfl) (by first|rfl|(rw[hs];rfl))));obtain⟨a1,xs,e,h1,q⟩:=q1;subst e;obtain⟨u,rfl,ru⟩:=r1.one;cases ru;obtain⟨us,_,p1,_⟩:=I1.list h1;refine call_enumerate_list p1.isList λh' z1 z2 z3 kk=>wpAny_pyIter_enum z1 ?_
 have fr:∀ b,s1.heap.objs.size <= b->tU X Oj H1 b:=λb hb=>I1.fpOk hb (I1.hok.fresh hb)
 refine⟨_,[s1.heap.objs.size+1,s1.heap.objs.size],_,_,H1,rfl,I1.kept (t':=s1.toks) kk,BS (by show (_:Nat)≠_;omega),⟨⟨_,z1⟩,z2⟩,λb hb=>fr b ?_,q⟩;simp only[Mf,MZ,or_false]at hb;rcases hb with rfl|rfl<;>omega
def Dh {K:LN}{a:D'}{xs:List V}{g:TG}{tb:TS}{D:Ends}{σ:St}{H:Hp}(Pv:Nat->St->Hp->Prop) (h0:Pv 0 σ H) (hl:∀ i σ H,i <= xs.length->Pv i σ H->SqL K H a xs)
 (hs:∀ i x T σ H,xs[i]?=f' x->H T=LJ->Pv i σ H->g (.ref T) σ (upd H T (.tup [.int (i:Int),x])) λσ2 H2=>tb { D with nx:=Pv (i+1),ct:=Pv (i+1),bk:=D.nx } σ2 H2) (hd:∀ σ H,Pv xs.length σ H->D.nx σ H) :
 ∃ W:Nat->Nat->St->Hp->Prop,(∃ m,W 0 m σ H)/\∀ i m σ H,W i m σ H ->
  ((Ite K a).stop i H/\D.nx σ H)\/((Ite K a).go i H/\∃ N:St->Hp->Prop,(∀ σ' H',N σ' H'->∃ m',m' < m/\W (i+1) m' σ' H')/\∀ x H',(Ite K a).yld i H x H'->g x σ H' λσ2 H2=>tb { D with nx:=N,ct:=N,bk:=D.nx } σ2 H2):=by
 refine⟨λi m σ H=>m=xs.length - i/\i <= xs.length/\Pv i σ H,⟨xs.length,by simp,Ny _,h0⟩,?_⟩;rintro i m σ H ⟨rfl,hi,p⟩;have q1:=hl i σ H hi p;by_cases hlt:i < xs.length
 . refine .inr ⟨⟨xs,xs[i],q1,LQ hlt⟩,Pv (i+1),λσ' H' z=>⟨xs.length - (i+1),by omega,rfl,hlt,z⟩,?_⟩;rintro v H' ⟨T,x,hT,rfl,rfl,hx⟩;exact hs i x T σ H (hx _ q1) hT p
 . refine .inl ⟨⟨xs,q1,by omega⟩,hd σ H ?_⟩;have e:i=xs.length:=by omega
   rw[<-e];exact p
end
section
variable {X:Cx}
end
section
variable {X:Cx}
end
def ltS (a b:Str):Prop:=a.cps.toList < b.cps.toList
def Paired.at' {α β:Type}{R:α->β->Prop}{as:List α}{bs:List β}(h:Mn R as bs):∀ {i:Nat}{a:α},as[i]?=f' a->∃ b,bs[i]?=f' b/\R a b:=by
 induction h with
|nil=>intro i a e;cases e
|cons r _ ih =>
  intro i a e;cases i with
 |zero=>cases e;exact⟨_,rfl,r⟩
 |succ i=>exact ih (i:=i) e
section
variable {X:Cx}{Oj:List (D' × M6)}{σ:St}{H:Hp}{s:LK}
end
def EG (K:LN) (a:D') (D:List (Str × D')):Prop:=(a == Ng)=K'/\∃ o es ep,K.lookup a=f' o/\o.ExactDict/\o.data=.dict es ep/\KTD.Rows (λ(b:D') (v:G')=>v=.ref b) es.toList D
section
variable {X:Cx}{Oj:List (D' × M6)}{σ:St}{H:Hp}{s:LK}
def iA {A:Mr}{E:G'->LK->Prop}{a:D'}{D:List (Str × D')}{k:Str}{tk:Tok}{o:M6}{es:Array MA}{ep:Nat}{prog:Mg}{w:LZ}{s:LK}{Q:Option G'->LK->Prop}(ho:s.heap.get? a=f' o) (hd:o.data=.dict es ep) (hr:KTD.Rows (λ(b:D') (v:G')=>v=.ref b) es.toList D)
 (h1:Q ((KTD.datumAt k D).map Ml) { s with toks:=s.toks+1 }):LV (model prog w) A (dictGet a (.str k tk)) Q E s:=by
 unfold dictGet
 try with_reducible refine MT ?_
 refine j' (wpAny_pyHash_str (j' (KTD.kt_dictFind_strs (s:={ s with toks:=s.toks+1 }) ho hd (by obtain⟨l⟩:=es;simpa using hr.exact) ?_)));have hq:Q (findBy (λk v=>v.isStr k) es k) { s with toks:=s.toks+1 }:=by
  have hf:findBy (λk v=>v.isStr k) es k=(es.toList.find? λe=>e.key.isStr k).map (·.val):=by
   obtain⟨l⟩:=es;simp[findBy]
  rw[hf];cases hat:KTD.datumAt k D with
 |some d =>
   obtain⟨v,hv,hfl⟩:=hr.find_some hat;rw[hv,hfl];rw[hat]at h1;exact h1
 |none =>
   rw[hr.find_none hat];rw[hat]at h1;exact h1
 rw[findBy_of_findIdx?]at hq;cases hi:es.findIdx? λe=>e.key.isStr k with
|none=>rw[hi]at hq;exact LL hq
|some i=>rw[hi]at hq;exact j' (wpAny_dictEntries (s:={ s with toks:=s.toks+1 }) ho hd (LL hq))
def Lt:Option D'->V
|some b=>.ref b
|none=>.non
def G7 (D:List (Str × D')) (ty:TE):TE:=λσ H Q=>ty σ H λy H1=>∃ k,y=.str k/\Q (Lt (KTD.datumAt k D)) H1
def Bs {T:Str}{a:D'}{D:List (Str × D')}{e:Expr}{ty:TE}{p apos cpos:Pos}(hg:Gl X T) (hm:X.mg T=f' (.ref a)) (ht:EG X.K a D) (he:PE X e ty) (m:M1 X (.Name T p) "get" apos e cpos) (hdb:(T == ("__debug__":Str))=K':=by decide):PE X (.Call (.Attribute (.Name T p) "get" apos) [e] [] cpos) (G7 D ty):=by
 intro Oj s σ H Q I h;obtain⟨hs,o,es,ep,hl,hx,hd,hr⟩:=ht;have ho:∀ {s':LK} {H':Hp},Inv X Oj σ H' s'->s'.heap.get? a=f' o:=λI'=>I'.kIn a o hl
 refine wpAny_Call_method m.base m.few m.line NP NH PySem.F.type_dict_get (eT I hg hm ?_ hdb);refine⟨⟨o,ho I,hx.1⟩,?_,?_⟩
 . intro b q;cases q;exact⟨o,ho I,hx.2.1⟩
 . rw[m.trees];refine ND rfl (Nw (Nh (thn (he Oj s σ H _ I h) λiv s2 ⟨y,H2,I2,ry,k,ey,q2⟩=>N4 ?_)));subst ey;obtain⟨t,rfl⟩:=ry;refine MB NH ⟨o,ho I2,hx.1⟩ PySem.F.entry_dict_get ?_ (PySem.F.args_dict_get_2 _ _);show LV _ _ (dictGet a (.str k t) >>= _) _ _ s2;refine j' (iA (ho I2) hd hr ?_);cases hat:KTD.datumAt k D with
  |some b =>
    rw[hat]at q2;exact LL ⟨_,rfl,.ref b,H2,I2.tok _,rfl,q2⟩
  |none =>
    rw[hat]at q2;show LV _ _ (Builtin.Dict.missed a (.str k t) >>= _) _ _ _;exact j' (wpAny_missed_other hs (LL ⟨.none,rfl,.non,H2,I2.tok _,rfl,q2⟩))
end
section
variable {X:Cx}
def yZ {prog:Mg}{w:LZ}{A:Mr}{I l:D'}{items:Array G'}(hh:A.handled=LJ) (hIl:I≠l) :
 Walks prog w A I [I,l] [I] items.size (λi v=>items[i]?=f' v) (λi h=>h.IsListIter I l i/\h.IsList l items) where
 sub b hb:=by rw[LM.mp hb];exact LY
 frame i h h' st k:=by
  obtain⟨⟨o,ho,r⟩,⟨ol,hol,rl⟩⟩:=st;exact⟨⟨o,k I LY _ ho,r⟩,⟨ol,k l (Ma _ LY) _ hol,rl⟩⟩
 item i s Q E hi st k:=by
  refine wpAny_pyNext_list_item st.1 st.2 (Mm hi) λh' it' sb=>k _ h' s.toks (Mm hi) ⟨it',?_⟩ λb o hb e=>(sb.2 b (λy=>hb (by rw[y];exact LM.mpr rfl))).trans e
  obtain⟨ol,hol,rl⟩:=st.2;exact⟨ol,(sb.2 l (NA hIl)).trans hol,rl⟩
 done s Q E st k:=by
  refine wpAny_pyNext_list_end hh st.1 st.2 (by rw[Array.getElem?_eq_none_iff];exact LS _) λh' eb=>k h' s.toks λb o hb e=>?_
  exact eb b o (λy=>hb (by rw[y];exact LM.mpr rfl)) e
 self i s Q E st k:=wpAny_pyIter_listiter st.1 k
theorem vq:∀ {bs:List Bool}{us:List G'},bV (bs.map V.bl) us->us=bs.map G'.bool
|[],_,.nil=>rfl
|b :: bs,_,.cons r t=>by
  have r':_=G'.bool b:=r;rw[r',vq t];rfl
def ui:MO "all"=f' (.builtin "all"):=by decide +kernel
def my (hc:X.calm=l'):kZ X (.builtin "all") (λxs H Q=>∃ (p:D') (bs:List Bool),xs=[.ref p]/\SqL X.K H p (bs.map V.bl)/\Q (.bl (bs.all id)) H):=by
 intro Oj s σ H xs us Q I r h;obtain⟨p,bs,rfl,hq,q⟩:=h;obtain⟨u,rfl,rx⟩:=pj r;cases rx;obtain⟨its,r',pl,hz⟩:=I.list hq;have hb:=vq r';have il:=pl.isList;refine call_all_walk (wpAny_pyIter_list il ⟨s.heap.objs.size,_,_,_,_,_,λi=>bs.getD i l',rfl,yZ (I:=s.heap.objs.size) (l:=p) (items:=its.toArray) (I.ok.hd hc) ?_,⟨⟨_,LW _ rfl,rfl,rfl⟩,?_⟩,?_,?_⟩)
 . obtain⟨o,ho,_⟩:=il;exact NA (Mv (Mb ho))
 . obtain⟨o,ho,rr⟩:=il;exact⟨o,LH _ ho,rr⟩
 . intro i v s' Q' E' hv hq';have hv':its[i]?=f' v:=by rw[<-hv];simp
   rw[hb,Mp]at hv';obtain⟨b,hbi,rfl⟩:=Option.map_eq_some_iff.mp hv';have:bs.getD i l'=b:=by rw[List.getD_eq_getElem?_getD,hbi];rfl
   have hq2:Q' (bs.getD i l') s':=hq';rw[this]at hq2;exact MQ hq2
 . intro h' tk k;have e:((Ob its.toArray.size).all λi=>bs.getD i l')=bs.all id:=by
    have hl:its.toArray.size=bs.length:=by rw[Mj,hb,Md]
    rw[hl,Nk,all_eq_true,all_eq_true];constructor
    . intro h x hx;obtain⟨i,hi,rfl⟩:=List.getElem_of_mem hx;have:=h i (mem_range.mpr hi);rw[List.getD_eq_getElem?_getD,LQ hi]at this;exact this
    . intro h i hi;have hi':=mem_range.mp hi;rw[List.getD_eq_getElem?_getD,LQ hi'];exact h _ (getElem_mem hi')
   rw[e];refine⟨.bl (bs.all id),H,I.kept λb o hb=>k b o (λy=>?_) (LH _ hb),rfl,q⟩;rw[LM]at y;have:=Mb hb;rw[y]at this;exact NM _ this
end
section
variable {X:Cx}
def JW (K:LN):V->List V->Hp->VK->Prop:=λx vs H Q=>∃ (sep:Str) (p:D') (ys:List Str),x=.str sep/\vs=[.ref p]/\SqL K H p (ys.map V.str)/\(ys.map (·.length)).sum+ys.length * sep.length <= 16777216/\Q (.str (MP sep ys)) H
theorem ym:∀ {ys:List Str}{us:List G'},bV (ys.map V.str) us->StrsAre us ys
|[],_,.nil=>.nil
|y :: ys,_,.cons r t=>by
  obtain⟨tk,e⟩:=r;rw[e];exact .cons _ _ (ym t)
def Fv:MtR X "str.join" (JW X.K):=by
 intro Oj s σ H x vs v us Q I rx rv h;obtain⟨sep,p,ys,rfl,rfl,hq,hl,q⟩:=h;obtain⟨t,rfl⟩:=rx;obtain⟨u,rfl,ru⟩:=rv.one;cases ru;obtain⟨its,r',pl,hz⟩:=I.list hq;exact join_list pl.isList (ym r') hl λt' k=>⟨.str (MP sep ys),H,I.tok k,⟨t',rfl⟩,q⟩
def j9:kZ X (.type "str") (λxs H Q=>(∃ i:Int,xs=[.int i]/\i.natAbs.log2 < 1920/\Q (.str (toString i)) H)\/∃ t,xs=[.str t]/\Q (.str t) H):=by
 intro Oj s σ H xs us Q I r h;rcases h with⟨i,rfl,hz,q⟩|⟨x,rfl,q⟩
 . obtain⟨u,rfl,t,rfl⟩:=pj r;exact PySem.P.str_of_int hz ⟨.str _,H,I.tok _,⟨_,rfl⟩,q⟩
 . obtain⟨u,rfl,t,rfl⟩:=pj r;exact PySem.P.str_of_str ⟨.str x,H,I,⟨t,rfl⟩,q⟩
end
def gO {X:Cx}{x:Str}{i:Int}{p:Pos}(hg:Gl X x) (hm:∃ t,X.mg x=f' (.int i t)) (hdb:(x == ("__debug__":Str))=K':=by decide):PE X (.Name x p) (tC (.int i)):=by
 obtain⟨t,hm⟩:=hm;intro Oj s σ H Q I h;exact eT I hg hm ⟨.int i,H,I,⟨t,rfl⟩,h⟩ hdb
def yG (z:HA) (zt:TA') (sa:SA) (c:D'):Prop:=z.own c\/zt.own c\/sa.own c
structure X5 (w:LZ) (CH CT CR CS:D') (H:Hp) (z:HA) (zt:TA') (sa:SA) (p:RP) (n:Nat) (m:Mem) (rs:Bool->List Wr) (un tk:List Int):Prop where
 hn:Hn CH CR H z sa.x p n un
 tn:Tn CT CR H zt sa.x p tk
 st:StT w CS H sa m rs
 dz:∀ c,z.own c->¬ zt.own c
section
variable {w:LZ}{CH CT CR CS:D'}{H H':Hp}{z:HA}{zt:TA'}{sa:SA}{p:RP}{n:Nat}{m m':Mem}{rs rs':Bool->List Wr}{un tk un' tk':List Int}
theorem X5.keep (W:X5 w CH CT CR CS H z zt sa p n m rs un tk) (k:∀ c o,yG z zt sa c->H c=f' o->H' c=f' o) (ht:∀ b vs,H b=f' (.tup vs)->H' b=f' (.tup vs)):X5 w CH CT CR CS H' z zt sa p n m rs un tk :=
 ⟨W.hn.keep λc o h=>k c o (.inl h),W.tn.keep λc o h=>k c o (.inr (.inl h)),W.st.keep (λc o h=>k c o (.inr (.inr h))) ht,W.dz⟩
theorem X5.there (W:X5 w CH CT CR CS H z zt sa p n m rs un tk) {c:D'}(h:yG z zt sa c):∃ o,H c=f' o/\∀ vs,o≠.tup vs:=by
 rcases h with h|h|h
 . obtain⟨o,e,⟨_,_,_,s⟩|⟨_,s⟩⟩:=W.hn.there h
   . exact⟨o,e,λvs y=>by rw[y]at s;cases s⟩
   . exact⟨o,e,λvs y=>by rw[y]at s;cases s⟩
 . obtain⟨o,e,⟨_,_,_,s⟩|⟨_,s⟩⟩:=W.tn.there h
   . exact⟨o,e,λvs y=>by rw[y]at s;cases s⟩
   . exact⟨o,e,λvs y=>by rw[y]at s;cases s⟩
 . exact W.st.there h
def Km {p:RP}{st:D'}{nn:Int}{aw:List Int}(B:Hn CH CR H z st p nn aw) (S:StT w CS H sa m rs) (b:Bool):¬ z.own (sa.l b):=λhc=>by
 obtain⟨o1,q1,s1⟩:=B.there hc;obtain⟨M,r,S',_⟩:=S;obtain⟨ts,e,_⟩:=S'.rw b;rw[e]at q1;cases q1;rcases s1 with⟨_,_,_,s⟩|⟨_,s⟩<;>cases s
def JD {p:RP}{st:D'}{aw:List Int}(B:Tn CT CR H zt st p aw) (S:StT w CS H sa m rs) (b:Bool):¬ zt.own (sa.l b):=λhc=>by
 obtain⟨o1,q1,s1⟩:=B.there hc;obtain⟨M,r,S',_⟩:=S;obtain⟨ts,e,_⟩:=S'.rw b;rw[e]at q1;cases q1;rcases s1 with⟨_,_,_,s⟩|⟨_,s⟩<;>cases s
def rG:∀ c∈[z.gd,sa.l K'],yG z zt sa c:=λc hc=>by
 rcases Mf.mp hc with y|y
 . rw[y];exact .inl (.inr (.inr (.inr rfl)))
 . rw[LM.mp y];exact .inr (.inr (G3 K'))
def rE:∀ c∈[zt.gd,sa.l l'],yG z zt sa c:=λc hc=>by
 rcases Mf.mp hc with y|y
 . rw[y];exact .inr (.inl (.inr (.inr (.inr rfl))))
 . rw[LM.mp y];exact .inr (.inr (G3 l'))
def vn {b:Bool}:∀ c∈[sa.l b,sa.hd],yG z zt sa c:=λc hc=>by
 rcases Mf.mp hc with y|y
 . rw[y];exact .inr (.inr (G3 b))
 . rw[LM.mp y];exact .inr (.inr IS)
def X5.hand (W:X5 w CH CT CR CS H z zt sa p n m rs un tk) (hn':Hn CH CR H' z sa.x p n un') (st':StT w CS H' sa m' rs') (kp:Kp [z.gd,sa.l K'] H H'):X5 w CH CT CR CS H' z zt sa p n m' rs' un' tk:=by
 refine⟨hn',W.tn.keep λc o hc e=>kp c o (λmm=>?_) e,st',W.dz⟩;rcases Mf.mp mm with y|y
 . exact W.dz c (by rw[y];exact .inr (.inr (.inr rfl))) hc
 . exact JD W.tn W.st K' (by rw[<-LM.mp y];exact hc)
def X5.heart (W:X5 w CH CT CR CS H z zt sa p n m rs un tk) (tn':Tn CT CR H' zt sa.x p tk') (st':StT w CS H' sa m' rs') (kp:Kp [zt.gd,sa.l l'] H H'):X5 w CH CT CR CS H' z zt sa p n m' rs' un tk':=by
 refine⟨W.hn.keep λc o hc e=>kp c o (λmm=>?_) e,tn',st',W.dz⟩;rcases Mf.mp mm with y|y
 . exact W.dz c hc (by rw[y];exact .inr (.inr (.inr rfl)))
 . exact Km W.hn W.st l' (by rw[<-LM.mp y];exact hc)
def X5.store (W:X5 w CH CT CR CS H z zt sa p n m rs un tk) {b:Bool}(st':StT w CS H' sa m' rs') (kp:Kp [sa.l b,sa.hd] H H'):X5 w CH CT CR CS H' z zt sa p n m' rs' un tk:=by
 have hx:∀ c∈[sa.l b,sa.hd],(∃ ys,H c=f' (.lst ys))\/∃ ee:List MA × Nat,H c=f' (qf c ee.1 ee.2):=λc hc=>by
  obtain⟨M,r,S,_⟩:=W.st;rcases Mf.mp hc with y|y
  . obtain⟨ts,e,_⟩:=S.rw b;exact .inl ⟨ts,by rw[y];exact e⟩
  . obtain⟨ee,e⟩:=S.me.there;exact .inr ⟨ee,by rw[LM.mp y];exact e⟩
 exact⟨W.hn.lists kp hx,W.tn.lists kp hx,st',W.dz⟩
end
def DV2 {H:Hp}{c:D'}{x y:Int}(h:H c=f' (.tup [.int x,.int y])):DV H (.tuple [.int x,.int y]) (.ref c):=⟨c,_,rfl,h,_,_,rfl,rfl,_,_,rfl,rfl,rfl⟩
theorem iL {H:Hp}:∀ {ds:List LO}{ts:List V},DVs H ds ts->ts.length=ds.length
|[],_,h=>by cases h;rfl
|d :: ds,_,⟨v,r,h,h1,h2⟩=>by subst h;rw[Mw,Mw,iL h2]
inductive Bd where
|up|lies|asleep
instance:DecidableEq Bd:=λa b=>by
 cases a<;>cases b<;>first|exact isTrue rfl|exact isFalse (λh=>by cases h)
def Bd.key:Bd->Str
|.up=>"up"
|.lies=>"lies"
|.asleep=>"asleep"
def HP {a b:Bd}(h:a.key=b.key):a=b:=by
 cases a<;>cases b<;>first|rfl|exact absurd h (by decide +kernel)
structure YP where
 p:RP
 n:Nat
 fb:Bool
 fl:Bool
 fk:Bool
structure YP.Ok (q:YP):Prop where
 ok:q.p.Ok
 n9:q.n <= 9
structure YA where
 y:D'
 ft:D'
 sa:SA
 z:HA
 zt:TA'
 sl:D'
 qu:D'
 hp:D'
structure YS where
 m:Mem
 rs:Bool->List Wr
 un:List Int
 tk:List Int
 bd:Bool->Bd
 qt:Bool->Bool
 hs:List LO
def YS.zero:YS:=⟨Mem.zero,λ_=>[],[],[],λ_=>.up,λ_=>l',[]⟩
def yF (a:YA) (q:YP):List (Str × V):=bj "happened" (.ref a.hp) (bj "quiet" (.ref a.qu) (bj "sleepers" (.ref a.sl) (bj "look_sees" (.bl q.fk) (bj "lie_fences" (.bl q.fl) (bj "bell_fences" (.bl q.fb) (bj "heart" (.ref a.zt.h) (bj "hand" (.ref a.z.h) (bj "shelf" (.ref a.sa.x) (bj "faults" (.ref a.ft) (bj "rounds" (.int q.p.R) (bj "size" (.int q.p.s) [])))))))))))
section
variable {a:YA}{q:YP}
def FU:(yF a q).lookup ("size":Str)=f' (.int q.p.s):=by unfold yF;repeat (first|rw[a9,SF rfl]|rw[a9,SG (by decide +kernel)]);try rfl
def BG:(yF a q).lookup ("rounds":Str)=f' (.int q.p.R):=by unfold yF;repeat (first|rw[a9,SF rfl]|rw[a9,SG (by decide +kernel)]);try rfl
def gf:(yF a q).lookup ("shelf":Str)=f' (.ref a.sa.x):=by unfold yF;repeat (first|rw[a9,SF rfl]|rw[a9,SG (by decide +kernel)]);try rfl
def sX:(yF a q).lookup ("hand":Str)=f' (.ref a.z.h):=by unfold yF;repeat (first|rw[a9,SF rfl]|rw[a9,SG (by decide +kernel)]);try rfl
def om:(yF a q).lookup ("heart":Str)=f' (.ref a.zt.h):=by unfold yF;repeat (first|rw[a9,SF rfl]|rw[a9,SG (by decide +kernel)]);try rfl
def GK:(yF a q).lookup ("bell_fences":Str)=f' (.bl q.fb):=by unfold yF;repeat (first|rw[a9,SF rfl]|rw[a9,SG (by decide +kernel)]);try rfl
def I9:(yF a q).lookup ("lie_fences":Str)=f' (.bl q.fl):=by unfold yF;repeat (first|rw[a9,SF rfl]|rw[a9,SG (by decide +kernel)]);try rfl
def GQ:(yF a q).lookup ("look_sees":Str)=f' (.bl q.fk):=by unfold yF;repeat (first|rw[a9,SF rfl]|rw[a9,SG (by decide +kernel)]);try rfl
def cE:(yF a q).lookup ("sleepers":Str)=f' (.ref a.sl):=by unfold yF;repeat (first|rw[a9,SF rfl]|rw[a9,SG (by decide +kernel)]);try rfl
def oi:(yF a q).lookup ("quiet":Str)=f' (.ref a.qu):=by unfold yF;repeat (first|rw[a9,SF rfl]|rw[a9,SG (by decide +kernel)]);try rfl
def jm:(yF a q).lookup ("happened":Str)=f' (.ref a.hp):=by unfold yF;repeat (first|rw[a9,SF rfl]|rw[a9,SG (by decide +kernel)]);try rfl
def iu {f:Str}(h:f ∉ (["size","rounds","faults","shelf","hand","heart","bell_fences","lie_fences","look_sees","sleepers","quiet","happened"]:List Str)):(yF a q).lookup f=LJ:=by
 simp only[Mf,MZ,or_false,not_or]at h;obtain⟨h1,h2,h3,h4,h5,h6,h7,h8,h9,h10,h11,h12⟩:=h;unfold yF;rw[a9,SG h12,a9,SG h11,a9,SG h10,a9,SG h9,a9,SG h8,a9,SG h7,a9,SG h6,a9,SG h5,a9,SG h4,a9,SG h3,a9,SG h2,a9,SG h1];rfl
end
def YA.lists (a:YA) (c:D'):Prop:=c=a.sl\/c=a.qu\/c=a.hp
def YA.own (a:YA) (c:D'):Prop:=c=a.y\/yG a.z a.zt a.sa c\/a.lists c
structure Yn (w:LZ) (CY CH CT CR CS:D') (H:Hp) (a:YA) (q:YP) (S:YS):Prop where
 ob:∃ dx,H a.y=f' (.ins CY dx (yF a q))
 x:X5 w CH CT CR CS H a.z a.zt a.sa q.p q.n S.m S.rs S.un S.tk
 sl:H a.sl=f' (.lst [.str (S.bd K').key,.str (S.bd l').key])
 qu:H a.qu=f' (.lst [.bl (S.qt K'),.bl (S.qt l')])
 hp:∃ ts,H a.hp=f' (.lst ts)/\DVs H S.hs ts
 fl:∀ d∈S.hs,flD d=l'
 d1:∀ c,a.lists c->¬ yG a.z a.zt a.sa c
 d2:a.sl≠a.qu/\a.sl≠a.hp/\a.qu≠a.hp
 d3:¬ yG a.z a.zt a.sa a.y
theorem DVs.fl {H H':Hp}(ht:∀ b vs,H b=f' (.tup vs)->H' b=f' (.tup vs)):∀ {ds:List LO}{vs:List V},(∀ d∈ds,flD d=l')->DVs H ds vs->DVs H' ds vs
|[],_,_,h=>h
|d :: ds,_,hf,⟨v,r,e,h1,h2⟩=>⟨v,r,e,DV.fl ht (hf d LY) h1,DVs.fl ht (λx hx=>hf x (Ma _ hx)) h2⟩
section
variable {w:LZ}{CY CH CT CR CS:D'}{H H':Hp}{a:YA}{q:YP}{S:YS}
theorem Yn.keep (Y:Yn w CY CH CT CR CS H a q S) (k:∀ c o,a.own c->H c=f' o->H' c=f' o) (ht:∀ b vs,H b=f' (.tup vs)->H' b=f' (.tup vs)):Yn w CY CH CT CR CS H' a q S:=by
 obtain⟨dx,hx⟩:=Y.ob;obtain⟨ts,h1,h2⟩:=Y.hp;exact⟨⟨dx,k _ _ (.inl rfl) hx⟩,Y.x.keep (λc o h=>k c o (.inr (.inl h))) ht,k _ _ (.inr (.inr (.inl rfl))) Y.sl,k _ _ (.inr (.inr (.inr (.inl rfl)))) Y.qu,⟨ts,k _ _ (.inr (.inr (.inr (.inr rfl)))) h1,DVs.fl ht Y.fl h2⟩,Y.fl,Y.d1,Y.d2,Y.d3⟩
def Yn.same (Y:Yn w CY CH CT CR CS H a q S) (s:aZ H H'):Yn w CY CH CT CR CS H' a q S:=Y.keep (λc o _=>s c o) λb vs=>s b _
def Yn.list (Y:Yn w CY CH CT CR CS H a q S) {c:D'}(h:a.lists c):∃ ys,H c=f' (.lst ys):=by
 rcases h with rfl|rfl|rfl
 . exact⟨_,Y.sl⟩
 . exact⟨_,Y.qu⟩
 . obtain⟨ts,e,_⟩:=Y.hp;exact⟨_,e⟩
theorem Yn.there (Y:Yn w CY CH CT CR CS H a q S) {c:D'}(h:a.own c):∃ o,H c=f' o/\∀ vs,o≠.tup vs:=by
 rcases h with rfl|h|h
 . obtain⟨dx,e⟩:=Y.ob;exact⟨_,e,λ_ z=>by cases z⟩
 . exact Y.x.there h
 . obtain⟨ys,e⟩:=Y.list h;exact⟨_,e,λ_ z=>by cases z⟩
def Yn.tups (Y:Yn w CY CH CT CR CS H a q S) {xs:List D'}(kp:Kp xs H H') (h:∀ c∈xs,a.own c):∀ b vs,H b=f' (.tup vs)->H' b=f' (.tup vs):=λb vs e=>kp b _ (λmm=>by
 obtain⟨o,e',nn⟩:=Y.there (h b mm);rw[e']at e;exact nn vs (Ms e)) e
def Yn.parts (Y:Yn w CY CH CT CR CS H a q S) {xs:List D'}{m:Mem}{rs:Bool->List Wr}{un tk:List Int}(X':X5 w CH CT CR CS H' a.z a.zt a.sa q.p q.n m rs un tk) (kp:Kp xs H H') (h:∀ c∈xs,yG a.z a.zt a.sa c):Yn w CY CH CT CR CS H' a q { S with m:=m,rs:=rs,un:=un,tk:=tk }:=by
 have ht:=Y.tups kp λc hc=>.inr (.inl (h c hc))
 obtain⟨dx,hx⟩:=Y.ob;obtain⟨ts,h1,h2⟩:=Y.hp;have ls:∀ c o,a.lists c->H c=f' o->H' c=f' o:=λc o hc e=>kp c o (λmm=>Y.d1 c hc (h c mm)) e
 exact⟨⟨dx,kp _ _ (λmm=>Y.d3 (h _ mm)) hx⟩,X',ls _ _ (.inl rfl) Y.sl,ls _ _ (.inr (.inl rfl)) Y.qu,⟨ts,ls _ _ (.inr (.inr rfl)) h1,DVs.fl ht Y.fl h2⟩,Y.fl,Y.d1,Y.d2,Y.d3⟩
def Yn.lst_tups (Y:Yn w CY CH CT CR CS H a q S) {c:D'}(hc:a.lists c) (o:HO):∀ b vs,H b=f' (.tup vs)->upd H c o b=f' (.tup vs):=λb vs e=>by
 obtain⟨ys,e'⟩:=Y.list hc;rw[ac (λy=>by rw[y,e']at e;cases e)];exact e
def Yn.lst_own (Y:Yn w CY CH CT CR CS H a q S) {c:D'}(hc:a.lists c) (o:HO):∀ b u,yG a.z a.zt a.sa b->H b=f' u->upd H c o b=f' u:=λb u hb e=>by
 rw[ac (λy=>Y.d1 c hc (by rw[<-y];exact hb))];exact e
def Yn.lst_y (Y:Yn w CY CH CT CR CS H a q S) {c:D'}(hc:a.lists c) (o:HO):∃ dx,upd H c o a.y=f' (.ins CY dx (yF a q)):=by
 obtain⟨dx,hx⟩:=Y.ob;obtain⟨ys,e'⟩:=Y.list hc;exact⟨dx,by rw[ac (λy=>by rw[y,e']at hx;cases hx)];exact hx⟩
def Yn.setSl (Y:Yn w CY CH CT CR CS H a q S) (b:Bool) (x:Bd) {ys:List V}(h:ys=[.str (setR S.bd b x K').key,.str (setR S.bd b x l').key]):Yn w CY CH CT CR CS (upd H a.sl (.lst ys)) a q { S with bd:=setR S.bd b x }:=by
 have hc:a.lists a.sl:=.inl rfl;obtain⟨ts,h1,h2⟩:=Y.hp;have ht:=Y.lst_tups hc (.lst ys);exact⟨Y.lst_y hc _,Y.x.keep (Y.lst_own hc _) ht,by rw[a8,h],by rw[ac (NA Y.d2.1)];exact Y.qu,⟨ts,by rw[ac (NA Y.d2.2.1)];exact h1,DVs.fl ht Y.fl h2⟩,Y.fl,Y.d1,Y.d2,Y.d3⟩
def Yn.setQu (Y:Yn w CY CH CT CR CS H a q S) (b x:Bool) {ys:List V}(h:ys=[.bl (setR S.qt b x K'),.bl (setR S.qt b x l')]):Yn w CY CH CT CR CS (upd H a.qu (.lst ys)) a q { S with qt:=setR S.qt b x }:=by
 have hc:a.lists a.qu:=.inr (.inl rfl);obtain⟨ts,h1,h2⟩:=Y.hp;have ht:=Y.lst_tups hc (.lst ys);exact⟨Y.lst_y hc _,Y.x.keep (Y.lst_own hc _) ht,by rw[ac Y.d2.1];exact Y.sl,by rw[a8,h],⟨ts,by rw[ac (NA Y.d2.2.2)];exact h1,DVs.fl ht Y.fl h2⟩,Y.fl,Y.d1,Y.d2,Y.d3⟩
def Yn.setHp (Y:Yn w CY CH CT CR CS H a q S) {x:LO}{v:V}{ts:List V}(hts:H a.hp=f' (.lst ts)) (hv:DV H x v) (hx:flD x=l'):Yn w CY CH CT CR CS (upd H a.hp (.lst (ts++[v]))) a q { S with hs:=S.hs++[x] }:=by
 have hc:a.lists a.hp:=.inr (.inr rfl);obtain⟨ts',h1,h2⟩:=Y.hp;rw[hts]at h1;cases h1;have ht:=Y.lst_tups hc (.lst (ts++[v]));have hf:∀ d∈S.hs++[x],flD d=l':=λd hd=>by
  rcases Np.mp hd with h|h
  . exact Y.fl d h
  . rw[LM.mp h];exact hx
 exact⟨Y.lst_y hc _,Y.x.keep (Y.lst_own hc _) ht,by rw[ac Y.d2.2.1];exact Y.sl,by rw[ac Y.d2.2.2];exact Y.qu,⟨_,a8,DVs.fl ht hf (DVs.snoc h2 hv)⟩,hf,Y.d1,Y.d2,Y.d3⟩
end
inductive Dd where
|ask (wt:Int)|collect|take|answer (nm wt:Int)|bell (b:Bool)|lie (b:Bool)|look (b:Bool)|drain (b:Bool)
def Dd.vs:Dd->List V
|.ask wt=>[.str "ask",.int wt]
|.collect=>[.str "collect"]
|.take=>[.str "take"]
|.answer nm wt=>[.str "answer",.int nm,.int wt]
|.bell b=>[.str "bell",.int (sdI b)]
|.lie b=>[.str "lie",.int (sdI b)]
|.look b=>[.str "look",.int (sdI b)]
|.drain b=>[.str "drain",.int (sdI b)]
def Dd.Ok:Dd->Prop
|.ask wt=>-1000000000 <= wt/\wt <= 1000000000
|.answer _ wt=>-1000000000 <= wt/\wt <= 1000000000
|_=>True
inductive Rf where
|deed|full|name|task
def Dd.chk (q:YP) (S:YS):Dd->Option Rf
|.drain b=>if S.rs b=[] then f' .deed else LJ
|.look b=>if S.bd b=.lies then LJ else f' .deed
|.bell b=>if S.bd b=.up then LJ else f' .deed
|.lie b=>if S.bd b=.up then LJ else f' .deed
|.collect=>if S.bd K'=.up then LJ else f' .deed
|.take=>if S.bd l'=.up then LJ else f' .deed
|.ask _=>if S.bd K'=.up then (if bC q.p S.m (S.rs K') .asked .taken=q.p.s then f' .full else match fE q.n S.un with|none=>f' .name|some _=>LJ) else f' .deed
|.answer nm _=>if S.bd l'=.up then (if S.tk.contains nm=K' then f' .task else if bC q.p S.m (S.rs l') .answered .handed=q.p.s then f' .full else LJ) else f' .deed
section
variable {K:LN}
def Kg:Og K (.type "int") (.type "int")=f' l':=by rfl
def Hk:Og K (.type "int") (.type "bool")=f' K':=by rfl
def AT:Og K (.type "str") (.type "str")=f' l':=by rfl
end
def gT (x:Int) (k:Str):Bool:=if k="worth" then decide (-1000000000 <= x) && decide (x <= 1000000000) else if k="side" then decide (x=0) || decide (x=1) else l'
def Dd.word:Dd->Str
|.ask _=>"ask"
|.collect=>"collect"
|.take=>"take"
|.answer _ _=>"answer"
|.bell _=>"bell"
|.lie _=>"lie"
|.look _=>"look"
|.drain _=>"drain"
def Dd.args:Dd->List Int
|.ask wt=>[wt]
|.collect=>[]
|.take=>[]
|.answer nm wt=>[nm,wt]
|.bell b=>[sdI b]
|.lie b=>[sdI b]
|.look b=>[sdI b]
|.drain b=>[sdI b]
def Dd.ks:Dd->List Str
|.ask _=>["worth"]
|.collect=>[]
|.take=>[]
|.answer _ _=>["name","worth"]
|_=>["side"]
def Dd.side:Dd->Bool
|.ask _=>K'
|.collect=>K'
|.take=>l'
|.answer _ _=>l'
|.bell b=>b
|.lie b=>b
|.look b=>b
|.drain b=>b
def Dd.vs_eq (x:Dd):x.vs=.str x.word :: x.args.map V.int:=by cases x<;>rfl
def Dd.len (x:Dd):x.args.length=x.ks.length/\x.args.length <= 2:=by cases x<;>exact⟨rfl,by simp[Dd.args]⟩
def oG (b:Bool):gT (sdI b) "side"=l':=by cases b<;>decide +kernel
def Dd.part {x:Dd}(h:x.Ok):∀ (i:Nat) (y:Int) (k:Str),x.args[i]?=f' y->x.ks[i]?=f' k->gT y k=l':=by
 intro i y k hy hk;have wk:∀ {wt:Int},(-1000000000 <= wt/\wt <= 1000000000)->gT wt "worth"=l':=λ{wt} h=>by
  unfold gT;rw[SF rfl,SI h.1,SI h.2];rfl
 have nmk:∀ {nm:Int},gT nm "name"=l':=λ{nm}=>by
  unfold gT;rw[SG (by decide +kernel),SG (by decide +kernel)]
 cases x with
|ask wt =>
  match i,hy,hk with
 |0,hy,hk=>cases hy;cases hk;exact wk h
 |_+1,hy,_=>cases hy
|collect=>cases hy
|take=>cases hy
|answer nm wt =>
  match i,hy,hk with
 |0,hy,hk=>cases hy;cases hk;exact nmk
 |1,hy,hk=>cases hy;cases hk;exact wk h
 |_+2,hy,_=>cases hy
|bell b =>
  match i,hy,hk with
 |0,hy,hk=>cases hy;cases hk;exact oG b
 |_+1,hy,_=>cases hy
|lie b =>
  match i,hy,hk with
 |0,hy,hk=>cases hy;cases hk;exact oG b
 |_+1,hy,_=>cases hy
|look b =>
  match i,hy,hk with
 |0,hy,hk=>cases hy;cases hk;exact oG b
 |_+1,hy,_=>cases hy
|drain b =>
  match i,hy,hk with
 |0,hy,hk=>cases hy;cases hk;exact oG b
 |_+1,hy,_=>cases hy
def dQ (xs:List V) (k:Nat):gM xs (f' (k:Int)) LJ=xs.drop k:=by
 unfold gM;rw[HT.sIx_nat,show HT.sIx xs.length xs.length LJ=xs.length from rfl];by_cases h:k <= xs.length
 . rw[min_eq_left h,NO (by rw[length_drop];exact LS _)]
 . rw[Nat.min_eq_right (by omega),drop_of_length_le (LS _),drop_of_length_le (by omega),take_nil]
end L2
namespace L2
def Dd.grp (x:Dd):((x.word="ask"\/x.word="collect")/\x.side=K')\/((x.word="take"\/x.word="answer")/\x.side=l')\/((x.word="bell"\/x.word="lie"\/x.word="look"\/x.word="drain")/\x.args=[sdI x.side]):=by
 cases x
 . exact .inl ⟨.inl rfl,rfl⟩
 . exact .inl ⟨.inr rfl,rfl⟩
 . exact .inr (.inl ⟨.inl rfl,rfl⟩)
 . exact .inr (.inl ⟨.inr rfl,rfl⟩)
 . exact .inr (.inr ⟨.inl rfl,rfl⟩)
 . exact .inr (.inr ⟨.inr (.inl rfl),rfl⟩)
 . exact .inr (.inr ⟨.inr (.inr (.inl rfl)),rfl⟩)
 . exact .inr (.inr ⟨.inr (.inr (.inr rfl)),rfl⟩)
end L2
namespace L2
open PySem
def Dd.need:Dd->Bd
|.look _=>.lies
|_=>.up
def Dd.chk_bed {q:YP}{S:YS}{x:Dd}(hd:∀ b,x≠.drain b) (h:S.bd x.side≠x.need):x.chk q S=f' .deed:=by
 cases x
 . exact SG h
 . exact SG h
 . exact SG h
 . exact SG h
 . exact SG h
 . exact SG h
 . exact SG h
 . exact absurd rfl (hd _)
def Dd.word_drain (x:Dd):x.word="drain" ↔ ∃ b,x=.drain b:=by
 constructor
 . intro h;cases x with
  |drain b=>exact⟨b,rfl⟩
  |ask wt=>exact absurd (show ("ask":Str)="drain" from h) (by decide +kernel)
  |collect=>exact absurd (show ("collect":Str)="drain" from h) (by decide +kernel)
  |take=>exact absurd (show ("take":Str)="drain" from h) (by decide +kernel)
  |answer nm wt=>exact absurd (show ("answer":Str)="drain" from h) (by decide +kernel)
  |bell b=>exact absurd (show ("bell":Str)="drain" from h) (by decide +kernel)
  |lie b=>exact absurd (show ("lie":Str)="drain" from h) (by decide +kernel)
  |look b=>exact absurd (show ("look":Str)="drain" from h) (by decide +kernel)
 . rintro⟨b,rfl⟩;rfl
def Dd.word_look (x:Dd):(x.word="look"/\x.need=.lies/\∃ b,x=.look b)\/(x.word≠"look"/\x.need=.up):=by
 cases x with
|look b=>exact .inl ⟨rfl,rfl,b,rfl⟩
|ask wt=>exact .inr ⟨show ¬ ("ask":Str)="look" by decide +kernel,rfl⟩
|collect=>exact .inr ⟨show ¬ ("collect":Str)="look" by decide +kernel,rfl⟩
|take=>exact .inr ⟨show ¬ ("take":Str)="look" by decide +kernel,rfl⟩
|answer nm wt=>exact .inr ⟨show ¬ ("answer":Str)="look" by decide +kernel,rfl⟩
|bell b=>exact .inr ⟨show ¬ ("bell":Str)="look" by decide +kernel,rfl⟩
|lie b=>exact .inr ⟨show ¬ ("lie":Str)="look" by decide +kernel,rfl⟩
|drain b=>exact .inr ⟨show ¬ ("drain":Str)="look" by decide +kernel,rfl⟩
def Dd.word_aa (x:Dd):(∃ wt,x=.ask wt)\/(∃ nm wt,x=.answer nm wt)\/(x.word≠"ask"/\x.word≠"answer"/\∀ (q:YP) (S:YS),(∀ b,x≠.drain b)->S.bd x.side=x.need->x.chk q S=LJ):=by
 cases x with
|ask wt=>exact .inl ⟨_,rfl⟩
|answer nm wt=>exact .inr (.inl ⟨_,_,rfl⟩)
|collect=>exact .inr (.inr ⟨show ¬ ("collect":Str)="ask" by decide +kernel,show ¬ ("collect":Str)="answer" by decide +kernel,λq S _ h=>SF h⟩)
|take=>exact .inr (.inr ⟨show ¬ ("take":Str)="ask" by decide +kernel,show ¬ ("take":Str)="answer" by decide +kernel,λq S _ h=>SF h⟩)
|bell b=>exact .inr (.inr ⟨show ¬ ("bell":Str)="ask" by decide +kernel,show ¬ ("bell":Str)="answer" by decide +kernel,λq S _ h=>SF h⟩)
|lie b=>exact .inr (.inr ⟨show ¬ ("lie":Str)="ask" by decide +kernel,show ¬ ("lie":Str)="answer" by decide +kernel,λq S _ h=>SF h⟩)
|look b=>exact .inr (.inr ⟨show ¬ ("look":Str)="ask" by decide +kernel,show ¬ ("look":Str)="answer" by decide +kernel,λq S _ h=>SF h⟩)
|drain b=>exact .inr (.inr ⟨show ¬ ("drain":Str)="ask" by decide +kernel,show ¬ ("drain":Str)="answer" by decide +kernel,λq S h _=>absurd rfl (h b)⟩)
def Gc {a b:Bd}(h:a≠b):V.str a.key≠V.str b.key:=λy=>h (HP (by injection y))
end L2
namespace L2
open PySem PySem.Spec PyProof.Rows
instance (a b:Str):Decidable (ltS a b):=inferInstanceAs (Decidable (a.cps.toList < b.cps.toList))
def mF:Bool->Cn
|false=>.hs
|true=>.ts
def Mem.putAllY (m:Mem) (row:List Wr):Mem:=row.foldl Mem.put m
def YS.fence (S:YS) (b:Bool):YS:={ S with m:=S.m.putAllY (S.rs b),rs:=setR S.rs b [] }
def YS.wr (S:YS) (b:Bool) (x:Wr):YS:={ S with rs:=setR S.rs b (S.rs b++[x]) }
def yQ (wd:Str) (x y:LO):LO:=.tuple [.str wd,x,y]
def swT (q:YP) (S:YS):Bool->Bool
|false=>decide (bC q.p S.m (S.rs K') .answered .handed≠0)
|true=>decide (bC q.p S.m (S.rs l') .asked .taken≠0)
def Dd.run (q:YP) (S:YS):Dd->LO × YS
|.ask wt=>match fE q.n S.un with
 |some nm=>(.int nm,{ S with rs:=setR S.rs K' (S.rs K'++BW q.p S.m (S.rs K') K' .asked nm wt),un:=S.un++[nm],qt:=setR S.qt K' K',hs:=S.hs++[yQ "asked" (.int nm) (.int wt)] })
 |none=>(.none,S)
|.collect=>if bC q.p S.m (S.rs K') .answered .handed=0 then (.none,S) else match rdP S.m (S.rs K') l' (rdC S.m (S.rs K') .handed % q.p.s) with
 |some nw=>(.tuple [.int nw.1,.int nw.2],{ S with rs:=setR S.rs K' (S.rs K'++[lW q.p S.m (S.rs K') .handed]),un:=S.un.filter (λk=>decide (k≠nw.1)),hs:=S.hs++[yQ "handed" (.int nw.1) (.int nw.2)] })
 |none=>(.tuple [.none,.none],{ S with rs:=setR S.rs K' (S.rs K'++[lW q.p S.m (S.rs K') .handed]),hs:=S.hs++[yQ "handed" .none .none] })
|.take=>if bC q.p S.m (S.rs l') .asked .taken=0 then (.none,S) else match rdP S.m (S.rs l') K' (rdC S.m (S.rs l') .taken % q.p.s) with
 |some nw=>(.tuple [.int nw.1,.int nw.2],{ S with rs:=setR S.rs l' (S.rs l'++[lW q.p S.m (S.rs l') .taken]),tk:=wI S.tk nw.1,hs:=S.hs++[yQ "taken" (.int nw.1) (.int nw.2)] })
 |none=>(.tuple [.none,.none],{ S with rs:=setR S.rs l' (S.rs l'++[lW q.p S.m (S.rs l') .taken]),hs:=S.hs++[yQ "taken" .none .none] })
|.answer nm wt=>(.none,{ S with rs:=setR S.rs l' (S.rs l'++BW q.p S.m (S.rs l') l' .answered nm wt),tk:=S.tk.filter (λk=>decide (k≠nm)),qt:=setR S.qt l' K',hs:=S.hs++[yQ "answered" (.int nm) (.int wt)] })
|.bell b =>
  let S1:=if q.fb then S.fence b else S
  let S2:={ S1 with qt:=setR S1.qt b l' }
  if rdC S2.m (S2.rs b) (mF (!b))≠1 then (.bool K',S2) else if S2.bd (!b)=.asleep then (.bool l',({ S2 with bd:=setR S2.bd (!b) .up }:YS).wr (!b) (.c (mF (!b)) 0)) else (.bool l',S2)
|.lie b =>
  let S1:=S.wr b (.c (mF b) 1);let S2:=if q.fl then S1.fence b else S1
  (.none,{ S2 with bd:=setR S2.bd b .lies })
|.look b=>if q.fk=l'/\swT q S b=l' then (.bool l',{ (S.wr b (.c (mF b) 0)) with bd:=setR S.bd b .up }) else (.bool K',{ S with bd:=setR S.bd b .asleep })
|.drain b=>match S.rs b with
 |x :: cx=>(.none,{ S with m:=S.m.put x,rs:=setR S.rs b cx })
 |[]=>(.none,S)
structure YI (q:YP) (S:YS) (L:Nat):Prop where
 und:Nms q.n S.un
 tkd:Nms 9 S.tk
 len:∀ b,(S.rs b).length <= L
 hl:S.hs.length <= L
theorem YI.zero (q:YP):YI q YS.zero 0:=⟨Nms.nil _,Nms.nil _,λ_=>LS _,LS _⟩
def YI.mono {q:YP}{S:YS}{L L':Nat}(h:YI q S L) (hl:L <= L'):YI q S L':=⟨h.und,h.tkd,λb=>MG (h.len b) hl,MG h.hl hl⟩
def FZ {own:D'->Prop}{H H':Hp}(ko:KO own H H') (h:∀ c,own c->∀ vs,H c≠f' (.tup vs)):∀ b vs,H b=f' (.tup vs)->H' b=f' (.tup vs):=λb vs e=>ko b _ (λz=>h b z vs e) e
section
variable {w:LZ}{CY CH CT CR CS:D'}{H H':Hp}{a:YA}{q:YP}{S:YS}
def Yn.ko (Y:Yn w CY CH CT CR CS H a q S) {own:D'->Prop}(ko:KO own H H') (hd:∀ c,own c->¬ a.own c) (hn:∀ c,own c->∀ vs,H c≠f' (.tup vs)):Yn w CY CH CT CR CS H' a q S :=
 Y.keep (λc o hc e=>ko c o (λz=>hd c z hc) e) (FZ ko hn)
def Yn.fresh (Y:Yn w CY CH CT CR CS H a q S) {c:D'}(h:H c=LJ):¬ a.own c:=λhc=>by
 obtain⟨o,e,_⟩:=Y.there hc;rw[e]at h;cases h
end
def wL {d:LO}(h:ue d):Mc d d=l':=PySem.SeqAt.eqv_refl d h.1
def FnOk.calmX {P:Mg}{w:LZ}{K:LN}{mg:Str->Option G'}{base:Mi}{k:Nat}{f:D'}{fd:LX}{ps:List Str}{sp:Sp}(F:FnOk P w K mg base CX0 k f fd ps sp):FnOk P w K mg base (CXv P w) k f fd ps sp :=
 ⟨F.len,λA outer s H args us vs Q E hr he hb hv hs=>codeAny_mono (F.run A outer s H args us vs Q E hr he hb hv hs) λr s' h=>by
  match r,h with
 |.ok (.ret u),h=>exact h
 |.error e,h=>exact h.elim⟩
def FnOk.or {P:Mg}{w:LZ}{K:LN}{mg:Str->Option G'}{base:Mi}{CX:CXT}{k:Nat}{f:D'}{fd:LX}{ps:List Str}{sp1 sp2:Sp}(F1:FnOk P w K mg base CX k f fd ps sp1) (F2:FnOk P w K mg base CX k f fd ps sp2):FnOk P w K mg base CX k f fd ps (λvs H Q E=>sp1 vs H Q E\/sp2 vs H Q E) :=
 ⟨λvs H Q E h=>h.elim (F1.len vs H Q E) (F2.len vs H Q E),λA outer s H args us vs Q E hr he hb hv hs=>hs.elim (F1.run A outer s H args us vs Q E hr he hb hv) (F2.run A outer s H args us vs Q E hr he hb hv)⟩
def inC (N:Int) (k:Cn) (i:Int):Prop:=k=.hs\/k=.ts\/(0 <= i/\i < N)
def Wr.In (N:Int):Wr->Prop
|.c k i=>inC N k i
|.p _ _ _ _=>True
section
variable {N:Int}{m:Mem}{rs:Bool->List Wr}{b:Bool}{x:Wr}{cx:List Wr}
end
def lkA:Bool->Cn
|false=>.answered
|true=>.asked
def lkB:Bool->Cn
|false=>.handed
|true=>.taken
section
variable {rs:Bool->List Wr}{b:Bool}
end
structure Ord where
 lt:Nat->Nat->Bool
 n:Nat
 tr:∀ a b c,lt a b=l'->lt b c=l'->lt a c=l'
 tot:∀ a b,a < n->b < n->a≠b->lt a b=K'->lt b a=l'
section
variable {O:Ord}
end
section
variable {prog:Mg}{w:LZ}{A:Mr}{E:G'->LK->Prop}{s:LK}
end
section
variable {X:Cx}
end
section
variable {K:LN}
end
section
variable {s R:Int}{n:Nat}{S:YS}{A B:List (Int × Int)}{T Hd:Nat}
end
abbrev Ev:=Cn × Int × Int
def th (k:Cn) (es:List Ev):List (Int × Int):=(es.filter λe=>decide (e.1=k)).map (·.2)
section
variable {s R:Int}{n:Nat}{S:YS}{es:List Ev}
end
section
variable {s R:Int}{n:Nat}{S:YS}{es:List Ev}
end
inductive Wd where
|asked|taken|answered|handed
instance:DecidableEq Wd:=λa b=>by
 cases a<;>cases b<;>first|exact isTrue rfl|exact isFalse (λh=>by cases h)
def Wd.key:Wd->Str
|.asked=>"asked"
|.taken=>"taken"
|.answered=>"answered"
|.handed=>"handed"
structure Hap where
 w:Wd
 n:Int
 o:Int
def thH (w:Wd) (hs:List Hap):List (Int × Int):=(hs.filter λh=>decide (h.w=w)).map λh=>(h.n,h.o)
def sT (w:Wd) (hs:List Hap) (h:Hap):thH w (hs++[h])=if h.w=w then thH w hs++[(h.n,h.o)] else thH w hs:=by
 unfold thH;rw[List.filter_append,NV];by_cases e:h.w=w
 . rw[SF e,Oa,SF (SI e)];rfl
 . rw[SG e,Oa,SG (by rw[decide_eq_false e];decide)];simp
def cnt (w:Wd) (x:Int) (hs:List Hap):Nat:=((thH w hs).filter λp=>decide (p.1=x)).length
def Dy (w:Wd) (x:Int) (hs:List Hap) (h:Hap):cnt w x (hs++[h])=cnt w x hs+if h.w=w/\h.n=x then 1 else 0:=by
 unfold cnt;rw[sT];by_cases e:h.w=w
 . rw[SF e,List.filter_append,LU];by_cases q:h.n=x
   . rw[SF ⟨e,q⟩,Oa,SF (SI q)];rfl
   . rw[SG (λz=>q z.2),Oa,SG (by rw[decide_eq_false q];decide)];rfl
 . rw[SG e,SG (λz=>e z.1)];rfl
def cZ {w' w:Wd}{hs:List Hap}{n o:Int}:thH w (hs++[⟨w',n,o⟩])=if w'=w then thH w hs++[(n,o)] else thH w hs:=sT w hs _
def Ja {w' w:Wd}{hs:List Hap}{n o x:Int}:cnt w x (hs++[⟨w',n,o⟩])=cnt w x hs+if w'=w/\n=x then 1 else 0:=Dy w x hs _
def jz {w' w:Wd}{hs:List Hap}{n o x:Int}(h:w'≠w):cnt w x (hs++[⟨w',n,o⟩])=cnt w x hs:=by rw[Ja,SG λz=>h z.1];rfl
def t7 {w:Wd}{hs:List Hap}{n o x:Int}:cnt w x (hs++[⟨w,n,o⟩])=cnt w x hs+if n=x then 1 else 0:=by rw[Ja];simp
def vP (ah:List Hap) (h:Hap):Bool:=match h.w with
|.asked=>decide (cnt .asked h.n ah=cnt .handed h.n ah)
|.answered=>decide (cnt .answered h.n ah < cnt .taken h.n ah)
|.taken=>decide (((thH .asked ah).drop (thH .taken ah).length).take 1=[(h.n,h.o)])
|.handed=>decide (((thH .answered ah).drop (thH .handed ah).length).take 1=[(h.n,h.o)])
structure JI (ah:List Hap) (un uh:List (Int × Int)) (go do':List Int):Prop where
 eu:un=(thH .asked ah).drop (thH .taken ah).length
 eh:uh=(thH .answered ah).drop (thH .handed ah).length
 lt:(thH .taken ah).length <= (thH .asked ah).length
 lh:(thH .handed ah).length <= (thH .answered ah).length
 pm:go.Perm (un.map (·.1)++(do'++uh.map (·.1)))
 nd:go.Nodup
 ca:∀ x,cnt .asked x ah=cnt .handed x ah+if x∈go then 1 else 0
 ct:∀ x,cnt .taken x ah=cnt .answered x ah+if x∈do' then 1 else 0
def JI.zero:JI [] [] [] [] []:=⟨rfl,rfl,LS _,LS _,Od.refl _,nodup_nil,λ_=>rfl,λ_=>rfl⟩
def Ha (un uh:List (Int × Int)) (go do':List Int) (h:Hap):Bool:=match h.w with
|.asked=>!go.contains h.n
|.answered=>do'.contains h.n
|.taken=>decide (un.take 1=[(h.n,h.o)])
|.handed=>decide (uh.take 1=[(h.n,h.o)])
section
variable {ah:List Hap}{un uh:List (Int × Int)}{go do':List Int}
def JI.fits (J:JI ah un uh go do') (h:Hap):Ha un uh go do' h=vP ah h:=by
 unfold Ha vP;cases h.w with
|asked =>
  show (!go.contains h.n)=decide _;rw[Nv,J.ca h.n];by_cases e:h.n∈go<;>simp[e]
|taken=>show decide _=decide _;rw[J.eu]
|answered =>
  show do'.contains h.n=decide _;rw[Nv,J.ct h.n];by_cases e:h.n∈do'<;>simp[e]
|handed=>show decide _=decide _;rw[J.eh]
def DW {α:Type}{xs:List α}{x:α}(h:xs.take 1=[x]):xs=x :: xs.drop 1:=by
 cases xs with
|nil=>cases h
|cons y ys=>have:[y]=[x]:=h;cases this;rfl
theorem JI.asked (J:JI ah un uh go do') {n o:Int}(h:n ∉ go):JI (ah++[⟨.asked,n,o⟩]) (un++[(n,o)]) uh (go++[n]) do':=by
 refine⟨?_,?_,?_,?_,?_,?_,λx=>?_,λx=>?_⟩
 . rw[cZ,cZ,SF rfl,SG (by decide),List.drop_append_of_le_length J.lt,<-J.eu]
 . rw[cZ,cZ,SG (by decide),SG (by decide)];exact J.eh
 . rw[cZ,cZ,SF rfl,SG (by decide),LU];have:=J.lt;omega
 . rw[cZ,cZ,SG (by decide),SG (by decide)];exact J.lh
 . refine(Oe [n] J.pm).trans ?_;rw[NV,MU (un.map (·.1)),MU (un.map (·.1))];exact N9 _ List.perm_append_comm
 . exact NS.mpr ⟨J.nd,by simp,λa ha b hb e=>h (by rw[LM.mp hb]at e;exact e ▸ ha)⟩
 . rw[t7,jz (by decide),J.ca x];by_cases e:n=x
   . subst e;simp[h]
   . have e':¬ x=n:=λz=>e z.symm
     simp[e,e']
 . rw[jz (by decide),jz (by decide),J.ct x]
theorem JI.taken (J:JI ah un uh go do') {n o:Int}(h:un.take 1=[(n,o)]):JI (ah++[⟨.taken,n,o⟩]) (un.drop 1) uh go (do'++[n])/\n ∉ do':=by
 have e1:=DW h;have pm:=J.pm;rw[e1,Nn,List.cons_append]at pm;have hn:n ∉ do':=λy=>(NW.mp (pm.nodup_iff.mp J.nd)).1 (Np.mpr (.inr (Np.mpr (.inl y))))
 have lt:(thH .taken ah).length < (thH .asked ah).length:=by
  have:=congrArg N7 (J.eu.symm.trans e1);rw[length_drop,Mw]at this;omega
 refine⟨⟨?_,?_,?_,?_,?_,J.nd,λx=>?_,λx=>?_⟩,hn⟩
 . rw[cZ,cZ,SF rfl,SG (by decide),LU,J.eu,List.drop_drop];rfl
 . rw[cZ,cZ,SG (by decide),SG (by decide)];exact J.eh
 . rw[cZ,cZ,SF rfl,SG (by decide),LU];exact lt
 . rw[cZ,cZ,SG (by decide),SG (by decide)];exact J.lh
 . refine pm.trans ?_;rw[MU do'];show (n :: (List.map (·.1) (un.drop 1)++(do'++uh.map (·.1)))).Perm _;refine Od.trans ?_ (N9 _ (List.perm_append_comm_assoc do' [n] _).symm);exact(List.perm_middle (a:=n)).symm
 . rw[jz (by decide),jz (by decide),J.ca x]
 . rw[t7,jz (by decide),J.ct x];by_cases e:n=x
   . subst e;simp[hn]
   . have e':¬ x=n:=λz=>e z.symm
     simp[e,e']
theorem JI.answered (J:JI ah un uh go do') {n o:Int}(h:n∈do'):JI (ah++[⟨.answered,n,o⟩]) un (uh++[(n,o)]) go (do'.erase n):=by
 have ndo:do'.Nodup:=(NS.mp (NS.mp (J.pm.nodup_iff.mp J.nd)).2.1).1;refine⟨?_,?_,?_,?_,?_,J.nd,λx=>?_,λx=>?_⟩
 . rw[cZ,cZ,SG (by decide),SG (by decide)];exact J.eu
 . rw[cZ,cZ,SF rfl,SG (by decide),List.drop_append_of_le_length J.lh,<-J.eh]
 . rw[cZ,cZ,SG (by decide),SG (by decide)];exact J.lt
 . rw[cZ,cZ,SF rfl,SG (by decide),LU];have:=J.lh;omega
 . refine J.pm.trans (N9 _ ?_);rw[NV];refine(Oe _ (List.perm_cons_erase h)).trans ?_;rw[List.cons_append,<-MU];exact(List.perm_append_singleton n _).symm
 . rw[jz (by decide),jz (by decide),J.ca x]
 . rw[jz (by decide),t7,J.ct x];by_cases e:n=x
   . subst e;simp[h,Nodup.mem_erase_iff ndo]
   . have e':¬ x=n:=λz=>e z.symm
     simp[e,e',Nodup.mem_erase_iff ndo]
theorem JI.handed (J:JI ah un uh go do') {n o:Int}(h:uh.take 1=[(n,o)]):JI (ah++[⟨.handed,n,o⟩]) un (uh.drop 1) (go.erase n) do'/\n∈go:=by
 have e1:=DW h;have pm:=J.pm;rw[e1,Nn]at pm;have hn:n∈go:=pm.mem_iff.mpr (Np.mpr (.inr (Np.mpr (.inr LY))));have lt:(thH .handed ah).length < (thH .answered ah).length:=by
  have:=congrArg N7 (J.eh.symm.trans e1);rw[length_drop,Mw]at this;omega
 refine⟨⟨?_,?_,?_,?_,?_,J.nd.erase n,λx=>?_,λx=>?_⟩,hn⟩
 . rw[cZ,cZ,SG (by decide),SG (by decide)];exact J.eu
 . rw[cZ,cZ,SF rfl,SG (by decide),LU,J.eh,List.drop_drop];rfl
 . rw[cZ,cZ,SG (by decide),SG (by decide)];exact J.lt
 . rw[cZ,cZ,SF rfl,SG (by decide),LU];exact lt
 . have p2:go.Perm (n :: (un.map (·.1)++(do'++(uh.drop 1).map (·.1)))):=by
    refine pm.trans ?_;rw[<-MU,<-MU];exact List.perm_middle
   have p3:=p2.erase n;rw[List.erase_cons_head]at p3;exact p3
 . rw[jz (by decide),t7,J.ca x];by_cases e:n=x
   . subst e;simp[hn,Nodup.mem_erase_iff J.nd]
   . have e':¬ x=n:=λz=>e z.symm
     simp[e,e',Nodup.mem_erase_iff J.nd]
 . rw[jz (by decide),jz (by decide),J.ct x]
def JI.ndo (J:JI ah un uh go do'):do'.Nodup:=(NS.mp (NS.mp (J.pm.nodup_iff.mp J.nd)).2.1).1
def JI.lens (J:JI ah un uh go do'):un.length <= ah.length/\uh.length <= ah.length/\go.length <= un.length+(do'.length+uh.length)/\do'.length <= ah.length:=by
 have l1:∀ w,(thH w ah).length <= ah.length:=λw=>by unfold thH;rw[Md];exact List.length_filter_le _ _
 have h1:=l1 .asked;have h2:=l1 .answered;have q1:=congrArg N7 J.eu;have q2:=congrArg N7 J.eh;rw[length_drop]at q1 q2;have q3:=J.pm.length_eq;rw[LU,LU,Md,Md]at q3;have q4:do'.length <= (thH .taken ah).length:=by
  have hsub:∀ x∈do',x∈(thH .taken ah).map (·.1):=λx hx=>by
   have:=J.ct x;rw[SF hx]at this;have h0:0 < cnt .taken x ah:=by omega
   unfold cnt at h0;obtain⟨p,hp⟩:=List.exists_mem_of_length_pos h0;obtain⟨hp1,hp2⟩:=Oh.mp hp;exact NK.mpr ⟨p,hp1,of_decide_eq_true hp2⟩
  have:=m4 J.ndo hsub;rw[Md]at this;exact this
 have h3:=l1 .taken;omega
end
def HV (H:Hp):Hap->V->Prop:=λh v=>∃ c,v=.ref c/\H c=f' (.tup [.str h.w.key,.int h.n,.int h.o])
def PV (H:Hp):Int × Int->V->Prop:=λp v=>∃ c,v=.ref c/\H c=f' (.tup [.int p.1,.int p.2])
def Kt (H H':Hp):Prop:=∀ b vs,H b=f' (.tup vs)->H' b=f' (.tup vs)
def HV.keep {H H':Hp}(ht:Kt H H') {h:Hap}{v:V}(q:HV H h v):HV H' h v:=by
 obtain⟨c,e,x⟩:=q;exact⟨c,e,ht _ _ x⟩
def PV.keep {H H':Hp}(ht:Kt H H') {p:Int × Int}{v:V}(q:PV H p v):PV H' p v:=by
 obtain⟨c,e,x⟩:=q;exact⟨c,e,ht _ _ x⟩
def aZ.kt {H H':Hp}(s:aZ H H'):Kt H H':=λb _=>s b _
def SV (H:Hp) (l:D') (hs:List Hap):Prop:=∃ ts,H l=f' (.lst ts)/\Mn (HV H) hs ts
def TL (H:Hp) (l:D') (ps:List (Int × Int)):Prop:=∃ ts,H l=f' (.lst ts)/\Mn (PV H) ps ts
theorem SV.keep {H H':Hp}{l:D'}{hs:List Hap}(h:SV H l hs) (k:∀ o,H l=f' o->H' l=f' o) (ht:Kt H H'):SV H' l hs:=by
 obtain⟨ts,e,p⟩:=h;exact⟨ts,k _ e,Paired.mapP p λ_ _ q=>q.keep ht⟩
theorem TL.keep {H H':Hp}{l:D'}{ps:List (Int × Int)}(h:TL H l ps) (k:∀ o,H l=f' o->H' l=f' o) (ht:Kt H H'):TL H' l ps:=by
 obtain⟨ts,e,p⟩:=h;exact⟨ts,k _ e,Paired.mapP p λ_ _ q=>q.keep ht⟩
def SV.same {H H':Hp}{l:D'}{hs:List Hap}(h:SV H l hs) (s:aZ H H'):SV H' l hs:=h.keep (λo=>s l o) s.kt
structure JA where
 j:D'
 u:D'
 h:D'
 g:D'
 d:D'
def jF (z:JA):List (Str × V):=bj "doing" (.ref z.d) (bj "going" (.ref z.g) (bj "unhanded" (.ref z.h) (bj "untaken" (.ref z.u) [])))
section
variable {z:JA}
def Jl:(jF z).lookup ("untaken":Str)=f' (.ref z.u):=by unfold jF;repeat (first|rw[a9,SF rfl]|rw[a9,SG (by decide +kernel)]);try rfl
def Ji:(jF z).lookup ("unhanded":Str)=f' (.ref z.h):=by unfold jF;repeat (first|rw[a9,SF rfl]|rw[a9,SG (by decide +kernel)]);try rfl
def Jr:(jF z).lookup ("going":Str)=f' (.ref z.g):=by unfold jF;repeat (first|rw[a9,SF rfl]|rw[a9,SG (by decide +kernel)]);try rfl
def K6:(jF z).lookup ("doing":Str)=f' (.ref z.d):=by unfold jF;repeat (first|rw[a9,SF rfl]|rw[a9,SG (by decide +kernel)]);try rfl
def B6:(jF z).lookup ("fits":Str)=LJ:=by unfold jF;repeat (first|rw[a9,SF rfl]|rw[a9,SG (by decide +kernel)]);try rfl
def Kk:(jF z).lookup ("go_on":Str)=LJ:=by unfold jF;repeat (first|rw[a9,SF rfl]|rw[a9,SG (by decide +kernel)]);try rfl
end
structure Jn (CJ:D') (H:Hp) (z:JA) (un uh:List (Int × Int)) (go do':List Int):Prop where
 ob:∃ dx,H z.j=f' (.ins CJ dx (jF z))
 u:TL H z.u un
 h:TL H z.h uh
 g:H z.g=f' (.dK (gK go))
 d:H z.d=f' (.dK (gK do'))
 nu:z.u≠z.h
 ng:z.g≠z.d
def JA.own (z:JA) (c:D'):Prop:=c=z.j\/c=z.u\/c=z.h\/c=z.g\/c=z.d
section
variable {CJ:D'}{H H':Hp}{z:JA}{un uh:List (Int × Int)}{go do':List Int}
theorem Jn.keep (J:Jn CJ H z un uh go do') (k:∀ c o,z.own c->H c=f' o->H' c=f' o) (ht:Kt H H'):Jn CJ H' z un uh go do':=by
 obtain⟨dx,hx⟩:=J.ob;exact⟨⟨dx,k _ _ (.inl rfl) hx⟩,J.u.keep (λo=>k _ o (.inr (.inl rfl))) ht,J.h.keep (λo=>k _ o (.inr (.inr (.inl rfl)))) ht,k _ _ (.inr (.inr (.inr (.inl rfl)))) J.g,k _ _ (.inr (.inr (.inr (.inr rfl)))) J.d,J.nu,J.ng⟩
def Jn.same (J:Jn CJ H z un uh go do') (s:aZ H H'):Jn CJ H' z un uh go do':=J.keep (λc o _=>s c o) s.kt
def iG {c x:D'}{o o':HO}(hx:H x=f' o') (h:H c=f' o) (hn:o≠o'):∀ q,upd H x q c=f' o:=λq=>by
 rw[ac λe=>by rw[e,hx]at h;exact hn (Ms h).symm];exact h
def iy {x:D'}{o':HO}(hx:H x=f' o') (hn:∀ vs,o'≠.tup vs) (q:HO):Kt H (upd H x q):=λb vs e=>iG hx e (λz=>hn vs z.symm) q
def TL.up {l x:D'}{ps:List (Int × Int)}{o':HO}(h:TL H l ps) (hx:H x=f' o') (hn:∀ vs,o'≠.tup vs) (nl:l≠x) (q:HO):TL (upd H x q) l ps :=
 h.keep (λo e=>by rw[ac nl];exact e) (iy hx hn q)
def Jn.setU (J:Jn CJ H z un uh go do') {un':List (Int × Int)}{ts:List V}(h:Mn (PV H) un' ts):Jn CJ (upd H z.u (.lst ts)) z un' uh go do':=by
 obtain⟨t0,e0,_⟩:=J.u;obtain⟨dx,hx⟩:=J.ob;have ht:=iy e0 (λ_ z=>by cases z) (.lst ts);exact⟨⟨dx,iG e0 hx (by intro z;cases z) _⟩,⟨ts,a8,Paired.mapP h λ_ _ q=>q.keep ht⟩,J.h.up e0 (λ_ z=>by cases z) J.nu.symm _,iG e0 J.g (by intro z;cases z) _,iG e0 J.d (by intro z;cases z) _,J.nu,J.ng⟩
def Jn.setH (J:Jn CJ H z un uh go do') {uh':List (Int × Int)}{ts:List V}(h:Mn (PV H) uh' ts):Jn CJ (upd H z.h (.lst ts)) z un uh' go do':=by
 obtain⟨t0,e0,_⟩:=J.h;obtain⟨dx,hx⟩:=J.ob;have ht:=iy e0 (λ_ z=>by cases z) (.lst ts);exact⟨⟨dx,iG e0 hx (by intro z;cases z) _⟩,J.u.up e0 (λ_ z=>by cases z) J.nu _,⟨ts,a8,Paired.mapP h λ_ _ q=>q.keep ht⟩,iG e0 J.g (by intro z;cases z) _,iG e0 J.d (by intro z;cases z) _,J.nu,J.ng⟩
def Jn.setG (J:Jn CJ H z un uh go do') {kv:List (Key × V)}{go2:List Int}(h:kv=gK go2):Jn CJ (upd H z.g (.dK kv)) z un uh go2 do':=by
 obtain⟨dx,hx⟩:=J.ob;have nl:∀ {l ps},TL H l ps->l≠z.g:=λ{l ps} ⟨ts,e,_⟩ y=>by rw[y,J.g]at e;cases e
 exact⟨⟨dx,iG J.g hx (by intro z;cases z) _⟩,J.u.up J.g (λ_ z=>by cases z) (nl J.u) _,J.h.up J.g (λ_ z=>by cases z) (nl J.h) _,by rw[a8,h],by rw[ac J.ng.symm];exact J.d,J.nu,J.ng⟩
def Jn.setD (J:Jn CJ H z un uh go do') {kv:List (Key × V)}{do2:List Int}(h:kv=gK do2):Jn CJ (upd H z.d (.dK kv)) z un uh go do2:=by
 obtain⟨dx,hx⟩:=J.ob;have nl:∀ {l ps},TL H l ps->l≠z.d:=λ{l ps} ⟨ts,e,_⟩ y=>by rw[y,J.d]at e;cases e
 exact⟨⟨dx,iG J.d hx (by intro z;cases z) _⟩,J.u.up J.d (λ_ z=>by cases z) (nl J.u) _,J.h.up J.d (λ_ z=>by cases z) (nl J.h) _,by rw[ac J.ng];exact J.g,by rw[a8,h],J.nu,J.ng⟩
end
def tO {H:Hp}{j x C dx:D'}{fs:List (Str × V)}{o:HO}{f:Str}(hj:H j=f' (.ins C dx fs)) (hx:H x=LJ) :
 upd (upd H x o) j (.ins C dx (bj f (.ref x) fs)) j=f' (.ins C dx (bj f (.ref x) fs))/\upd (upd H x o) j (.ins C dx (bj f (.ref x) fs)) x=f' o/\upd H x o j=f' (.ins C dx fs)/\(∀ c u,c≠j->H c=f' u->upd (upd H x o) j (.ins C dx (bj f (.ref x) fs)) c=f' u):=by
 have n1:x≠j:=λz=>by rw[z,hj]at hx;cases hx
 refine⟨a8,by rw[ac n1];exact a8,by rw[ac n1.symm];exact hj,λc u nc e=>?_⟩;rw[ac nc,ac (ae e hx)];exact e
def vO:Option Nat->V
|none=>.non
|some k=>.int (k:Int)
def pvD (p:Int × Int):LO:=.tuple [.int p.1,.int p.2]
theorem oP {H:Hp}:∀ {ps:List (Int × Int)}{ts:List V},Mn (PV H) ps ts->DVs H (ps.map pvD) ts
|_,_,.nil=>rfl
|_,_,.cons ⟨c,e,q⟩ t=>⟨_,_,rfl,⟨c,_,e,q,_,_,rfl,rfl,_,_,rfl,rfl,rfl⟩,oP t⟩
def IC (p:Int × Int):MX.kd (pvD p)=l':=rfl
def o9 (ds:List LO) (h:∀ d∈ds,MX.kd d=l'/\d.depth <= 9):ue (.list ds):=by
 obtain⟨h1,h2⟩:=rJ h;exact⟨h1,by show N0 _+1 <= 16;omega⟩
def rg (ps:List (Int × Int)):ue (.list (ps.map pvD)):=o9 _ λd hd=>by
 obtain⟨p,_,rfl⟩:=NK.mp hd;exact⟨rfl,by show 1 <= 9;decide⟩
theorem wc {α:Type}(f:α->LO) (h:∀ a,MX.kd (f a)=l'):∀ xs:List α,MX.kds (xs.map f)=l'
|[]=>rfl
|x :: xs=>by
  show (MX.kd (f x) && MX.kds (xs.map f))=l';rw[h x,wc f h xs];rfl
def Gf {p q:Int × Int}(h:pvD p=pvD q):p=q:=by
 injection h with this
 injection this with h1 h2
 injection h2 with h2 _
 injection h1 with h1
 injection h2 with h2
 exact Prod.ext h1 h2
def Bm (ps qs:List (Int × Int)):Mc (.list (ps.map pvD)) (.list (qs.map pvD))=decide (ps=qs):=by
 have e:=MX.eqvs_iff (ps.map pvD) (qs.map pvD) (wc pvD IC ps) (wc pvD IC qs);show Nl _ _=_;by_cases h:ps=qs
 . rw[SI h];exact e.mpr (by rw[h])
 . rw[decide_eq_false h];cases z:Nl (ps.map pvD) (qs.map pvD) with
  |false=>rfl
  |true=>exact absurd ((List.map_inj_right λ_ _ y=>Gf y).mp (e.mp z)) h
def pi (xs:List V) (k:Nat):gM xs LJ (f' (k:Int))=xs.take k:=by
 unfold gM;rw[HT.sIx_nat,show HT.sIx xs.length 0 LJ=0 from rfl,drop_zero,Nat.sub_zero];by_cases h:k <= xs.length
 . rw[min_eq_left h]
 . rw[Nat.min_eq_right (by omega),NO (LS _),NO (by omega)]
def oB (xs:List V) (j k:Nat):gM xs (f' (j:Int)) (f' (k:Int))=(xs.drop j).take (k - j):=by
 unfold gM;rw[HT.sIx_nat,HT.sIx_nat];by_cases h:j <= xs.length
 . rw[min_eq_left h];by_cases h2:k <= xs.length
   . rw[min_eq_left h2]
   . rw[Nat.min_eq_right (by omega),NO (by rw[length_drop];exact LS _),NO (by rw[length_drop];omega)]
 . have e1:min j xs.length=xs.length:=by omega
   rw[e1,drop_of_length_le (LS _),drop_of_length_le (show xs.length <= j by omega),take_nil,take_nil]
theorem gy {α β:Type}{F:α->β->Prop}:∀ {xs:List α}{ys:List β}(k:Nat),Mn F xs ys->Mn F (xs.take k) (ys.take k)
|_,_,0,_=>by rw[List.take_zero,List.take_zero];exact .nil
|_,_,_+1,.nil=>.nil
|_,_,k+1,.cons r t=>.cons r (gy k t)
theorem iY {α β:Type}{F:α->β->Prop}:∀ {xs:List α}{ys:List β}(k:Nat),Mn F xs ys->Mn F (xs.drop k) (ys.drop k)
|_,_,0,h=>by rw[drop_zero,drop_zero];exact h
|_,_,_+1,.nil=>.nil
|_,_,k+1,.cons _ t=>iY k t
def EA {α:Type}(xs:List α):xs.eraseIdx 0=xs.drop 1:=by cases xs<;>rfl
inductive L5 where
|st|la|ta|to|aw
instance:DecidableEq L5:=λa b=>by
 cases a<;>cases b<;>first|exact isTrue rfl|exact isFalse (λh=>by cases h)
section
variable {H H':Hp}{q:L5->D'}{hs:List Hap}{un uh:List (Int × Int)}{go do':List Int}
end
inductive Hx where
|h (x:Hap)
|n (b:Bool)
def Hx.w:Hx->Wd
|.h x=>x.w
|.n K'=>.handed
|.n l'=>.taken
def Hx.d1:Hx->LO
|.h x=>.int x.n
|.n _=>.none
def Hx.d2:Hx->LO
|.h x=>.int x.o
|.n _=>.none
def Hx.v1:Hx->V
|.h x=>.int x.n
|.n _=>.non
def Hx.v2:Hx->V
|.h x=>.int x.o
|.n _=>.non
def Hx.d (x:Hx):LO:=yQ x.w.key x.d1 x.d2
def XV (H:Hp):Hx->V->Prop:=λh v=>∃ c,v=.ref c/\H c=f' (.tup [.str h.w.key,h.v1,h.v2])
def SX (H:Hp) (l:D') (hs:List Hx):Prop:=∃ ts,H l=f' (.lst ts)/\Mn (XV H) hs ts
def XV.keep {H H':Hp}(ht:Kt H H') {h:Hx}{v:V}(q:XV H h v):XV H' h v:=by
 obtain⟨c,e,x⟩:=q;exact⟨c,e,ht _ _ x⟩
def SX.same {H H':Hp}{l:D'}{hs:List Hx}(h:SX H l hs) (s:aZ H H'):SX H' l hs:=by
 obtain⟨ts,e,p⟩:=h;exact⟨ts,s _ _ e,Paired.mapP p λ_ _ q=>q.keep s.kt⟩
theorem Ih {H:Hp}:∀ {hs:List Hx}{ts:List V},DVs H (hs.map Hx.d) ts->Mn (XV H) hs ts
|[],ts,h=>by
  have:ts=[]:=h;rw[this];exact .nil
|x :: hs,ts,h=>by
  obtain⟨v,r,rfl,h1,h2⟩:=h;obtain⟨t,vs,rfl,ht,v1,r1,rfl,d1,v2,r2,rfl,d2,v3,r3,rfl,d3,e3⟩:=h1;have e3':r3=[]:=e3;subst e3';have z1:v1=.str x.w.key:=d1;have z2:v2=x.v1:=by cases x<;>exact d2
  have z3:v3=x.v2:=by cases x<;>exact d3
  subst z1 z2 z3;exact .cons ⟨t,rfl,ht⟩ (Ih h2)
theorem HL {H:Hp}:∀ {A:List Hx}{ts:List V}{k:Nat}{y:V},Mn (XV H) A ts->ts[k]?=f' y->∃ h c,A[k]?=f' h/\y=.ref c/\H c=f' (.tup [.str h.w.key,h.v1,h.v2])
|_,_,_,_,.nil,h=>by cases h
|h :: _,_ :: _,0,_,.cons ⟨c,e,q⟩ _,hk=>by cases hk;exact⟨h,c,rfl,e,q⟩
|_ :: _,_ :: _,k+1,_,.cons _ t,hk=>HL (k:=k) t hk
theorem Ht {H:Hp}:∀ {hs:List Hap}{ts:List V},Mn (XV H) (hs.map Hx.h) ts->Mn (HV H) hs ts
|[],_,.nil=>.nil
|_ :: _,_,.cons ⟨c,e,q⟩ t=>.cons ⟨c,e,q⟩ (Ht t)
def jW:List Hap->List Hx->Option Nat
|_,[]=>LJ
|ah,.h x :: t=>if vP ah x=l' then jW (ah++[x]) t else f' ah.length
|ah,.n _ :: _=>f' ah.length
def rls:List Hx->List Hap
|[]=>[]
|.h x :: t=>x :: rls t
|.n _ :: t=>rls t
theorem um:∀ {hs:List Hx}{ah:List Hap},jW ah hs=LJ->hs=(rls hs).map .h
|[],_,_=>rfl
|.h x :: t,ah,h=>by
  have h':(if vP ah x=l' then jW (ah++[x]) t else f' ah.length)=LJ:=h;split at h'
  . show Hx.h x :: t=.h x :: (rls t).map .h;rw[<-um h']
  . cases h'
|.n _ :: _,_,h=>by cases h
def Be {hs:List Hx}{ah:List Hap}{i:Nat}{x:Hap}(hi:hs[i]?=f' (.h x)):jW ah (hs.drop i)=if vP ah x=l' then jW (ah++[x]) (hs.drop (i+1)) else f' ah.length:=by
 have hlt:i < hs.length:=(Mh.mp hi).1;rw[List.drop_eq_getElem_cons hlt,(Mh.mp hi).2];rfl
def zk {hs:List Hx}{ah:List Hap}{i:Nat}{b:Bool}(hi:hs[i]?=f' (.n b)):jW ah (hs.drop i)=f' ah.length:=by
 have hlt:i < hs.length:=(Mh.mp hi).1;rw[List.drop_eq_getElem_cons hlt,(Mh.mp hi).2];rfl
def Kf {hs:List Hx}{ah:List Hap}{i:Nat}{x:Hap}(hi:hs[i]?=f' (.h x)) (h:hs.take i=ah.map .h):hs.take (i+1)=(ah++[x]).map .h:=by
 rw[take_succ,hi,h,NV];rfl
def L3 {hs:List Hx}{ah:List Hap}{i:Nat}(hi:i <= hs.length) (h:hs.take i=ah.map .h):ah.length=i:=by
 have:=congrArg N7 h;rw[NN,Md]at this;omega
def lkW:Bool->Wd
|false=>.answered
|true=>.asked
def lkX:Bool->Wd
|false=>.handed
|true=>.taken
structure RA where
 ld:D'
 sn:D'
 l:Bool->D'
 ud:D'
 tk:D'
section
variable {H H':Hp}{z:RA}{ah ah':List Hap}{go do' go2 do2:List Int}
end
def Hg (q:YP) (S:YS) (b:Bool):Int:=(S.m.c (lkA b) - S.m.c (lkB b)) % (q.p.s * q.p.R)
def DY (q:YP) (S:YS) (hs:List Hap) (b:Bool):Bool:=decide (Hg q S b≠(((thH (lkW b) hs).length - (thH (lkX b) hs).length:Nat):Int))
def ovB (q:YP) (S:YS) (b:Bool):Bool:=decide (S.bd b=.asleep) && (S.qt (!b) && decide (Hg q S b≠0))
def Kb (q:YP) (S:YS) (hs:List Hx):Bool:=if jW [] hs=LJ then (if S.rs K'=[]/\S.rs l'=[] then (DY q S (rls hs) l' || (DY q S (rls hs) K' || (ovB q S K' || ovB q S l'))) else K') else l'
section
variable {q:YP}{S:YS}{hs:List Hx}
end
def Hv (t:Nc) (n:Nat):(t.orStandIn n).led=t.led:=by
 unfold Nc.orStandIn;split<;>rfl
def FK (t:Nc) (es:Array (Int × G')) (h:Int) (x:G'):(layNew t es h x).2.1.led=t.led:=by
 unfold layNew;split
 . exact Hv _ _
 . rfl
def zA {t t':Nc}{hs:Array Int}{n:Nat}{r:Array Nat}(e:t.relaid hs n=f' (t',r)):t'.led=t.led/\t'.plain=t.plain:=by
 unfold Nc.relaid Nc.laid at e;simp only[Option.bind_eq_bind,Option.bind_eq_some_iff]at e;obtain⟨_,_,e⟩:=e;cases e;exact⟨rfl,rfl⟩
def C0 (t:Nc) (es:Array (Int × G')) (n:Nat):(relayAll t es n).2.1.led=t.led/\(t.plain=K'->(relayAll t es n).2.1.plain=K'):=by
 unfold relayAll;split
 . rename_i t' r e;obtain⟨h1,h2⟩:=zA e;dsimp only;split
   . exact⟨h1,λh=>h2.trans h⟩
   . exact⟨rfl,λ_=>rfl⟩
 . exact⟨rfl,λ_=>rfl⟩
def tN (w:LZ) (h:Mi) (a:D') (ks:List Str) (led:Bool):Prop :=
 ∃ o es ep t,h.get? a=f' o/\o.ExactSet/\o.data=.set es ep t/\(∀ e∈es.toList,∃ k tk,e=(hashStr w k,.str k tk))/\(es.toList.map λe=>strOf e.2).Perm ks/\ks.Nodup/\es.size < scanBound/\t.fits es.size=l'/\t.led=led/\(0 < es.size->t.plain=K')
section
variable {prog:Mg}{w:LZ}{A:Mr}{E:G'->LK->Prop}{s:LK}{a:D'}{ks:List Str}{led:Bool}
def Jc {es:List (Int × G')}(h:∀ e∈es,∃ k tk,e=(hashStr w k,.str k tk)):ElemsOf (PySem.strKind prog w) es:=λe he=>by
 obtain⟨k,tk,rfl⟩:=h e he;exact⟨⟨k,strKind_is _ _ _ _,rfl⟩,rfl⟩
def tN.new (led:Bool) {h:Mi}:tN w (h.push { cls:=.type "set",dict:=LJ,data:=.set #[] 0 (.fresh 0 0 led) }) h.objs.size [] led :=
 ⟨_,#[],0,_,LW _ rfl,⟨rfl,rfl,rfl⟩,rfl,(λe he=>by simp at he),Od.refl _,nodup_nil,by decide,by rfl,rfl,(λh=>by simp at h)⟩
def qE (ks:List Str) (y:Str):List Str:=if y∈ks then ks else ks++[y]
def tN.store {h:Mi}{o:M6}{es:Array (Int × G')}{ep:Nat}{t:Nc}(ho:h.get? a=f' o) (hex:o.ExactSet) (hd:o.data=.set es ep t) {es':Array (Int × G')}{t':Nc}(hel:∀ e∈es'.toList,∃ k tk,e=(hashStr w k,.str k tk)) (hpm:(es'.toList.map λe=>strOf e.2).Perm ks) (hnd:ks.Nodup) (hb:es'.size < scanBound) (hf:t'.fits es'.size=l') (hl:t'.led=led) (hp:t'.plain=K') :
 (h.update a (M6.putSet es' t')).get? a=f' { o with data:=.set es' (ep+1) t' }/\tN w (h.update a (M6.putSet es' t')) a ks led:=by
 have hg:(h.update a (M6.putSet es' t')).get? a=f' { o with data:=.set es' (ep+1) t' }:=by
  have:=M3 (M6.putSet es' t') ho (by rw[putSet_of es' t' hd];rfl);rw[putSet_of es' t' hd]at this;exact this
 exact⟨hg,_,es',ep+1,t',hg,hex,rfl,hel,hpm,hnd,hb,hf,hl,λ_=>hp⟩
def yC {g:Bool->Sem Unit}(hg:∀ (b:Bool) (s₁:LK) (Q':Unit->LK->Prop),Q' () s₁->LV (model prog w) A (g b) Q' E s₁)
 {o:M6} {es:Array (Int × G')} {ep:Nat} {t:Nc} (ho:s.heap.get? a=f' o) (hex:o.ExactSet) (hd:o.data=.set es ep t)
 {e1:Array (Int × G')} {t2:Nc} (hel:∀ e∈e1.toList,∃ k tk,e=(hashStr w k,.str k tk)) (hpm:(e1.toList.map λe=>strOf e.2).Perm ks) (hnd:ks.Nodup) (hb:e1.size < scanBound) (hf:t2.fits e1.size=l') (hl:t2.led=led) (hp:t2.plain=K') {dm:Bool} {R:Option Bool->LK->Prop}
 (h:∀ h',MV a s.heap h'->tN w h' a ks led->R (f' l') { s with heap:=h' }) :
 LV (model prog w) A (do
  storeSet a e1 t2
  if (!dm && t2.tooFull)=l' then do
   g (relayAll t2 e1 (Nc.grown e1.size)).2.2
   storeSet a (relayAll t2 e1 (Nc.grown e1.size)).1 (relayAll t2 e1 (Nc.grown e1.size)).2.1
   pure (f' l')
   else pure (f' l')) R E s:=by
 refine j' (wpAny_storeSet_of ho hd ?_ (fits_of_scanBound hb));obtain⟨ho1,S1⟩:=tN.store (w:=w) (led:=led) ho hex hd hel hpm hnd hb hf hl hp;have sb:=ML s.heap a (M6.putSet e1 t2);split
 . have rp:=relayAll_perm t2 e1 (Nc.grown e1.size);have rf:=relayAll_fits t2 e1 (Nc.grown e1.size);have rl:=C0 t2 e1 (Nc.grown e1.size);generalize relayAll t2 e1 (Nc.grown e1.size)=Rl at rp rf rl |-;obtain⟨e2,t3,gv⟩:=Rl;dsimp only at rp rf rl |-;have hsz:e2.size=e1.size:=by rw[<-Mq,rp.length_eq,Mq]
   refine j' (hg _ _ _ (j' (wpAny_storeSet_of ho1 rfl ?_ (fits_of_scanBound (by rw[hsz];exact hb)))));obtain⟨_,S2⟩:=tN.store (w:=w) (led:=led) ho1 hex rfl (λe he=>hel e (rp.mem_iff.mp he)) ((rp.map _).trans hpm) hnd (by rw[hsz];exact hb) rf (rl.1.trans hl) (rl.2 hp);exact LL (h _ (sb.trans (ML _ a _)) S2)
 . exact LL (h _ sb S1)
def yP {y:Str}{tk:Tok}{Q:Bool->LK->Prop}(S:tN w s.heap a ks led) (hroom:ks.length+1 < scanBound)
 (h:∀ h' b,MV a s.heap h'->tN w h' a (qE ks y) led->Q b { s with heap:=h' }) :
 LV (model prog w) A (setAddHashed a (.str y tk) (hashStr w y)) Q E s:=by
 obtain⟨o,es,ep,t,ho,hex,hd,hel,hpm,hnd,hb,hf,hled,hpl⟩:=S;have hsz:es.size=ks.length:=by
  have:=hpm.length_eq;rw[Md,Mq]at this;exact this
 have helK:ElemsOf (PySem.strKind prog w) es.toList:=Jc hel;have hkey:(PySem.strKind prog w).is y (.str y tk)=l':=strKind_is _ _ _ _;unfold setAddHashed setAddHashedIn;refine MT (j' (N3 ho hd hf ?_));dsimp only;rw[byScan_of (knd:=PySem.strKind prog w) rfl hb helK];simp only[↓reduceIte];unfold setAddByScan;refine j' (j' (Nq (j' (wpAny_setScan_of (knd:=PySem.strKind prog w) hkey ho hd hf helK ?_))));have hmem:(∃ e∈es.toList,(PySem.strKind prog w).is y e.2=l') ↔ y∈ks:=by
  rw[<-hpm.mem_iff,NK];constructor
  . rintro⟨e,he,hq⟩;obtain⟨k,tk',rfl⟩:=hel e he;have hq':G'.isStrOf y (.str k tk')=l':=hq;obtain⟨u,hu⟩:=G'.isStrOf_shape hq';cases hu;exact⟨_,he,rfl⟩
  . rintro⟨e,he,hq⟩;obtain⟨k,tk',rfl⟩:=hel e he;have hk:k=y:=hq;subst hk;exact⟨_,he,strKind_is _ _ _ _⟩
 cases hr:List.findIdx? (λe=>(PySem.strKind prog w).is y e.2) es.toList with
|some j =>
  dsimp only;obtain⟨hj,hpj,_⟩:=List.findIdx?_eq_some_iff_getElem.mp hr;have hy:y∈ks:=hmem.mp ⟨_,getElem_mem hj,hpj⟩;refine LL (LL ?_);have hk:qE ks y=ks:=SF hy;exact h s.heap _ (MV.refl a s.heap) (by rw[hk];exact⟨o,es,ep,t,ho,hex,hd,hel,hpm,hnd,hb,hf,hled,hpl⟩)
|none =>
  dsimp only;have hy:y ∉ ks:=λz=>by
   obtain⟨e,he,hp⟩:=hmem.mpr z;have:=List.findIdx?_eq_none_iff.mp hr e he;rw[hp]at this;exact Bool.noConfusion this
  have hk:qE ks y=ks++[y]:=SG hy;rw[hk]at h;have hgw:∀ (b:Bool) {s₁:LK} {Q':Unit->LK->Prop},Q' () s₁->LV (model prog w) A (match b with|true=>rule "set.scan.the-table-gave-way"|false=>pure ()) Q' E s₁ :=
   λb s₁ Q' hq=>by cases b<;>first|exact LL hq|exact Nq hq
  have hperm:=layNew_perm t es (hashStr w y) (.str y tk);have hfits:=layNew_fits t es (hashStr w y) (.str y tk);have hll:=FK t es (hashStr w y) (.str y tk);show LV _ _ (let (es,t,wasDummy,gave):=layNew t es (hashStr w y) (.str y tk);_) _ _ _;generalize hL:layNew t es (hashStr w y) (.str y tk)=L at hperm hfits hll |-;obtain⟨es1,t1,wasDummy,gave⟩:=L;dsimp only at hperm hfits hll |-;have hpm1:(es1.toList.map λe=>strOf e.2).Perm (ks++[y]):=by
   refine(hperm.map _).trans ?_;rw[Array.toList_push,NV];exact Oe _ hpm
  have hnd1:(ks++[y]).Nodup:=NS.mpr ⟨hnd,by simp,λa ha b hb e=>hy (by rw[LM.mp hb]at e;exact e ▸ ha)⟩;have hel1:∀ e∈es1.toList,∃ k tk,e=(hashStr w k,.str k tk):=λe he=>by
   have:=hperm.mem_iff.mp he;rw[Array.toList_push]at this;rcases Np.mp this with z|z
   . exact hel e z
   . exact⟨y,tk,LM.mp z⟩
  have hb1:es1.size < scanBound:=by
   have:=hpm1.length_eq;rw[Md,Mq,LU]at this;rw[this];exact hroom
  refine j' (hgw _ ?_);split
  . refine j' ?_;rw[hashByValue_scannable 8 (x:=.str y tk) rfl];refine LL ?_;rw[show plainKind (.str y tk)=K' from rfl];simp only[Mz,↓reduceIte];refine yC ?_ ho hex hd hel1 hpm1 hnd1 hb1 (Nc.fits_plain_off hfits) (hll.trans hled) rfl ?_
    . intro b s₁ Q' hq;cases b<;>first|exact LL hq|exact Nq hq
    . intro h' hsb S';dsimp only;exact LL (h h' _ hsb S')
  . rename_i hp;refine j' (LL ?_);simp only[↓reduceIte];have hp':t1.plain=K':=by cases e:t1.plain with|false=>rfl|true=>exact absurd e hp
    refine yC ?_ ho hex hd hel1 hpm1 hnd1 hb1 hfits (hll.trans hled) hp' ?_
    . intro b s₁ Q' hq;cases b<;>first|exact LL hq|exact Nq hq
    . intro h' hsb S';dsimp only;exact LL (h h' _ hsb S')
end
def A3 (val:Nat->Str) (i:Nat):List Str:=(Ob i).foldl (λks j=>qE ks (val j)) []
def pU (val:Nat->Str) (i:Nat):A3 val (i+1)=qE (A3 val i) (val i):=by
 unfold A3;rw[List.range_succ,List.foldl_append];rfl
def Em (ks:List Str) (y:Str):(qE ks y).length <= ks.length+1:=by
 unfold qE;split
 . exact le_succ _
 . rw[LU];exact LS _
theorem t9 (val:Nat->Str):∀ i,(A3 val i).length <= i
|0=>LS _
|i+1=>by
  rw[pU];have:=Em (A3 val i) (val i);have:=t9 val i;omega
def oy (w:LZ):Bool:=w.params.followText "set-order"
def tN.at' {w:LZ}{h h':Mi}{a:D'}{ks:List Str}{led:Bool}(S:tN w h a ks led) (e:∀ o,h.get? a=f' o->h'.get? a=f' o):tN w h' a ks led:=by
 obtain⟨o,es,ep,t,ho,r⟩:=S;exact⟨o,es,ep,t,e _ ho,r⟩
section
variable {prog:Mg}{w:LZ}{A:Mr}{E:G'->LK->Prop}{s:LK}
def w6 (a:G') {Q₁:G'->LK->Prop}(h:Q₁ (.ref s.heap.objs.size) { s with heap:=s.heap.push { cls:=.type "set",dict:=LJ,data:=.set #[] 0 (.fresh 0 0 (!oy w)) } }) :
 codeAny (model prog w) A (.call (.builtin "set.__new__") ⟨[.type "set",a],[]⟩) (wants Q₁ E) s:=by
 refine codeAny_of_tree ?_;show LV _ A.in1 (do checkBuiltinCall "set.__new__" ⟨[.type "set",a],[]⟩;again (.builtin "set.__new__" ⟨[.type "set",a],[]⟩)) _ _ s;refine j' (wpAny_of_eq (F.newCall_set_1 a) (LL ⟨plainId_quiet F.plain_set_new _,codeAny_builtin F.entry_set_new ?_⟩));rw[Mr.under_plainId F.plain_set_new _];unfold Builtin.«set.__new__» Builtin.Frozenset.newClass;have hsub:=PySem.sub_set_self;obtain⟨hp,g,d,tk,os⟩:=s;dsimp only
 wp_walk
 refine wpAny_askSetting (LL ?_);dsimp only;simp only[newObj];refine j' (wpAny_alloc (LL (LL ?_)));exact h
variable {R:Result->LK->Prop}{I:D'}{fp wr:List D'}{G:Array GenState->Array GenState->Prop}{n:Nat}{P:Nat->G'->Prop}{St:Nat->LK->Prop}
def Df (W:WalksS prog w A.in1 I fp wr G n P St) (S:D') (hSf:S ∉ fp) {led:Bool}(val:Nat->Str) (hval:∀ i v,P i v->∃ t,v=.str (val i) t) (hb:n+1 < scanBound) :
 ∀ (k i:Nat) (s:LK),n - i=k->i <= n->St i s->tN w s.heap S (A3 val i) led ->
  (∀ s',Moved (S :: wr) G s s'->tN w s'.heap S (A3 val n) led->R (.ok (.ret .none)) s') ->
  codeAny (model prog w) A (.builtin "set.update.loop" ⟨[.ref S,.ref I],[]⟩) R s:=by
 have hSw:S ∉ wr:=λh=>hSf (W.sub _ h)
 have hsub:∀ b∈wr,b∈S :: wr:=λb hb=>Ma _ hb
 intro k
 induction k with
|zero =>
  intro i s hk hi hst hS hR;obtain rfl:i=n:=by omega
  refine codeAny_builtin F.entry_set_update_loop ?_;rw[Mr.under_plainId F.plain_set_update_loop _];show LV _ A.in1 (pyNext (.ref I) >>= _) _ _ s;refine j' (W.done s _ _ hst λs' hm=>?_);exact LL (hR s' (hm.mono hsub) (hS.at' λo e=>hm.heap S _ hSw e))
|succ k ih =>
  intro i s hk hi hst hS hR;have hlt:i < n:=by omega
  refine codeAny_builtin F.entry_set_update_loop ?_;rw[Mr.under_plainId F.plain_set_update_loop _];show LV _ A.in1 (pyNext (.ref I) >>= _) _ _ s;refine j' (W.item i s _ _ hlt hst λv s' hP hst' hm=>?_);obtain⟨t,rfl⟩:=hval i v hP;have hS':=hS.at' (h':=s'.heap) λo e=>hm.heap S _ hSw e
  show LV _ A.in1 (holding [G'.str (val i) t] (setAdd S (.str (val i) t)) >>= _) _ _ s';refine j' (MT ?_);unfold setAdd;refine MT (j' (wpAny_pyHash_str ?_));have hroom:(A3 val i).length+1 < scanBound:=by have:=t9 val i;omega
  refine yP (s:={ s' with toks:=s'.toks+1 }) hS' hroom λh' b sb S2=>?_
  rw[<-pU]at S2;refine LL ⟨plainId_quiet F.plain_set_update_loop _,ih (i+1) _ (by omega) hlt (W.frame _ s' _ _ hst' (le_succ _) λb hb o e=>?_) S2 λs'' hm'' hS''=>?_⟩
  . rw[sb.2 b (λz=>hSf (by rw[<-z];exact hb))];exact e
  . refine hR s'' (Moved.trans W.gtrans ((hm.mono hsub).then_heap (le_succ _) λb o hb e=>?_) hm'') hS'';rw[sb.2 b (λz=>hb (by rw[z];exact LY))];exact e
theorem A7:∀ {vs:List G'}{ss:List Str},StrsAre vs ss->∀ (i:Nat) (v:G'),vs[i]?=f' v->∃ t,v=.str (ss.getD i "") t
|_,_,.nil,i,v,h=>by simp at h
|_,_,.cons n t hr,0,v,h=>by simp at h;exact⟨t,by rw[<-h];rfl⟩
|_,_,.cons n t hr,i+1,v,h=>by
  simp only[List.getElem?_cons_succ]at h;obtain⟨t',e⟩:=A7 hr i v h;exact⟨t',by rw[e];rfl⟩
set_option maxHeartbeats 8000000 in
def Dz {l:D'}{items:Array G'}{ss:List Str}{Q:G'->LK->Prop}(hh:A.handled=LJ) (hl:s.heap.IsList l items) (hi:StrsAre items.toList ss) (hb:items.size+1 < scanBound)
 (h:∀ (h':Mi) (tk:Nat),tN w h' s.heap.objs.size (A3 (λi=>ss.getD i "") items.size) (!oy w)->(∀ b o,b < s.heap.objs.size->s.heap.get? b=f' o->h'.get? b=f' o)->Q (.ref s.heap.objs.size) { s with heap:=h',toks:=tk }) :
 LV (model prog w) A (call (.type "set") [.ref l]) Q E s:=by
 obtain⟨c,tl,hmro⟩:=F.called_set.mro;have hmade:=F.called_set.made;have hsub:=F.called_set.sub;refine wpAny_call (codeAny_of_tree ?_);show LV _ _ (callAny (.type "set") _) _ _ _;refine LL ⟨Code.quiet_builtin _ (by decide +kernel),codeAny_builtin F.entry_type_call ?_⟩;rw[Mr.under_plain (weight_type_call_type "set" [.ref l] []) rfl];have h1:=F.called_set.notType;have h2:=F.called_set.canCreate;have hct:=F.typeCall_set_1 (.ref l)
 repeat (any_goals (first|assumption|wp_step))
 refine codeAny_mono (w6 (.ref l) (E:=E) (Q₁:=λobj s₁=>obj=.ref s.heap.objs.size/\s₁={ s with heap:=s.heap.push ({ cls:=.type "set",dict:=LJ,data:=.set #[] 0 (.fresh 0 0 (!oy w)) }:M6) }) ⟨rfl,rfl⟩) λr s₁ hr=>?_
 cases r with
|error e=>exact hr
|ok fl =>
  cases fl with
 |ret obj =>
   obtain⟨rfl,rfl⟩:=hr;have hS:(s.heap.push ({ cls:=.type "set",dict:=LJ,data:=.set #[] 0 (.fresh 0 0 (!oy w)) }:M6)).get? s.heap.objs.size=f' ({ cls:=.type "set",dict:=LJ,data:=.set #[] 0 (.fresh 0 0 (!oy w)) }:M6):=LW _ rfl;have hT:LK.TypeIs { s with heap:=s.heap.push ({ cls:=.type "set",dict:=LJ,data:=.set #[] 0 (.fresh 0 0 (!oy w)) }:M6) } (.ref s.heap.objs.size) "set":=⟨_,hS,rfl⟩
   have hli:=F.called_set.init.lookup;have hbi:=F.called_set.init.bind (.ref s.heap.objs.size)
   repeat (any_goals (first|assumption|wp_step))
   refine codeAny_mono (codeAny_call_builtin (R:=wants (λr s₂=>r=.none/\∃ h' tk,s₂={ s with heap:=h',toks:=tk }/\tN w h' s.heap.objs.size (A3 (λi=>ss.getD i "") items.size) (!oy w) /\
    (∀ b o,b < s.heap.objs.size->s.heap.get? b=f' o->h'.get? b=f' o)) E) F.called_set.init.plain F.entry_set_init (check_set_init_1 hT ?_)) λr₂ s₂ hr₂=>?_
   . obtain⟨ol,hol,hcl,nl,hdl⟩:=hl;obtain⟨ocls,odict,odata,oslots⟩:=ol;simp only at hcl hdl;subst hcl;subst hdl;have hol':(s.heap.push ({ cls:=.type "set",dict:=LJ,data:=.set #[] 0 (.fresh 0 0 (!oy w)) }:M6)).get? l=f' { cls:=.type "list",dict:=odict,data:=.seq items nl,slots:=oslots }:=LH _ hol;have hsls:=F.sub_list_set;have hslf:=F.sub_list_frozenset;have hne:(G'.type "list" == G'.type "dict")=K':=by decide
     have hl1:(s.heap.push ({ cls:=.type "set",dict:=LJ,data:=.set #[] 0 (.fresh 0 0 (!oy w)) }:M6)).IsList l items:=⟨_,hol',rfl,nl,rfl⟩
     unfold Builtin.«set.__init__» noKeywords Builtin.Frozenset.updateFrom;generalize hPI:pyIter=PI
     wp_walk
     subst hPI;refine wpAny_pyIter_list hl1 ?_;refine j' (wpAny_runValue ?_);have hlS:l < s.heap.objs.size:=Mb hol;have hh3:A.in1.in1.in1.handled=LJ:=by simp[hh]
     have hneI:l≠(s.heap.push ({ cls:=.type "set",dict:=LJ,data:=.set #[] 0 (.fresh 0 0 (!oy w)) }:M6)).objs.size:=by rw[MM];exact Mv (lt_succ_of_lt hlS)
     have hSf:s.heap.objs.size ∉ [(s.heap.push ({ cls:=.type "set",dict:=LJ,data:=.set #[] 0 (.fresh 0 0 (!oy w)) }:M6)).objs.size,l]:=by
      rw[MM];simp only[Mf,MZ,or_false,not_or];exact⟨Mv (lt_succ_self _),ne_of_gt hlS⟩
     have hval:∀ (i:Nat) (v:G'),items[i]?=f' v->∃ t,v=.str ((λi=>ss.getD i "") i) t:=λi v hv=>A7 hi i v (by rw[MI];exact hv)
     have S0:tN w (s.heap.push ({ cls:=.type "set",dict:=LJ,data:=.set #[] 0 (.fresh 0 0 (!oy w)) }:M6)) s.heap.objs.size [] (!oy w):=tN.new _;refine Df ((Walks.list hh3 _ l hneI items).toS) s.heap.objs.size hSf (λi=>ss.getD i "") hval hb (items.size - 0) 0 _ (by omega) (Ny _)
      ⟨⟨_,LW _ rfl,rfl,rfl⟩,(hl1.push _)⟩ (S0.at' λo e=>LH _ e) ?_
     intro s' hm hS';obtain⟨h',g',d',tk',os'⟩:=s';have eg:g'=s.gens:=hm.gens;have ed:d'=s.drawn:=hm.drawn;have eo:os'=s.os:=hm.os;subst eg;subst ed;subst eo;show LV _ _ _ _ _ _;refine LL ?_;show LV _ _ (ret MK) _ _ _;refine LL ⟨rfl,h',tk',rfl,hS',λb o hb e=>?_⟩;have hb1:b≠s.heap.objs.size:=Mv hb;have hb2:b≠(s.heap.push ({ cls:=.type "set",dict:=LJ,data:=.set #[] 0 (.fresh 0 0 (!oy w)) }:M6)).objs.size:=by rw[MM];exact Mv (lt_succ_of_lt hb)
     exact hm.heap b o (by simp only[Mf,MZ,or_false,not_or];exact⟨hb1,hb2⟩) (LH _ (LH _ e))
   . cases r₂ with
    |error e=>exact hr₂
    |ok fl₂ =>
      cases fl₂ with
     |ret r =>
       obtain⟨rfl,h',tk,rfl,hS',hk'⟩:=hr₂
       repeat (any_goals (first|assumption|wp_step))
       exact h _ _ hS' hk'
     |_=>exact hr₂.elim
 |_=>exact hr.elim
end
def B1:entryFor table "set.__iter__"=f' Builtin.«frozenset.__iter__»:=entryFor_alias (id':="frozenset.__iter__") (by kernel_rfl) rfl (by decide +kernel) (by kernel_rfl)
def Cd:Manifest.owners.lookup (String.ofList ['r','o','t','a','r','e','t','i','_','t','e','s'].reverse)=f' Manifest.sig_set_iterator:=by kernel_rfl
def fm:Slot "set_iterator" "__next__" "set_iterator.__next__":=.of (owner:="set_iterator") (n:="__next__") (by rw[typeLookup_type,builtinLookup_eq_fast];kernel_rfl) (by decide +kernel) (by decide +kernel) (by decide +kernel) (by first|exact .inl (by decide +kernel)|exact .inr (by decide +kernel)) (by rw[isSubtype_type];kernel_rfl)
def sh:entryFor table "set_iterator.__next__"=f' Builtin.«set_iterator.__next__»:=entryFor_of_tree (by kernel_rfl)
def oI (a:G'):argsOk "set_iterator.__next__" ⟨[a],[]⟩:=by
 unfold argsOk;rw[signature?_of (id:="set_iterator.__next__") (n:=['_','_','t','x','e','n','_','_']) (o:=['r','o','t','a','r','e','t','i','_','t','e','s']) (by kernel_rfl) Cd]
 kernel_rfl
def xh:Slot "set_iterator" "__iter__" "set_iterator.__iter__":=.of (owner:="set_iterator") (n:="__iter__") (by rw[typeLookup_type,builtinLookup_eq_fast];kernel_rfl) (by decide +kernel) (by decide +kernel) (by decide +kernel) (by first|exact .inl (by decide +kernel)|exact .inr (by decide +kernel)) (by rw[isSubtype_type];kernel_rfl)
def G0:entryFor table "set_iterator.__iter__"=f' Builtin.«dict_keyiterator.__iter__»:=entryFor_alias (id':="dict_keyiterator.__iter__") (by kernel_rfl) rfl (by decide +kernel) (by kernel_rfl)
def CU (a:G'):argsOk "set_iterator.__iter__" ⟨[a],[]⟩:=by
 unfold argsOk;rw[signature?_of (id:="set_iterator.__iter__") (n:=['_','_','r','e','t','i','_','_']) (o:=['r','o','t','a','r','e','t','i','_','t','e','s']) (by kernel_rfl) Cd]
 kernel_rfl
def wK (h:Mi) (a:D') (es:Array (Int × G')) (ep:Nat) (t:Nc):Prop:=∃ o,h.get? a=f' o/\o.ExactSet/\o.data=.set es ep t/\t.fits es.size=l'
def He (h:Mi) (T:D') (pl:Array G'):Prop:=∃ o n,h.get? T=f' o/\o.data=.seq pl n
def mo (h:Mi) (I a:D') (first:G') (i n ep:Nat):Prop:=∃ o,h.get? I=f' o/\o.cls=.type "set_iterator"/\o.data=.fields #[first,.int i 0,.ref a,.int n 0,.int ep 0]
section
variable {prog:Mg}{w:LZ}{A:Mr}{E:G'->LK->Prop}{s:LK}{I a:D'}{first:G'}{i ep:Nat}{es:Array (Int × G')}{t:Nc}
def wK.at' {h h':Mi}(S:wK h a es ep t) (e:∀ o,h.get? a=f' o->h'.get? a=f' o):wK h' a es ep t:=by
 obtain⟨o,ho,r⟩:=S;exact⟨o,e _ ho,r⟩
def mo.at' {n:Nat}{h h':Mi}(S:mo h I a first i n ep) (e:∀ o,h.get? I=f' o->h'.get? I=f' o):mo h' I a first i n ep:=by
 obtain⟨o,ho,r⟩:=S;exact⟨o,e _ ho,r⟩
def tH {n:Nat}{Q:G'->LK->Prop}(hit:mo s.heap I a first i n ep) (h:Q (.ref I) s):LV (model prog w) A (pyIter (.ref I)) Q E s:=by
 obtain⟨o,ho,hc,hd⟩:=hit;have hT:s.TypeIs (.ref I) "set_iterator":=⟨o,ho,hc⟩
 refine wpAny_pyIter_slot hT xh (MB xh hT G0 ?_ (CU _));show LV _ _ (ret (.ref I)) _ _ s;exact LL ⟨_,rfl,"set_iterator",_,hT,fm.lookup,h⟩
def y8 {s0:LK}{h1:Mi}{Q:Option G'->LK->Prop}(hh:A.handled=LJ) (hx:Mi.ExtBut I s0.heap h1) (hQ:∀ h',Mi.ExtBut I s0.heap h'->Q LJ { s0 with heap:=h' }) :
 LV (model prog w) A.in1 (do let x <-newExc (.type "StopIteration") [];raiseNew (α:=Fin) x) (λfin s'=>∃ v,fin=Fin.done (Flow.ret v)/\LV (model prog w) A (pure (f' v)) Q E s')
  (λe s'=>LV (model prog w) A (do let b <-isInstance e (G'.type "StopIteration");if b=l' then pure LJ else throw e) Q E s') { s0 with heap:=h1 }:=by
 refine j' ?_;simp only[newExc,newTuple];refine j' (MR ?_ (by size_fits));refine j' (m:=firstArgMember _ _) (wpAny_of_eq (a:=MK) (by first|rfl|(simp only[firstArgMember];rfl)) ?_);refine MR ?_ (by size_fits);simp only[raiseNew];refine j' (wpAny_handled ?_);rw[show A.in1.handled=LJ from hh];refine j' (LL (wpAny_throw ?_));refine j' (wpAny_isInstance (T:="StopIteration") (b:=l') ⟨_,LW _ rfl,rfl⟩ isSubtype_stop ?_);exact LL (hQ _ ((hx.push _).push _))
def tL {vs:Array G'}{o:M6}{h:Mi}{k:Nat}{v:G'}(ho:h.get? I=f' o) (hc:o.cls=.type "set_iterator") (hd:o.data=.fields vs) :
 (h.update I (M6.mapFields (·.setIfInBounds k v))).get? I=f' (M6.mapFields (·.setIfInBounds k v) o)/\(M6.mapFields (·.setIfInBounds k v) o).cls=.type "set_iterator"/\(M6.mapFields (·.setIfInBounds k v) o).data=.fields (vs.setIfInBounds k v) :=
 ⟨M3 _ ho (M6.isFreed_of_fields (M6.data_mapFields hd _)),(M6.cls_mapFields ..).trans hc,M6.data_mapFields hd _⟩
def wX {slot nx:Nat}{x:G'}{Q:Option G'->LK->Prop}(hit:mo s.heap I a (.int slot 0) i es.size ep) (hX:wK s.heap a es ep t)
 (hn:∀ (A':Mr) (Q':Option (G' × Nat)->LK->Prop) (E':G'->LK->Prop),Q' (f' (x,nx)) s->LV (model prog w) A' (setNext a slot i ep) Q' E' s)
 (hQ:∀ h',mo h' I a (.int nx 0) (i+1) es.size ep->Mi.ExtBut I s.heap h'->Q (f' x) { s with heap:=h' }):LV (model prog w) A (pyNext (.ref I)) Q E s:=by
 obtain⟨o,ho,hc,hd⟩:=hit;obtain⟨os,hos,hex,hds,hf⟩:=hX;have hT:s.TypeIs (.ref I) "set_iterator":=⟨o,ho,hc⟩
 unfold pyNext;refine j' (wpAny_attempt (MH (name:=Na "__next__") hT fm (MB fm hT sh ?_ (oI _))));unfold Builtin.«set_iterator.__next__» slotArgs;simp only[List.isEmpty_nil,NT,Mz,↓reduceIte,bind_assoc,length_nil,bne_self_eq_false];refine j' (LL (j' (wpAny_fieldsOf ho hd ?_)));dsimp only;refine j' (wpAny_setEntries_of hos hds hf ?_);rw[SG (by simp)];refine j' (hn _ _ _ ?_);dsimp only;obtain⟨p1,p2,p3⟩:=tL (k:=0) (v:=NJ nx) ho hc hd;refine j' (NF ho hd (by simp) ?_);obtain⟨q1,q2,q3⟩:=tL (k:=1) (v:=NJ ((i:Int)+1)) p1 p2 p3;refine j' (NF p1 p3 (by simp) ?_);refine LL ⟨_,rfl,LL (hQ _ ⟨_,q1,q2,by rw[q3];simp[NJ]⟩ ?_)⟩;exact λb o hb e=>(ML ..).extBut b o hb ((ML ..).extBut b o hb e)
def xr {slot:Nat}{Q:Option G'->LK->Prop}(hh:A.handled=LJ) (hit:mo s.heap I a (.int slot 0) i es.size ep) (hX:wK s.heap a es ep t)
 (hn:∀ (A':Mr) (Q':Option (G' × Nat)->LK->Prop) (E':G'->LK->Prop),Q' LJ s->LV (model prog w) A' (setNext a slot i ep) Q' E' s)
 (hQ:∀ h',Mi.ExtBut I s.heap h'->Q LJ { s with heap:=h' }):LV (model prog w) A (pyNext (.ref I)) Q E s:=by
 obtain⟨o,ho,hc,hd⟩:=hit;obtain⟨os,hos,hex,hds,hf⟩:=hX;have hT:s.TypeIs (.ref I) "set_iterator":=⟨o,ho,hc⟩
 unfold pyNext;refine j' (wpAny_attempt (MH (name:=Na "__next__") hT fm (MB fm hT sh ?_ (oI _))));unfold Builtin.«set_iterator.__next__» slotArgs;simp only[List.isEmpty_nil,NT,Mz,↓reduceIte,bind_assoc,length_nil,bne_self_eq_false];refine j' (LL (j' (wpAny_fieldsOf ho hd ?_)));dsimp only;refine j' (wpAny_setEntries_of hos hds hf ?_);rw[SG (by simp)];refine j' (hn _ _ _ ?_);dsimp only;refine j' (NF ho hd (by simp) ?_);exact y8 hh (ML ..).extBut hQ
def Dw {T:D'}{pl:Array G'}{k:Nat}{hv:Int}{x:G'}{Q:Option G'->LK->Prop}(hit:mo s.heap I a (.ref T) i es.size ep) (hX:wK s.heap a es ep t) (hT':He s.heap T pl) (hp:pl[i]?=f' (.int k 0)) (hx:es[k]?=f' (hv,x))
 (hQ:∀ h',mo h' I a (.ref T) (i+1) es.size ep->Mi.ExtBut I s.heap h'->Q (f' x) { s with heap:=h' }):LV (model prog w) A (pyNext (.ref I)) Q E s:=by
 obtain⟨o,ho,hc,hd⟩:=hit;obtain⟨os,hos,hex,hds,hf⟩:=hX;have hT:s.TypeIs (.ref I) "set_iterator":=⟨o,ho,hc⟩
 unfold pyNext;refine j' (wpAny_attempt (MH (name:=Na "__next__") hT fm (MB fm hT sh ?_ (oI _))));unfold Builtin.«set_iterator.__next__» slotArgs;simp only[List.isEmpty_nil,NT,Mz,↓reduceIte,bind_assoc,length_nil,bne_self_eq_false];refine j' (LL (j' (wpAny_fieldsOf ho hd ?_)));dsimp only;refine j' (wpAny_setEntries_of hos hds hf ?_);rw[SG (by simp)];obtain⟨ot,nt,hot,hdt⟩:=hT';unfold seqItems?;refine j' (j' (wpAny_load hot ?_));rw[hdt];refine LL ?_;dsimp only;rw[show ((i:Int)).toNat=i from toNat_natCast i,hp];dsimp only;unfold setNextDrawn;refine j' (j' (N3 hos hds hf ?_));dsimp only;rw[show ((ep:Int)).toNat=ep from toNat_natCast ep,SG (by simp),show ((k:Int)).toNat=k from toNat_natCast k,hx];refine LL ?_;obtain⟨p1,p2,p3⟩:=tL (k:=1) (v:=NJ ((i:Int)+1)) ho hc hd;refine j' (NF ho hd (by simp) ?_);exact LL ⟨_,rfl,LL (hQ _ ⟨_,p1,p2,by rw[p3];simp[NJ]⟩ (ML ..).extBut)⟩
def Do {T:D'}{pl:Array G'}{Q:Option G'->LK->Prop}(hh:A.handled=LJ) (hit:mo s.heap I a (.ref T) i es.size ep) (hX:wK s.heap a es ep t) (hT':He s.heap T pl) (hp:pl[i]?=LJ)
 (hQ:∀ h',Mi.ExtBut I s.heap h'->Q LJ { s with heap:=h' }):LV (model prog w) A (pyNext (.ref I)) Q E s:=by
 obtain⟨o,ho,hc,hd⟩:=hit;obtain⟨os,hos,hex,hds,hf⟩:=hX;have hT:s.TypeIs (.ref I) "set_iterator":=⟨o,ho,hc⟩
 unfold pyNext;refine j' (wpAny_attempt (MH (name:=Na "__next__") hT fm (MB fm hT sh ?_ (oI _))));unfold Builtin.«set_iterator.__next__» slotArgs;simp only[List.isEmpty_nil,NT,Mz,↓reduceIte,bind_assoc,length_nil,bne_self_eq_false];refine j' (LL (j' (wpAny_fieldsOf ho hd ?_)));dsimp only;refine j' (wpAny_setEntries_of hos hds hf ?_);rw[SG (by simp)];obtain⟨ot,nt,hot,hdt⟩:=hT';unfold seqItems?;refine j' (j' (wpAny_load hot ?_));rw[hdt];refine LL ?_;dsimp only;rw[show ((i:Int)).toNat=i from toNat_natCast i,hp];dsimp only;obtain⟨p1,p2,p3⟩:=tL (k:=0) (v:=NJ 0) ho hc hd;refine j' (NF ho hd (by simp) ?_);refine j' (NF p1 p3 (by simp) ?_);refine y8 (s0:=s) hh (λb o hb e=>?_) hQ;exact(ML ..).extBut b o hb ((ML ..).extBut b o hb e)
def sQ {Q:Bool->LK->Prop}(h:Q (oy w) s):LV (model prog w) A setsByText Q E s:=by
 unfold setsByText;exact j' (wpAny_askSetting (LL h))
def vE {slot:Nat}{Q:Option (G' × Nat)->LK->Prop}(hb:oy w=l') (hX:wK s.heap a es ep t) (h:Q (((pickOrder (w.params.setOrder a ep) es)[i]?).map λe=>(e.2,slot)) s):LV (model prog w) A (setNext a slot i ep) Q E s:=by
 obtain⟨os,hos,hex,hds,hf⟩:=hX;unfold setNext;refine j' (N3 hos hds hf (j' (sQ ?_)));dsimp only;rw[hb,SF rfl,SG (by simp)];unfold setWalk;refine j' (j' (N3 hos hds hf (j' (sQ ?_))));rw[hb,SF rfl];exact j' (wpAny_askSetting (LL (LL h)))
def xK {slot:Nat}{Q:Option (G' × Nat)->LK->Prop}(hb:oy w=K') (hl:t.led=l') (h1:es.size <= 1) (hX:wK s.heap a es ep t)
 (h:Q (match es[Ni t.place slot]?,t.place[Ni t.place slot]? with|some (_,x),f' j=>f' (x,j+1)|_,_=>LJ) s):LV (model prog w) A (setNext a slot i ep) Q E s:=by
 obtain⟨os,hos,hex,hds,hf⟩:=hX;unfold setNext;refine j' (N3 hos hds hf (j' (sQ ?_)));dsimp only;rw[hb,SG (by decide)];have hd:¬ ((!t.plain && decide (es.size > 1))=l'):=by
  rw[decide_eq_false (by omega)];simp
 refine wpAny_ite_split (λhc=>absurd hc hd) λ_=>?_
 refine j' ?_;show LV _ _ (if (!t.led && !es.isEmpty)=l' then _ else _) _ _ _;rw[hl,SG (by simp)];exact LL (LL h)
theorem GH {α:Type}:∀ (xs:List α) (k:Nat) (h:k < xs.length),(xs[k] :: xs.eraseIdx k).Perm xs
|x :: xs,0,_=>Od.refl _
|x :: xs,k+1,h=>by
  have hk:k < xs.length:=Nat.lt_of_succ_lt_succ h;show (xs[k] :: x :: xs.eraseIdx k).Perm (x :: xs);exact(Od.swap x xs[k] _).trans ((GH xs k hk).cons x)
def zL {M:Model}{src:Source}{n:Nat}{Q:Nat->LK->Prop}(hn:n≠0) (h:∀ i dr,i < n->Q i { s with drawn:=dr }):LV M A (choose src n) Q E s:=λΓ p hΓ=>by
 show Sem.wp M Γ (.choose src n .pure) _ _ p s;rw[Sem.wp_choose];refine⟨hn,?_⟩;simp only[Sem.wp_pure];exact h _ _ (Nat.mod_lt _ (Nat.pos_of_ne_zero hn))
theorem uz {α:Type}(next:Nat->Nat):∀ (fuel k:Nat) (left:List α) (out:Array α),left.length=fuel->(pickOrder.go next fuel k left out).toList.Perm (out.toList++left)
|0,k,left,out,h=>by
  obtain rfl:=MW.mp h;rw[append_nil];exact Od.refl _
|fuel+1,k,left,out,h=>by
  have hlt:next k % left.length < left.length:=Nat.mod_lt _ (by omega);show (match left[next k % left.length]? with|some x=>pickOrder.go next fuel (k+1) (left.eraseIdx (next k % left.length)) (out.push x)|none=>out).toList.Perm _;rw[LQ hlt];refine(uz next fuel (k+1) _ _ (by rw[List.length_eraseIdx,SF hlt];omega)).trans ?_;rw[Array.toList_push,MU];refine N9 _ ?_;exact GH left _ hlt
theorem rM {α:Type}{Q:List α->LK->Prop}:∀ (n:Nat) (xs:List α) (s:LK),xs.length=n->(∀ ys dr,ys.Perm xs->Q ys { s with drawn:=dr })->LV (model prog w) A (drawOrder n xs) Q E s
|0,xs,s,h,q=>by
  obtain rfl:=MW.mp h;exact LL (q [] s.drawn (Od.refl _))
|n+1,[],s,h,q=>by cases h
|n+1,x :: xs,s,h,q=>by
  unfold drawOrder;refine j' (zL (by intro z;cases z) λi dr hi=>?_);rw[LQ hi];dsimp only;refine j' (rM n _ { s with drawn:=dr } (by rw[List.length_eraseIdx,SF hi,h];rfl) λys dr' hp=>LL ?_);exact q _ dr' ((hp.cons _).trans (GH (x :: xs) i hi))
end
section
variable {prog:Mg}{w:LZ}{A:Mr}{E:G'->LK->Prop}{s:LK}{I a:D'}{ep:Nat}{es:Array (Int × G')}{t:Nc}
def BU (w:LZ) (a:D') (ep:Nat) (es:Array (Int × G')):List G':=(pickOrder (w.params.setOrder a ep) es).toList.map (·.2)
def ph:(BU w a ep es).Perm (es.toList.map (·.2)):=(uz _ es.size 0 es.toList #[] (by simp)).map _
def A8 (hb:oy w=l') (hh:A.handled=LJ) (hne:a≠I):Walks prog w A I [I,a] [I] es.size (λi v=>(BU w a ep es)[i]?=f' v) (λi h=>mo h I a (.int (0:Nat) 0) i es.size ep/\wK h a es ep t) where
 sub:=λb hb=>by simp at hb;simp[hb]
 frame:=λ_ _ _ st hk=>⟨st.1.at' λo e=>hk I (by simp) o e,st.2.at' λo e=>hk a (by simp) o e⟩
 item:=λi s Q E hi st hQ=>by
  have hl:(BU w a ep es).length=es.size:=by have:=(ph (w:=w) (a:=a) (ep:=ep) (es:=es)).length_eq;simpa using this
  have hx:(BU w a ep es)[i]?=f' (BU w a ep es)[i]:=LQ (by omega);refine wX (nx:=0) (x:=(BU w a ep es)[i]) st.1 st.2 (λA' Q' E' q=>vE hb st.2 ?_) λh' si eb=>hQ _ h' s.toks hx ⟨si,st.2.at' λo e=>eb _ _ hne e⟩ λb o hb e=>eb b o (λz=>hb (by simp[z])) e
  have hm:((pickOrder (w.params.setOrder a ep) es)[i]?).map (·.2)=f' (BU w a ep es)[i]:=by
   rw[<-hx];unfold BU;rw[Mp,MI]
  cases hp:(pickOrder (w.params.setOrder a ep) es)[i]? with
 |none=>rw[hp]at hm;cases hm
 |some p =>
   rw[hp]at hm;have hm':p.2=(BU w a ep es)[i]:=Ms hm;show Q' (f' (p.2,0)) s;rw[hm'];exact q
 done:=λs Q E st hQ=>by
  have hl:(BU w a ep es).length=es.size:=by have:=(ph (w:=w) (a:=a) (ep:=ep) (es:=es)).length_eq;simpa using this
  refine xr hh st.1 st.2 (λA' Q' E' q=>vE hb st.2 ?_) λh' eb=>hQ h' s.toks λb o hb e=>eb b o (λz=>hb (by simp[z])) e
  have:(pickOrder (w.params.setOrder a ep) es)[es.size]?=LJ:=by
   rw[<-MI];refine List.getElem?_eq_none ?_;unfold BU at hl;rw[Md]at hl;omega
  rw[this];exact q
 self:=λ_ _ _ _ st hQ=>tH st.1 hQ
def Bi {T:D'}{pl:Array G'}(hh:A.handled=LJ) (hne:a≠I) (hnT:T≠I) (hpl:pl.size=es.size) {ord:List G'}(hord:∀ i,i < es.size->∃ k hv v,pl[i]?=f' (.int (k:Nat) 0)/\es[k]?=f' (hv,v)/\ord[i]?=f' v) :
 Walks prog w A I [I,a,T] [I] es.size (λi v=>ord[i]?=f' v) (λi h=>mo h I a (.ref T) i es.size ep/\wK h a es ep t/\He h T pl) where
 sub:=λb hb=>by simp at hb;simp[hb]
 frame:=λ_ _ _ st hk=>⟨st.1.at' λo e=>hk I (by simp) o e,st.2.1.at' λo e=>hk a (by simp) o e,by obtain⟨o,n,h1,h2⟩:=st.2.2;exact⟨o,n,hk T (by simp) _ h1,h2⟩⟩
 item:=λi s Q E hi st hQ=>by
  obtain⟨k,hv,v,h1,h2,h3⟩:=hord i hi;refine Dw st.1 st.2.1 st.2.2 h1 h2 λh' si eb=>hQ _ h' s.toks h3 ⟨si,st.2.1.at' λo e=>eb _ _ hne e,?_⟩ λb o hb e=>eb b o (λz=>hb (by simp[z])) e
  obtain⟨o,n,g1,g2⟩:=st.2.2;exact⟨o,n,eb _ _ hnT g1,g2⟩
 done:=λs Q E st hQ=>Do hh st.1 st.2.1 st.2.2 (by rw[<-hpl];simp) λh' eb=>hQ h' s.toks λb o hb e=>eb b o (λz=>hb (by simp[z])) e
 self:=λ_ _ _ _ st hQ=>tH st.1 hQ
def slO (t:Nc):Nat->Nat
|0=>0
|_+1=>t.place.getD 0 0+1
def Et {p:Array Nat}(h:p.size=1):Ni p 0=0/\Ni p (p.getD 0 0+1)=1:=by
 obtain⟨x,rfl⟩:∃ x,p=#[x]:=by
  rcases p with⟨l⟩
  match l,h with
 |[x],_=>exact⟨x,rfl⟩
 constructor
 . simp[Ni,Ni.go]
 . simp[Ni,Ni.go]
def Cr (hb:oy w=K') (hl:t.led=l') (hf:t.place.size=es.size) (h1:es.size <= 1) (hh:A.handled=LJ) (hne:a≠I):Walks prog w A I [I,a] [I] es.size (λi v=>(es.toList.map (·.2))[i]?=f' v) (λi h=>mo h I a (.int (slO t i:Nat) 0) i es.size ep/\wK h a es ep t) where
 sub:=λb hb=>by simp at hb;simp[hb]
 frame:=λ_ _ _ st hk=>⟨st.1.at' λo e=>hk I (by simp) o e,st.2.at' λo e=>hk a (by simp) o e⟩
 item:=λi s Q E hi st hQ=>by
  have hs:es.size=1:=by omega
  obtain rfl:i=0:=by omega
  obtain⟨b0,_⟩:=Et (hf.trans hs);have he:es[0]?=f' es[0]:=Mm (by omega);have hp:t.place[0]?=f' (t.place.getD 0 0):=by
   have h0:0 < t.place.size:=by omega
   rw[Mm h0];simp[Array.getD,h0]
  refine wX (nx:=t.place.getD 0 0+1) (x:=es[0].2) st.1 st.2 (λA' Q' E' q=>xK hb hl h1 st.2 ?_) λh' si eb=>hQ _ h' s.toks ?_ ⟨si,st.2.at' λo e=>eb _ _ hne e⟩ λb o hb e=>eb b o (λz=>hb (by simp[z])) e
  . show Q' (match es[Ni t.place 0]?,t.place[Ni t.place 0]? with|some (_,x),f' j=>f' (x,j+1)|_,_=>LJ) s;rw[b0,he,hp];exact q
  . rw[Mp,MI,he];rfl
 done:=λs Q E st hQ=>by
  refine xr hh st.1 st.2 (λA' Q' E' q=>xK hb hl h1 st.2 ?_) λh' eb=>hQ h' s.toks λb o hb e=>eb b o (λz=>hb (by simp[z])) e
  have:es[Ni t.place (slO t es.size)]?=LJ:=by
   refine Array.getElem?_eq_none ?_;rcases Nat.lt_or_ge 0 es.size with z|z
   . have hs:es.size=1:=by omega
     obtain⟨_,b1⟩:=Et (hf.trans hs);rw[hs];show 1 <= Ni t.place (t.place.getD 0 0+1);rw[b1];exact LS _
   . omega
  rw[this];exact q
 self:=λ_ _ _ _ st hQ=>tH st.1 hQ
def Ds {Q:G'->LK->Prop}(hX:wK s.heap a es ep t) (hl:t.led=!oy w) (hp:0 < es.size->t.plain=K') (hz:es.size <= LP)
 (hQ:∀ (I:D') (fp:List D') (ord:List G') (h':Mi) (dr:Drawn) (St:Nat->Mi->Prop),(∀ A':Mr,A'.handled=LJ->Walks prog w A' I fp [I] es.size (λi v=>ord[i]?=f' v) St)->St 0 h'->ord.Perm (es.toList.map (·.2))->(∀ b o,s.heap.get? b=f' o->h'.get? b=f' o)->(∀ b∈fp,b=a\/s.heap.objs.size <= b)->s.heap.objs.size <= I->Q (.ref I) { s with heap:=h',drawn:=dr }) :
 LV (model prog w) A (pyIter (.ref a)) Q E s:=by
 obtain⟨os,hos,hex,hds,hf⟩:=id hX;have hT:s.TypeIs (.ref a) "set":=⟨os,hos,hex.1⟩
 have hlt:a < s.heap.objs.size:=Mb hos;refine wpAny_pyIter_slot hT F.slot_set_iter (MB F.slot_set_iter hT B1 ?_ (F.args_set_iter_1 _));unfold Builtin.«frozenset.__iter__» Builtin.Frozenset.slot0 slotArgs;simp only[List.isEmpty_nil,NT,Mz,↓reduceIte,bind_assoc,length_nil,bne_self_eq_false];unfold Builtin.Frozenset.addrOf Builtin.Frozenset.sizeOf;refine j' (LL ?_)
 try dsimp only
 refine j' (LL ?_);refine j' (j' (wpAny_setEntries_of hos hds hf (LL ?_)));unfold setDrawn;refine j' (j' (N3 hos hds hf (j' (sQ (LL ?_)))));have fin:∀ (first:G') (h1:Mi) (dr:Drawn),(∀ b o,s.heap.get? b=f' o->h1.get? b=f' o)->s.heap.objs.size <= h1.objs.size ->
  (∀ I h',h'=h1.push { cls:=.type "set_iterator",data:=.fields #[first,NJ 0,.ref a,NJ es.size,NJ ep] }->I=h1.objs.size->Q (.ref I) { s with heap:=h',drawn:=dr }) ->
  LV (model prog w) A.in1 (do let e <-setEpoch a;let r <-newFields "set_iterator" [first,NJ 0,Ml a,NJ es.size,NJ e];ret r)
   (λfin s'=>∃ v,fin=Fin.done (Flow.ret v)/\∃ T' r,s'.TypeIs v T'/\typeLookup (G'.type T') (Na "__next__")=pure (f' r)/\Q v s') E { s with heap:=h1,drawn:=dr }:=λfirst h1 dr hk hs hq=>by
  refine j' (wpAny_setEpoch_of (hk _ _ hos) hds hf (j' (MR ?_ (by size_fits))));exact LL ⟨_,rfl,"set_iterator",_,⟨_,LW _ rfl,rfl⟩,fm.lookup,hq _ _ rfl rfl⟩
 have sit:∀ (first:G') (h1:Mi),mo (h1.push { cls:=.type "set_iterator",data:=.fields #[first,NJ 0,.ref a,NJ es.size,NJ ep] }) h1.objs.size a first 0 es.size ep:=λfirst h1=>⟨_,LW _ rfl,rfl,rfl⟩
 have hpp:∀ (h1:Mi) (ob:M6),(∀ b o,s.heap.get? b=f' o->h1.get? b=f' o)->∀ b o,s.heap.get? b=f' o->(h1.push ob).get? b=f' o:=λh1 ob hk b o e=>LH _ (hk b o e)
 refine wpAny_ite_split (λhc=>?_) λhc=>?_
 . refine j' (rM es.size (Ob es.size) s (by simp) λys dr hpm=>j' ?_);have hyl:ys.length=es.size:=by have:=hpm.length_eq;simpa using this
   simp only[newTuple];refine MR ?_ (by show ((ys.map λ(i:Nat)=>NJ i).toArray).size <= LP;rw[Mj,Md,hyl];exact hz);refine fin _ _ dr (λb o e=>LH _ e) (by rw[MM];exact le_succ _) λI h' hh' hI=>?_
   subst hh' hI;have hsz:(s.heap.push { cls:=.type "tuple",data:=.seq (ys.map λ(i:Nat)=>NJ i).toArray }).objs.size=s.heap.objs.size+1:=MM s.heap { cls:=.type "tuple",data:=.seq (ys.map λ(i:Nat)=>NJ i).toArray };refine hQ _ [_,a,s.heap.objs.size] (ys.map λk=>(es.getD k default).2) _ dr _ (λA' hA=>Bi (T:=s.heap.objs.size) (pl:=(ys.map λ(i:Nat)=>NJ i).toArray) (t:=t) (ep:=ep) hA (Mv (Nat.lt_of_lt_of_eq (lt_succ_of_lt hlt) hsz.symm)) (Mv (Nat.lt_of_lt_of_eq (lt_succ_self _) hsz.symm)) (by simp[hyl]) λi hi=>?_) ⟨sit _ _,hX.at' λo e=>hpp _ _ (λb o e=>LH _ e) _ _ e,_,_,LH _ (LW _ rfl),rfl⟩ ?_ (hpp _ _ λb o e=>LH _ e) (λb hb=>?_) (Nat.le_of_lt (Nat.lt_of_lt_of_eq (lt_succ_self _) hsz.symm))
   . have hi':i < ys.length:=by omega
     have hy:ys[i] < es.size:=by
      have:=hpm.mem_iff.mp (getElem_mem hi');exact mem_range.mp this
     refine⟨ys[i],es[ys[i]].1,es[ys[i]].2,?_,?_,?_⟩
     . rw[<-MI,Mp,LQ hi'];rfl
     . rw[Mm hy]
     . rw[Mp,LQ hi'];simp[Array.getD,hy]
   . refine(hpm.map _).trans ?_;have:(Ob es.size).map (λk=>(es.getD k default).2)=es.toList.map (·.2):=by
      refine List.ext_getElem (by simp) λi h1 h2=>?_
      have hi:i < es.size:=by simpa using h1
      simp[Array.getD,hi]
     rw[this]
   . simp only[Mf,MZ,or_false]at hb;rcases hb with z|z|z
     . right;rw[z];exact Nat.le_of_lt (Nat.lt_of_lt_of_eq (lt_succ_self _) hsz.symm)
     . exact .inl z
     . right;rw[z];exact LS _
 . refine j' (LL ?_);show LV _ _ _ _ _ { s with heap:=s.heap,drawn:=s.drawn };refine fin _ _ _ (λb o e=>e) (LS _) λI h' hh' hI=>?_
   subst hh' hI;cases hb:oy w with
  |true =>
    exact hQ _ [_,a] _ _ _ _ (λA' hA=>A8 (t:=t) (ep:=ep) hb hA (Mv hlt)) ⟨sit _ _,hX.at' λo e=>LH _ e⟩ ph (λb o e=>LH _ e) (λb hb=>by
     simp only[Mf,MZ,or_false]at hb;rcases hb with z|z
     . right;rw[z];exact LS _
     . exact .inl z) (LS _)
  |false =>
    rw[hb]at hl hc;have h1:es.size <= 1:=by
     rcases Nat.lt_or_ge 1 es.size with z|z
     . refine absurd (show (!false && (!t.plain && decide (es.size > 1)))=l' from ?_) hc;rw[hp (by omega),SI z];rfl
     . exact z
    have hpl:t.place.size=es.size:=by
     unfold Nc.fits at hf;simp only[MC,beq_iff_eq]at hf;exact hf.1
    exact hQ _ [_,a] _ _ _ _ (λA' hA=>Cr (ep:=ep) hb hl hpl h1 hA (Mv hlt)) ⟨sit _ _,hX.at' λo e=>LH _ e⟩ (Od.refl _) (λb o e=>LH _ e) (λb hb=>by
     simp only[Mf,MZ,or_false]at hb;rcases hb with z|z
     . right;rw[z];exact LS _
     . exact .inl z) (LS _)
end
section
variable {prog:Mg}{w:LZ}{A:Mr}{E:G'->LK->Prop}{s:LK}{a:D'}{ep:Nat}{es:Array (Int × G')}{t:Nc}
def DB {Q:Bool->LK->Prop}(hT:s.TypeIs (.ref a) "set") (h:Q K' s):LV (model prog w) A (Builtin.List.listLengthHint (.ref a)) Q E s:=by
 unfold Builtin.List.listLengthHint;refine j' (wpAny_specialOf hT PySem.F.slot_set_len.lookup ?_);generalize hid:("set.__len__":String)=id0
 wp_delta
 rw[show splitId id0=f' ("set","__len__") from by subst hid;decide +kernel];subst hid;refine j' (wpAny_isInstance (T:="set") (b:=l') hT (by rw[isSubtype_type];kernel_rfl) ?_);refine wpAny_ite_split (λhab=>absurd hab (by decide)) (λ_=>?_);refine wpAny_ite_split (λ_=>?_) (λhab=>absurd (by decide +kernel) hab);exact j' (wpAny_typeOf hT (LL h))
def zJ {R:Result->LK->Prop}(hX:wK s.heap a es ep t) (hl:t.led=!oy w) (hp:0 < es.size->t.plain=K') (hn:es.size <= LP) (hh:A.handled=LJ) (S:D') (hSa:S≠a) (res:G') (c₀:Nat) (hS:s.heap.get? S=f' { cls:=.type "list",data:=.seq #[] c₀ })
 (hR:∀ h' tk dr (acc:Array G') c',(∀ b o,b≠S->s.heap.get? b=f' o->h'.get? b=f' o)->h'.get? S=f' { cls:=.type "list",dict:=LJ,data:=.seq acc c',slots:=#[] }->acc.toList.Perm (es.toList.map (·.2))->R (.ok (.ret res)) { s with heap:=h',toks:=tk,drawn:=dr }) :
 LV (model prog w) A.in1 (Builtin.List.listExtendWith (.ref S) (.ref a) res)
  (λfin s'=>match fin with|.done f=>R (.ok f) s'|.again c'=>c'.quiet=l'/\codeAny (model prog w) A c' R s') (λe s'=>R (.error e) s') s:=by
 obtain⟨os,hos,hex,hds,hf⟩:=id hX;have hT:s.TypeIs (.ref a) "set":=⟨os,hos,hex.1⟩
 have hlt:S < s.heap.objs.size:=Mb hS;unfold Builtin.List.listExtendWith;refine j' (wpAny_typeOf (T:="set") hT ?_);have h1:Builtin.List.listSameRef (.ref S) (.ref a)=K':=by simp[Builtin.List.listSameRef,hSa]
 simp only[h1,show (G'.type "set" == G'.type "list")=K' by decide,show (G'.type "set" == G'.type "tuple")=K' by decide,Bool.or_false,Mz,if_false];refine j' (Ds hX hl hp hn λI fp ord h1 dr St W st hord hk hfp hI=>?_);have hSI:S≠I:=Mv (LR hlt hI);have hSf:S ∉ fp:=λz=>by
  rcases hfp S z with y|y
  . exact hSa y
  . exact absurd (LR hlt y) (NM _)
 have key:∀ (h:Mi) (c₁ tk:Nat),St 0 h->(∀ b o,b≠S->s.heap.get? b=f' o->h.get? b=f' o)->h.get? S=f' { cls:=.type "list",data:=.seq #[] c₁ } ->
  codeAny (model prog w) A (.builtin "list.extend.loop" ⟨[.ref S,.ref I,res],[]⟩) R { s with heap:=h,toks:=tk,drawn:=dr }:=by
  intro h c₁ tk hst hk' hS₁;refine codeAny_extend_loopS (W A.in1 hh).toS hn S hSf res es.size 0 _ #[] c₁ rfl (Ny _) hst hS₁ (ItemsOf.nil _) λs' acc' c' hm hS' hacc=>?_
  rw[Moved.eq_with hm];refine hR s'.heap s'.toks dr acc' c' (λb o hb e=>hm.heap b o (λhmem=>?_) (hk' b o hb e)) hS' ?_
  . rcases Mf.mp hmem with z|z
    . exact hb z
    . have:=Mb e;rw[LM.mp z]at this;exact absurd (LR this hI) (NM _)
  . have hol:=hord.length_eq;rw[Md,Mq]at hol;have hol:ord.length=es.size:=hol;have:acc'.toList=ord:=by
     refine List.ext_getElem (by rw[Mq];exact hacc.1.trans hol.symm) λi g1 g2=>?_
     have:ord[i]?=f' acc'.toList[i]:=hacc.2 i acc'.toList[i] (by rw[<-MI];exact LQ g1);rw[LQ g2]at this;exact(Ms this).symm
    rw[this];exact hord
 have hS₁:=hk _ _ hS;refine j' (MT (DB (s:={ s with heap:=h1,drawn:=dr }) ⟨os,hk _ _ hos,hex.1⟩ ?_));refine wpAny_ite_split (λ_=>?_) (λ_=>LL ⟨plainId_quiet PySem.F.plain_extend_loop _,key _ c₀ _ st (λb o _ e=>hk b o e) hS₁⟩);refine j' (Nq (j' ?_));show LV _ _ (updateSeq S (·.push .none) >>= λ_=>updateSeq S (·.pop)) _ _ _;refine j' (wpAny_updateSeq hS₁ rfl ?_);have hS₂:=M3 (Of (·.push MK)) hS₁ rfl;refine wpAny_updateSeq (hz:=by seq_fits) hS₂ rfl ?_;have hS₃:=M3 (Of (·.pop)) hS₂ rfl;refine LL ⟨plainId_quiet PySem.F.plain_extend_loop _,key _ _ _ ?_ (λb o hb e=>?_) hS₃⟩
 . refine(W A hh).frame 0 _ _ st λb hb o e=>?_
   have hbS:b≠S:=λz=>hSf (z ▸ hb)
   exact(M9 _ _ (NA hbS)).trans ((M9 _ _ (NA hbS)).trans e)
 . exact(M9 _ _ (NA hb)).trans ((M9 _ _ (NA hb)).trans (hk b o e))
def we {R:List G'->LK->Prop}(hX:wK s.heap a es ep t) (hl:t.led=!oy w) (hp:0 < es.size->t.plain=K') (hn:es.size <= LP) (hh:A.handled=LJ)
 (h:∀ (h':Mi) (tk:Nat) (dr:Drawn) (acc:Array G'),(∀ b o,s.heap.get? b=f' o->h'.get? b=f' o)->acc.toList.Perm (es.toList.map (·.2))->R acc.toList { s with heap:=h',toks:=tk,drawn:=dr }) :
 LV (model prog w) A (collect (.ref a)) R E s:=by
 obtain⟨os,hos,hex,hds,hf⟩:=id hX;have hlt:a < s.heap.objs.size:=Mb hos;unfold collect;refine j' (wpAny_runValue (codeAny_builtin entry_proto_collect' ?_));rw[Mr.under_plainId PySem.F.plain_proto_collect _];show LV _ A.in1 (newList [] >>= λl=>again (.builtin "list.__iadd__" ⟨[l,.ref a],[]⟩)) _ _ s;refine j' (MR (LL ⟨plainId_quiet PySem.F.plain_list_iadd _,codeAny_builtin entry_list_iadd' ?_⟩));rw[Mr.under_plainId PySem.F.plain_list_iadd _];have hS₁:(s.heap.push { cls:=.type "list",data:=.seq ([]:List G').toArray }).get? s.heap.objs.size=f' { cls:=.type "list",data:=.seq #[] }:=LW _ rfl;show LV _ A.in1 (Builtin.List.listExtendWith (.ref s.heap.objs.size) (.ref a) (.ref s.heap.objs.size)) _ _ _;have key:=zJ (prog:=prog) (A:=A) (s:={ s with heap:=s.heap.push { cls:=.type "list",data:=.seq ([]:List G').toArray } })
  (R:=λ(q:Result) (s':LK)=>∃ (h':Mi) (tk:Nat) (dr:Drawn) (acc:Array G') (c':Nat),q=.ok (.ret (.ref s.heap.objs.size))/\s'={ s with heap:=h',toks:=tk,drawn:=dr } /\
   (∀ b o,s.heap.get? b=f' o->h'.get? b=f' o)/\h'.get? s.heap.objs.size=f' { cls:=.type "list",dict:=LJ,data:=.seq acc c',slots:=#[] }/\acc.toList.Perm (es.toList.map (·.2)))
  (hX.at' λo e=>LH _ e) hl hp hn hh s.heap.objs.size (ne_of_gt hlt) (.ref s.heap.objs.size) 0 hS₁
  (λh' tk dr acc c' hk hS' hacc=>⟨h',tk,dr,acc,c',rfl,rfl,λb o e=>hk b o (Mv (Mb e)) (LH _ e),hS',hacc⟩)
 refine N8 key (λfin s' x=>?_) λe s' x=>?_
 . cases fin with
  |done f =>
    obtain⟨h',tk,dr,acc,c',e,rfl,hk,hS',hacc⟩:=x;cases e;show LV _ A (load s.heap.objs.size >>= _) _ _ _;exact j' (wpAny_load hS' (LL (h h' tk dr acc hk hacc)))
  |again c₁ =>
    refine⟨x.1,codeAny_mono x.2 λq s₂ y=>?_⟩;obtain⟨h',tk,dr,acc,c',rfl,rfl,hk,hS',hacc⟩:=y;show LV _ A (load s.heap.objs.size >>= _) _ _ _;exact j' (wpAny_load hS' (LL (h h' tk dr acc hk hacc)))
 . obtain⟨_,_,_,_,_,e',_⟩:=x;cases e'
end
def GE (w:LZ) (p:D') (ks:List Str):HO:=.ext λh=>tN w h p ks (!oy w)
def Bv (ss:List Str):List Str:=ss.foldl qE []
def An (ss:List Str):A3 (λi=>ss.getD i "") ss.length=Bv ss:=by
 have key:∀ (n:Nat),n <= ss.length->A3 (λi=>ss.getD i "") n=(ss.take n).foldl qE []:=λn=>by
  induction n with
 |zero=>intro _;rfl
 |succ n ih =>
   intro h;rw[pU,ih (by omega),take_succ,LQ (by omega),List.foldl_append];show qE _ _=qE _ _;rw[List.getD_eq_getElem?_getD,LQ (by omega)];rfl
 rw[key _ (LS _),take_length];rfl
def AC (ss:List Str):(Bv ss).length <= ss.length:=by rw[<-An];exact t9 _ _
def Fl:MO "set"=f' (.type "set"):=by decide +kernel
theorem BR:∀ {ss:List Str}{us:List G'},bV (ss.map V.str) us->StrsAre us ss
|[],_,h=>by cases h;exact .nil
|x :: ss,_,h=>by
  cases h with
 |cons r t =>
   obtain⟨tk,rfl⟩:=r;exact .cons _ tk (BR t)
theorem vU:∀ {us:List G'}{ss:List Str},StrsAre us ss->bV (ss.map V.str) us
|_,_,.nil=>.nil
|_,_,.cons _ t h=>.cons ⟨t,rfl⟩ (vU h)
section
variable {X:Cx}
def Inv.dr {Oj:List (D' × M6)}{σ:St}{H:Hp}{s:LK}(I:Inv X Oj σ H s) (dr:Drawn):Inv X Oj σ H { s with drawn:=dr }:=⟨I.ok,I.os,I.bare,I.base,I.loc,I.cell,I.free,I.freeC,I.pin,I.hok,I.len⟩
def vy (hc:X.calm=l'):kZ X (.type "set") (λxs H Q=>∃ (p:D') (ss:List Str),xs=[.ref p]/\SqL X.K H p (ss.map V.str)/\ss.length < 1000/\∀ q,H q=LJ->Q (.ref q) (upd H q (GE X.w q (Bv ss)))):=by
 intro Oj s σ H xs us Q I r h;obtain⟨p,ss,rfl,hq,h60,q⟩:=h;obtain⟨u,rfl,rx⟩:=pj r;cases rx;obtain⟨its,r',⟨o,n,ho,hcl,hdi,hda⟩,hz⟩:=I.list hq;have hS:StrsAre its ss:=BR r';have hil:its.length=ss.length:=by have:=r'.length;rw[Md]at this;exact this.symm
 refine Dz (items:=its.toArray) (ss:=ss) (I.ok.hd hc) ⟨o,ho,hcl,n,hda⟩ hS (by rw[Mj,hil];show _ < 4096;omega) λh' tk S' hk=>?_
 rw[show its.toArray.size=ss.length from (Mj ..).trans hil,An]at S';refine⟨.ref s.heap.objs.size,_,I.laid (t':=tk) (o:=GE X.w s.heap.objs.size (Bv ss)) (λb o e=>hk b o (Mb e) e) (LS _) ?_,rfl,q _ (I.hok.fresh (LS _))⟩;refine⟨S',?_,λh1 h2 z e=>z.at' e⟩;obtain⟨o,_,_,_,ho,_⟩:=S';exact⟨o,ho⟩
def nR (hc:X.calm=l'):kZ X (.builtin "sorted") (λxs H Q=>∃ (p:D') (ks:List Str),xs=[.ref p]/\H p=f' (GE X.w p ks)/\ks.length < 64 /\
 ∀ (l:D') (ss:List Str),H l=LJ->ss.Perm ks->sortedS ss=l'->Q (.ref l) (upd H l (.lst (ss.map V.str)))):=by
 intro Oj s σ H xs us Q I r h;obtain⟨p,ks,rfl,hH,h64,q⟩:=h;obtain⟨u,rfl,rx⟩:=pj r;cases rx;obtain⟨S,_,_⟩:=I.hok _ _ hH;obtain⟨o,es,ep,t,ho,hex,hd,hel,hpm,hnd,hb,hf,hled,hpl⟩:=S;have hsz:es.size=ks.length:=by
  have:=hpm.length_eq;rw[Md,Mq]at this;exact this
 refine Calls.call_function_entry kind_sorted plain_sorted entry_sorted (args_sorted1 _) ?_;unfold Builtin.«sorted»;refine j' (m:=checkCount "sorted" 1 1 _) (LL ?_);refine j' (we (A:=X.A.in1) (es:=es) ⟨o,ho,hex,hd,hf⟩ hled hpl (fits_of_scanBound hb) (I.ok.hd hc) λh' tk dr acc hkp hacc=>?_);have I1:Inv X Oj σ H { s with heap:=h',toks:=tk,drawn:=dr }:=(I.kept (t':=tk) hkp).dr dr;have hall:∀ v∈acc.toList,∃ x tk,v=.str x tk:=λv hv=>by
  obtain⟨e,he,rfl⟩:=NK.mp (hacc.mem_iff.mp hv);obtain⟨k,tk,rfl⟩:=hel e he;exact⟨k,tk,rfl⟩
 have hA:=strsAre_map acc.toList hall;have hpk:(acc.toList.map strOf).Perm ks:=by
  refine(hacc.map strOf).trans ?_;rw[map_map];exact hpm
 have hal:acc.toList.length < 64:=by
  have:=hacc.length_eq;rw[Md,Mq (xs:=es)]at this;omega
 refine j' (wpAny_newList ?_ (MG (Nat.le_of_lt hal) (by decide)));have hoL:(h'.push (seqObj "list" acc.toList.toArray 0)).get? h'.objs.size=f' (seqObj "list" acc.toList.toArray 0):=LW _ rfl;show LV _ _ _ _ _ { s with heap:=h'.push (seqObj "list" acc.toList.toArray 0),toks:=tk,drawn:=dr };refine j' (MT (MB slot_list_sort ⟨_,hoL,rfl⟩ entry_list_sort (list_sort_treeK strKind_oneLt hoL hA.keysOf (λv₁ v₂ cx e=>keyKind_strs (by rw[<-e];exact hA)) hal λst' a1 a2=>⟨_,rfl,?_⟩) (args_list_sort _)));obtain⟨ss,b1,b2,b3⟩:=sorted_out_str hA a1 a2;generalize (arrOf st').map (·.2)=out at b1;obtain⟨e,he⟩:=sortedHeap_at (out:=out) hoL;refine LL ⟨_,rfl,.ref h'.objs.size,_,I1.laid (t':=tk) (o:=.lst (ss.map V.str)) (λb o' q=>?_) (LS _) ?_,rfl,q _ _ (I1.hok.fresh (LS _)) (b2.trans hpk) b3⟩
 . rw[sortedHeap_old (Mv (Mb q)) (by rw[size_push'];exact lt_succ_of_lt (Mb q))];exact LH _ q
 . have hl':=(b2.trans hpk).length_eq;exact⟨by rw[Md];exact MG (show ss.length <= 64 by omega) (by decide),out.toList,e,vU b1,he⟩
end
def Av {l:List (Str × Tok)}:bV ((l.map (·.1)).map V.str) (strValues l):=vU (strsAre_of_values l)
section
variable {X:Cx}
def Im:V->List V->Hp->VK->Prop:=λx vs H Q=>∃ i j:Str,x=.str i/\vs=[.str j]/\(j.length == 0)=K'/\i.length <= 10000/\∀ l,H l=LJ->Q (.ref l) (upd H l (.lst ((Txt.split i j).map V.str)))
def B3 (x y:Str):(Txt.split x y).length <= x.length+2:=by
 unfold Txt.split;split
 . show 1 <= _;omega
 . split
   . show 1 <= _;omega
   . rw[length_partsBetween];have e1:=StrLaws.occ_length_le x y 0 x.length (x.length+1);omega
def yd:MtR X "str.split" Im:=by
 intro Oj s σ H x vs v us Q I rx rv h;obtain⟨i,j,rfl,rfl,hj,hz,q⟩:=h;obtain⟨t,rfl⟩:=rx;obtain⟨u,rfl,tu,rfl⟩:=rv.one;have hs:10002 <= LP:=by decide
 have fin:∀ (l:List (Str × Tok)) (k:Nat),l.map (·.1)=Txt.split i j->EP X Oj σ Q (.ref s.heap.objs.size) { s with heap:=s.heap.push { cls:=.type "list",data:=.seq (strValues l).toArray },toks:=k }:=λl k e=>by
  refine⟨.ref s.heap.objs.size,_,I.laid (t':=k) (o:=.lst ((Txt.split i j).map V.str)) (λb o e=>LH _ e) (LS _) ?_,rfl,q _ (I.hok.fresh (LS _))⟩;refine⟨?_,strValues l,0,by rw[<-e];exact Av,LW _ rfl⟩;rw[Md];have:=B3 i j;omega
 have hn:(Builtin.Str.partsBetween i (Nd i j 0 i.length (i.length+1)) j.length).length <= LP:=by
  have e1:=StrLaws.occ_length_le i j 0 i.length (i.length+1);rw[length_partsBetween];omega
 cases h1:(decide (i.length < j.length) || decide (Builtin.Str.strKind i < Builtin.Str.strKind j))
 . cases hf:(Nd i j 0 i.length (i.length+1)).isEmpty
   . refine call_meets PySem.F.slot_str_split (typeIs_str _ _ _) PySem.F.entry_str_split (PySem.F.args_str_split_2 _ _) (meets_str_split_sep i j t tu h1 hj hf (by omega) hn) ?_;show wants _ _ _ { s with toks:=_,heap:=s.heap.push { cls:=.type "list",data:=.seq (strsFrom s.toks (Builtin.Str.partsBetween i (Nd i j 0 i.length (i.length+1)) j.length)).toArray } };rw[strsFrom_eq];exact fin (numbered s.toks _) _ ((numbered_texts _ _).trans ((SG (ne_true_of_eq_false h1)).trans (SG (ne_true_of_eq_false hf))).symm)
   . exact call_meets PySem.F.slot_str_split (typeIs_str _ _ _) PySem.F.entry_str_split (PySem.F.args_str_split_2 _ _) (meets_str_split_not_found i j t tu h1 hj hf) (fin [(i,t)] s.toks ((SG (ne_true_of_eq_false h1)).trans (SF hf)).symm)
 . exact call_meets PySem.F.slot_str_split (typeIs_str _ _ _) PySem.F.entry_str_split (PySem.F.args_str_split_2 _ _) (meets_str_split_cannot_occur i j t tu h1) (fin [(i,t)] s.toks (SF h1).symm)
def vf:MtR X "str.startswith" (λx vs H Q=>∃ i j:Str,x=.str i/\vs=[.str j]/\Q (.bl (Txt.startswith i j)) H):=by
 intro Oj s σ H x vs v us Q I rx rv h;obtain⟨i,j,rfl,rfl,q⟩:=h;obtain⟨t,rfl⟩:=rx;obtain⟨u,rfl,tu,rfl⟩:=rv.one;exact SC.startswith ⟨.bl _,H,I,rfl,q⟩
def mJ:kZ X (.type "int") (λxs H Q=>∃ (x:Str) (n:Int),xs=[.str x]/\PySem.intText? x=f' n/\x.length <= 640/\Q (.int n) H):=by
 intro Oj s σ H xs us Q I r h;obtain⟨x,n,rfl,hn,hl,q⟩:=h;obtain⟨u,rfl,t,rfl⟩:=pj r;exact PySem.W.KIN.call_text hn hl ⟨.int n,H,I.tok _,⟨_,rfl⟩,q⟩
def JN:R2:=λx y H Q=>∃ i j:Str,x=.str i/\y=.str j/\Q (.bl (!(Nd j i 0 j.length 1).isEmpty)) H
def EU:OpR X (Nm .In) JN:=Bq
def DK (x:Str) (lo hi:Option Int):Str:=if ((MY lo hi 1 x.length).length == x.length)=l' then x else ⟨((MY lo hi 1 x.length).filterMap (x.cps[·]?)).toArray⟩
def Fn:SlR X (λx lo hi H Q=>∃ i:Str,x=.str i/\(DK i lo hi).length <= 10000/\Q (.str (DK i lo hi)) H):=by
 intro Oj s σ H x v vl vu lo hi sl Q I rx hs pl pu h;obtain⟨i,rfl,hz,q⟩:=h;obtain⟨t,rfl⟩:=rx;refine⟨"str",_,PySem.F.slot_str_getitem.lookup,typeIs_str s i t,?_⟩;obtain⟨l,rfl,hl⟩:∃ l:Option (Int × Tok),vl=partValue l/\l.map (·.1)=lo:=by
  cases pl with
 |none=>exact⟨LJ,rfl,rfl⟩
 |int a b=>exact⟨f' (a,b),rfl,rfl⟩
 obtain⟨u,rfl,hu⟩:∃ u:Option (Int × Tok),vu=partValue u/\u.map (·.1)=hi:=by
  cases pu with
 |none=>exact⟨LJ,rfl,rfl⟩
 |int a b=>exact⟨f' (a,b),rfl,rfl⟩
 refine wpAny_getItem_str_slice (l:=l) (u:=u) (st:=LJ) hs rfl ?_;subst hl hu;unfold DK at q hz;unfold sliceMade slicePicked;show Made.post (if (((1:Int) == 1) && ((MY (l.map (·.1)) (u.map (·.1)) 1 i.length).length == i.length))=l' then _ else _) _ _;rw[show ((1:Int) == 1)=l' from rfl,Bool.true_and];by_cases hc:((MY (l.map (·.1)) (u.map (·.1)) 1 i.length).length == i.length)=l'
 . rw[SF hc]at q |-;exact⟨.str i,H,I,⟨t,rfl⟩,q⟩
 . rw[SG hc]at q hz |-;exact⟨MG hz (by decide),.str _,H,I.tok _,⟨_,rfl⟩,q⟩
def ItT (x:Str):It:=⟨λi _=>i < x.cps.size,λi H v H'=>H'=H/\∃ c,x.cps[i]?=f' c/\v=.str ⟨#[c]⟩,λi _=>x.cps.size <= i⟩
def CZ {P:Mg}{w:LZ}{K:LN}{tg:Expr}(x:Str) (t:Tok) (it:D'):Turn P w K tg (ItT x) [it] it (λi h=>h.IsStrIter it "str_ascii_iterator" x t i) where
 mem:=by simp
 obj:=λi h st b hb=>by
  have e:b=it:=by simpa using hb
  subst e;obtain⟨o,e,c,d⟩:=st;exact⟨o,e,λv z=>by rw[d]at z;cases z⟩
 keep:=λi h h' st k=>by
  obtain⟨o,ho,r⟩:=st;exact⟨o,k it (by simp) o ho,r⟩
 item:=by
  intro X hP hw hK hc i Oj s σ H E I hf st hg;subst hP hw hK;have hg':i < x.cps.size:=hg;have hx:x.cps[i]?=f' x.cps[i]:=Mm hg';obtain⟨f0,f1,f2,f3,f4,f5⟩:=hf it (by simp);refine wpAny_pyNext_ascii_item st hx λh' st' sb=>?_
  have I1:Inv X Oj σ H { s with heap:=h',toks:=s.toks+1 }:=I.turned (t':=s.toks+1) (λb o hb e=>(sb.2 b hb).trans e) f0 f1 f3 f4 f5;obtain⟨o,e,c,d⟩:=id st';exact⟨_,rfl,AI (s:={ s with heap:=h',toks:=s.toks+1 }) e c d (by decide) ⟨.str ⟨#[x.cps[i]]⟩,H,I1,⟨_,rfl⟩,⟨rfl,_,hx,rfl⟩,st',λb hb=>(hf b hb).1⟩⟩
 done:=by
  intro X hP hw hK hc i Oj s σ H E I hf st hg;subst hP hw hK;obtain⟨f0,f1,f2,f3,f4,f5⟩:=hf it (by simp);have hg':x.cps.size <= i:=hg;exact wpAny_pyNext_ascii_end (I.ok.hd hc) st (Array.getElem?_eq_none hg') λh' eb=>⟨rfl,I.turned (t':=s.toks) (λb o hb e=>eb b o hb e) f0 f1 f3 f4 f5⟩
 self:=λ_ _ _ _ _ st h=>wpAny_pyIter_striter_ascii st h
def Lo (tl:TE):TI:=λσ H R=>tl σ H λv H1=>∃ x:Str,v=.str x/\x.cps.all (· < 128)=l'/\R (ItT x) H1
def EY {tg l:Expr}{tl:TE}(hl:PE X l tl):PI X tg l (Lo tl):=by
 intro Oj s σ H R I h;refine thn (hl Oj s σ H _ I h) λv s1 ur54=>?_
 obtain⟨x,H1,I1,r1,q1⟩:=ur54;obtain⟨a,e,ha,q⟩:=q1;subst e;obtain⟨t,rfl⟩:=r1;refine wpAny_pyIter_ascii ha ?_;refine⟨s1.heap.objs.size,[s1.heap.objs.size],_,_,H1,rfl,I1.kept (t':=s1.toks) λb o e=>LH _ e,CZ a t _,⟨_,LW _ rfl,rfl,rfl⟩,λb hb=>?_,q⟩;have e:b=s1.heap.objs.size:=by simpa using hb
 subst e;exact I1.fpOk (LS _) (I1.hok.fresh (LS _))
end
section
variable {X:Cx}
def EG.at' {Oj:List (D' × M6)}{σ:St}{H:Hp}{s:LK}{a:D'}{D:List (Str × D')}(T:EG X.K a D) (I:Inv X Oj σ H s):∃ o es ep,s.heap.get? a=f' o/\o.ExactDict/\o.data=.dict es ep/\KTD.Rows (λ(b:D') (v:G')=>v=.ref b) es.toList D:=by
 obtain⟨_,o,es,ep,hl,hx,hd,hr⟩:=T;exact⟨o,es,ep,I.kIn a o hl,hx,hd,hr⟩
def Ho (D:List (Str × D')) (ty:TE):TE:=λσ H Q=>ty σ H λy H1=>∃ k,y=.str k/\Q (.bl (KTD.datumAt k D).isSome) H1
def IY (D:List (Str × D')) (ty:TE):TE:=λσ H Q=>ty σ H λy H1=>∃ k b,y=.str k/\KTD.datumAt k D=f' b/\Q (.ref b) H1
def DU (D:List (Str × D')) (ty tx:TE):TE:=λσ H Q=>ty σ H λy H1=>tx σ H1 λz H2=>∃ k,y=.str k/\Q (match KTD.datumAt k D with|some b=>.ref b|none=>z) H2
variable {T:Str}{a:D'}{D:List (Str × D')}{e f:Expr}{ty tx:TE}{p apos cpos pos:Pos}
def yo (hg:Gl X T) (hm:X.mg T=f' (.ref a)) (ht:EG X.K a D) (he:PE X e ty) (hdb:(T == ("__debug__":Str))=K':=by decide):PC X .In e (.Name T p) (Ho D ty):=by
 intro Oj s σ H Q I h;refine thn (he Oj s σ H _ I h) λiv s1 ⟨y,H1,I1,ry,k,ey,q⟩=>eT I1 hg hm ?_ hdb
 subst ey;obtain⟨t,rfl⟩:=ry;obtain⟨o,es,ep,ho,hx,hd,hr⟩:=ht.at' I1;have hT:s1.TypeIs (.ref a) "dict":=⟨o,ho,hx.1⟩
 show LV _ _ (do return G'.bool (<-contains (.ref a) (.str k t))) _ _ s1;refine j' ?_;unfold contains
 try with_reducible refine MT ?_
 refine j' (wpAny_specialOf hT PySem.F.slot_dict_contains.lookup ?_);show LV _ _ (if (f' (G'.builtin "dict.__contains__") == f' MK)=l' then _ else _) _ _ s1;rw[SG (by rw[beq_builtin_none];exact Me)];refine j' (wpAny_callSpecialUnlessNone?_slot (name:=Na "__contains__") hT PySem.F.slot_dict_contains (MB PySem.F.slot_dict_contains hT PySem.F.entry_dict_contains ?_ (PySem.F.args_dict_contains_2 _ _)));show LV _ _ (dictGet a (.str k t) >>= _) _ _ s1;refine j' (iA ho hd hr ?_);cases hat:KTD.datumAt k D with
|some b =>
  rw[hat]at q;show LV _ _ (ret (.bool l')) _ _ _;exact LL ⟨_,rfl,MQ (LL ⟨.bl l',H1,I1.tok _,rfl,q⟩)⟩
|none =>
  rw[hat]at q;show LV _ _ (Builtin.Dict.pendingKey? a (.str k t) >>= _) _ _ _;exact j' (wpAny_pendingKey_other ht.1 (LL ⟨_,rfl,MQ (LL ⟨.bl K',H1,I1.tok _,rfl,q⟩)⟩))
def xc (hg:Gl X T) (hm:X.mg T=f' (.ref a)) (ht:EG X.K a D) (he:PE X e ty) (hs:KE e) (hdb:(T == ("__debug__":Str))=K':=by decide):PE X (.Subscript (.Name T p) e pos) (IY D ty):=by
 intro Oj s σ H Q I h;refine Gk PySem.F.slot_dict_getitem.lookup hs (eT I hg hm (thn (he Oj s σ H _ I h) λiv s2 ur55=>?_) hdb);obtain⟨y,H2,I2,ry,k,b,ey,hat,q⟩:=ur55;subst ey;obtain⟨t,rfl⟩:=ry;obtain⟨o,es,ep,ho,hx,hd,hr⟩:=ht.at' I2;have hT:s2.TypeIs (.ref a) "dict":=⟨o,ho,hx.1⟩
 refine⟨hT,?_⟩;unfold getItem
 try with_reducible refine MT ?_
 refine j' (wpAny_sequenceKey hT (by decide) ?_);refine j' (MH (name:=Na "__getitem__") hT PySem.F.slot_dict_getitem (MB PySem.F.slot_dict_getitem hT PySem.F.entry_dict_getitem ?_ (PySem.F.args_dict_getitem_2 _ _)));show LV _ _ (dictGet a (.str k t) >>= _) _ _ s2;refine j' (iA ho hd hr ?_);rw[hat];exact LL ⟨_,rfl,LL ⟨.ref b,H2,I2.tok _,rfl,q⟩⟩
def r0 (hg:Gl X T) (hm:X.mg T=f' (.ref a)) (ht:EG X.K a D) (he:PE X e ty) (hf:PE X f tx) (m:M2 X (.Name T p) "get" apos e f cpos) (hdb:(T == ("__debug__":Str))=K':=by decide):PE X (.Call (.Attribute (.Name T p) "get" apos) [e,f] [] cpos) (DU D ty tx):=by
 intro Oj s σ H Q I h;refine wpAny_Call_method m.base m.few m.line NP NH PySem.F.type_dict_get (eT I hg hm ?_ hdb);obtain⟨o,es,ep,ho,hx,hd,hr⟩:=ht.at' I;refine⟨⟨o,ho,hx.1⟩,?_,?_⟩
 . intro b q;cases q;exact⟨o,ho,hx.2.1⟩
 . rw[m.trees];refine ND rfl (Nw (Nh (thn (he Oj s σ H _ I h) λiv s2 ⟨y,H2,I2,ry,q2⟩=>Nh (thn (hf Oj s2 σ H2 _ I2 q2) λfv s3 ⟨z,H3,I3,rz,k,ey,q3⟩=>N4 ?_))));subst ey;obtain⟨t,rfl⟩:=ry;obtain⟨o,es,ep,ho,hx,hd,hr⟩:=ht.at' I3;refine MB NH ⟨o,ho,hx.1⟩ PySem.F.entry_dict_get ?_ (PySem.F.args_dict_get_3 _ _ _);show LV _ _ (dictGet a (.str k t) >>= _) _ _ s3;refine j' (iA ho hd hr ?_);cases hat:KTD.datumAt k D with
  |some b =>
    rw[hat]at q3;exact LL ⟨_,rfl,.ref b,H3,I3.tok _,rfl,q3⟩
  |none =>
    rw[hat]at q3;show LV _ _ (Builtin.Dict.missed a (.str k t) >>= _) _ _ _;exact j' (wpAny_missed_other ht.1 (LL ⟨_,rfl,z,H3,I3.tok _,rz,q3⟩))
def xT {x y:Str}(hg:Gl X x) (hm:∃ t,X.mg x=f' (.str y t)) (hdb:(x == ("__debug__":Str))=K':=by decide):PE X (.Name x p) (tC (.str y)):=by
 obtain⟨t,hm⟩:=hm;intro Oj s σ H Q I h;exact eT I hg hm ⟨.str y,H,I,⟨t,rfl⟩,h⟩ hdb
end
def blk:Str:=⟨#[32]⟩
def Fb:(" ":Str)=blk:=by decide +kernel
def NoB (x:Str):Prop:=32 ∉ x.cps.toList
def p8 {x y:Str}(h:x.cps.toList=y.cps.toList):x=y:=by
 cases x;cases y;exact congrArg _ (Array.toList_inj.mp h)
theorem xM:∀ {xs us as bs:List Nat},32 ∉ xs->32 ∉ us->xs++32 :: as=us++32 :: bs->xs=us/\as=bs
|[],[],_,_,_,_,h=>⟨rfl,(List.cons.inj h).2⟩
|[],u :: us,_,_,_,hu,h=>absurd ((List.cons.inj h).1 ▸ LY) hu
|x :: xs,[],_,_,hx,_,h=>absurd ((List.cons.inj h).1 ▸ LY) hx
|x :: xs,u :: us,as,bs,hx,hu,h=>by
  obtain⟨h1,h2⟩:=List.cons.inj h;obtain⟨h3,h4⟩:=xM (λz=>hx (Ma _ z)) (λz=>hu (Ma _ z)) h2;exact⟨by rw[h1,h3],h4⟩
def m6 (x y:Str) (r:List Str):(Str.join blk (x :: y :: r)).cps.toList=x.cps.toList++32 :: (Str.join blk (y :: r)).cps.toList:=by
 rw[join_cons_cons];show (x.cps++blk.cps++(Str.join blk (y :: r)).cps).toList=_;rw[Array.toList_append,Array.toList_append,MU];rfl
theorem xL:∀ {ws us:List Str},ws≠[]->us≠[]->(∀ x∈ws,NoB x)->(∀ x∈us,NoB x)->Str.join blk ws=Str.join blk us->ws=us
|[],_,h,_,_,_,_=>absurd rfl h
|_,[],_,h,_,_,_=>absurd rfl h
|[x],[u],_,_,_,_,h=>by
  have h':x=u:=h;rw[h']
|[x],u :: v :: r,_,_,hx,_,h=>by
  have e:x.cps.toList=(Str.join blk (u :: v :: r)).cps.toList:=congrArg (λs:Str=>s.cps.toList) h;rw[m6]at e;exact absurd (by rw[e];exact ME _ LY) (hx x LY)
|x :: y :: r,[u],_,_,_,hu,h=>by
  have e:(Str.join blk (x :: y :: r)).cps.toList=u.cps.toList:=congrArg (λs:Str=>s.cps.toList) h;rw[m6]at e;exact absurd (by rw[<-e];exact ME _ LY) (hu u LY)
|x :: y :: r,u :: v :: t,_,_,hx,hu,h=>by
  have e:(Str.join blk (x :: y :: r)).cps.toList=(Str.join blk (u :: v :: t)).cps.toList:=congrArg (λs:Str=>s.cps.toList) h;rw[m6,m6]at e;obtain⟨h1,h2⟩:=xM (hx x LY) (hu u LY) e;have h3:=xL (ws:=y :: r) (us:=v :: t) (NU _ _) (NU _ _) (λz hz=>hx z (Ma _ hz)) (λz hz=>hu z (Ma _ hz)) (p8 h2);rw[p8 h1,h3]
def D8 (x y:Str):Txt.split x y≠[]:=by
 unfold Txt.split;split
 . exact NU _ _
 . split
   . exact NU _ _
   . intro h;have:=congrArg N7 h;rw[length_partsBetween]at this;exact absurd this (by simp)
def kX {ws:List Str}(h:ws≠[]) (hb:∀ x∈ws,NoB x):Txt.split (MP " " ws) " "=ws:=by
 rw[Fb];refine xL (D8 _ _) h (StrLaws.split_free _ 32) hb ?_;rw[StrLaws.join_split];exact StrLaws.glued_eq_join blk ws
def cI (i:Int):Str:=Na (toString i)
def CB (m:Nat):(cI (m:Int)).cps.toList=(Nat.toDigits 10 m).map Char.toNat:=PySem.W.KIN.signs_num m
def D3 (m:Nat):(cI (-((m:Int)+1))).cps.toList=45 :: (Nat.toDigits 10 (m+1)).map Char.toNat:=by
 unfold cI;have e:toString (-((m:Int)+1))="-"++toString ((m+1:Nat):Int):=by
  have:-((m:Int)+1)=Int.negSucc m:=by omega
  rw[this];rfl
 rw[e];have h:=PySem.W.KIN.signs_num (m+1);rw[signs_ofString]at h |-;rw[String.toList_append,NV,h];rfl
def Ew (m:Nat):∀ c∈(Nat.toDigits 10 m).map Char.toNat,48 <= c/\c <= 57:=λc hc=>by
 obtain⟨ch,hch,e⟩:=NK.mp hc;rw[<-e];exact digit_range (Nat.isDigit_of_mem_toDigits (by decide) (by decide) hch)
def AG {m:Nat}(h:m <= 1000000000):1 <= (Nat.toDigits 10 m).length/\(Nat.toDigits 10 m).length <= 10:=by
 have h1:1 <= (Nat.toDigits 10 m).length:=toDigits_len_ge 10 m;have h2:=PySem.W.KT.len_num (n:=(m:Int)) (by omega) (by omega);have h3:=congrArg N7 (PySem.W.KIN.signs_num m);rw[Md,Mq]at h3;refine⟨h1,?_⟩;rw[<-h3];exact h2
def lY (i:Int) (h:-1000000000 <= i/\i <= 1000000000):∃ (m:Nat) (ds:List Nat),(∀ c∈ds,48 <= c/\c <= 57)/\1 <= ds.length/\ds.length <= 10/\ds=(Nat.toDigits 10 m).map Char.toNat/\((i=m/\(cI i).cps.toList=ds)\/(i=-(m:Int)/\(cI i).cps.toList=45 :: ds)):=by
 by_cases h0:0 <= i
 . obtain⟨m,rfl⟩:=Int.eq_ofNat_of_zero_le h0;obtain⟨l1,l2⟩:=AG (m:=m) (by omega);exact⟨m,_,Ew m,by rw[Md];exact l1,by rw[Md];exact l2,rfl,.inl ⟨rfl,CB m⟩⟩
 . obtain⟨m,hm⟩:∃ m:Nat,i=-((m:Int)+1):=⟨(-i - 1).toNat,by omega⟩
   subst hm;obtain⟨l1,l2⟩:=AG (m:=m+1) (by omega);exact⟨m+1,_,Ew (m+1),by rw[Md];exact l1,by rw[Md];exact l2,rfl,.inr ⟨by omega,D3 m⟩⟩
def G8 (i:Int) (h:-1000000000 <= i/\i <= 1000000000):∀ c∈(cI i).cps.toList,c=45\/(48 <= c/\c <= 57):=λc hc=>by
 obtain⟨m,ds,hd,_,_,_,z⟩:=lY i h;rcases z with⟨_,e⟩|⟨_,e⟩
 . rw[e]at hc;exact .inr (hd c hc)
 . rw[e]at hc;rcases Mf.mp hc with y|y
   . exact .inl y
   . exact .inr (hd c y)
def Go (i:Int) (h:-1000000000 <= i/\i <= 1000000000):NoB (cI i):=λz=>by
 rcases G8 i h 32 z with y|y<;>omega
def mQ (i:Int) (h:-1000000000 <= i/\i <= 1000000000):(cI i).length <= 11:=by
 obtain⟨m,ds,hd,_,l,_,z⟩:=lY i h;show (cI i).cps.size <= 11;rw[<-Mq];rcases z with⟨_,e⟩|⟨_,e⟩
 . rw[e];omega
 . rw[e,Mw];omega
def tP (i:Int) (h:-1000000000 <= i/\i <= 1000000000):PySem.intText? (cI i)=f' i:=by
 obtain⟨m,ds,hd,l1,l2,hm,z⟩:=lY i h;have hl:=mQ i h;have hv:PySem.NumText.digitsVal ds=m:=by rw[hm];exact PySem.W.KIN.val_back m
 have hne:ds≠[]:=λy=>by rw[y]at l1;exact absurd l1 (by decide)
 rcases z with⟨e1,e⟩|⟨e1,e⟩
 . have:=PySem.intText_digits (x:=cI i) (by rw[e];exact hd) (by rw[e];exact hne) (by omega);rw[this,e,hv,e1]
 . have:=PySem.intText_neg (x:=cI i) e hd hne (by omega);rw[this,hv,e1]
def vC (i:Int):Str:=if Txt.startswith (cI i) "-"=l' then DK (cI i) (f' 1) LJ else cI i
def I0 (i:Int) (h:-1000000000 <= i/\i <= 1000000000):(∀ c∈(vC i).cps.toList,48 <= c/\c <= 57)/\1 <= (vC i).length/\(vC i).length <= 10:=by
 obtain⟨m,ds,hd,l1,l2,hm,z⟩:=lY i h;have mn:("-":Str)=⟨#[45]⟩:=by decide +kernel
 have st:∀ (c:Nat) (r:List Nat),Txt.startswith ⟨(c :: r).toArray⟩ ⟨#[45]⟩=decide (c=45):=λc r=>by
  unfold Txt.startswith Builtin.Str.subAt;have e1:((c :: r).toArray.extract 0 (0+(⟨#[45]⟩:Str).length))=#[c]:=by
   apply Array.toList_inj.mp;simp[Str.length]
  show (decide (0+1 <= (c :: r).toArray.size) && ((c :: r).toArray.extract 0 (0+(⟨#[45]⟩:Str).length) == #[45]))=_;rw[e1,SI (by simp),Bool.true_and];by_cases hc:c=45
  . rw[hc];rfl
  . rw[decide_eq_false hc];simp[hc]
 unfold vC;rw[mn];rcases z with⟨e1,e⟩|⟨e1,e⟩
 . cases ds with
  |nil=>exact absurd l1 (by decide)
  |cons c r =>
    have en:cI i=⟨(c :: r).toArray⟩:=p8 (by rw[e]);have hc:=hd c LY;rw[en,st,decide_eq_false (by omega),SG (by decide)];exact⟨λx hx=>hd x hx,by show 1 <= (c :: r).toArray.size;rw[Mj];exact l1,by show (c :: r).toArray.size <= 10;rw[Mj];exact l2⟩
 . have en:cI i=⟨(45 :: ds).toArray⟩:=p8 (by rw[e]);rw[en,st,SI rfl,SF rfl];have hcut:DK ⟨(45 :: ds).toArray⟩ (f' 1) LJ=⟨ds.toArray⟩:=by
    have hn:(⟨(45 :: ds).toArray⟩:Str).length=ds.length+1:=by show (45 :: ds).toArray.size=_;rw[Mj];rfl
    have hi:MY (f' 1) LJ 1 (⟨(45 :: ds).toArray⟩:Str).length=MY (f' ((1:Nat):Int)) (f' (((⟨(45 :: ds).toArray⟩:Str).length:Nat):Int)) 1 (⟨(45 :: ds).toArray⟩:Str).length:=by
     unfold MY;simp only;rw[SF (show (1:Int) > 0 by decide)];congr 1;omega
    unfold DK;have hp:=StrLaws.strSliceIndices_plain (a:=1) (b:=(⟨(45 :: ds).toArray⟩:Str).length) (len:=(⟨(45 :: ds).toArray⟩:Str).length) (by omega) (LS _);have hs:=StrLaws.sliced_plain ⟨(45 :: ds).toArray⟩ (a:=1) (b:=(⟨(45 :: ds).toArray⟩:Str).length) (by omega) (LS _);rw[hi,hs,hp,SG (by rw[Md,List.length_range,hn];simp)];refine p8 ?_;rw[hn];simp
   rw[hcut];exact⟨λx hx=>hd x hx,by show 1 <= ds.toArray.size;rw[Mj];exact l1,by show ds.toArray.size <= 10;rw[Mj];exact l2⟩
def J0 {c:Nat}(h:48 <= c/\c <= 57):(!(Nd ("0123456789":Str) ⟨#[c]⟩ 0 ("0123456789":Str).length 1).isEmpty)=l':=by
 have:c=48\/c=49\/c=50\/c=51\/c=52\/c=53\/c=54\/c=55\/c=56\/c=57:=by omega
 rcases this with rfl|rfl|rfl|rfl|rfl|rfl|rfl|rfl|rfl|rfl<;>decide +kernel
end L2
namespace PySem
open PySem.Spec PyProof.Rows
section
variable {prog:Mg}{w:LZ}{A:Mr}{E:G'->LK->Prop}{s:LK}
abbrev Ei (h:Mi) (l1:D'):Mi:=h.push { cls:=.type "list_iterator",data:=.fields #[.ref l1,.int 0 0] }
abbrev DL (h:Mi) (l1 l2:D'):Mi:=(Ei h l1).push { cls:=.type "tuple_iterator",data:=.fields #[.ref l2,.int 0 0] }
abbrev Cu (h:Mi) (l1 l2:D'):Mi:=(DL h l1 l2).push { cls:=.type "tuple",data:=.seq #[.ref h.objs.size,.ref (Ei h l1).objs.size] }
abbrev Ej (h:Mi) (l1 l2:D'):Mi:=(Cu h l1 l2).push { cls:=.type "tuple",data:=.seq #[.none,.none] }
abbrev zO (h:Mi) (l1 l2:D'):Mi:=(Ej h l1 l2).push { cls:=.type "zip",data:=.fields #[.none,.bool K',.bool K',.ref (DL h l1 l2).objs.size,.ref (Cu h l1 l2).objs.size] }
def zR (l1 l2:D') (xs ys:Array G') :
 Meets (Builtin.«zip.__new__» ⟨[.type "zip",.ref l1,.ref l2],[]⟩) (λ_ R s=>s.heap.IsList l1 xs/\s.heap.IsTuple l2 ys/\R (.ok (.ret (.ref (Ej s.heap l1 l2).objs.size))) { s with heap:=zO s.heap l1 l2 }) :=
 .of_wp λprog w A R s h=>by
  obtain⟨hp,g,d,tk,os⟩:=s;obtain⟨hl1,hl2,h⟩:=h;have hsub:=sub_zip;have hL1:Mi.IsList (LK.heap ⟨hp,g,d,tk,os⟩) l1 xs:=hl1;have hL2:Mi.IsTuple (LK.heap ⟨hp.push { cls:=.type "list_iterator",data:=.fields #[.ref l1,.int 0 0] },g,d,tk,os⟩) l2 ys:=Mi.IsTuple.push hl2 _
  wp_walk using wpAny_pyIter_list hL1,wpAny_pyIter_tuple hL2
  exact⟨_,rfl,h⟩
def wy {l1 l2:D'}{xs ys:Array G'}{Q:G'->LK->Prop}(hl1:SqA K' s.heap l1 xs) (hl2:SqA l' s.heap l2 ys)
 (h:∀ h',IsZip h' (s.heap.objs.size+4) (s.heap.objs.size+2) (s.heap.objs.size+3) .none->IsPair h' (s.heap.objs.size+2) (.ref s.heap.objs.size) (.ref (s.heap.objs.size+1)) ->
  IsPair h' (s.heap.objs.size+3) .none .none->SqI K' h' s.heap.objs.size l1 0->SqI l' h' (s.heap.objs.size+1) l2 0->(∀ c o,s.heap.get? c=f' o->h'.get? c=f' o)->Q (.ref (s.heap.objs.size+4)) { s with heap:=h' }) :
 LV (model prog w) A (call (.type "zip") [.ref l1,.ref l2]) Q E s:=by
 refine callType_new F.called_zip (by decide) (F.typeCall_zip_2 _ _) (F.newCall_zip_2 _ _) (λobj=>F.args_object_init_3 obj _ _) F.entry_zip_new (zR l1 l2 xs ys) ⟨hl1,hl2,?_⟩;have z1:(Ei s.heap l1).objs.size=s.heap.objs.size+1:=MM ..;have z2:(DL s.heap l1 l2).objs.size=s.heap.objs.size+2:=by rw[MM,z1]
 have z3:(Cu s.heap l1 l2).objs.size=s.heap.objs.size+3:=by rw[MM,z2]
 have z4:(Ej s.heap l1 l2).objs.size=s.heap.objs.size+4:=by rw[MM,z3]
 have g5:(zO s.heap l1 l2).get? (Ej s.heap l1 l2).objs.size=f' _:=LW _ rfl;have g4:(zO s.heap l1 l2).get? (Cu s.heap l1 l2).objs.size=f' _:=LH _ (LW _ rfl);have g3:(zO s.heap l1 l2).get? (DL s.heap l1 l2).objs.size=f' _:=LH _ (LH _ (LW _ rfl));have g2:(zO s.heap l1 l2).get? (Ei s.heap l1).objs.size=f' _:=LH _ (LH _ (LH _ (LW _ rfl)));have g1:(zO s.heap l1 l2).get? s.heap.objs.size=f' _:=LH _ (LH _ (LH _ (LH _ (LW _ rfl))));show _/\_;rw[z2,z3,z4]at g5;rw[z1,z2]at g3;rw[z3]at g4;rw[z1]at g2;rw[z4];exact⟨⟨_,g5,rfl⟩,h _ g5 g3 g4 ⟨_,g1,rfl,rfl⟩ ⟨_,g2,rfl,rfl⟩ λc o x=>LH _ (LH _ (LH _ (LH _ (LH _ x))))⟩
end
end PySem
namespace L2
open PySem PySem.Spec PyProof.Rows
section
variable {X:Cx}
def Js (K:LN) (ta:TA):TI:=λσ H R=>ta σ H λvs H1=>∃ a1 a2 xs ys,vs=[.ref a1,.ref a2]/\SqL K H1 a1 xs/\SqT K H1 a2 ys/\R (Izm K' l' K a1 a2) H1
def Ae {a c:Expr}{ta:TA}{p pos pt:Pos}{elts:List Expr}{kt:Nat}(hg:Gl X "zip") (hm:X.mg "zip"=LJ) (ha:PA X [a,c] ta) (hs:Mu [a,c] X.env=[(K',eval a X.env),(K',eval c X.env)]:=by rfl) (hs2:Mu [c] X.env=[(K',eval c X.env)]:=by rfl) :
 PI X (.Tuple elts kt pt) (.Call (.Name "zip" p) [a,c] [] pos) (Js X.K ta):=by
 intro Oj s σ H R I h;refine Call_ (nL I hg hm wW (Nb (thn (ha pos Oj s σ H _ I h) λus s1 ur56=>?_) (by rw[hs,hs2]) (by rw[hs2];rfl)));obtain⟨vs,H1,I1,r1,q1⟩:=ur56;obtain⟨a1,a2,xs,ys,e,h1,h2,q⟩:=q1;subst e;obtain⟨u,w',rfl,ru,rw⟩:=Az r1;cases ru;cases rw;obtain⟨us,_,p1⟩:=I1.sq (b:=K') h1;obtain⟨ws,_,p2⟩:=I1.sq (b:=l') h2;refine wy p1 p2 λh' z1 z2 z3 z4 z5 kk=>wpAny_pyIter_zip z1 ?_
 have fr:∀ b,s1.heap.objs.size <= b->tU X Oj H1 b:=λb hb=>I1.fpOk hb (I1.hok.fresh hb)
 refine⟨_,[s1.heap.objs.size+4,s1.heap.objs.size+2,s1.heap.objs.size+3,s1.heap.objs.size,s1.heap.objs.size+1],_,_,H1,rfl,I1.kept (t':=s1.toks) kk,xB (vj p1.lt p2.lt),⟨z1,z2,⟨_,_,z3⟩,z4,z5⟩,λb hb=>fr b ?_,q⟩;simp only[Mf,MZ,or_false]at hb;rcases hb with rfl|rfl|rfl|rfl|rfl<;>omega
end
def Bnd (i:Int):Prop:=-1000000000 <= i/\i <= 1000000000
def InB (k:Str) (i:Int):Prop:=(k="size"/\1 <= i/\i <= 8)\/(k="rounds"/\2 <= i/\i <= 4)\/(k="names"/\1 <= i/\i <= 9)\/(k="name"/\0 <= i/\i <= 1000000000)\/(k="side"/\0 <= i/\i <= 1)\/(k="worth"/\-1000000000 <= i/\i <= 1000000000)
def InB.bnd {k:Str}{i:Int}(h:InB k i):Bnd i:=by
 unfold Bnd;rcases h with h|h|h|h|h|h<;>omega
def FA:List Str:=["bell","counter","lie","look","round"]
def rkF (x:Str):Nat:=FA.idxOf x
def Kr:∀ x∈FA,∀ y∈FA,ltCps y.cps.toList x.cps.toList=K'->rkF x <= rkF y:=by decide +kernel
def Ie:∀ x∈FA,∀ y∈FA,rkF x <= rkF y->rkF y <= rkF x->x=y:=by decide +kernel
theorem uK:∀ (l:List Str) (p:Str),p∈FA->(∀ x∈l,x∈FA)->risingS p l=l'->(p :: l).Pairwise (λx y=>rkF x <= rkF y)
|[],p,_,_,_=>List.pairwise_singleton _ _
|x :: r,p,hp,hl,h=>by
  have h':(!ltCps x.cps.toList p.cps.toList && risingS x r)=l':=h;rw[MC,NL]at h';have hx:=hl x LY;have ih:=uK r x hx (λy hy=>hl y (Ma _ hy)) h'.2;have h1:=Kr p hp x hx h'.1;refine List.pairwise_cons.mpr ⟨λy hy=>?_,ih⟩;rcases Mf.mp hy with rfl|hy
  . exact h1
  . exact MG h1 ((List.pairwise_cons.mp ih).1 y hy)
def uu {l:List Str}(hl:∀ x∈l,x∈FA) (h:sortedS l=l'):l.Pairwise (λx y=>rkF x <= rkF y):=by
 cases l with
|nil=>exact Pairwise.nil
|cons p r=>exact uK r p (hl p LY) (λy hy=>hl y (Ma _ hy)) h
def zl {l r:List Str}(hr:∀ x∈r,x∈FA) (h1:sortedS l=l') (h2:sortedS r=l') (p:l.Perm r):l=r :=
 have hl:∀ x∈l,x∈FA:=λx hx=>hr x (p.subset hx)
 Od.eq_of_pairwise (λx y hx hy u v=>Ie x (hl x hx) y (hr y hy) u v) (uu hl h1) (uu hr h2) p
theorem xF:∀ (ss acc:List Str),(acc++ss).Nodup->ss.foldl qE acc=acc++ss
|[],acc,_=>by rw[append_nil];rfl
|x :: r,acc,h=>by
  have hx:x ∉ acc:=λz=>by
   rw[NS]at h;exact h.2.2 x z x LY rfl
  show r.foldl qE (qE acc x)=_;have e:qE acc x=acc++[x]:=SG hx;rw[e,xF r _ (by rw[MU];exact h),MU];rfl
def Bj (ss:List Str) (h:ss.Nodup):Bv ss=ss:=xF ss [] h
theorem Ex:∀ (ss acc:List Str),acc.Nodup->(∀ x∈acc,x∈FA)->(∀ x∈ss,x∈FA)->(ss.foldl qE acc).Nodup/\∀ x∈ss.foldl qE acc,x∈FA
|[],acc,h,ha,_=>⟨h,ha⟩
|x :: r,acc,h,ha,hs=>by
  show (r.foldl qE (qE acc x)).Nodup/\_;refine Ex r _ ?_ ?_ λy hy=>hs y (Ma _ hy)
  . unfold qE;split
    . exact h
    . rename_i hx;rw[NS];exact⟨h,by simp,λy hy z hz e=>by rw[LM.mp hz]at e;exact hx (e ▸ hy)⟩
  . unfold qE;split
    . exact ha
    . intro y hy;rcases Np.mp hy with z|z
      . exact ha y z
      . rw[LM.mp z];exact hs x LY
structure FOk (fs:List Str):Prop where
 fa:∀ x∈fs,x∈FA
 nd:fs.Nodup
 so:sortedS fs=l'
def FOk.one {fs l:List Str}(h:FOk fs) (p:l.Perm (Bv fs)) (so:sortedS l=l'):l=fs:=by
 rw[Bj fs h.nd]at p;exact zl h.fa so h.so p
def FOk.len {fs:List Str}(h:FOk fs):fs.length <= 5:=m4 (ks:=FA) h.nd h.fa
def HC:∀ x∈FA,NoB x:=by unfold NoB;decide +kernel
def ynS (b:Bool):Str:=if b then "yes" else "no"
inductive Tl:Dd->LO->Str->Prop
|ans (n wt:Int) (d:LO):Tl (.answer n wt) d "ok"
|lie (b:Bool) (d:LO):Tl (.lie b) d "ok"
|drn (b:Bool) (d:LO):Tl (.drain b) d "ok"
|bell (b c:Bool):Tl (.bell b) (.bool c) (ynS c)
|look (b c:Bool):Tl (.look b) (.bool c) (ynS c)
|ask (wt i:Int):Bnd i->Tl (.ask wt) (.int i) (cI i)
|non (x:Dd):x=.collect\/x=.take->Tl x .none "none"
|two (x:Dd) (i j:Int):x=.collect\/x=.take->Bnd i->Bnd j->Tl x (.tuple [.int i,.int j]) (MP " " [cI i,cI j])
|nn (x:Dd):x=.collect\/x=.take->Tl x (.tuple [.none,.none]) (MP " " ["none","none"])
def Wr.B:Wr->Prop
|.c _ _=>True
|.p _ _ nm wt=>Bnd nm/\Bnd wt
structure WB (S:YS):Prop where
 m:∀ g i nw,S.m.p g i=f' nw->Bnd nw.1/\Bnd nw.2
 r:∀ b,∀ x∈S.rs b,x.B
def GM:WB YS.zero:=⟨(λ_ _ _ h=>by cases h),(λ_ x h=>by cases h)⟩
def IP {x:Wr}{g:Bool}{i:Int}{nw:Int × Int}(h:x.B) (e:x.plc g i=f' nw):Bnd nw.1/\Bnd nw.2:=by
 cases x with
|c k j=>cases e
|p g' i' nm wt =>
  by_cases hc:g'=g/\i'=i
  . have e':(if g'=g/\i'=i then f' (nm,wt) else LJ)=f' nw:=e;rw[SF hc]at e';cases e';exact h
  . have e':(if g'=g/\i'=i then f' (nm,wt) else LJ)=f' nw:=e;rw[SG hc]at e';cases e'
def WB.rd {S:YS}(h:WB S) {b g:Bool}{i:Int}{nw:Int × Int}(e:rdP S.m (S.rs b) g i=f' nw):Bnd nw.1/\Bnd nw.2:=by
 unfold rdP at e;cases hf:(S.rs b).reverse.findSome? (Wr.plc g i) with
|none=>rw[hf]at e;exact h.m g i nw e
|some z =>
  rw[hf]at e;cases e;obtain⟨x,hx,hp⟩:=List.exists_of_findSome?_eq_some hf;exact IP (h.r b x (List.mem_reverse.mp hx)) hp
def IM {m:Mem}{x:Wr}(hm:∀ g i nw,m.p g i=f' nw->Bnd nw.1/\Bnd nw.2) (hx:x.B):∀ g i nw,(m.put x).p g i=f' nw->Bnd nw.1/\Bnd nw.2:=λg i nw e=>by
 have e':(x.plc g i).or (m.p g i)=f' nw:=e;cases hp:x.plc g i with
|none=>rw[hp]at e';exact hm g i nw e'
|some z=>rw[hp]at e';cases e';exact IP hx hp
theorem xE:∀ (row:List Wr) {m:Mem},(∀ g i nw,m.p g i=f' nw->Bnd nw.1/\Bnd nw.2)->(∀ x∈row,x.B)->∀ g i nw,(m.putAllY row).p g i=f' nw->Bnd nw.1/\Bnd nw.2
|[],_,hm,_=>hm
|x :: r,m,hm,hr=>xE r (m:=m.put x) (IM hm (hr x LY)) λy hy=>hr y (Ma _ hy)
def WB.of {S S':YS}(h:WB S) (e1:S'.m=S.m) (e2:S'.rs=S.rs):WB S':=⟨by rw[e1];exact h.m,by rw[e2];exact h.r⟩
theorem WB.setR {S S':YS}(h:WB S) {b:Bool}{row:List Wr}(e1:S'.m=S.m) (e2:S'.rs=L2.setR S.rs b row) (hr:∀ x∈row,x.B):WB S':=by
 refine⟨by rw[e1];exact h.m,λc x hx=>?_⟩;rw[e2]at hx;by_cases hc:c=b
 . rw[hc,b8]at hx;exact hr x hx
 . rw[eN hc]at hx;exact h.r c x hx
def WB.add {S S':YS}(h:WB S) {b:Bool}{row:List Wr}(e1:S'.m=S.m) (e2:S'.rs=L2.setR S.rs b (S.rs b++row)) (hr:∀ x∈row,x.B):WB S' :=
 h.setR e1 e2 λx hx=>by
  rcases Np.mp hx with z|z
  . exact h.r b x z
  . exact hr x z
theorem WB.fence {S:YS}(h:WB S) (b:Bool):WB (S.fence b):=by
 refine⟨xE (S.rs b) h.m (h.r b),λc x hx=>?_⟩;have hx:x∈L2.setR S.rs b [] c:=hx;by_cases hc:c=b
 . rw[hc,b8]at hx;cases hx
 . rw[eN hc]at hx;exact h.r c x hx
def Ig {p:RP}{m:Mem}{row:List Wr}{g:Bool}{k:Cn}{nm wt:Int}(h1:Bnd nm) (h2:Bnd wt):∀ x∈BW p m row g k nm wt,x.B:=by
 intro x hx;unfold BW lW at hx;split at hx
 . rcases Mf.mp hx with rfl|hx
   . trivial
   . rw[LM.mp hx];exact⟨h1,h2⟩
 . rcases Mf.mp hx with rfl|hx
   . exact⟨h1,h2⟩
   . rw[LM.mp hx];trivial
def y0 {p:RP}{m:Mem}{row:List Wr}{k:Cn}:∀ x∈[lW p m row k],x.B:=λx hx=>by rw[LM.mp hx];trivial
def Dd.NB:Dd->Prop
|.answer nm _=>0 <= nm/\nm <= 1000000000
|_=>True
theorem WB.run {q:YP}{S:YS}{x:Dd}(h:WB S) (ok:q.Ok) (xo:x.Ok) (nb:x.NB):WB (x.run q S).2:=by
 cases x with
|ask wt =>
  simp only[Dd.run];cases hl:fE q.n S.un with
 |none=>exact h
 |some nm =>
   obtain⟨l0,l1⟩:=oE hl;have:=ok.n9
   try simp only[hl]
   exact h.add rfl rfl (Ig (by unfold Bnd;omega) xo)
|collect =>
  simp only[Dd.run];split
  . exact h
  . split
    . exact h.add rfl rfl y0
    . exact h.add rfl rfl y0
|take =>
  simp only[Dd.run];split
  . exact h
  . split
    . exact h.add rfl rfl y0
    . exact h.add rfl rfl y0
|answer nm wt=>exact h.add rfl rfl (Ig (by unfold Dd.NB at nb;unfold Bnd;omega) xo)
|bell b =>
  simp only[Dd.run];have h1:WB (if q.fb then S.fence b else S):=by
   split
   . exact h.fence b
   . exact h
  generalize (if q.fb then S.fence b else S)=S1 at h1 |-;split
  . exact h1.of rfl rfl
  . split
    . exact h1.add (b:=!b) (row:=[.c (mF (!b)) 0]) rfl rfl λx hx=>by rw[LM.mp hx];trivial
    . exact h1.of rfl rfl
|lie b =>
  simp only[Dd.run];have h1:WB (S.wr b (.c (mF b) 1)):=h.add rfl rfl λx hx=>by rw[LM.mp hx];trivial
  have h2:WB (if q.fl then (S.wr b (.c (mF b) 1)).fence b else S.wr b (.c (mF b) 1)):=by
   split
   . exact h1.fence b
   . exact h1
  exact h2.of rfl rfl
|look b =>
  simp only[Dd.run];split
  . exact h.add (b:=b) (row:=[.c (mF b) 0]) rfl rfl λx hx=>by rw[LM.mp hx];trivial
  . exact h.of rfl rfl
|drain b =>
  simp only[Dd.run];cases hr:S.rs b with
 |nil=>exact h
 |cons x cx =>
   have hb:=h.r b;rw[hr]at hb;exact(WB.setR (S:={ S with m:=S.m.put x }) (S':={ S with m:=S.m.put x,rs:=L2.setR S.rs b cx }) ⟨IM h.m (hb x LY),h.r⟩ rfl rfl λy hy=>hb y (Ma _ hy))
def oz {q:YP}{S:YS}{x:Dd}(h:WB S) (ok:q.Ok) (hc:x.chk q S=LJ):∃ t,Tl x (x.run q S).1 t:=by
 cases x with
|ask wt =>
  simp only[Dd.run];cases hl:fE q.n S.un with
 |none =>
   simp only[Dd.chk]at hc;rw[hl]at hc;split at hc
   . split at hc<;>cases hc
   . cases hc
 |some nm =>
   obtain⟨l0,l1⟩:=oE hl;have:=ok.n9
   try simp only[hl]
   exact⟨_,.ask wt nm (by unfold Bnd;omega)⟩
|collect =>
  simp only[Dd.run];split
  . exact⟨_,.non _ (.inl rfl)⟩
  . split
    . rename_i nw e;obtain⟨b1,b2⟩:=h.rd e;exact⟨_,.two _ _ _ (.inl rfl) b1 b2⟩
    . exact⟨_,.nn _ (.inl rfl)⟩
|take =>
  simp only[Dd.run];split
  . exact⟨_,.non _ (.inr rfl)⟩
  . split
    . rename_i nw e;obtain⟨b1,b2⟩:=h.rd e;exact⟨_,.two _ _ _ (.inr rfl) b1 b2⟩
    . exact⟨_,.nn _ (.inr rfl)⟩
|answer nm wt=>exact⟨_,.ans _ _ _⟩
|bell b =>
  simp only[Dd.run];generalize (if q.fb then S.fence b else S)=S1;split
  . exact⟨_,.bell _ _⟩
  . split
    . exact⟨_,.bell _ _⟩
    . exact⟨_,.bell _ _⟩
|lie b=>exact⟨_,.lie _ _⟩
|look b =>
  simp only[Dd.run];split
  . exact⟨_,.look _ _⟩
  . exact⟨_,.look _ _⟩
|drain b=>exact⟨_,.drn _ _⟩
def Dd.ws (x:Dd):List Str:=x.word :: x.args.map cI
def Dd.inB {x:Dd}(xo:x.Ok) (nb:x.NB):Mn InB x.ks x.args:=by
 have sd:∀ b:Bool,InB "side" (sdI b):=λb=>.inr (.inr (.inr (.inr (.inl ⟨rfl,by cases b<;>decide,by cases b<;>decide⟩))))
 have wt:∀ i:Int,-1000000000 <= i/\i <= 1000000000->InB "worth" i:=λi h=>.inr (.inr (.inr (.inr (.inr ⟨rfl,h⟩))))
 cases x with
|ask w=>exact .cons (wt w xo) .nil
|collect=>exact .nil
|take=>exact .nil
|answer n w=>exact .cons (.inr (.inr (.inr (.inl ⟨rfl,nb⟩)))) (.cons (wt w xo) .nil)
|bell b=>exact .cons (sd b) .nil
|lie b=>exact .cons (sd b) .nil
|look b=>exact .cons (sd b) .nil
|drain b=>exact .cons (sd b) .nil
def jA:List Str:=["ask","collect","take","answer","bell","lie","look","drain"]
def zy:∀ x∈jA,NoB x:=by unfold NoB;decide +kernel
def wq (x:Dd):x.word∈jA:=by
 cases x<;>simp[Dd.word,jA]
def Dn (x:Dd):NoB x.word:=zy _ (wq x)
theorem mZ:∀ {ks:List Str}{is:List Int},Mn InB ks is->∀ x∈is.map cI,NoB x
|_,_,.nil,x,h=>by cases h
|_,_,.cons h t,x,hx=>by
  rcases Mf.mp hx with rfl|hx
  . exact Go _ h.bnd
  . exact mZ t x hx
def Dd.ws_noB {x:Dd}(xo:x.Ok) (nb:x.NB):∀ y∈x.ws,NoB y:=λy hy=>by
 rcases Mf.mp hy with rfl|hy
 . exact Dn x
 . exact mZ (x.inB xo nb) y hy
def lL (s R n:Int) (fs:List Str):List Str:=("ring":Str) :: [s,R,n].map cI++fs
def o7 {s R n:Int}(h1:1 <= s/\s <= 8) (h2:2 <= R/\R <= 4) (h3:1 <= n/\n <= 9):Mn InB ["size","rounds","names"] [s,R,n] :=
 .cons (.inl ⟨rfl,h1⟩) (.cons (.inr (.inl ⟨rfl,h2⟩)) (.cons (.inr (.inr (.inl ⟨rfl,h3⟩))) .nil))
def DD {s R n:Int}{fs:List Str}(h1:1 <= s/\s <= 8) (h2:2 <= R/\R <= 4) (h3:1 <= n/\n <= 9) (hf:FOk fs):∀ y∈lL s R n fs,NoB y:=λy hy=>by
 rcases Np.mp hy with z|z
 . rcases Mf.mp z with rfl|z
   . unfold NoB;decide +kernel
   . exact mZ (o7 h1 h2 h3) y z
 . exact HC y (hf.fa y z)
section
variable {K:LN}{H:Hp}{l D:D'}{xs ys:List V}{R:Hp->Prop}{T:V->Hp->VK->Prop}
def oV (hl:SqL K H l xs) (hD:H D=LJ) (hn:xs.length=ys.length) (hz:ys.length < 1000) (k:∀ H',aZ H H'->H' D=f' (.lst ys)->R H')
 (hs:∀ (i:Nat) (x y:V) (H3:Hp) (Rv:VK),xs[i]?=f' x->ys[i]?=f' y->aZ H H3->(∀ H5,aZ H3 H5->Rv y H5)->T x H3 Rv) :
 ∃ W:Nat->Nat->List V->Hp->Prop,(∃ m,W 0 m [] (upd H D (.lst []))) /\
  ∀ i m zs H2,W i m zs H2->H2 D=f' (.lst zs)/\zs.length < LP/\(((Itl K l).stop i H2/\R H2)\/((Itl K l).go i H2/\∀ x H3,(Itl K l).yld i H2 x H3 ->
   if l'=l' then T x H3 λy H5=>H5 D=f' (.lst zs)/\∃ m',m' < m/\W (i+1) m' (zs++[y]) (upd H5 D (.lst (zs++[y])))
    else ∃ m',m' < m/\W (i+1) m' zs H3)):=by
 refine⟨λi mm zs H'=>i <= ys.length/\mm=ys.length - i/\zs=ys.take i/\H' D=f' (.lst zs)/\aZ H H',⟨_,Ny _,rfl,rfl,a8,af hD⟩,?_⟩;rintro i mm zs H2 ⟨hi,rfl,rfl,hD2,e2⟩;refine⟨hD2,LR (show _ < 1000 by rw[NN];omega) (by decide),?_⟩;by_cases hii:i=ys.length
 . rw[hii,take_length]at hD2;exact .inl ⟨⟨xs,e2.seq hl,by omega⟩,k _ e2 hD2⟩
 . have hlt:i < xs.length:=by omega
   have hlt2:i < ys.length:=by omega
   refine .inr ⟨⟨xs,_,e2.seq hl,LQ hlt⟩,?_⟩;rintro v H3 ⟨e3,hv⟩;have hv:=hv _ (e2.seq hl);subst H3;refine(SF rfl).mpr (hs i v ys[i] H2 _ hv (LQ hlt2) e2 λH5 e5=>⟨e5 _ _ hD2,ys.length - (i+1),by omega,by omega,rfl,?_,a8,λc o e=>?_⟩)
   . rw[<-List.take_append_getElem hlt2]
   . rw[ac (λz=>by rw[z,hD]at e;cases e)];exact e5 _ _ (e2 c o e)
def y3 (hl:SqT K H l xs) (hD:H D=LJ) (hn:xs.length=ys.length) (hz:ys.length < 1000) (k:∀ H',aZ H H'->H' D=f' (.lst ys)->R H')
 (hs:∀ (i:Nat) (x y:V) (H3:Hp) (Rv:VK),xs[i]?=f' x->ys[i]?=f' y->aZ H H3->(∀ H5,aZ H3 H5->Rv y H5)->T x H3 Rv) :
 ∃ W:Nat->Nat->List V->Hp->Prop,(∃ m,W 0 m [] (upd H D (.lst []))) /\
  ∀ i m zs H2,W i m zs H2->H2 D=f' (.lst zs)/\zs.length < LP/\(((Itt K l).stop i H2/\R H2)\/((Itt K l).go i H2/\∀ x H3,(Itt K l).yld i H2 x H3 ->
   if l'=l' then T x H3 λy H5=>H5 D=f' (.lst zs)/\∃ m',m' < m/\W (i+1) m' (zs++[y]) (upd H5 D (.lst (zs++[y])))
    else ∃ m',m' < m/\W (i+1) m' zs H3)):=by
 refine⟨λi mm zs H'=>i <= ys.length/\mm=ys.length - i/\zs=ys.take i/\H' D=f' (.lst zs)/\aZ H H',⟨_,Ny _,rfl,rfl,a8,af hD⟩,?_⟩;rintro i mm zs H2 ⟨hi,rfl,rfl,hD2,e2⟩;refine⟨hD2,LR (show _ < 1000 by rw[NN];omega) (by decide),?_⟩;by_cases hii:i=ys.length
 . rw[hii,take_length]at hD2;exact .inl ⟨⟨xs,e2.seqT hl,by omega⟩,k _ e2 hD2⟩
 . have hlt:i < xs.length:=by omega
   have hlt2:i < ys.length:=by omega
   refine .inr ⟨⟨xs,_,e2.seqT hl,LQ hlt⟩,?_⟩;rintro v H3 ⟨e3,hv⟩;have hv:=hv _ (e2.seqT hl);subst H3;refine(SF rfl).mpr (hs i v ys[i] H2 _ hv (LQ hlt2) e2 λH5 e5=>⟨e5 _ _ hD2,ys.length - (i+1),by omega,by omega,rfl,?_,a8,λc o e=>?_⟩)
   . rw[<-List.take_append_getElem hlt2]
   . rw[ac (λz=>by rw[z,hD]at e;cases e)];exact e5 _ _ (e2 c o e)
end
theorem bu {H:Hp}:∀ fs:List Str,DVs H (fs.map Mo) (fs.map V.str)
|[]=>rfl
|f :: fs=>⟨_,_,rfl,rfl,bu fs⟩
def GA:∀ x∈FA,MX.kd (.str x)=l':=by decide +kernel
def FOk.lay {fs:List Str}(h:FOk fs):ue (.list (fs.map Mo)):=o9 _ λd hd=>by
 obtain⟨x,hx,rfl⟩:=NK.mp hd;exact⟨GA x (h.fa x hx),by show 0 <= 9;decide⟩
inductive Lk where
|story|pK|waits (b:Bool)
def Lk.ws:Lk->List Str
|.story=>["story"]
|.pK=>["errs"]
|.waits b=>["waits",cI (sdI b)]
def Lk.ans (q:YP) (S:YS) (hs:List Hx):Lk->Str
|.story=>cI S.hs.length
|.pK=>ynS (Kb q S hs)
|.waits b=>cI (S.rs b).length
def Lk.all:List Lk:=[.story,.pK,.waits K',.waits l']
def Lk.mem (k:Lk):k∈Lk.all:=by
 cases k with
|waits b=>cases b<;>simp[Lk.all]
|_=>simp[Lk.all]
def D5:∀ k∈Lk.all,∀ x∈k.ws,NoB x:=by unfold NoB;decide +kernel
def FR:∀ k∈Lk.all,∀ x∈k.ws,MX.kd (.str x)=l':=by decide +kernel
def Lk.lay (k:Lk):ue (.list (k.ws.map Mo)):=o9 _ λd hd=>by
 obtain⟨x,hx,rfl⟩:=NK.mp hd;exact⟨FR k k.mem x hx,by show 0 <= 9;decide⟩
theorem oH:∀ ws:List Str,(∀ x∈ws,x.length <= 11)->(MP " " ws).length <= 12 * ws.length
|[],_=>by show (MP " " []).length <= 0;decide +kernel
|[x],h=>MG (h x LY) (by show 11 <= 12;decide)
|x :: y :: r,h=>by
  have ih:=oH (y :: r) λz hz=>h z (Ma _ hz)
  have hx:=h x LY;rw[Fb]at ih |-;have g:∀ us:List Str,MP blk us=Str.join blk us:=λus=>StrLaws.glued_eq_join blk us
  rw[g]at ih |-;have e:=congrArg N7 (m6 x y r);rw[LU,Mw,Mq,Mq,Mq]at e;have e':(Str.join blk (x :: y :: r)).length=x.length+((Str.join blk (y :: r)).length+1):=e;rw[e',Mw];omega
def IW:∀ x∈FA,x.length <= 11:=by decide +kernel
def zu:∀ x∈jA,x.length <= 11:=by decide +kernel
def Db:∀ k∈Lk.all,∀ x∈k.ws,x.length <= 11:=by decide +kernel
theorem kn:∀ {ks:List Str}{is:List Int},Mn InB ks is->∀ x∈is.map cI,x.length <= 11
|_,_,.nil,x,h=>by cases h
|_,_,.cons h t,x,hx=>by
  rcases Mf.mp hx with rfl|hx
  . exact mQ _ h.bnd
  . exact kn t x hx
def Dd.ws_len {x:Dd}(xo:x.Ok) (nb:x.NB):∀ y∈x.ws,y.length <= 11:=λy hy=>by
 rcases Mf.mp hy with rfl|hy
 . exact zu _ (wq x)
 . exact kn (x.inB xo nb) y hy
def DZ {s R n:Int}{fs:List Str}(h1:1 <= s/\s <= 8) (h2:2 <= R/\R <= 4) (h3:1 <= n/\n <= 9) (hf:FOk fs):∀ y∈lL s R n fs,y.length <= 11:=λy hy=>by
 rcases Np.mp hy with z|z
 . rcases Mf.mp z with rfl|z
   . decide +kernel
   . exact kn (o7 h1 h2 h3) y z
 . exact IW y (hf.fa y z)
def Lk.w0:Lk->Str
|.story=>"story"
|.pK=>"errs"
|.waits _=>"waits"
def Lk.at0 (k:Lk):atI (k.ws.map V.str) 0=f' (.str k.w0):=by cases k<;>rfl
def Lk.ne (k:Lk):k.ws≠[]:=by cases k<;>exact NU _ _
def Lk.noring (k:Lk):k.w0≠"ring":=by
 cases k
 . show ("story":Str)≠"ring";decide +kernel
 . show ("errs":Str)≠"ring";decide +kernel
 . show ("waits":Str)≠"ring";decide +kernel
def Lk.noform (k:Lk) {a0 a1 a2 a3 a4 a5 a6 a7:D'}:PyProof.Rows.KTD.datumAt k.w0 [("ask",a0),("collect",a1),("take",a2),("answer",a3),("bell",a4),("lie",a5),("look",a6),("drain",a7)]=LJ:=by cases k<;>rfl
def wM:∀ x∈jA,x≠"ring":=by decide +kernel
end L2
namespace PySem.W
open PySem PySem.Calls PyProof.Rows Builtin
section
variable {prog:Mg}{w:LZ}{A:Mr}{E:G'->LK->Prop}{h:Mi}{g:Array GenState}{d:Drawn}{t:Nat}{os:OsState}{K:Frag}{x C:D'}{ox:M6}
end
end PySem.W
namespace L2
open PySem PySem.Spec PyProof.Rows
section
variable {X:Cx}
end
section
variable {M:Model}{A:Mr}{E:G'->LK->Prop}{s:LK}
def Cy {B:Mi}{env:Env}{out:List Env}{L e:D'}{cls a0 fl:G'}{Q:Unit->LK->Prop}(fr:A.frames=f' (env :: out)) (ff:s.heap.FunFrames B (env :: out)) (ef:env.frame=f' L) (t:s.heap.TracedAtW B e cls a0 fl) (st:B.StaysIn s.heap) (be:B.get? e=LJ)
 (k:∀ h',Mi.NotedW B (env :: out) e cls a0 (NJ L) s.heap h'->Q () { s with heap:=h' }):LV M A (noteFrame (.ref e) env) Q E s:=by
 by_cases z:fl=NJ L
 . subst z;exact wpAny_noteFrame_againW ef t (k _ ⟨st,ff,t,λb o q _=>⟨o.slots,q⟩⟩)
 . obtain⟨oe,vs,T,oT,ts,he,⟨rfl,v0⟩,dv,v1,bT,nT,hT,dT,t3⟩:=t;have ne:(fl == NJ L)=K':=by rw[beq_eq_false_iff_ne];exact z
   unfold noteFrame;simp only[ef];refine j' (M0 he dv v1 ?_);simp only[show (Ml T != MK)=l' from rfl,if_true];refine j' (M0 hT dT t3 ?_);simp only[ne,Mz,if_false];refine j' (NF hT dT (Array.getElem?_eq_some_iff.mp t3).1 ?_);have oth:∀ b o,b≠T->s.heap.get? b=f' o->(s.heap.update T (M6.mapFields λx=>x.setIfInBounds 3 MK)).get? b=f' o:=λb o n q=>(M9 _ _ (NA n)).trans q
   have nrec:∀ b o,s.heap.get? b=f' o->(∀ v,o.data≠.fields v)->b≠T:=λb o q n y=>by
    rw[y,hT]at q;cases q;exact n ts dT
   refine wpAny_entryW fr (ff.of_keeps λb o q n=>⟨o,oth b o (nrec b o q n) q,rfl⟩) ef (oth e oe (NA nT) he) (λb o q=>oth b o (λy=>by rw[y,bT]at q;cases q) (st b o q)) be dv (Array.getElem?_eq_some_iff.mp v1).1 v0 λh' uq17=>by(obtain⟨x1,x2,x3,x4⟩:=uq17;exact k h' ⟨x1,x2,x3,λb o q n=>x4 b o (oth b o (nrec b o q n) q) n⟩)
end
section
variable {X:Cx}{Oj pl:List (D' × M6)}{σ:St}{H H':Hp}{s:LK}{E:XK}
def As (R:Raisy X E) (I:Inv X Oj σ H s) {e T:D'}{cls fl:G'}(t:Trc s.heap e T cls fl) (aE:Apt X Oj H e) (aT:Apt X Oj H T) (q:E cls LJ H):X.xe (.ref e) s:=by
 rw[R.xe];have hA:X.A.frames=f' (X.env :: X.outer):=by rw[<-R.stk];exact I.ok.frames
 have FF:=gl (e:=e) (T:=T) I.stack;rw[R.stk]at FF;obtain⟨a0,tw⟩:=t.on (Bl (X:=X) (h:=s.heap) (e:=e) (T:=T));unfold «leaving»;refine j' (Cy (B:=hid X s.heap e T) (a0:=a0) hA FF R.frm tw ik Bb λh' hL=>?_);obtain⟨k1,k2,k3,k4⟩:=hL;rw[<-R.stk]at k2;obtain⟨I3,T',t3,aT'⟩:=I.flown R.ex aE aT k1 k2 k3 k4;exact JQ R.ex I3 t3 aE aT' λs' T2 I' t' aT2=>I'.out R.ex t' aE aT2 q
variable {scope:Scope}{cl:List (Str × D')}{xs N':List Str}{C:D'}{s₃:LK}{H₃:Hp}{fp:List D'}{E1 E2:G'->LK->Prop}{pins2:List (D' × M6)}{σ2:St}
def Cx.Ok.repin (ok:(aL X scope cl C xs N' s₃ H₃ Oj fp E1).Ok):(aL X scope cl C xs N' s₃ H₃ pins2 fp E2).Ok:=⟨ok.mod,ok.kind,ok.glob,ok.blt,ok.above,ok.inj,ok.has,ok.cab,ok.hd,ok.frames,ok.stk,ok.exf,ok.bs,ok.bsz,ok.noex,ok.exfs,ok.funs,ok.frf⟩
def Inv.up (I:Inv (aL X scope cl C xs N' s₃ H₃ Oj fp E1) ([]++pl) σ H s):Inv (aL X scope cl C xs N' s₃ H₃ (Oj++pl) fp E2) [] σ H s :=
 ⟨I.ok.repin,I.os,I.bare,I.base,I.loc,I.cell,I.free,I.freeC,λp hp=>I.pin p (by simpa [aL] using hp),I.hok,I.len⟩
def Inv.down (I:Inv (aL X scope cl C xs N' s₃ H₃ (Oj++pl) fp E2) pins2 σ H s):Inv (aL X scope cl C xs N' s₃ H₃ Oj fp E1) ([]++pl) σ H s :=
 ⟨I.ok.repin,I.os,I.bare,I.base,I.loc,I.cell,I.free,I.freeC,λp hp=>I.pin p (mem_append_left _ (by simpa [aL] using hp)),I.hok,I.len⟩
def Raisy.comp {use:Option (G'->Sem Unit)}{QQ:G'->LK->Prop}{acc:G'}(R:Raisy X E) (I3:Inv X Oj σ H₃ s₃) (hf3:∀ b∈fp,tU X Oj H₃ b) (hpl:∀ b∈fp,∃ o,(b,o)∈pl) :
 gF (CXv X.prog X.w) (aL X scope cl s₃.heap.objs.size xs N' s₃ H₃ (Oj++pl) fp (notedBy (model X.prog X.w) X.A (compEnvC scope cl s₃.heap.objs.size X.env) λe s'=>compPost (model X.prog X.w) X.A X.xe use QQ acc s₃.heap.objs.size (.error e) s')) E:=by
 intro pins2 σ2 H2 s e s' I h;obtain⟨ex,T,cls,H',rfl,os,bare,un,hok,t,n1,n2,n3,n4,q⟩:=h;have I2:=I.call' (ch:=[]) os un hok bare (λb z=>absurd z (by simp));have f3:∀ b,s.heap.get? b=LJ->s₃.heap.get? b=LJ:=λb e=>by
  cases q:s₃.heap.get? b with
 |none=>rfl
 |some o =>
   by_cases hb:b∈fp
   . obtain⟨o',hp⟩:=hpl b hb;have:=(I.pin (b,o') (mem_append_left _ (ME _ (ME _ hp)))).1;rw[e]at this;cases this
   . obtain⟨o',e'⟩:=I.base.there b o q hb;rw[e]at e';cases e'
 have J:Inv X Oj σ H' s':=Inv.block (E':=λ_ _=>False) (h':=s'.heap) I3 hf3 ((I2.down (E1:=λ_ _=>False)).unpinned) (MV.refl _ _);have aE:Apt X Oj H' ex:=I3.apt R.ex (f3 _ n1) n3;have aT:Apt X Oj H' T:=I3.apt R.ex (f3 _ n2) n4;obtain⟨m,hm,_⟩:=I2.loc;obtain⟨m0,hm0,_⟩:=I.loc;have hm:s'.heap.Ns s₃.heap.objs.size m:=hm;have hC:∀ b,s.heap.get? b=LJ->s₃.heap.objs.size≠b:=λb e z=>by
  obtain⟨o,_,_,ho,_⟩:=hm0;have ho:s.heap.get? s₃.heap.objs.size=f' o:=ho;rw[z,e]at ho;cases ho
 have hA:X.A.frames=f' (X.env :: X.outer):=by rw[<-R.stk];exact I3.ok.frames
 have FF:=gl (e:=ex) (T:=T) J.stack;rw[R.stk]at FF;obtain⟨a0,tw⟩:=t.on (Bl (X:=X) (h:=s'.heap) (e:=ex) (T:=T));show LV _ _ (noteFrame (.ref ex) (compEnvC scope cl s₃.heap.objs.size X.env)) _ _ s';rw[show noteFrame (.ref ex) (compEnvC scope cl s₃.heap.objs.size X.env)=noteFrame (.ref ex) X.env from rfl];refine wpAny_noteFrame_onW (base:=hid X s'.heap ex T) (a0:=a0) hA FF R.frm tw ik Bb λh' hL=>?_
 obtain⟨k1,k2,k3,k4⟩:=hL;rw[<-R.stk]at k2;obtain⟨J2,T2,t2,aT2⟩:=J.flown R.ex aE aT k1 k2 k3 k4;have neL:s₃.heap.objs.size≠X.env.locals:=(Mv I3.lt).symm;have neCl:∀ y c,X.env.cells.lookup y=f' c->c≠s₃.heap.objs.size:=λy c z=>by
  obtain⟨v,q⟩:=I3.cell _ _ z;exact Mv q.lt
 have frC:H' s₃.heap.objs.size=LJ:=I2.free;have nfs:s₃.heap.objs.size ∉ frs X.stack:=λz=>(Mf.mp (I3.stkSub _ z)).elim neL (I3.nofs (LS _))
 have hm':h'.Ns s₃.heap.objs.size m:=by
  obtain⟨o,es,ep,ho,r⟩:=hm;refine⟨o,es,ep,k1 _ _ (hideAll_get _ ho λz=>?_),r⟩;rcases Mf.mp z with z|z
  . exact hC _ n1 z
  . rcases Mf.mp z with z|z
    . exact hC _ n2 z
    . exact nfs z
 have fin:∀ h'',MV s₃.heap.objs.size h' h''->∀ cenv:Env,cenv.locals=s₃.heap.objs.size->LV (model X.prog X.w) X.A (passOn "comprehension.variables-let-go" (.ref ex) cenv:Sem G') (λ_ _=>False) X.xe { s' with heap:=h'' }:=λh'' sb cenv _=>by
  have J3:Inv X Oj σ H' { s' with heap:=h'' }:=Inv.turned (s:={ s' with heap:=h' }) (h':=h'') (t':=s'.toks) (it:=s₃.heap.objs.size) J2 (λb o hb e=>(sb.2 b hb).trans e) frC neL (.inr I3.sz) neCl (λp hp=>Mv (Mb (I3.pin p hp).1));obtain⟨oe,vs,oT,ts,a1,h1,h2,h3,h4,h5,h6,h7,h8⟩:=t2;obtain⟨oc,es,ep,hoc,hdc,_⟩:=hm';have e1:ex≠s₃.heap.objs.size:=λz=>by rw[z,hoc]at h1;cases h1;rw[hdc]at h3;cases h3
  have e2:T2≠s₃.heap.objs.size:=λz=>by rw[z,hoc]at h6;cases h6;rw[hdc]at h7;cases h7
  have g1:h''.get? ex=f' oe:=(sb.2 _ e1).trans h1;have g6:h''.get? T2=f' oT:=(sb.2 _ e2).trans h6;have sz3:=(Array.getElem?_eq_some_iff.mp h8).1;unfold PySem.passOn setFlight;refine j' (M0 g1 h3 h4 ?_);rw[SG (show ¬ (Ml T2 == MK)=l' from by simp)];refine j' (j' (M0 g1 h3 h4 ?_));rw[SF (show (Ml T2 != MK)=l' from rfl)];refine NF g6 h7 sz3 (wpAny_throw ?_);generalize hv:(cenv.frame.elim MK λf=>NJ f)=fl;have oth:∀ b o,b≠T2->h''.get? b=f' o->(h''.update T2 (M6.mapFields λx=>x.setIfInBounds 3 fl)).get? b=f' o:=λb o n q=>(M9 _ _ (NA n)).trans q
  have J4:Inv X Oj σ H' { s' with heap:=h''.update T2 (M6.mapFields λx=>x.setIfInBounds 3 fl) }:=by
   refine J3.moved [T2] (λb hb=>by rw[LM.mp hb];exact aT2) (λb o n _ q=>oth b o (λz=>n (by rw[z];exact LM.mpr rfl)) q) (λb o hb q=>?_);refine⟨o.slots,oth b o (λz=>?_) q⟩;obtain⟨_,o',e',hd⟩:=J3.stack.mem hb;have e':h''.get? b=f' o':=e';rw[z,g6]at e';cases e';exact hd _ h7
  refine As R J4 (e:=ex) (T:=T2) (cls:=cls) (fl:=fl) ⟨oe,vs,_,_,a1,oth _ _ (NA h5) g1,h2,h3,h4,h5,M3 _ g6 (M6.isFreed_of_fields (M6.data_mapFields h7 _)),M6.data_mapFields h7 _,by simp[sz3]⟩ aE aT2 q
 cases use with
|none=>exact⟨m,hm',fin⟩
|some u=>exact⟨m,hm',fin⟩
end
section
variable {X:Cx}{scope:Scope}{cl:List (Str × D')}{xs:List Str}
def yO {tg:Expr}{g:TG}{pos np:Pos}{iter elt:Expr}{ifs:List Expr}{caps:List Str}{js:List Nat}{wi:TI}{tc:TT}{te:TE}{use:Option (G'->Sem Unit)}{QQ:G'->LK->Prop}{Q:VK}{Rd:It->Hp->Prop}{Oj:List (D' × M6)}{s:LK}{σ:St}{H:Hp}
 (hc:X.calm=l') (O:CompOk X scope cl xs) (hg:∀ C s₃ H₃ Oj ex E',PG (aL X scope cl C xs (xs++caps) s₃ H₃ Oj ex E') tg g)
 (hcp:A2 X scope cl caps js)
 (hi:PI X tg iter wi) (ht:∀ C s₃ H₃ Oj ex E',PTs (aL X scope cl C xs (xs++caps) s₃ H₃ Oj ex E') ifs tc) {E:XK} (RX:Raisy X E) (he:∀ C s₃ H₃ Oj ex E',gF (CXv X.prog X.w) (aL X scope cl C xs (xs++caps) s₃ H₃ Oj ex E') E->PE (aL X scope cl C xs (xs++caps) s₃ H₃ Oj ex E') elt te)
 (hs:∀ x,foldedSetIterable iter X.env x=pure x) (I:Inv X Oj σ H s) (h:wi σ H Rd) (hR:∀ J H1,Rd J H1->RN xs.length g js tc te σ Q J H1)
 (fl:∀ (s₃:LK) (H₃ H':Hp) (s':LK) (D:D') (f:Flow) (mm:Str->Option G'),Inv X Oj σ H₃ s₃->s'.heap.Ns s₃.heap.objs.size mm->H' s₃.heap.objs.size=LJ->(∀ h',MV s₃.heap.objs.size s'.heap h'->Inv X Oj σ H' { s' with heap:=h' })->Q (.ref D) H'->compPost (model X.prog X.w) X.A X.xe use QQ (.ref D) s₃.heap.objs.size (.ok f) s') :
 LV (model X.prog X.w) X.A (comprehension (.ListComp elt [⟨tg,iter,ifs,0⟩] scope pos) scope X.env np (newList []) K' (eval iter X.env) use) QQ X.xe s:=by
 refine wpAny_comprehension_free rfl hs O.clos O.kind O.names (thn (hi Oj s σ H _ I h) λv s1 h1=>thn h1 λitv s2 ur57=>?_);obtain⟨it,fp,tn,J,H1,e,I2,T,t0,hf,q0⟩:=ur57;subst e;have q:=hR _ _ q0;refine MR (wpAny_newFunctionEnv O.nocell (by intro y hy;cases hy) (λh₁ hns₁ hsb₁=>?_) O.kind);obtain⟨W,⟨m0,w0⟩,step⟩:=q s2.heap.objs.size (I2.hok.fresh (LS _));have I3:Inv X Oj σ (upd H1 s2.heap.objs.size (.lst [])) { s2 with heap:=s2.heap.push { cls:=.type "list",data:=.seq ([]:List G').toArray } }:=I2.lnew (t':=s2.toks) (its:=[]) .nil (Ny _);have fpl:∀ b∈fp,b < s2.heap.objs.size:=λb hb=>by
  obtain⟨o,e,_⟩:=T.obj _ _ t0 b hb;exact Mb e
 have hf3:∀ b∈fp,tU X Oj (upd H1 s2.heap.objs.size (.lst [])) b:=λb hb=>by
  obtain⟨f0,f⟩:=hf b hb;exact⟨by rw[ac (Mv (fpl b hb))];exact f0,f⟩
 generalize hs3:({ s2 with heap:=s2.heap.push { cls:=.type "list",data:=.seq ([]:List G').toArray } }:LK)=s₃ at *;generalize hH3:upd H1 s2.heap.objs.size (.lst [])=H₃ at *;have hsz:s2.heap.objs.size < s₃.heap.objs.size:=by rw[<-hs3];show _ < (s2.heap.push _).objs.size;rw[MM];exact lt_succ_self _
 have hk2:∀ b o,s2.heap.get? b=f' o->s₃.heap.get? b=f' o:=λb o e=>by rw[<-hs3];exact LH _ e
 have hk3:∀ b o,s₃.heap.get? b=f' o->h₁.get? b=f' o:=λb o e=>hsb₁.extBut b o (Mv (Mb e)) (LH _ e)
 have t3:tn 0 h₁:=T.keep _ _ _ t0 λb _ o e=>hk3 b o (hk2 b o e)
 have loop:∀ (R:Result->LK->Prop),R=compPost (model X.prog X.w) X.A X.xe use QQ (.ref s2.heap.objs.size) s₃.heap.objs.size->(∀ f s',(∃ σ' H',Inv (cxR X scope cl xs caps s₃ H₃ Oj fp R) [] σ' H' s'/\Q (.ref s2.heap.objs.size) H')->R (.ok f) s') ->
  ∀ tk,codeAny (model X.prog X.w) X.A (.compLoop (.ListComp elt [⟨tg,iter,ifs,0⟩] scope pos) 0 (.ref it) (.ref s2.heap.objs.size) (compEnvC scope cl s₃.heap.objs.size X.env)) R { s₃ with heap:=h₁,toks:=tk }:=by
  intro R hRe hR tk;have I4:=Inv.enter (E':=notedBy (model X.prog X.w) X.A (compEnvC scope cl s₃.heap.objs.size X.env) λe s'=>R (.error e) s') (tk:=tk) O I3 (λb hb=>⟨hf3 b hb,Nat.lt_trans (fpl b hb) hsz⟩) hcp (by simpa using hns₁) hk3;have stat:∀ {H':Hp},(∀ b∈fp,H' b=LJ)->∀ b∈fp,tU (cxR X scope cl xs caps s₃ H₃ Oj fp R) [] H' b:=λhn b hb=>by
   obtain⟨f0,f1,f2,f3,f4,f5⟩:=hf3 b hb;refine⟨hn b hb,Mv (Nat.lt_trans (fpl b hb) hsz),λz=>?_,.inl hb,λy c e=>f4 y c (O.sub _ (mem_of_lookup e)),λp hp=>f5 p (by simpa [cxR,aL] using hp)⟩;rcases Mf.mp (I3.stkSub b z) with q|q
   . exact f1 q
   . exact f2 q
  refine x9 (λn s'=>∃ (i:Nat) (vs:St) (ys:List V) (H':Hp),vs.length=xs.length/\Inv (cxR X scope cl xs caps s₃ H₃ Oj fp R) [] (vs++tT σ js) H' s'/\tn i s'.heap/\(∀ b∈fp,H' b=LJ)/\W i n ys H') ?_ m0
   ⟨0,_,[],H₃,Nx,I4,t3,λb hb=>(hf3 b hb).1,w0⟩
  rintro n s4 ⟨i,vs,ys,H4,vl,J4,t4,fr4,w4⟩;obtain⟨hD,hlen,hor⟩:=step i n ys H4 w4;rcases hor with⟨stop,qn⟩|⟨go,hy⟩
  . refine thn (T.done (cxR X scope cl xs caps s₃ H₃ Oj fp R) rfl rfl rfl hc i [] s4 _ H4 _ J4 (stat fr4) t4 stop) λr s5 ur58=>?_
    obtain⟨hr,J5⟩:=ur58;subst hr;exact hR _ _ ⟨_,H4,J5,qn⟩
  . refine thn (T.item (cxR X scope cl xs caps s₃ H₃ Oj fp R) rfl rfl rfl hc i [] s4 _ H4 _ J4 (stat fr4) t4 go) λr s5 ur59=>?_
    obtain⟨u,hr,h5⟩:=ur59;subst hr;refine thn h5 λ_ s6 ur60=>?_
    obtain⟨y,H6,J6,ry,yl,t6,fr6⟩:=ur60;have J6':=J6.pinned (stat fr6) (T.obj _ _ t6);obtain⟨Pk,hy6,hPk⟩:=hy y H6 yl vs vl;refine thn (hg _ _ _ _ _ _ _ s6 _ H6 y u _ J6' ry hy6) λ_ s7 ur61=>?_
    obtain⟨σ7,H7,J7,q7⟩:=ur61;obtain⟨vs',vl',e7,hy7⟩:=hPk _ _ q7;subst e7;refine thn (ht _ _ _ _ _ _ _ s7 _ H7 _ J7 hy7) λok s8 ur62=>?_
    obtain⟨H8,J8,q8⟩:=ur62;have back:∀ {σ9:St} {H9:Hp} {s9:LK},Inv (cxR X scope cl xs caps s₃ H₃ Oj fp R) ([]++nS fp s6.heap) σ9 H9 s9->tn (i+1) s9.heap/\∀ b∈fp,H9 b=LJ:=λJ9=>by
     refine⟨T.keep _ _ _ t6 λb hb o e=>(J9.pin (b,o) (ME _ (ME _ (eO hb e)))).1,λb hb=>?_⟩;obtain⟨o,e,d⟩:=T.obj _ _ t6 b hb;exact(J9.pin (b,o) (ME _ (ME _ (eO hb e)))).2.1
    cases ok with
   |false =>
     rw[SG (by decide)];rw[SG (by decide)]at q8;obtain⟨m',hm,w8⟩:=q8;obtain⟨b1,b2⟩:=back J8;exact⟨m',hm,i+1,vs',ys,H8,vl',J8.unpinned,b1,b2,w8⟩
   |true =>
     rw[SF rfl];rw[SF rfl]at q8;have ps:gF (CXv X.prog X.w) (aL X scope cl s₃.heap.objs.size xs (xs++caps) s₃ H₃ (Oj++nS fp s6.heap) fp (notedBy (model X.prog X.w) X.A (compEnvC scope cl s₃.heap.objs.size X.env) λe s'=>R (.error e) s')) E:=by
      rw[hRe];exact RX.comp I3 hf3 λb hb=>by
       obtain⟨o,e,_⟩:=T.obj _ _ t6 b hb;exact⟨o,eO hb e⟩
     refine thn (he _ _ _ _ _ _ ps [] s8 _ H8 _ J8.up q8) λz s9 ur63=>?_
     obtain⟨vz,H9,J9',rz,hD9,m',hm,w9⟩:=ur63;have J9:Inv (cxR X scope cl xs caps s₃ H₃ Oj fp R) ([]++nS fp s6.heap) _ H9 s9:=J9'.down;refine thn (fC (X:=(cxR X scope cl xs caps s₃ H₃ Oj fp R)) _ s9 _ H9 (.ref s2.heap.objs.size) [vz] (.ref s2.heap.objs.size) [z] (λ_ H10=>H10=upd H9 s2.heap.objs.size (.lst (ys++[vz]))) J9 rfl (.cons rz .nil) ⟨_,ys,vz,rfl,rfl,hD9,hlen,rfl⟩) λ_ s10 ur64=>?_
     obtain⟨v10,H10,J10,r10,e10⟩:=ur64;subst e10;obtain⟨b1,b2⟩:=back J10;exact⟨m',hm,i+1,vs',ys++[vz],_,vl',J10.unpinned,b1,b2,w9⟩
 have fin:∀ tk,codeAny (model X.prog X.w) X.A (.compLoop (.ListComp elt [⟨tg,iter,ifs,0⟩] scope pos) 0 (.ref it) (.ref s2.heap.objs.size) (compEnvC scope cl s₃.heap.objs.size X.env)) (compPost (model X.prog X.w) X.A X.xe use QQ (.ref s2.heap.objs.size) s₃.heap.objs.size) { s₃ with heap:=h₁,toks:=tk }:=λtk=>by
  refine loop _ rfl (λf s' ur65=>?_) tk;obtain⟨σ',H',J',qn⟩:=ur65;obtain⟨mm,hmm,_⟩:=J'.loc;exact fl s₃ H₃ H' s' _ f mm I3 hmm J'.free (λh' hs'=>Inv.block I3 hf3 J' hs') qn
 exact codeAny_compStart_list (fin _) (T.self _ _ _ _ _ t3 (fin _))
def Bz {pos:Pos}{tg iter elt:Expr}{ifs:List Expr}{wi:TI}{g:TG}{tc:TT}{te:TE}{js:List Nat}{caps:List Str}{x x2:Str}{E:XK}(RX:Raisy X E) (hc:X.calm=l') (O:CompOk X scope cl [x,x2]) (hg:∀ C s₃ H₃ Oj ex E',PG (aL X scope cl C [x,x2] (x :: x2 :: caps) s₃ H₃ Oj ex E') tg g)
 (hcp:A2 X scope cl caps js)
 (hi:PI X tg iter wi) (ht:∀ C s₃ H₃ Oj ex E',PTs (aL X scope cl C [x,x2] (x :: x2 :: caps) s₃ H₃ Oj ex E') ifs tc) (he:∀ C s₃ H₃ Oj ex E',gF (CXv X.prog X.w) (aL X scope cl C [x,x2] (x :: x2 :: caps) s₃ H₃ Oj ex E') E->PE (aL X scope cl C [x,x2] (x :: x2 :: caps) s₃ H₃ Oj ex E') elt te)
 (hs:∀ x,foldedSetIterable iter X.env x=pure x:=by intro _;rfl):PE X (.ListComp elt [⟨tg,iter,ifs,0⟩] scope pos) (Fj wi g js tc te):=by
 intro Oj s σ H Q I h;rw[eval_ListComp];exact yO hc O hg hcp hi ht RX he hs I h (λ_ _=>KU) wR
end
def qL {X:Cx}{K:LN}(h:X.K=K):kZ X (.builtin "isinstance") (λxs H Q=>∃ x tp vs C b,xs=[.ref x,.ref tp]/\H tp=f' (.tup vs)/\vs.all vI=l'/\H x=f' (zZ x C)/\PySem.W.XCls K C/\kitAny K (.ref C) (vs.map Hf)=f' b/\Q (.bl b) H):=by
 subst h;exact rT
def mM {X:Cx}{K:LN}(h:X.K=K):kZ X (.builtin "isinstance") (λxs H Q=>∃ x c C b,xs=[.ref x,c]/\H x=f' (zZ x C)/\PySem.W.XCls K C/\vI c=l'/\Og K (.ref C) (Hf c)=f' b/\Q (.bl b) H):=by
 subst h;exact uG
def o3 (t:Str):Str:=if Txt.startswith t "-"=l' then DK t (f' 1) LJ else t
def inF (c:Nat):Bool:=!(Nd ("0123456789":Str) ⟨#[c]⟩ 0 ("0123456789":Str).length 1).isEmpty
def Ia (t:Str):Bool:=decide (1 <= (o3 t).length) && decide ((o3 t).length <= 12) && (o3 t).cps.toList.all inF
def EN (t:Str):Bool:=Ia t && (match PySem.intText? t with|some i=>decide (cI i=t)|none=>K')
def bds (k:Str):Int × Int:=if k="size" then (1,8) else if k="rounds" then (2,4) else if k="names" then (1,9) else if k="name" then (0,1000000000) else if k="side" then (0,1) else (-1000000000,1000000000)
def DS (t k:Str):Option Int:=if EN t=l' then (PySem.intText? t).bind λi=>if (bds k).1 <= i/\i <= (bds k).2 then f' i else LJ else LJ
def KS:List Str:=["size","rounds","names","name","side","worth"]
def wdB (t:Str):Bool:=(o3 t).cps.all (· < 128) && decide (t.length <= 100) && decide ((o3 t).length <= 100) && (!Ia t || (match PySem.intText? t with|some i=>decide (i.natAbs.log2 < 1920)|none=>K'))
def kM (ws ks:List Str):Bool:=decide (ws.length≠ks.length) || (ws.zip ks).any λp=>(DS p.1 p.2).isNone
def ksW (x:Str):List Str:=if x="ask" then ["worth"] else if x="answer" then ["name","worth"] else if x="collect"\/x="take" then [] else ["side"]
def Jp (fs:List Str):Bool:=fs.any (λf=>!FA.contains f) || !sortedS fs || decide ((Bv fs).length≠fs.length)
def Jo:List Str->Bool
|[]=>K'
|x :: r=>if x="ring" then kM (r.take 3) ["size","rounds","names"] || (decide (r.take 3=[cI 1,cI 2,cI 1]) && Jp (r.drop 3))
  else if x∈jA then kM r (ksW x)
  else decide (x :: r≠([("story":Str)])) && decide (x :: r≠([("errs":Str)])) && (decide (x≠"waits") || kM r ["side"])
def WS0:List (List Str):=[[""],["",""],["ring"],["ring","1","2"],["ring","0","2","1"],["ring","9","2","1"],["ring","1","1","1"],["ring","1","5","1"],["ring","1","2","0"],["ring","1","2","10"],["ring","1","2","1","bells"],["ring","1","2","1","look","bell"],["ring","1","2","1","bell","bell"],["ring","01","2","1"]]
def WS1:List (List Str):=[["ring","1","2","1",""],["ring","","1","2","1"],["Ring","1","2","1"],["ask"],["ask","x"],["ask","05"],["ask","-0"],["ask","+5"],["ask","5","5"],["ask","-05"],["ask","1_0"],["ask","-"],["ask","--5"],["ask","5.0"]]
def WS2:List (List Str):=[["answer","0","-00"],["ask","1000000001"],["ask","-1000000001"],["ask","1234567890123"],["ask","","5"],["","ask","5"],["ask","5",""],["ask","5\n"], ["collect", "0"], ["take", "1"], ["answer", "0"], ["answer", "-1", "5"], ["answer", "0", "5", "6"], ["answer", "1000000001", "5"]]
def WS3:List (List Str):=[["bell"],["bell","2"],["bell","-1"],["lie","0","0"],["look","x"],["drain"],["story","1"],["errs","no"],["waits"],["waits","2"],["full"]]
def WS:List (List Str):=WS0++WS1++WS2++WS3
theorem uN:∀ l r:List Str,Nl (l.map Mo) (r.map Mo)=decide (l=r)
|[],[]=>rfl
|[],_ :: _=>rfl
|_ :: _,[]=>rfl
|x :: l,y :: r=>by
  show (Mc (.str x) (.str y) && Nl (l.map Mo) (r.map Mo))=_;rw[uN l r];have:Mc (.str x) (.str y)=decide (x=y):=by simp only[Mc];rw[Nk,beq_iff_eq,decide_eq_true_iff]
  rw[this];by_cases h1:x=y
  . by_cases h2:l=r
    . simp[h1,h2]
    . simp[h1,h2]
  . simp[h1]
def sG (l r:List Str):Mc (.list (l.map Mo)) (.list (r.map Mo))=decide (l=r):=by
 rw[<-uN l r];simp[Mc]
def kQ {fs:List Str}(h:∀ x∈fs,MX.kd (.str x)=l'):ue (.list (fs.map Mo)):=o9 _ λd hd=>by
 obtain⟨x,hx,rfl⟩:=NK.mp hd;exact⟨h x hx,by show 0 <= 9;decide⟩
def IT:∀ ws∈WS,Jo ws=l':=by decide +kernel
structure WOk (ws:List Str):Prop where
 ne:ws≠[]
 len:ws.length <= 60
 noB:∀ x∈ws,NoB x
 jl:(MP " " ws).length <= 10000
 wd:∀ x∈ws,wdB x=l'
 kd:∀ x∈ws,MX.kd (.str x)=l'
def Jm (ws:List Str):Bool:=decide (ws≠[]) && decide (ws.length <= 60) && ws.all (λx=>decide (32 ∉ x.cps.toList) && wdB x && MX.kd (.str x)) && decide ((MP " " ws).length <= 10000)
def WOk.of {ws:List Str}(h:Jm ws=l'):WOk ws:=by
 unfold Jm at h;simp only[MC,SH,all_eq_true]at h;exact⟨h.1.1.1,h.1.1.2,λx hx=>(h.1.2 x hx).1.1,h.2,λx hx=>(h.1.2 x hx).1.2,λx hx=>(h.1.2 x hx).2⟩
def Jv:∀ ws∈WS,Jm ws=l':=by decide +kernel
def W0:List (List Str):=[["ask","5"],["story"],["errs"],["waits","0"],["bell","0"],["collect"],[""],["",""]]
def Jb:∀ ws∈W0,Jm ws=l'/\ws.head?≠f' "ring":=by decide +kernel
end L2
set_option maxHeartbeats 4000000
namespace My
open PySem L2
local macro_rules
 |`($x∣$y)=>`(@Gt _ _ _ _ _ $x $y (by rfl))
 |`($x∪$y)=>`(@Dm _ _ _ _ _ $x $y)
 |`($x∩$y)=>`(@aB _ _ _ _ _ _ _ aD $x $y (fun _ _ => rfl))
 |`($x⊆$y)=>`(@aB _ _ _ _ _ _ _ aS $x $y (fun _ _ => rfl))
 |`($x⁻¹)=>`(@ao _ _ _ (@Ii _ _ _ _ $x))
def top (i:Nat):MJ:=PySem.Challenge.pw_askring_k38_rows_refused.main.body.getD i (.Pass ⟨0,0,0,0⟩)
abbrev hV:MJ:=top 2
abbrev nz:MJ:=top 3
abbrev nv:MJ:=top 4
abbrev jk:MJ:=top 8
abbrev kH:MJ:=ay (top 9) 0
abbrev iJ:MJ:=ay (top 9) 1
abbrev hW:MJ:=ay (top 9) 2
abbrev gz:MJ:=ay (top 9) 3
abbrev cV:MJ:=ay (top 9) 4
abbrev no:MJ:=ay (top 9) 5
abbrev kI:MJ:=ay (top 9) 6
abbrev ju:MJ:=ay (top 11) 0
abbrev kj:MJ:=ay (top 11) 1
abbrev jp:MJ:=ay (top 11) 2
abbrev iS:MJ:=top 12
abbrev iX:MJ:=top 13
abbrev jQ:MJ:=ay (top 22) 0
abbrev fh:MJ:=ay (top 22) 2
abbrev fW:MJ:=ay (top 22) 3
abbrev mV:MJ:=ay (top 22) 4
abbrev i0:MJ:=ay (top 22) 5
abbrev cu:MJ:=ay (top 22) 7
abbrev iO:MJ:=ay (top 24) 0
abbrev jI:MJ:=ay (top 24) 2
abbrev cT:MJ:=ay (top 24) 3
abbrev hU:MJ:=ay (top 24) 4
abbrev c8:MJ:=ay (top 24) 6
abbrev iU:MJ:=ay (top 26) 0
abbrev iE:MJ:=ay (top 26) 2
abbrev iB:MJ:=ay (top 26) 3
abbrev jf:MJ:=ay (top 26) 4
abbrev kO:MJ:=ay (top 26) 5
abbrev ib:MJ:=ay (top 26) 6
abbrev jr:MJ:=ay (top 26) 7
abbrev nA:MJ:=top 31
abbrev pF:MJ:=top 32
abbrev q9:MJ:=top 33
abbrev oR:MJ:=top 34
abbrev kz:MJ:=ay (top 35) 0
abbrev lO:MJ:=ay (top 35) 1
abbrev km:MJ:=ay (top 35) 3
abbrev i3:MJ:=ay (top 35) 5
abbrev gu:MJ:=ay (top 35) 6
abbrev lR:MJ:=ay (top 35) 7
abbrev kL:MJ:=ay (top 35) 8
abbrev kG:MJ:=ay (top 35) 11
abbrev iM:MJ:=ay (top 35) 14
abbrev fU:MJ:=ay (top 35) 15
abbrev dq:MJ:=ay (top 35) 16
abbrev ig:MJ:=ay (top 35) 17
abbrev iR:MJ:=ay (top 35) 18
abbrev i5:MJ:=ay (top 35) 19
abbrev cs:MJ:=ay (top 35) 20
abbrev Af:MJ:=top 37
abbrev el:MJ:=top 38
abbrev lG:MJ:=top 39
abbrev kK:MJ:=top 40
abbrev lI:MJ:=top 46
abbrev lK:MJ:=top 47
abbrev ki:MJ:=top 48
abbrev ij:MJ:=top 49
abbrev lA:MJ:=top 50
abbrev lD:MJ:=top 51
abbrev lQ:MJ:=top 52
abbrev jY:MJ:=ay (top 53) 0
abbrev mS:MJ:=ay (top 53) 1
abbrev gr:MJ:=ay (top 53) 2
abbrev gx:MJ:=ay (top 53) 3
abbrev gA:MJ:=ay (top 53) 4
abbrev mW:MJ:=top 58
abbrev iV:MJ:=top 59
abbrev lU:MJ:=top 60
abbrev Gp:MJ:=top 61
def aJ {N P:List Str}{sc:Scope}(a:sc.kind=.function) (b:sc.isCoroutine=K') (c:sc.isGenerator=K') (h:N.Nodup/\N.take P.length=P/\(∀ x∈P,sc.names.lookup x=f' .local\/sc.names.lookup x=f' .cell)/\∀ y∈sc.names,y.2≠.free):FnScope N P sc:=⟨a,b,c,h.1,h.2.1,h.2.2.1,h.2.2.2⟩
def qe:FnScope ["counter","size","rounds"] ["counter","size","rounds"] (ai hV):=aJ rfl rfl rfl (by decide +kernel)
def vX:FnScope ["counter","size"] ["counter","size"] (ai nz):=aJ rfl rfl rfl (by decide +kernel)
def wf:FnScope ["one","other","size","rounds"] ["one","other","size","rounds"] (ai nv):=aJ rfl rfl rfl (by decide +kernel)
def qP:FnScope ["rounds","faults"] ["rounds","faults"] (ai jk):=aJ rfl rfl rfl (by decide +kernel)
def sN:FnScope ["self","store","side","words","size","rounds","faults"] ["self","store","side","words","size","rounds","faults"] (ai kH):=aJ rfl rfl rfl (by decide +kernel)
def ic:FnScope ["self","laid","fetched"] ["self"] (ai iJ):=aJ rfl rfl rfl (by decide +kernel)
def oK:FnScope ["self"] ["self"] (ai hW):=aJ rfl rfl rfl (by decide +kernel)
def nW:FnScope ["self","counter"] ["self","counter"] (ai gz):=aJ rfl rfl rfl (by decide +kernel)
def jM:FnScope ["self","cell","counter"] ["self","cell","counter"] (ai cV):=aJ rfl rfl rfl (by decide +kernel)
def oM:FnScope ["self","name","worth","counter"] ["self","name","worth"] (ai no):=aJ rfl rfl rfl (by decide +kernel)
def jg:FnScope ["self","counter","found"] ["self"] (ai kI):=aJ rfl rfl rfl (by decide +kernel)
def qM:FnScope ["self"] ["self"] (ai ju):=aJ rfl rfl rfl (by decide +kernel)
def lZ:FnScope ["self","word","name","worth"] ["self","word","name","worth"] (ai kj):=aJ rfl rfl rfl (by decide +kernel)
def qN:FnScope ["self","word","name","worth"] ["self","word","name","worth"] (ai jp):=aJ rfl rfl rfl (by decide +kernel)
def fq:FnScope ["story","judge","number","happening"] ["story"] (ai iS):=aJ rfl rfl rfl (by decide +kernel)
def i4:FnScope ["story","laid","fetched","pairs","gone"] ["story","laid","fetched"] (ai iX):=aJ rfl rfl rfl (by decide +kernel)
def tm:FnScope ["self","store","size","rounds","names","faults"] ["self","store","size","rounds","names","faults"] (ai jQ):=aJ rfl rfl rfl (by decide +kernel)
def gY:FnScope ["self","name"] ["self"] (ai fh):=aJ rfl rfl rfl (by decide +kernel)
def mT:FnScope ["self"] ["self"] (ai fW):=aJ rfl rfl rfl (by decide +kernel)
def pA:FnScope ["self","worth","name"] ["self","worth"] (ai mV):=aJ rfl rfl rfl (by decide +kernel)
def jJ:FnScope ["self","told"] ["self"] (ai i0):=aJ rfl rfl rfl (by decide +kernel)
def jj:FnScope ["self"] ["self"] (ai cu):=aJ rfl rfl rfl (by decide +kernel)
def qK:FnScope ["self","store","size","rounds","faults"] ["self","store","size","rounds","faults"] (ai iO):=aJ rfl rfl rfl (by decide +kernel)
def m9:FnScope ["self","told"] ["self"] (ai jI):=aJ rfl rfl rfl (by decide +kernel)
def kF:FnScope ["self","name"] ["self","name"] (ai cT):=aJ rfl rfl rfl (by decide +kernel)
def pR:FnScope ["self","name","worth"] ["self","name","worth"] (ai hU):=aJ rfl rfl rfl (by decide +kernel)
def iw:FnScope ["self"] ["self"] (ai c8):=aJ rfl rfl rfl (by decide +kernel)
def qF:FnScope ["self"] ["self"] (ai iU):=aJ rfl rfl rfl (by decide +kernel)
def qk:FnScope ["self","side","cell","worth"] ["self","side","cell","worth"] (ai iE):=aJ rfl rfl rfl (by decide +kernel)
def li:FnScope ["self","side","first"] ["self","side"] (ai iB):=aJ rfl rfl rfl (by decide +kernel)
def qO:FnScope ["self","side"] ["self","side"] (ai jf):=aJ rfl rfl rfl (by decide +kernel)
def m5:FnScope ["self","side","cell","waiting"] ["self","side","cell"] (ai kO):=aJ rfl rfl rfl (by decide +kernel)
def qd:FnScope ["self","cell"] ["self","cell"] (ai ib):=aJ rfl rfl rfl (by decide +kernel)
def qH:FnScope ["self","side"] ["self","side"] (ai jr):=aJ rfl rfl rfl (by decide +kernel)
def wJ:FnScope ["value"] ["value"] (ai nA):=aJ rfl rfl rfl (by decide +kernel)
def zr:FnScope ["value","kind"] ["value","kind"] (ai pF):=aJ rfl rfl rfl (by decide +kernel)
def rA:FnScope ["some","kinds"] ["some"] (ai q9):=aJ rfl rfl rfl (by decide +kernel)
def zQ:FnScope ["some"] ["some"] (ai oR):=aJ rfl rfl rfl (by decide +kernel)
def rX:FnScope ["self","size","rounds","names","faults"] ["self","size","rounds","names","faults"] (ai kz):=aJ rfl rfl rfl (by decide +kernel)
def nI:FnScope ["self","some","word"] ["self","some"] (ai lO):=aJ rfl rfl rfl (by decide +kernel)
def tz:FnScope ["self"] ["self"] (ai km):=aJ rfl rfl rfl (by decide +kernel)
def pQ:FnScope ["self","side"] ["self","side"] (ai i3):=aJ rfl rfl rfl (by decide +kernel)
def nX:FnScope ["self","side"] ["self","side"] (ai gu):=aJ rfl rfl rfl (by decide +kernel)
def ug:FnScope ["self"] ["self"] (ai lR):=aJ rfl rfl rfl (by decide +kernel)
def sy:FnScope ["self"] ["self"] (ai kL):=aJ rfl rfl rfl (by decide +kernel)
def sx:FnScope ["self","some"] ["self","some"] (ai kG):=aJ rfl rfl rfl (by decide +kernel)
def ln:FnScope ["self","worth","name"] ["self","worth"] (ai iM):=aJ rfl rfl rfl (by decide +kernel)
def mR:FnScope ["self","name","worth"] ["self","name","worth"] (ai fU):=aJ rfl rfl rfl (by decide +kernel)
def l8:FnScope ["self","word","told"] ["self","word","told"] (ai dq):=aJ rfl rfl rfl (by decide +kernel)
def jV:FnScope ["self","side","other"] ["self","side"] (ai ig):=aJ rfl rfl rfl (by decide +kernel)
def qh:FnScope ["self","side"] ["self","side"] (ai iR):=aJ rfl rfl rfl (by decide +kernel)
def oZ:FnScope ["self","side"] ["self","side"] (ai i5):=aJ rfl rfl rfl (by decide +kernel)
def j8:FnScope ["self","side"] ["self","side"] (ai cs):=aJ rfl rfl rfl (by decide +kernel)
def AW:FnScope ["yard","story"] ["yard"] (ai Af):=aJ rfl rfl rfl (by decide +kernel)
def c9:FnScope ["yard","words","made","laid","fetched"] ["yard","words"] (ai el):=aJ rfl rfl rfl (by decide +kernel)
def uB:FnScope ["yard","story","words"] ["yard","story","words"] (ai lG):=aJ rfl rfl rfl (by decide +kernel)
def rV:FnScope ["yard","side"] ["yard","side"] (ai kK):=aJ rfl rfl rfl (by decide +kernel)
def gZ:FnScope ["word","figures"] ["word"] (ai lI):=aJ rfl rfl rfl (by decide +kernel)
def dS:FnScope ["word","kind","bounds","number"] ["word","kind"] (ai lK):=aJ rfl rfl rfl (by decide +kernel)
def mw:FnScope ["words","kinds"] ["words","kinds"] (ai ki):=aJ rfl rfl rfl (by decide +kernel)
def k9:FnScope ["faults"] ["faults"] (ai ij):=aJ rfl rfl rfl (by decide +kernel)
def u9:FnScope ["truth"] ["truth"] (ai lA):=aJ rfl rfl rfl (by decide +kernel)
def vk:FnScope ["part"] ["part"] (ai lD):=aJ rfl rfl rfl (by decide +kernel)
def vv:FnScope ["word","told"] ["word","told"] (ai lQ):=aJ rfl rfl rfl (by decide +kernel)
def sj:FnScope ["self"] ["self"] (ai jY):=aJ rfl rfl rfl (by decide +kernel)
def je:FnScope ["self","row","words"] ["self","row"] (ai mS):=aJ rfl rfl rfl (by decide +kernel)
def bE:FnScope ["self","words","numbers","faults"] ["self","words"] (ai gr):=aJ rfl rfl rfl (by decide +kernel)
def bF:FnScope ["self","words","numbers","told"] ["self","words"] (ai gx):=aJ rfl rfl rfl (by decide +kernel)
def dg:FnScope ["self","words","side"] ["self","words"] (ai gA):=aJ rfl rfl rfl (by decide +kernel)
def dG:FnScope ["some"] [] (ai mW):=aJ rfl rfl rfl (by decide +kernel)
def cj:FnScope ["desk","row","right","other","e"] ["desk","row"] (ai iV):=aJ rfl rfl rfl (by decide +kernel)
def uR:FnScope ["desk"] ["desk"] (ai lU):=aJ rfl rfl rfl (by decide +kernel)
def lq:FnScope ["script","rows","desk","row","thing","early","cell"] ["script"] (ai Gp):=aJ rfl rfl rfl (by decide +kernel)
set_option genInjectivity false
set_option genSizeOfSpec false
structure Ad where
 cG:D'
 iH:D'
 jd:D'
 dB:D'
 eS:D'
 dC:D'
 cC:D'
 c7:D'
 b6:D'
 iF:D'
 eU:D'
 dO:D'
 cP:D'
 dE:D'
 dl:D'
 dI:D'
 f9:D'
 bz:D'
 bM:D'
 jb:D'
 cB:D'
 aQ:D'
 dj:D'
 f8:D'
 b7:D'
 cM:D'
 aO:D'
 dL:D'
 dM:D'
 dD:D'
 dH:D'
 eZ:D'
 cD:D'
 du:D'
 iI:D'
 lM:D'
 lH:D'
 lN:D'
 eX:D'
 gJ:D'
 eW:D'
 cH:D'
 cc:D'
 gH:D'
 eL:D'
 eV:D'
 dJ:D'
 bL:D'
 bg:D'
 cJ:D'
 dF:D'
 cL:D'
 aR:D'
 pK:D'
 bp:D'
 gq:D'
 fg:D'
 eK:D'
 eJ:D'
 bQ:D'
 bH:D'
 gD:D'
 gE:D'
 gI:D'
 eR:D'
 gb:D'
 bw:D'
 bt:D'
 bv:D'
 jn:D'
 dn:D'
 gn:D'
 law:D'
 ce:D'
 gN:D'
 dc:D'
 ba:D'
 aG:D'
 bf:D'
 jH:D'
 ip:D'
 B0:D'
 mO:D'
 mH:D'
 nP:D'
 eQ:D'
 gP:D'
 bG:D'
 aI:D'
 de:D'
 lE:D'
 iC:D'
 fI:D'
 fF:D'
 fO:D'
 fN:D'
 fQ:D'
 fK:D'
 fB:D'
 fL:D'
 cm:D'
 cp:D'
 ck:D'
 cr:D'
 cn:D'
structure Fd where
 cG:LX
 iH:LX
 jd:LX
 dB:LX
 eS:LX
 dC:LX
 cC:LX
 c7:LX
 b6:LX
 iF:LX
 eU:LX
 dO:LX
 cP:LX
 dE:LX
 dl:LX
 dI:LX
 f9:LX
 bz:LX
 bM:LX
 jb:LX
 cB:LX
 aQ:LX
 dj:LX
 f8:LX
 b7:LX
 cM:LX
 aO:LX
 dL:LX
 dM:LX
 dD:LX
 dH:LX
 eZ:LX
 cD:LX
 du:LX
 iI:LX
 lM:LX
 lH:LX
 lN:LX
 eX:LX
 gJ:LX
 eW:LX
 cH:LX
 cc:LX
 gH:LX
 eL:LX
 eV:LX
 dJ:LX
 bL:LX
 bg:LX
 cJ:LX
 dF:LX
 cL:LX
 aR:LX
 pK:LX
 bp:LX
 gq:LX
 fg:LX
 eK:LX
 eJ:LX
 bQ:LX
 bH:LX
 gD:LX
 gE:LX
 gI:LX
 eR:LX
 gb:LX
 bw:LX
 bt:LX
 bv:LX
 jn:LX
 dn:LX
 gn:LX
 law:LX
structure Gs (K:LN) (mg:Str->Option G') (a:Ad) (d:Fd):Prop where
 lc:Fun K "next_counter" "next_counter" hV a.cG d.cG
 qx:az K d.cG ["counter","size","rounds"] []
 qw:mg "next_counter"=f' (.ref a.cG)
 qW:Fun K "place_of" "place_of" nz a.iH d.iH
 zV:az K d.iH ["counter","size"] []
 zg:mg "place_of"=f' (.ref a.iH)
 mY:Fun K "ahead_by" "ahead_by" nv a.jd d.jd
 qY:az K d.jd ["one","other","size","rounds"] []
 rh:mg "ahead_by"=f' (.ref a.jd)
 iT:Fun K "rounds_with" "rounds_with" jk a.dB d.dB
 m7:az K d.dB ["rounds","faults"] []
 mB:mg "rounds_with"=f' (.ref a.dB)
 v7:Fun K "__init__" "Ring.__init__" kH a.eS d.eS
 gU:az K d.eS ["self","store","side","words","size","rounds","faults"] []
 tJ:Fun K "filled" "Ring.filled" iJ a.dC d.dC
 gi:az K d.dC ["self"] []
 fA:Meth K a.ce "filled" a.dC
 qI:Fun K "is_full" "Ring.is_full" hW a.cC d.cC
 lr:az K d.cC ["self"] []
 kl:Meth K a.ce "is_full" a.cC
 pC:Fun K "place_at" "Ring.place_at" gz a.c7 d.c7
 jZ:az K d.c7 ["self","counter"] []
 jx:Meth K a.ce "place_at" a.c7
 l7:Fun K "write_further" "Ring.write_further" cV a.b6 d.b6
 cU:az K d.b6 ["self","cell","counter"] []
 cN:Meth K a.ce "write_further" a.b6
 zm:Fun K "lay" "Ring.lay" no a.iF d.iF
 re:az K d.iF ["self","name","worth"] []
 oO:Meth K a.ce "lay" a.iF
 uF:Fun K "fetch" "Ring.fetch" kI a.eU d.eU
 nO:az K d.eU ["self"] []
 mI:Meth K a.ce "fetch" a.eU
 se:Fun K "__init__" "Judge.__init__" ju a.dO d.dO
 sU:az K d.dO ["self"] []
 nQ:Fun K "fits" "Judge.fits" kj a.cP d.cP
 ve:az K d.cP ["self","word","name","worth"] []
 rY:Meth K a.gN "fits" a.cP
 sw:Fun K "go_on" "Judge.go_on" jp a.dE d.dE
 tR:az K d.dE ["self","word","name","worth"] []
 qv:Meth K a.gN "go_on" a.dE
 m3:Fun K "first_wrong" "first_wrong" iS a.dl d.dl
 sK:az K d.dl ["story"] []
 sZ:mg "first_wrong"=f' (.ref a.dl)
 mE:Fun K "not_fetched" "not_fetched" iX a.dI d.dI
 tE:az K d.dI ["story","laid","fetched"] []
 sV:mg "not_fetched"=f' (.ref a.dI)
 tV:Fun K "__init__" "Hand.__init__" jQ a.f9 d.f9
 ut:az K d.f9 ["self","store","size","rounds","names","faults"] []
 ni:Fun K "least_free" "Hand.least_free" fh a.bz d.bz
 iz:az K d.bz ["self"] []
 hG:Meth K a.dc "least_free" a.bz
 o4:Fun K "check_ask" "Hand.check_ask" fW a.bM d.bM
 jy:az K d.bM ["self"] []
 ix:Meth K a.dc "check_ask" a.bM
 zd:Fun K "ask" "Hand.ask" mV a.jb d.jb
 zH:az K d.jb ["self","worth"] []
 vZ:Meth K a.dc "ask" a.jb
 qG:Fun K "collect" "Hand.collect" i0 a.cB d.cB
 qD:az K d.cB ["self"] []
 pE:Meth K a.dc "collect" a.cB
 jD:Fun K "something_waits" "Hand.something_waits" cu a.aQ d.aQ
 jG:az K d.aQ ["self"] []
 iW:Meth K a.dc "something_waits" a.aQ
 rQ:Fun K "__init__" "Heart.__init__" iO a.dj d.dj
 rS:az K d.dj ["self","store","size","rounds","faults"] []
 vB:Fun K "take" "Heart.take" jI a.f8 d.f8
 uW:az K d.f8 ["self"] []
 sr:Meth K a.ba "take" a.f8
 l9:Fun K "check_answer" "Heart.check_answer" cT a.b7 d.b7
 g9:az K d.b7 ["self","name"] []
 fD:Meth K a.ba "check_answer" a.b7
 ql:Fun K "answer" "Heart.answer" hU a.cM d.cM
 qp:az K d.cM ["self","name","worth"] []
 pw:Meth K a.ba "answer" a.cM
 ja:Fun K "something_waits" "Heart.something_waits" c8 a.aO d.aO
 jq:az K d.aO ["self"] []
 im:Meth K a.ba "something_waits" a.aO
 tI:Fun K "__init__" "Store.__init__" iU a.dL d.dL
 rO:az K d.dL ["self"] []
 sE:Fun K "write" "Store.write" iE a.dM d.dM
 eD:az K d.dM ["self","side","cell","worth"] []
 d0:Meth K a.aG "write" a.dM
 rR:Fun K "drain" "Store.drain" iB a.dD d.dD
 m8:az K d.dD ["self","side"] []
 lg:Meth K a.aG "drain" a.dD
 su:Fun K "fence" "Store.fence" jf a.dH d.dH
 ml:az K d.dH ["self","side"] []
 lx:Meth K a.aG "fence" a.dH
 uM:Fun K "read" "Store.read" kO a.eZ d.eZ
 dR:az K d.eZ ["self","side","cell"] []
 cS:Meth K a.aG "read" a.eZ
 qi:Fun K "memory" "Store.memory" ib a.cD d.cD
 ia:az K d.cD ["self","cell"] []
 gG:Meth K a.aG "memory" a.cD
 sW:Fun K "waits" "Store.waits" jr a.du d.du
 eI:az K d.du ["self","side"] []
 cY:Meth K a.aG "waits" a.du
 rm:Fun K "is_whole" "is_whole" nA a.iI d.iI
 yN:az K d.iI ["value"] []
 zo:mg "is_whole"=f' (.ref a.iI)
 tX:Fun K "is_part" "is_part" pF a.lM d.lM
 AS:az K d.lM ["value","kind"] []
 BX:mg "is_part"=f' (.ref a.lM)
 uC:Fun K "is_deed" "is_deed" q9 a.lH d.lH
 Au:az K d.lH ["some"] []
 BP:mg "is_deed"=f' (.ref a.lH)
 tW:Fun K "side_of" "side_of" oR a.lN d.lN
 A4:az K d.lN ["some"] []
 BD:mg "side_of"=f' (.ref a.lN)
 ur:Fun K "__init__" "Yard.__init__" kz a.eX d.eX
 nK:az K d.eX ["self","size","rounds","names","faults"] []
 wA:Fun K "deed" "Yard.deed" lO a.gJ d.gJ
 pT:az K d.gJ ["self","some"] []
 nM:Meth K a.bf "deed" a.gJ
 uf:Fun K "story" "Yard.story" km a.eW d.eW
 jK:az K d.eW ["self"] []
 iP:Meth K a.bf "story" a.eW
 qq:Fun K "sleeper" "Yard.sleeper" i3 a.cH d.cH
 qy:az K d.cH ["self","side"] []
 p9:Meth K a.bf "sleeper" a.cH
 qb:Fun K "is_quiet" "Yard.is_quiet" gu a.cc d.cc
 pI:az K d.cc ["self","side"] []
 nZ:Meth K a.bf "is_quiet" a.cc
 wm:Fun K "made" "Yard.made" lR a.gH d.gH
 vY:az K d.gH ["self"] []
 uk:Meth K a.bf "made" a.gH
 uT:Fun K "store" "Yard.store" kL a.eL d.eL
 dW:az K d.eL ["self"] []
 cR:Meth K a.bf "store" a.eL
 vt:Fun K "check" "Yard.check" kG a.eV d.eV
 uU:az K d.eV ["self","some"] []
 sf:Meth K a.bf "check" a.eV
 sH:Fun K "do_ask" "Yard.do_ask" iM a.dJ d.dJ
 tM:az K d.dJ ["self","worth"] []
 qg:Meth K a.bf "do_ask" a.dJ
 nY:Fun K "do_answer" "Yard.do_answer" fU a.bL d.bL
 o5:az K d.bL ["self","name","worth"] []
 n8:Meth K a.bf "do_answer" a.bL
 lF:Fun K "tell_fetched" "Yard.tell_fetched" dq a.bg d.bg
 gw:az K d.bg ["self","word","told"] []
 g0:Meth K a.bf "tell_fetched" a.bg
 qA:Fun K "do_bell" "Yard.do_bell" ig a.cJ d.cJ
 qB:az K d.cJ ["self","side"] []
 pB:Meth K a.bf "do_bell" a.cJ
 sm:Fun K "do_lie" "Yard.do_lie" iR a.dF d.dF
 sv:az K d.dF ["self","side"] []
 qm:Meth K a.bf "do_lie" a.dF
 qj:Fun K "do_look" "Yard.do_look" i5 a.cL d.cL
 qC:az K d.cL ["self","side"] []
 pS:Meth K a.bf "do_look" a.cL
 jC:Fun K "something_waits" "Yard.something_waits" cs a.aR d.aR
 jE:az K d.aR ["self","side"] []
 iK:Meth K a.bf "something_waits" a.aR
 Ce:Fun K "errs" "errs" Af a.pK d.pK
 EZ:az K d.pK ["yard"] []
 EX:mg "errs"=f' (.ref a.pK)
 et:Fun K "filled_in_memory" "filled_in_memory" el a.bp d.bp
 gW:az K d.bp ["yard","words"] []
 gR:mg "filled_in_memory"=f' (.ref a.bp)
 lV:Fun K "miscounts" "miscounts" lG a.gq d.gq
 pG:az K d.gq ["yard","story","words"] []
 pW:mg "miscounts"=f' (.ref a.gq)
 jX:Fun K "oversleeps" "oversleeps" kK a.fg d.fg
 nE:az K d.fg ["yard","side"] []
 nB:mg "oversleeps"=f' (.ref a.fg)
 iZ:Fun K "is_number" "is_number" lI a.eK d.eK
 pN:az K d.eK ["word"] []
 oJ:mg "is_number"=f' (.ref a.eK)
 j7:Fun K "number_of" "number_of" lK a.eJ d.eJ
 pP:az K d.eJ ["word","kind"] []
 pM:mg "number_of"=f' (.ref a.eJ)
 bW:Fun K "numbers_of" "numbers_of" ki a.bQ d.bQ
 dU:az K d.bQ ["words","kinds"] []
 dX:mg "numbers_of"=f' (.ref a.bQ)
 fu:Fun K "check_faults" "check_faults" ij a.bH d.bH
 lj:az K d.bH ["faults"] []
 lw:mg "check_faults"=f' (.ref a.bH)
 iD:Fun K "yes_or_no" "yes_or_no" lA a.gD d.gD
 lT:az K d.gD ["truth"] []
 ly:mg "yes_or_no"=f' (.ref a.gD)
 lC:Fun K "part_text" "part_text" lD a.gE d.gE
 p7:az K d.gE ["part"] []
 pp:mg "part_text"=f' (.ref a.gE)
 lP:Fun K "told_text" "told_text" lQ a.gI d.gI
 oU:az K d.gI ["word","told"] []
 pd:mg "told_text"=f' (.ref a.gI)
 uJ:Fun K "__init__" "Desk.__init__" jY a.eR d.eR
 uE:az K d.eR ["self"] []
 qX:Fun K "say" "Desk.say" mS a.gb d.gb
 kP:az K d.gb ["self","row"] []
 iQ:Meth K a.jH "say" a.gb
 jR:Fun K "say_ring" "Desk.say_ring" gr a.bw d.bw
 kf:az K d.bw ["self","words"] []
 jv:Meth K a.jH "say_ring" a.bw
 jU:Fun K "say_deed" "Desk.say_deed" gx a.bt d.bt
 kA:az K d.bt ["self","words"] []
 jB:Meth K a.jH "say_deed" a.bt
 kq:Fun K "say_look" "Desk.say_look" gA a.bv d.bv
 kE:az K d.bv ["self","words"] []
 jw:Meth K a.jH "say_look" a.bv
 rq:Fun K "_law_rows" "_law_rows" mW a.jn d.jn
 zX:az K d.jn [] []
 zp:mg "_law_rows"=f' (.ref a.jn)
 cO:Fun K "_law_refused" "_law_refused" iV a.dn d.dn
 eA:az K d.dn ["desk","row"] []
 eF:mg "_law_refused"=f' (.ref a.dn)
 dA:Fun K "_law_shown" "_law_shown" lU a.gn d.gn
 fe:az K d.gn ["desk"] []
 eM:mg "_law_shown"=f' (.ref a.gn)
 Kh:Fun K "law" "law" Gp a.law d.law
 Lb:az K d.law ["script"] []
 Lw:mg "law"=f' (.ref a.law)
 au:Cls K a.ce
 yc:mg "Ring"=f' (.ref a.ce)
 xq:Mk K a.ce a.eS
 br:aP K a.ce "shelf"
 bJ:aP K a.ce "side"
 nN:aP K a.ce "word"
 fG:aP K a.ce "laid"
 eC:aP K a.ce "fetched"
 fH:aP K a.ce "size"
 hZ:aP K a.ce "rounds"
 bI:aP K a.ce "counter_first"
 bn:Cls K a.gN
 Hc:mg "Judge"=f' (.ref a.gN)
 Gy:Mk K a.gN a.dO
 cf:aP K a.gN "untaken"
 bR:aP K a.gN "unhanded"
 fj:aP K a.gN "going"
 fw:aP K a.gN "doing"
 bU:Cls K a.dc
 Ix:mg "Hand"=f' (.ref a.dc)
 Io:Mk K a.dc a.f9
 kD:aP K a.dc "asks"
 gp:aP K a.dc "answers"
 mL:aP K a.dc "names"
 ez:aP K a.dc "going"
 bZ:Cls K a.ba
 GO:mg "Heart"=f' (.ref a.ba)
 G6:Mk K a.ba a.dj
 ji:aP K a.ba "asks"
 fX:aP K a.ba "answers"
 fi:aP K a.ba "doing"
 aF:Cls K a.aG
 GP:mg "Store"=f' (.ref a.aG)
 GJ:Mk K a.aG a.dL
 jc:aP K a.aG "held"
 bY:aP K a.aG "rows"
 am:Cls K a.bf
 Ez:mg "Yard"=f' (.ref a.bf)
 Fa:Mk K a.bf a.eX
 nC:aP K a.bf "size"
 lm:aP K a.bf "rounds"
 qr:aP K a.bf "faults"
 aW:aP K a.bf "shelf"
 fR:aP K a.bf "hand"
 dY:aP K a.bf "heart"
 gB:aP K a.bf "bell_fences"
 gX:aP K a.bf "lie_fences"
 iq:aP K a.bf "look_sees"
 aY:aP K a.bf "sleepers"
 em:aP K a.bf "quiet"
 cg:aP K a.bf "happened"
 bS:Cls K a.jH
 HN:mg "Desk"=f' (.ref a.jH)
 HU:Mk K a.jH a.eR
 bx:aP K a.jH "yard"
 uq:mg "ValueError"=LJ
 BZ:mg "all"=LJ
 F5:mg "bool"=LJ
 wu:mg "enumerate"=LJ
 BK:mg "int"=LJ
 bb:mg "isinstance"=LJ
 kJ:mg "len"=LJ
 Ey:mg "list"=LJ
 Ge:mg "range"=LJ
 zY:mg "reversed"=LJ
 Ij:mg "set"=LJ
 xC:mg "sorted"=LJ
 qQ:mg "str"=LJ
 k8:mg "tuple"=LJ
 FJ:mg "zip"=LJ
 wD:mg "RingError"=f' (.ref a.ip)
 Aa:mg "Full"=f' (.ref a.B0)
 yn:mg "NoName"=f' (.ref a.mO)
 xl:mg "NoTask"=f' (.ref a.mH)
 oA:mg "NoDeed"=f' (.ref a.nP)
 jh:mg "NoRow"=f' (.ref a.eQ)
 xP:mg "ASKS"=f' (.ref a.gP)
 x8:∀ H,SqT K H a.gP [.str "ask",.str "asked",.str "taken"]
 mC:mg "ANSWERS"=f' (.ref a.bG)
 mh:∀ H,SqT K H a.bG [.str "answer",.str "answered",.str "handed"]
 gh:mg "SLEEP_CELLS"=f' (.ref a.aI)
 gk:∀ H,SqT K H a.aI [.str "hand sleeps",.str "heart sleeps"]
 wZ:mg "FAULTS"=f' (.ref a.de)
 xQ:∀ H,SqT K H a.de [.str "bell",.str "counter",.str "lie",.str "look",.str "round"]
 dP:∃ t,mg "MOST_WORTH"=f' (.int 1000000000 t)
 lb:∃ t,mg "MOST_FIGURES"=f' (.int 12 t)
 uZ:∃ t,mg "FIGURES"=f' (.str "0123456789" t)
 pH:mg "FORMS"=f' (.ref a.lE)
 oS:EG K a.lE [("ask",a.fI),("collect",a.fF),("take",a.fO),("answer",a.fN),("bell",a.fQ),("lie",a.fK),("look",a.fB),("drain",a.fL)]
 uA:∀ H,SqT K H a.fI [.str "worth"]
 uc:∀ H,SqT K H a.fF []
 uV:∀ H,SqT K H a.fO []
 uI:∀ H,SqT K H a.fN [.str "name",.str "worth"]
 va:∀ H,SqT K H a.fQ [.str "side"]
 vh:∀ H,SqT K H a.fK [.str "side"]
 vo:∀ H,SqT K H a.fB [.str "side"]
 u8:∀ H,SqT K H a.fL [.str "side"]
 yD:mg "BOUNDS"=f' (.ref a.iC)
 xm:EG K a.iC [("size",a.cm),("rounds",a.cp),("names",a.ck),("name",a.cr),("side",a.cn)]
 qS:∀ H,SqT K H a.cm [.int 1,.int 8]
 rk:∀ H,SqT K H a.cp [.int 2,.int 4]
 qR:∀ H,SqT K H a.ck [.int 1,.int 9]
 r8:∀ H,SqT K H a.cr [.int 0,.int 1000000000]
 rc:∀ H,SqT K H a.cn [.int 0,.int 1]
 xc_Full:excIn K a.B0 veB "ValueError.__new__"=l'
 xc_NoName:excIn K a.mO veB "ValueError.__new__"=l'
 xc_NoTask:excIn K a.mH veB "ValueError.__new__"=l'
 xc_NoDeed:excIn K a.nP veB "ValueError.__new__"=l'
 xc_NoRow:excIn K a.eQ veB "ValueError.__new__"=l'
 tD:PySem.W.XCls K a.eQ
 LG:Oi K (.ref a.B0) (.ref a.ip)=f' l'
 LF:Oi K (.ref a.mO) (.ref a.ip)=f' l'
 LD:Oi K (.ref a.mH) (.ref a.ip)=f' l'
 LE:Oi K (.ref a.nP) (.ref a.ip)=f' l'
 Le:Oi K (.ref a.eQ) (.ref a.ip)=f' l'
 Ly:Og K (.ref a.eQ) (.ref a.eQ)=f' l'
 L7:Og K (.ref a.eQ) (.type "ValueError")=f' l'
 Lx:kitAny K (.ref a.eQ) [.ref a.B0,.ref a.nP,.ref a.mO,.ref a.mH]=f' K'
set_option genInjectivity true
set_option genSizeOfSpec true
def ir {c A B:Prop} [Decidable c] (hc:¬ c) (h:B):if decide c=l' then A else B:=by
 rw[decide_eq_false hc];exact cW h
def oX {c A B:Prop} [Decidable c] (hc:c) (h:A):if decide c=l' then A else B:=by
 rw[SI hc];exact fP h
def mG {i j:Int}(h:V.int i=V.int j):i=j:=by injection h
def sne {a b:Str}(h:a≠b):¬ V.str a=V.str b:=λy=>h (by injection y)
def l3 {x y z:V}:[x,y,z].length <= LP:=by show 3 <= LP;decide
def KP {n:Nat}(h:0 < n):seqIndex? 0 n=f' 0:=by
 unfold seqIndex?;simp[h]
def AL (w:LZ) (C:D'):Sp:=λvs H Q _=>∃ x dx,vs=[.ref x]/\H x=f' (.ins C dx []) /\
 ∀ (hd rl:D') (l:Bool->D') (H':Hp),H hd=LJ->H rl=LJ->(∀ b,H (l b)=LJ)->Sto w C H' x hd rl l [] (λ_=>[])->Kp [x] H H'->Q .non H'
def yf (w:LZ) (C:D'):Sp:=λvs H Q _=>∃ (x hd rl:D') (l:Bool->D') (M:List (LO × V)) (r:Bool->List (LO × V)) (b:Bool) (cv wv:V) (k:LO),vs=[.ref x,.int (sdI b),cv,wv]/\Sto w C H x hd rl l M r/\(r b).length < 100000/\vK H k cv /\
 ∀ H',Sto w C H' x hd rl l M (setR r b (r b++[(k,wv)]))->Kp [l b] H H'->Q .non H'
def yE (w:LZ) (C:D'):Sp:=λvs H Q _=>∃ (x hd rl:D') (l:Bool->D') (M:List (LO × V)) (r:Bool->List (LO × V)) (b:Bool) (k:LO) (v:V) (cx:List (LO × V)),vs=[.ref x,.int (sdI b)]/\Sto w C H x hd rl l M r/\r b=(k,v) :: cx/\M.length < 100000 /\
 ∀ H',Sto w C H' x hd rl l (vJ M k v) (setR r b cx)->Kp [l b,hd] H H'->Q .non H'
def xw (w:LZ) (C:D'):Sp:=λvs H Q _=>∃ (x hd rl:D') (l:Bool->D') (M:List (LO × V)) (r:Bool->List (LO × V)) (b:Bool),vs=[.ref x,.int (sdI b)]/\Sto w C H x hd rl l M r/\M.length+(r b).length < 100000 /\
 ∀ H',Sto w C H' x hd rl l (mj M (r b)) (setR r b [])->Kp [l b,hd] H H'->Q .non H'
def A6 (w:LZ) (C:D'):Sp:=λvs H Q _=>∃ (x hd rl:D') (l:Bool->D') (M:List (LO × V)) (r:Bool->List (LO × V)) (b:Bool) (cv:V) (k:LO),vs=[.ref x,.int (sdI b),cv]/\Sto w C H x hd rl l M r/\vK H k cv/\Q (cA M (r b) k) H
def vb (w:LZ) (C:D'):Sp:=λvs H Q _=>∃ (x hd rl:D') (l:Bool->D') (M:List (LO × V)) (r:Bool->List (LO × V)) (cv:V) (k:LO),vs=[.ref x,cv]/\Sto w C H x hd rl l M r/\vK H k cv/\Q ((fZ M k).getD (.int 0)) H
def xt (w:LZ) (C:D'):Sp:=λvs H Q _=>∃ (x hd rl:D') (l:Bool->D') (M:List (LO × V)) (r:Bool->List (LO × V)) (b:Bool),vs=[.ref x,.int (sdI b)]/\Sto w C H x hd rl l M r /\
 ∀ (p:D') (ts:List V),H p=LJ->Mn (Wt H) (r b) ts->Q (.ref p) (upd H p (.lst ts))
def KR:100000 <= LP:=by decide
def l2 {x y:V}:[x,y].length <= LP:=by show 2 <= LP;decide
section
variable {P:Mg}{w:LZ}{K:LN}{mg:Str->Option G'}{base:Mi}{a:Ad}{d:Fd}
def Fz (G:Gs K mg a d):FnOk P w K mg base CX0 1 a.dL d.dL ["self"] (AL w a.aG):=by
 refine G.tI.ok qF (λvs H Q E h=>?_) (λcdv A outer s H vs Q E hr h=>?_)
 . obtain⟨x,dx,rfl,_⟩:=h;rfl
 . obtain⟨x,dx,rfl,hx,k⟩:=h;refine⟨_,((bh (pv 0) Gd rfl)∪(@ao _ _ _ (bh (pv 0) (@bo _ _ _ _ ((@bo _ _ _ _ aa)∣((@bo _ _ _ _ aa)∣aa))) rfl))),?_⟩;intro hd hhd;have n0:x≠hd:=ae hx hhd;refine⟨_,rfl,x,a.aG,dx,[],rfl,(by rw[ac n0];exact hx),G.aF,G.jc,(by show 0 < 1000;decide),?_⟩;refine⟨by show 0 <= LP;decide,λl0 h0=>⟨by show 0 <= LP;decide,λl1 h1=>⟨l2,λrl hrl=>⟨_,rfl,x,a.aG,dx,bj "held" (.ref hd) [],rfl,?_,G.aF,G.bY,by show 1 < 1000;decide,?_⟩⟩⟩⟩
   all_goals
    have m0:x≠l0:=ae a8 h0;have m1:x≠l1:=ae (o:=.ins a.aG dx (bj "held" (.ref hd) [])) (by rw[ac m0];exact a8) h1;have m2:x≠rl:=ae (o:=.ins a.aG dx (bj "held" (.ref hd) [])) (by rw[ac m1,ac m0];exact a8) hrl
   . rw[ac m2,ac m1,ac m0];exact a8
   . have q0:hd≠l0:=ae (o:=qf hd [] 0) (by rw[ac n0.symm];exact a8) h0;have q1:hd≠l1:=ae (o:=qf hd [] 0) (by rw[ac q0,ac n0.symm];exact a8) h1;have q2:hd≠rl:=ae (o:=qf hd [] 0) (by rw[ac q1,ac q0,ac n0.symm];exact a8) hrl;have r1:l0≠l1:=ae a8 h1;have r2:l0≠rl:=ae (o:=.lst []) (by rw[ac r1];exact a8) hrl;have r3:l1≠rl:=ae a8 hrl;have e0:∀ c o,H c=f' o->c≠hd:=λc o e=>ae e hhd
     have f0:H l0=LJ:=by
      cases z:H l0 with
     |none=>rfl
     |some o=>rw[ac m0.symm,ac q0.symm,z]at h0;cases h0
     have f1:H l1=LJ:=by
      cases z:H l1 with
     |none=>rfl
     |some o=>rw[ac r1.symm,ac m1.symm,ac q1.symm,z]at h1;cases h1
     have f2:H rl=LJ:=by
      cases z:H rl with
     |none=>rfl
     |some o=>rw[ac r3.symm,ac r2.symm,ac m2.symm,ac q2.symm,z]at hrl;cases hrl
     refine k hd rl (λb=>if b then l1 else l0) _ hhd f2 (λb=>by cases b;exact f0;exact f1) ⟨⟨dx,a8⟩,⟨[],0,by rw[ac n0.symm,ac q2,ac q1,ac q0,ac n0.symm,a8],.nil,nodup_nil,Ny _⟩,by rw[ac m2.symm,a8];rfl,λb=>⟨[],?_,.nil⟩,r1,λb=>by cases b;exact r2;exact r3⟩ λc o n e=>?_
     . cases b
       . show upd _ x _ l0=_;rw[ac m0.symm,ac r2,ac r1,a8]
       . show upd _ x _ l1=_;rw[ac m1.symm,ac r3,a8]
     . have c0:c≠x:=λz=>n (LM.mpr z)
       rw[ac c0,ac (ae e f2),ac (ae e f1),ac (ae e f0),ac c0,ac (e0 c o e)];exact e
def ms (G:Gs K mg a d):FnOk P w K mg base CX0 1 a.dM d.dM ["self","side","cell","worth"] (yf w a.aG):=by
 refine G.sE.ok qk (λvs H Q E h=>?_) (λcdv A outer s H vs Q E hr h=>?_)
 . obtain⟨x,hd,rl,l,M,r,b,cv,wv,k,rfl,_⟩:=h;rfl
 . obtain⟨x,hd,rl,l,M,r,b,cv,wv,k,rfl,S,hlen,hk,q⟩:=h;refine⟨_,(@ao _ _ _ (@aK _ _ _ _ (@mv _ _ _ _ _ _ _ _ _ _ _ _ MS Nt PySem.F.type_list_append fC (@aB _ _ _ _ _ _ _ aS (ak (pv 0) rfl) (pv 1) (λ_ _=>rfl)) ((@bO _ _ _ _ _ ((pv 2)∣((pv 3)∣aa)))∣aa) (by rfl) (by rfl) (by rfl) (by rfl) (by rfl)) (by rfl))),?_⟩;obtain⟨dx,hx⟩:=S.ob;obtain⟨ts,hl,hp⟩:=S.rw b;have hn:=b9 hp;refine⟨_,rfl,x,a.aG,dx,_,_,rfl,hx,G.aF,G.bY,kW,_,rfl,rl,_,_,_,rfl,rfl,SqL.of S.ro,qU b,.inl ⟨rfl,_,SqL.of hl⟩,_,rfl,_,rfl,l2,λt ht=>⟨l b,ts,.ref t,rfl,rfl,by rw[ac (ae hl ht)];exact hl,LR (by omega) KR,?_⟩⟩;have tne:∀ c o,H c=f' o->c≠t:=λc o e=>ae e ht
   have tl:t≠l b:=(tne _ _ hl).symm;have kp:Kp [l b] H (upd (upd H t (.tup [cv,wv])) (l b) (.lst (ts++[.ref t]))):=λc o n e=>by
    rw[ac λz=>n (LM.mpr z),ac (tne c o e)];exact e
   have kt:∀ c vs,H c=f' (.tup vs)->upd (upd H t (.tup [cv,wv])) (l b) (.lst (ts++[.ref t])) c=f' (.tup vs):=λc vs e=>kp c _ (λz=>by
    rw[LM.mp z,hl]at e;cases e) e
   refine q _ ⟨⟨dx,kp _ _ (λz=>by rw[LM.mp z,hl]at hx;cases hx) hx⟩,S.me.keepS (λo e=>kp _ _ (λz=>by
    obtain⟨es,e'⟩:=S.me.there;rw[LM.mp z,hl]at e';cases e') e) kt,kp _ _ (λz=>S.nr b (LM.mp z).symm) S.ro,λc=>?_,S.nl,S.nr⟩ kp
   by_cases z:c=b
   . subst z;rw[b8];exact⟨_,a8,Mn.snoc (Paired.mapP hp λ_ _ q=>q.keep kt) ⟨t,cv,rfl,by rw[ac tl];exact a8,hk.keep kt⟩⟩
   . rw[eN z];exact(S.rw c).keep (λo e=>kp _ _ (λy=>by
      have y':=LM.mp y;cases c<;>cases b
      . exact z rfl
      . exact S.nl y'
      . exact S.nl y'.symm
      . exact z rfl) e) kt
def yw (G:Gs K mg a d):FnOk P w K mg base CX0 1 a.dD d.dD ["self","side"] (yE w a.aG):=by
 refine G.rR.ok li (λvs H Q E h=>?_) (λcdv A outer s H vs Q E hr h=>?_)
 . obtain⟨x,hd,rl,l,M,r,b,k,v,cx,rfl,_⟩:=h;rfl
 . obtain⟨x,hd,rl,l,M,r,b,k,v,cx,rfl,S,hrow,hlen,q⟩:=h;refine⟨_,((aC (bN (mD (@aB _ _ _ _ _ _ _ aS (ak (pv 0) rfl) (pv 1) (λ_ _=>rfl)) (λ_=>rfl))) (@ao _ _ _ gg) al)∪((@aH _ _ 2 _ _ _ _ li.nd rfl (Mx rfl) (@mv _ _ _ _ _ _ _ _ _ _ _ _ MS PySem.F.slot_list_pop PySem.F.type_list_pop sA (@aB _ _ _ _ _ _ _ aS (ak (pv 0) rfl) (pv 1) (λ_ _=>rfl)) (aj∣aa) (by rfl) (by rfl) (by rfl) (by rfl) (by rfl)) (by rfl) (by first|exact .inl rfl|exact .inr rfl|assumption))∪(@ao _ _ _ (FC hr.units (ak (pv 0) rfl) (@aB _ _ _ _ _ _ _ aD (pv 2) aj (λ_ _=>rfl)) (@aB _ _ _ _ _ _ _ aD (pv 2) aj (λ_ _=>rfl)) rfl)))),?_⟩;obtain⟨dx,hx⟩:=S.ob;obtain⟨ts0,hl,hp0⟩:=S.rw b;rw[hrow]at hp0;cases hp0 with
  |@cons _ tv _ ts hw hp =>
    obtain⟨t,cv,rfl,ht,hk⟩:=hw;refine⟨_,rfl,x,a.aG,dx,_,_,rfl,hx,G.aF,G.bY,kW,_,rfl,rl,_,_,_,rfl,rfl,SqL.of S.ro,qU b,l',.inl ⟨_,SqL.of hl,rfl⟩,cW ?_⟩;refine⟨_,rfl,x,a.aG,dx,_,_,rfl,hx,G.aF,G.bY,kW,_,rfl,rl,_,_,_,rfl,rfl,SqL.of S.ro,qU b,.inl ⟨rfl,_,SqL.of hl⟩,l b,_,0,0,.ref t,rfl,rfl,hl,by decide,by decide,by simp[seqIndex?],rfl,?_⟩;have tl:t≠l b:=jo ht hl (by intro z;cases z);have kp:Kp [l b] H (upd H (l b) (.lst (List.eraseIdx (.ref t :: ts) 0))):=λc o n e=>by
     rw[ac λz=>n (LM.mpr z)];exact e
    have kt:∀ c vs,H c=f' (.tup vs)->upd H (l b) (.lst (List.eraseIdx (.ref t :: ts) 0)) c=f' (.tup vs):=λc vs e=>kp c _ (λz=>by
     rw[LM.mp z,hl]at e;cases e) e
    have hx':=kp x _ (λz=>by rw[LM.mp z,hl]at hx;cases hx) hx;have me':=S.me.keepS (λo e=>kp _ _ (λz=>by
     obtain⟨es,e'⟩:=S.me.there;rw[LM.mp z,hl]at e';cases e') e) kt
    have ro':=kp rl _ (λz=>S.nr b (LM.mp z).symm) S.ro;have ht':=kt t _ ht;have rw':∀ c,B9 (upd H (l b) (.lst (List.eraseIdx (.ref t :: ts) 0))) (l c) (setR r b cx c):=λc=>by
     by_cases z:c=b
     . subst z;rw[b8];exact⟨ts,a8,Paired.mapP hp λ_ _ q=>q.keep kt⟩
     . rw[eN z];exact(S.rw c).keep (λo e=>kp _ _ (λy=>by
        have y':=LM.mp y;cases c<;>cases b
        . exact z rfl
        . exact S.nl y'
        . exact S.nl y'.symm
        . exact z rfl) e) kt
    have hk':=hk.keep kt;refine⟨_,rfl,t,_,_,_,rfl,rfl,SqT.of ht',rfl,_,rfl,x,a.aG,dx,_,_,rfl,hx',G.aF,G.jc,xW,_,rfl,t,_,_,_,rfl,rfl,SqT.of ht',rfl,hd,M,k,rfl,me',LR hlen KR,hk',λH4 g1 g2=>?_⟩;generalize upd H (l b) (.lst (List.eraseIdx (.ref t :: ts) 0))=H1 at kp kt hx' me' ro' ht' rw' hk' g1 |-;have hdn:∀ c o,H1 c=f' o->(∀ ee:List MA × Nat,o≠qf hd ee.1 ee.2)->c≠hd:=λc o e n z=>by
     obtain⟨es,e'⟩:=me'.there;rw[z,e']at e;exact n es (Ms e).symm
    have k4:∀ c o,c≠hd->H1 c=f' o->H4 c=f' o:=λc o n e=>by rw[g1 c n];exact e
    have kt4:∀ c vs,H1 c=f' (.tup vs)->H4 c=f' (.tup vs):=λc vs e=>k4 c _ (hdn c _ e λes z=>by cases z) e
    refine q H4 ⟨⟨dx,k4 _ _ (hdn _ _ hx' λes z=>by cases z) hx'⟩,g2,k4 _ _ (hdn _ _ ro' λes z=>by cases z) ro',λc=>(rw' c).keep (λo e=>k4 _ _ (by
     obtain⟨ts',e',_⟩:=rw' c;exact hdn _ _ e' λes z=>by cases z) e) kt4,S.nl,S.nr⟩ λc o n e=>?_
    exact k4 c o (λz=>n (by rw[z];simp)) (kp c o (λz=>n (by rw[LM.mp z];simp)) e)
def tZ (G:Gs K mg a d):FnOk P w K mg base CX0 1 a.cD d.cD ["self","cell"] (vb w a.aG):=by
 refine G.qi.ok qd (λvs H Q E h=>?_) (λcdv A outer s H vs Q E hr h=>?_)
 . obtain⟨x,hd,rl,l,M,r,cv,k,rfl,_⟩:=h;rfl
 . obtain⟨x,hd,rl,l,M,r,cv,k,rfl,S,hk,q⟩:=h;refine⟨_,((Co hr.units (ak (pv 0) rfl) (pv 1) aj ⟨rfl,rfl,rfl,rfl⟩)⁻¹),?_⟩;obtain⟨dx,hx⟩:=S.ob;exact⟨_,rfl,x,a.aG,dx,_,_,rfl,hx,G.aF,G.jc,xW,hd,rfl,⟨_,S.me⟩,_,rfl,M,k,S.me,hk,q⟩
def oF (G:Gs K mg a d):FnOk P w K mg base CX0 1 a.du d.du ["self","side"] (xt w a.aG):=by
 refine G.sW.ok qH (λvs H Q E h=>?_) (λcdv A outer s H vs Q E hr h=>?_)
 . obtain⟨x,hd,rl,l,M,r,b,rfl,_⟩:=h;rfl
 . obtain⟨x,hd,rl,l,M,r,b,rfl,S,q⟩:=h;refine⟨_,((b5 nF (by rfl) G.Ey B2 ((@aB _ _ _ _ _ _ _ aS (ak (pv 0) rfl) (pv 1) (λ_ _=>rfl))∣aa))⁻¹),?_⟩;obtain⟨dx,hx⟩:=S.ob;obtain⟨ts,hl,hp⟩:=S.rw b;exact⟨_,rfl,x,a.aG,dx,_,_,rfl,hx,G.aF,G.bY,kW,_,rfl,rl,_,_,_,rfl,rfl,SqL.of S.ro,qU b,l b,ts,rfl,.inl (SqL.of hl),λp hp'=>q p ts hp' hp⟩
def wV (G:Gs K mg a d):FnOk P w K mg base CX0 2 a.dH d.dH ["self","side"] (xw w a.aG):=by
 have Ru:FnOk P w K mg base CX0 1 _ _ _ _:=yw G;refine G.su.ok qO (λvs H Q E h=>?_) (λcdv A outer s H vs Q E hr h=>?_)
 . obtain⟨x,hd,rl,l,M,r,b,rfl,_⟩:=h;rfl
 . obtain⟨x,hd,rl,l,M,r,b,rfl,S,hlen,q⟩:=h;refine⟨_,(@ao _ _ _ (Cv NG (mD (@aB _ _ _ _ _ _ _ aS (ak (pv 0) rfl) (pv 1) (λ_ _=>rfl)) (λ_=>rfl)) (@ao _ _ _ (@aK _ _ _ _ (ar (pv 0) G.aF G.lg Ru (hr.mono (by decide)) G.m8 .nil aq ((pv 1)∣aa)) (by rfl))))),?_⟩;refine⟨λm σ H'=>σ=[f' (.ref x),f' (.int (sdI b))]/\∃ (M' es:List (LO × V)),Sto w a.aG H' x hd rl l M' (setR r b es)/\m=es.length/\mj M' es=mj M (r b)/\M'.length+es.length < 100000/\Kp [l b,hd] H H',
    ⟨_,rfl,M,r b,by rw[show setR r b (r b)=r from funext λc=>by unfold setR;split;(rename_i z;rw[z]);rfl];exact S,rfl,rfl,hlen,Kp.refl _ _⟩,?_⟩
   rintro m σ H' ⟨rfl,M',es,S',rfl,hd',hl',kp⟩;obtain⟨dx,hx⟩:=S'.ob;obtain⟨ts,hl,hp⟩:=S'.rw b;rw[b8]at hp;have hn:=b9 hp;refine⟨_,rfl,x,a.aG,dx,_,_,rfl,hx,G.aF,G.bY,kW,_,rfl,rl,_,_,_,rfl,rfl,SqL.of S'.ro,qU b,!ts.isEmpty,.inl ⟨_,SqL.of hl,rfl⟩,?_⟩;refine Kv (λht=>?_) (λht=>?_)
   . cases es with
    |nil =>
      cases hp;cases ht
    |cons p es =>
      refine⟨_,λσ' H2 z=>z,?_⟩;refine⟨_,rfl,x,dx,_,rfl,hx,cK (by decide +kernel) (by decide +kernel),_,rfl,x,hd,rl,l,M',_,b,p.1,p.2,es,rfl,S',b8,by rw[Mw]at hl';omega,λH2 S2 kp2=>?_⟩;refine⟨es.length,by rw[Mw];omega,rfl,vJ M' p.1 p.2,es,?_,rfl,hd',by have:=Du M' p.1 p.2;rw[Mw]at hl';omega,kp.trans kp2⟩;rw[show setR (setR r b (p :: es)) b es=setR r b es from funext λc=>by unfold setR;split<;>rfl]at S2;exact S2
   . cases es with
    |nil =>
      have e:mj M' []=M':=rfl;rw[e]at hd';rw[hd']at S';exact q H' S' kp
    |cons p es =>
      cases hp with
     |cons _ _=>exact absurd rfl ht
def sO (G:Gs K mg a d):FnOk P w K mg base CX0 2 a.eZ d.eZ ["self","side","cell"] (A6 w a.aG):=by
 have Rx:FnOk P w K mg base CX0 1 _ _ _ _:=tZ G;refine G.uM.ok m5 (λvs H Q E h=>?_) (λcdv A outer s H vs Q E hr h=>?_)
 . obtain⟨x,hd,rl,l,M,r,b,cv,k,rfl,_⟩:=h;rfl
 . obtain⟨x,hd,rl,l,M,r,b,cv,k,rfl,S,hk,q⟩:=h;refine⟨_,((nU NG rfl (Hy (by rfl) G.zY ((@aB _ _ _ _ _ _ _ aS (ak (pv 0) rfl) (pv 1) (λ_ _=>rfl))∣aa)) (fV (i:=3) m5.nd rfl (Mx rfl)) (@ao _ _ _ (aC (ap (lf hr.units) (@aB _ _ _ _ _ _ _ aD (pv 3) aj (λ_ _=>rfl)) (pv 2) (av _)) ((@aB _ _ _ _ _ _ _ aD (pv 3) aj (λ_ _=>rfl))⁻¹) al)))∪((ar (pv 0) G.aF G.gG Rx (hr.mono (by decide)) G.ia .nil aq ((pv 2)∣aa))⁻¹)),?_⟩;obtain⟨dx,hx⟩:=S.ob;obtain⟨ts,hl,hp⟩:=S.rw b;have hn:=b9 hp;refine⟨_,rfl,x,a.aG,dx,_,_,rfl,hx,G.aF,G.bY,kW,_,rfl,rl,_,_,_,rfl,rfl,SqL.of S.ro,qU b,l b,ts,rfl,SqL.of hl,?_⟩;refine Fs (K:=K) (a:=l b) (xs:=ts) (λi σ H'=>(∃ v,σ=[f' (.ref x),f' (.int (sdI b)),f' cv,v])/\H'=H/\∀ p∈((r b).reverse.take i),Mc p.1 k=K')
    ⟨⟨_,rfl⟩,rfl,λp hp=>by cases hp⟩ (λ_ _ _ _ z=>by rw[z.2.1];exact SqL.of hl) ?_ ?_
   . rintro i y σ H' hi hy ⟨⟨v,rfl⟩,rfl,hno⟩;obtain⟨p,e1,t,tc,rfl,ht,hc⟩:=MX.f2_get hp _ _ hy;have hrev:(r b).reverse[i]?=f' p:=by
      rw[List.getElem?_reverse (by omega)];rw[hn];exact e1
     refine⟨_,rfl,t,_,_,_,rfl,rfl,SqT.of ht,rfl,_,rfl,p.1,k,hc.2.2.1,hk.2.2.1,ue.key hc.1 hc.2.1,ue.key hk.1 hk.2.1,_,rfl,?_⟩;simp only[Mz,if_false];refine Kv (λhe=>?_) (λhe=>?_)
     . refine⟨_,rfl,t,_,_,_,rfl,rfl,SqT.of ht,rfl,?_⟩;have e:cA M (r b) k=p.2:=by
        unfold cA;have hfind:(r b).reverse.find? (λp=>Mc p.1 k)=f' p:=by
         rw[List.find?_eq_some_iff_getElem];refine⟨he,i,(Mh.mp hrev).1,(Mh.mp hrev).2,λj hj=>?_⟩;rw[hno _ (MF (by rw[List.getElem?_take,SF hj];exact LQ _))];rfl
        rw[hfind]
       rw[e]at q;exact q
     . refine⟨⟨_,rfl⟩,rfl,λp' hp'=>?_⟩;rw[take_succ,hrev]at hp';rcases Np.mp hp' with z|z
       . exact hno p' z
       . rw[show p'=p by simpa using z];cases w':Mc p.1 k with
        |false=>rfl
        |true=>exact absurd w' he
   . rintro σ H' ⟨⟨v,rfl⟩,rfl,hno⟩;refine⟨_,rfl,x,dx,_,rfl,hx,cK (by decide +kernel) (by decide +kernel),_,rfl,x,hd,rl,l,M,r,cv,k,rfl,S,hk,?_⟩;have e:cA M (r b) k=(fZ M k).getD (.int 0):=by
      unfold cA;have hfind:(r b).reverse.find? (λp=>Mc p.1 k)=LJ:=by
       rw[find?_eq_none];intro p hp';rw[hno p (by rw[NO (by rw[List.length_reverse];omega)];exact hp')];decide
      rw[hfind]
     rw[e]at q;exact q
def FP:Sp:=λvs H Q _=>∃ c s r:Int,vs=[.int c,.int s,.int r]/\0 < s/\s <= 8/\0 < s * r/\Q (.int ((c+1) % (s * r))) H
def DG:Sp:=λvs H Q _=>∃ c s:Int,vs=[.int c,.int s]/\0 < s/\Q (.int (c % s)) H
def Cm:Sp:=λvs H Q _=>∃ o b s r:Int,vs=[.int o,.int b,.int s,.int r]/\0 < s/\s <= 8/\0 < s * r/\Q (.int ((o - b) % (s * r))) H
def GI (G:Gs K mg a d):FnOk P w K mg base CX0 1 a.cG d.cG ["counter","size","rounds"] FP:=by
 refine G.lc.ok qe (λvs H Q E h=>?_) (λcdv A outer st H vs Q E hr h=>?_)
 . obtain⟨c,s,r,rfl,_⟩:=h;rfl
 . obtain⟨c,s,r,rfl,h0,h1,h2,k⟩:=h;refine⟨_,((@gs _ _ _ _ _ _ _ _ vg (@gs _ _ _ _ _ _ _ _ EH (pv 0) aj) (@gs _ _ _ _ _ _ _ _ EO (pv 1) (pv 2)))⁻¹),?_⟩;exact⟨_,rfl,_,_,rfl,rfl,_,rfl,_,rfl,_,_,rfl,rfl,Bp (by omega) (by omega),_,_,rfl,rfl,h2,k⟩
def CI (G:Gs K mg a d):FnOk P w K mg base CX0 1 a.iH d.iH ["counter","size"] DG:=by
 refine G.qW.ok vX (λvs H Q E h=>?_) (λcdv A outer st H vs Q E hr h=>?_)
 . obtain⟨c,s,rfl,_⟩:=h;rfl
 . obtain⟨c,s,rfl,h0,k⟩:=h;refine⟨_,((@gs _ _ _ _ _ _ _ _ vg (pv 0) (pv 1))⁻¹),?_⟩;exact⟨_,rfl,_,rfl,_,_,rfl,rfl,h0,k⟩
def y9 (G:Gs K mg a d):FnOk P w K mg base CX0 1 a.jd d.jd ["one","other","size","rounds"] Cm:=by
 refine G.mY.ok wf (λvs H Q E h=>?_) (λcdv A outer st H vs Q E hr h=>?_)
 . obtain⟨o,b,s,r,rfl,_⟩:=h;rfl
 . obtain⟨o,b,s,r,rfl,h0,h1,h2,k⟩:=h;refine⟨_,((@gs _ _ _ _ _ _ _ _ vg (@gs _ _ _ _ _ _ _ _ Bw (pv 0) (pv 1)) (@gs _ _ _ _ _ _ _ _ EO (pv 2) (pv 3)))⁻¹),?_⟩;exact⟨_,rfl,_,rfl,_,_,rfl,rfl,_,rfl,_,rfl,_,_,rfl,rfl,Bp (by omega) (by omega),_,_,rfl,rfl,h2,k⟩
def Dq:Sp:=λvs H Q _=>∃ (R:Int) (ft:D') (fs:List Str),vs=[.int R,.ref ft]/\H ft=f' (.tup (fs.map V.str))/\Q (.int (if fs.contains "round" then 1 else R)) H
def D6 (K:LN) (CR:D'):Sp:=λvs H Q _=>∃ (q dx st wa ft:D') (b:Bool) (w0 w1 w2:Str) (s R:Int) (fs:List Str),vs=[.ref q,.ref st,.int (sdI b),.ref wa,.int s,.int R,.ref ft]/\H q=f' (.ins CR dx [])/\(∀ H,SqT K H wa [.str w0,.str w1,.str w2])/\H ft=f' (.tup (fs.map V.str)) /\
 ∀ H',Rn CR H' q st b w0 w1 w2 ⟨s,if fs.contains "round" then 1 else R,fs.contains "counter"⟩->Kp [q] H H'->Q .non H'
def Bf (w:LZ) (CR CS:D'):Sp:=λvs H Q _=>∃ (q:D') (z:SA) (b:Bool) (w0 w1 w2:Str) (p:RP) (M:List (LO × V)) (r:Bool->List (LO × V)) (A T:Int),vs=[.ref q]/\Rn CR H q z.x b w0 w1 w2 p/\z.At w CS H M r/\p.Ok/\M8 w1=l'/\M8 w2=l' /\
 cA M (r b) (.str w1)=.int A/\cA M (r b) (.str w2)=.int T/\Q (.int ((A - T) % (p.s * p.R))) H
def Fu (w:LZ) (CR CS:D'):Sp:=λvs H Q _=>∃ (q:D') (z:SA) (b:Bool) (w0 w1 w2:Str) (p:RP) (M:List (LO × V)) (r:Bool->List (LO × V)) (A T:Int),vs=[.ref q]/\Rn CR H q z.x b w0 w1 w2 p/\z.At w CS H M r/\p.Ok/\M8 w1=l'/\M8 w2=l' /\
 cA M (r b) (.str w1)=.int A/\cA M (r b) (.str w2)=.int T/\Q (.bl (decide ((A - T) % (p.s * p.R)=p.s))) H
def A1 (CR:D'):Sp:=λvs H Q _=>∃ (q st:D') (b:Bool) (w0 w1 w2:Str) (p:RP) (A:Int),vs=[.ref q,.int A]/\Rn CR H q st b w0 w1 w2 p/\p.Ok/\∀ t,H t=LJ->Q (.ref t) (upd H t (.tup [.str w0,.int (A % p.s)]))
def zT (w:LZ) (CR CS:D'):Sp:=λvs H Q _=>∃ (q:D') (z:SA) (b:Bool) (w0 w1 w2:Str) (p:RP) (M:List (LO × V)) (r:Bool->List (LO × V)) (A:Int) (cv:V) (k:LO),vs=[.ref q,cv,.int A]/\Rn CR H q z.x b w0 w1 w2 p/\z.At w CS H M r/\p.Ok/\(r b).length < 100000/\vK H k cv /\
 ∀ H',z.At w CS H' M (setR r b (r b++[(k,.int ((A+1) % (p.s * p.R)))]))->Kp [z.l b] H H'->Q .non H'
def IU (w:LZ) (CR CS:D'):Sp:=λvs H Q _=>∃ (q:D') (z:SA) (b:Bool) (w0 w1 w2:Str) (p:RP) (M:List (LO × V)) (r:Bool->List (LO × V)) (A:Int) (nm wv:V),vs=[.ref q,nm,wv]/\Rn CR H q z.x b w0 w1 w2 p/\z.At w CS H M r/\p.Ok/\M8 w0=l'/\M8 w1=l'/\(r b).length < 99999 /\
 cA M (r b) (.str w1)=.int A/\∀ t H',H t=LJ->H' t=f' (.tup [nm,wv])->z.At w CS H' M (setR r b (r b++oQ p w0 w1 A (.ref t)))->Kp [z.l b] H H'->Q .non H'
def DH (w:LZ) (CR CS:D'):Sp:=λvs H Q _=>∃ (q:D') (z:SA) (b:Bool) (w0 w1 w2:Str) (p:RP) (M:List (LO × V)) (r:Bool->List (LO × V)) (A T:Int),vs=[.ref q]/\Rn CR H q z.x b w0 w1 w2 p/\z.At w CS H M r/\p.Ok/\M8 w0=l'/\M8 w1=l'/\M8 w2=l'/\(r b).length < 100000 /\
 cA M (r b) (.str w1)=.int A/\cA M (r b) (.str w2)=.int T/\(if (A - T) % (p.s * p.R)=0 then Q .non H else
  (∃ c vs,cA M (r b) (.tuple [.str w0,.int (T % p.s)])=.ref c/\H c=f' (.tup vs)/\∀ H',z.At w CS H' M (setR r b (r b++[(.str w2,.int ((T+1) % (p.s * p.R)))]))->Kp [z.l b] H H'->Q (.ref c) H') \/
  ∃ i,cA M (r b) (.tuple [.str w0,.int (T % p.s)])=.int i/\∀ t H',H t=LJ->H' t=f' (.tup [.non,.non])->z.At w CS H' M (setR r b (r b++[(.str w2,.int ((T+1) % (p.s * p.R)))]))->Kp [z.l b] H H'->Q (.ref t) H')
def xZ (G:Gs K mg a d):FnOk P w K mg base CX0 1 a.dB d.dB ["rounds","faults"] Dq:=by
 refine G.iT.ok qP (λvs H Q E h=>?_) (λcdv A outer s H vs Q E hr h=>?_)
 . obtain⟨R,ft,fs,rfl,_⟩:=h;rfl
 . obtain⟨R,ft,fs,rfl,hf,k⟩:=h;refine⟨_,((gc (ap fT ag (pv 1) (by with_unfolding_all rfl)) aj (pv 0))⁻¹),?_⟩;refine⟨_,rfl,ft,_,rfl,.inr (SqT.of hf),rfl,eG fs,_,rfl,?_⟩;simp only[Mz,if_false];rw[lS];by_cases hb:fs.contains "round"=l'
   . rw[SF hb]at k |-;exact k
   . rw[SG hb]at k |-;exact⟨_,rfl,k⟩
def xy (G:Gs K mg a d):FnOk P w K mg base CX0 2 a.eS d.eS ["self","store","side","words","size","rounds","faults"] (D6 K a.ce):=by
 have Si:FnOk P w K mg base CX0 1 _ _ _ _:=xZ G;refine G.v7.ok sN (λvs H Q E h=>?_) (λcdv A outer s H vs Q E hr h=>?_)
 . obtain⟨q,dx,st,wa,ft,b,w0,w1,w2,s,R,fs,rfl,_⟩:=h;rfl
 . obtain⟨q,dx,st,wa,ft,b,w0,w1,w2,s,R,fs,rfl,hx,hw,hf,k⟩:=h;refine⟨_,((bh (pv 0) (pv 1) rfl)∪((bh (pv 0) (pv 2) rfl)∪((bh (pv 0) (@aB _ _ _ _ _ _ _ aD (pv 3) aj (λ_ _=>rfl)) rfl)∪((bh (pv 0) (@aB _ _ _ _ _ _ _ aD (pv 3) aj (λ_ _=>rfl)) rfl)∪((bh (pv 0) (@aB _ _ _ _ _ _ _ aD (pv 3) aj (λ_ _=>rfl)) rfl)∪((bh (pv 0) (pv 4) rfl)∪((bh (pv 0) (ax Si (hr.mono (by decide)) (by rfl) G.mB G.iT.kp G.m7 .nil aq ((pv 5)∣((pv 6)∣aa))) rfl)∪(@ao _ _ _ (bh (pv 0) (bD fT ag (pv 6) (by with_unfolding_all rfl)) rfl))))))))),?_⟩;have nf:ft≠q:=jo hf hx (by intro z;cases z);have ft':∀ o,upd H q o ft=f' (.tup (fs.map V.str)):=λo=>by rw[ac nf];exact hf
   refine⟨_,rfl,_,rfl,q,a.ce,dx,[],rfl,hx,G.au,G.br,by decide,?_⟩;refine⟨_,rfl,_,rfl,q,a.ce,dx,_,rfl,a8,G.au,G.bJ,by show 1 < 1000;decide,?_⟩;rw[eY];refine⟨_,rfl,wa,_,_,_,rfl,rfl,hw _,rfl,_,rfl,q,a.ce,dx,_,rfl,a8,G.au,G.nN,by show 2 < 1000;decide,?_⟩;rw[eY];refine⟨_,rfl,wa,_,_,_,rfl,rfl,hw _,rfl,_,rfl,q,a.ce,dx,_,rfl,a8,G.au,G.fG,by show 3 < 1000;decide,?_⟩;rw[eY];refine⟨_,rfl,wa,_,_,_,rfl,rfl,hw _,rfl,_,rfl,q,a.ce,dx,_,rfl,a8,G.au,G.eC,by show 4 < 1000;decide,?_⟩;rw[eY];refine⟨_,rfl,_,rfl,q,a.ce,dx,_,rfl,a8,G.au,G.fH,by show 5 < 1000;decide,?_⟩;rw[eY];refine⟨_,rfl,_,rfl,R,ft,fs,rfl,ft' _,_,rfl,q,a.ce,dx,_,rfl,a8,G.au,G.hZ,by show 6 < 1000;decide,?_⟩;rw[eY];refine⟨_,rfl,ft,_,rfl,.inr (SqT.of (ft' _)),rfl,eG fs,_,rfl,q,a.ce,dx,_,rfl,a8,G.au,G.bI,by show 7 < 1000;decide,?_⟩;rw[eY];simp only[Mz,if_false];rw[lS];refine k _ ⟨dx,a8⟩ λc o nc ec=>?_
   rw[ac λz=>nc (LM.mpr z)];exact ec
def mr (G:Gs K mg a d):FnOk P w K mg base CX0 3 a.dC d.dC ["self"] (Bf w a.ce a.aG):=by
 have Ry:FnOk P w K mg base CX0 2 _ _ _ _:=sO G;have RS:FnOk P w K mg base CX0 1 _ _ _ _:=y9 G;refine G.tJ.ok ic (λvs H Q E h=>?_) (λcdv A' outer s H vs Q E hr h=>?_)
 . obtain⟨q,z,b,w0,w1,w2,p,M,r,A,T,rfl,_⟩:=h;rfl
 . obtain⟨q,z,b,w0,w1,w2,p,M,r,A,T,rfl,⟨dx,hx⟩,S,hp,o1,o2,hA,hT,k⟩:=h;refine⟨_,((@aH _ _ 1 _ _ _ _ ic.nd rfl (Mx rfl) (ar (ak (pv 0) rfl) G.aF G.cS Ry (hr.mono (by decide)) G.dR .nil aq ((ak (pv 0) rfl)∣((ak (pv 0) rfl)∣aa))) (by rfl) (by first|exact .inl rfl|exact .inr rfl|assumption))∪((@aH _ _ 2 _ _ _ _ ic.nd rfl (Mx rfl) (ar (ak (pv 0) rfl) G.aF G.cS Ry (hr.mono (by decide)) G.dR .nil aq ((ak (pv 0) rfl)∣((ak (pv 0) rfl)∣aa))) (by rfl) (by first|exact .inl rfl|exact .inr rfl|assumption))∪((ax RS (hr.mono (by decide)) (by rfl) G.rh G.mY.kp G.qY .nil aq ((pv 1)∣((pv 2)∣((ak (pv 0) rfl)∣((ak (pv 0) rfl)∣aa)))))⁻¹))),?_⟩;obtain⟨dxs,hxs⟩:=S.ob;refine⟨_,rfl,fld hx G.au G.br gQ ⟨z.x,dxs,_,rfl,hxs,cK (by decide +kernel) (by decide +kernel),_,rfl,fld hx G.au G.bJ jT ⟨_,rfl,fld hx G.au G.fG tf ⟨z.x,z.hd,z.rl,z.l,M,r,b,.str w1,.str w1,rfl,S,kS o1,?_⟩⟩⟩⟩;rw[hA];refine⟨_,rfl,fld hx G.au G.br gQ ⟨z.x,dxs,_,rfl,hxs,cK (by decide +kernel) (by decide +kernel),_,rfl,fld hx G.au G.bJ jT ⟨_,rfl,fld hx G.au G.eC mU ⟨z.x,z.hd,z.rl,z.l,M,r,b,.str w2,.str w2,rfl,S,kS o2,?_⟩⟩⟩⟩;rw[hT];exact⟨_,rfl,_,rfl,_,rfl,fld hx G.au G.fH sP ⟨_,rfl,fld hx G.au G.hZ vF ⟨A,T,p.s,p.R,rfl,hp.s0,hp.s8,hp.sR,k⟩⟩⟩
def BJ (G:Gs K mg a d):FnOk P w K mg base CX0 4 a.cC d.cC ["self"] (Fu w a.ce a.aG):=by
 have Rm:FnOk P w K mg base CX0 3 _ _ _ _:=mr G;refine G.qI.ok oK (λvs H Q E h=>?_) (λcdv A' outer s H vs Q E hr h=>?_)
 . obtain⟨q,z,b,w0,w1,w2,p,M,r,A,T,rfl,_⟩:=h;rfl
 . obtain⟨q,z,b,w0,w1,w2,p,M,r,A,T,rfl,⟨dx,hx⟩,S,hp,o1,o2,hA,hT,k⟩:=h;refine⟨_,((bD cw (aV (pv 0) G.au G.fA Rm (hr.mono (by decide)) G.gi .nil aq) (ak (pv 0) rfl) (av _))⁻¹),?_⟩;refine⟨_,rfl,q,dx,_,rfl,hx,mK,q,z,b,w0,w1,w2,p,M,r,A,T,rfl,⟨dx,hx⟩,S,hp,o1,o2,hA,hT,_,rfl,fld hx G.au G.fH sP ⟨rfl,?_⟩⟩;have e:decide (V.int ((A - T) % (p.s * p.R))=V.int p.s)=decide ((A - T) % (p.s * p.R)=p.s):=by
    rw[decide_eq_decide];exact⟨mG,λz=>by rw[z]⟩
   rw[e];exact k
def qV (G:Gs K mg a d):FnOk P w K mg base CX0 2 a.c7 d.c7 ["self","counter"] (A1 a.ce):=by
 have Sh:FnOk P w K mg base CX0 1 _ _ _ _:=CI G;refine G.pC.ok nW (λvs H Q E h=>?_) (λcdv A' outer s H vs Q E hr h=>?_)
 . obtain⟨q,st,b,w0,w1,w2,p,A,rfl,_⟩:=h;rfl
 . obtain⟨q,st,b,w0,w1,w2,p,A,rfl,⟨dx,hx⟩,hp,k⟩:=h;refine⟨_,((@bO _ _ _ _ _ ((ak (pv 0) rfl)∣((ax Sh (hr.mono (by decide)) (by rfl) G.zg G.qW.kp G.zV .nil aq ((pv 1)∣((ak (pv 0) rfl)∣aa)))∣aa)))⁻¹),?_⟩;exact⟨_,rfl,fld hx G.au G.nN GU ⟨_,rfl,_,rfl,fld hx G.au G.fH sP ⟨A,p.s,rfl,hp.s0,l2,λt ht=>k t ht⟩⟩⟩
def rK (G:Gs K mg a d):FnOk P w K mg base CX0 2 a.b6 d.b6 ["self","cell","counter"] (zT w a.ce a.aG):=by
 have RB:FnOk P w K mg base CX0 1 _ _ _ _:=ms G;have Sa:FnOk P w K mg base CX0 1 _ _ _ _:=GI G;refine G.l7.ok jM (λvs H Q E h=>?_) (λcdv A' outer s H vs Q E hr h=>?_)
 . obtain⟨q,z,b,w0,w1,w2,p,M,r,A,cv,ke,rfl,_⟩:=h;rfl
 . obtain⟨q,z,b,w0,w1,w2,p,M,r,A,cv,ke,rfl,⟨dx,hx⟩,S,hp,hl,hk,k⟩:=h;refine⟨_,(@ao _ _ _ (@aK _ _ _ _ (ar (ak (pv 0) rfl) G.aF G.d0 RB (hr.mono (by decide)) G.eD .nil aq ((ak (pv 0) rfl)∣((pv 1)∣((ax Sa (hr.mono (by decide)) (by rfl) G.qw G.lc.kp G.qx .nil aq ((pv 2)∣((ak (pv 0) rfl)∣((ak (pv 0) rfl)∣aa))))∣aa)))) (by rfl))),?_⟩;obtain⟨dxs,hxs⟩:=S.ob;exact⟨_,rfl,fld hx G.au G.br gQ ⟨z.x,dxs,_,rfl,hxs,cK (by decide +kernel) (by decide +kernel),_,rfl,fld hx G.au G.bJ jT ⟨_,rfl,_,rfl,_,rfl,fld hx G.au G.fH sP ⟨_,rfl,fld hx G.au G.hZ vF
    ⟨A,p.s,p.R,rfl,hp.s0,hp.s8,hp.sR,z.x,z.hd,z.rl,z.l,M,r,b,cv,_,ke,rfl,S,hl,hk,λH' S' kp'=>k H' S' kp'⟩⟩⟩⟩⟩
def Eu (G:Gs K mg a d):FnOk P w K mg base CX0 4 a.iF d.iF ["self","name","worth"] (IU w a.ce a.aG):=by
 have Ry:FnOk P w K mg base CX0 2 _ _ _ _:=sO G;have RB:FnOk P w K mg base CX0 1 _ _ _ _:=ms G;have Rr:FnOk P w K mg base CX0 2 _ _ _ _:=rK G;have Rq:FnOk P w K mg base CX0 2 _ _ _ _:=qV G;refine G.zm.ok oM (λvs H Q E h=>?_) (λcdv A' outer s H vs Q E hr h=>?_)
 . obtain⟨q,z,b,w0,w1,w2,p,M,r,A,nm,wv,rfl,_⟩:=h;rfl
 . obtain⟨q,z,b,w0,w1,w2,p,M,r,A,nm,wv,rfl,⟨dx,hx⟩,S,hp,o0,o1,hl,hA,k⟩:=h;refine⟨_,((@aH _ _ 3 _ _ _ _ oM.nd rfl (Mx rfl) (ar (ak (pv 0) rfl) G.aF G.cS Ry (hr.mono (by decide)) G.dR .nil aq ((ak (pv 0) rfl)∣((ak (pv 0) rfl)∣aa))) (by rfl) (by first|exact .inl rfl|exact .inr rfl|assumption))∪((aC (bi (ak (pv 0) rfl)) (@ao _ _ _ (@aK _ _ _ _ (ar (pv 0) G.au G.cN Rr (hr.mono (by decide)) G.cU .nil aq ((ak (pv 0) rfl)∣((pv 3)∣aa))) (by rfl))) al)∪((@aK _ _ _ _ (ar (ak (pv 0) rfl) G.aF G.d0 RB (hr.mono (by decide)) G.eD .nil aq ((ak (pv 0) rfl)∣((ar (pv 0) G.au G.jx Rq (hr.mono (by decide)) G.jZ .nil aq ((pv 3)∣aa))∣((@bO _ _ _ _ _ ((pv 1)∣((pv 2)∣aa)))∣aa)))) (by rfl))∪(@ao _ _ _ (aC (bN (bi (ak (pv 0) rfl))) (@ao _ _ _ (@aK _ _ _ _ (ar (pv 0) G.au G.cN Rr (hr.mono (by decide)) G.cU .nil aq ((ak (pv 0) rfl)∣((pv 3)∣aa))) (by rfl))) al))))),?_⟩;obtain⟨dxs,hxs⟩:=S.ob;refine⟨_,rfl,fld hx G.au G.br gQ ⟨z.x,dxs,_,rfl,hxs,cK (by decide +kernel) (by decide +kernel),_,rfl,fld hx G.au G.bJ jT ⟨_,rfl,fld hx G.au G.fG tf ⟨z.x,z.hd,z.rl,z.l,M,r,b,.str w1,.str w1,rfl,S,kS o1,?_⟩⟩⟩⟩;rw[hA];refine⟨_,rfl,fld hx G.au G.bI tK ⟨_,rfl,?_⟩⟩;cases he:p.e with
  |true =>
    refine fP ?_;refine⟨_,rfl,q,dx,_,rfl,hx,mP,_,rfl,fld hx G.au G.fG tf ⟨_,rfl,q,z,b,w0,w1,w2,p,M,r,A,.str w1,.str w1,rfl,⟨dx,hx⟩,S,hp,by omega,kS o1,λH1 S1 kp1=>?_⟩⟩;have hx1:=kp1 _ _ (S.noI hx) hx;obtain⟨dx1,hs1⟩:=S1.ob;refine⟨_,rfl,fld hx1 G.au G.br gQ ⟨z.x,dx1,_,rfl,hs1,cK (by decide +kernel) (by decide +kernel),_,rfl,fld hx1 G.au G.bJ jT ⟨_,rfl,q,dx,_,rfl,hx1,sS,_,rfl,q,z.x,b,w0,w1,w2,p,A,rfl,⟨dx,hx1⟩,hp,λt1 ht1=>⟨_,rfl,_,rfl,l2,λt2 ht2=>?_⟩⟩⟩⟩;have e1:=af (o:=.tup [V.str w0,V.int (A % p.s)]) ht1;have e2:=af (o:=.tup [nm,wv]) ht2;have e12:=e1.trans e2;have S2:=S1.same e12;have v1:=e2 _ _ (a8 (H:=H1) (a:=t1) (o:=.tup [V.str w0,V.int (A % p.s)]));have v2:=a8 (H:=upd H1 t1 (.tup [V.str w0,V.int (A % p.s)])) (a:=t2) (o:=.tup [nm,wv]);have n2:H t2=LJ:=gL kp1 (jL e1 ht2) λx hx=>by
     obtain⟨ts,e,_⟩:=S1.rw b;rw[LM.mp hx,e];intro z;cases z
    have hx2:=e12 _ _ hx1;generalize upd (upd H1 t1 (.tup [V.str w0,V.int (A % p.s)])) t2 (.tup [nm,wv])=H2 at e2 e12 S2 v1 v2 hx2 |-;refine⟨z.x,z.hd,z.rl,z.l,M,_,b,.ref t1,.ref t2,.tuple [.str w0,.int (A % p.s)],rfl,S2,by rw[b8,LU];show _+1 < _;omega,kT o0 v1,λH3 S3 kp3=>?_⟩;have hx3:=kp3 _ _ (S2.noI hx2) hx2;refine⟨_,rfl,fld hx3 G.au G.bI tK ⟨_,rfl,?_⟩⟩;rw[he];refine cW ?_;refine k t2 H3 n2 (kp3 _ _ (S2.noT v2) v2) ?_ λc o n e=>kp3 c o n (e12 _ _ (kp1 c o n e))
    rw[b8,qZ,MU]at S3;unfold oQ;rw[he];exact S3
  |false =>
    refine cW ?_;refine⟨_,rfl,fld hx G.au G.br gQ ⟨z.x,dxs,_,rfl,hxs,cK (by decide +kernel) (by decide +kernel),_,rfl,fld hx G.au G.bJ jT ⟨_,rfl,q,dx,_,rfl,hx,sS,_,rfl,q,z.x,b,w0,w1,w2,p,A,rfl,⟨dx,hx⟩,hp,λt1 ht1=>⟨_,rfl,_,rfl,l2,λt2 ht2=>?_⟩⟩⟩⟩;have e1:=af (o:=.tup [V.str w0,V.int (A % p.s)]) ht1;have e2:=af (o:=.tup [nm,wv]) ht2;have e12:=e1.trans e2;have S2:=S.same e12;have v1:=e2 _ _ (a8 (H:=H) (a:=t1) (o:=.tup [V.str w0,V.int (A % p.s)]));have v2:=a8 (H:=upd H t1 (.tup [V.str w0,V.int (A % p.s)])) (a:=t2) (o:=.tup [nm,wv]);have n2:H t2=LJ:=jL e1 ht2;have hx2:=e12 _ _ hx;generalize upd (upd H t1 (.tup [V.str w0,V.int (A % p.s)])) t2 (.tup [nm,wv])=H2 at e2 e12 S2 v1 v2 hx2 |-;refine⟨z.x,z.hd,z.rl,z.l,M,r,b,.ref t1,.ref t2,.tuple [.str w0,.int (A % p.s)],rfl,S2,by omega,kT o0 v1,λH3 S3 kp3=>?_⟩;have hx3:=kp3 _ _ (S2.noI hx2) hx2;refine⟨_,rfl,fld hx3 G.au G.bI tK ⟨_,rfl,?_⟩⟩;rw[he];refine fP ?_;refine⟨_,rfl,q,dx,_,rfl,hx3,mP,_,rfl,fld hx3 G.au G.fG tf ⟨_,rfl,q,z,b,w0,w1,w2,p,M,_,A,.str w1,.str w1,rfl,⟨dx,hx3⟩,S3,hp,by rw[b8,LU];show _+1 < _;omega,kS o1,λH4 S4 kp4=>?_⟩⟩;have v3:=kp3 _ _ (S2.noT v2) v2;refine k t2 H4 n2 (kp4 _ _ (S3.noT v3) v3) ?_ λc o n e=>kp4 c o n (kp3 c o n (e12 _ _ e))
    rw[b8,qZ,MU]at S4;unfold oQ;rw[he];exact S4
def xf (G:Gs K mg a d):FnOk P w K mg base CX0 5 a.eU d.eU ["self"] (DH w a.ce a.aG):=by
 have Ry:FnOk P w K mg base CX0 2 _ _ _ _:=sO G;have Rm:FnOk P w K mg base CX0 3 _ _ _ _:=mr G;have Rr:FnOk P w K mg base CX0 2 _ _ _ _:=rK G;have Rq:FnOk P w K mg base CX0 2 _ _ _ _:=qV G;refine G.uF.ok jg (λvs H Q E h=>?_) (λcdv A' outer s H vs Q E hr h=>?_)
 . obtain⟨q,z,b,w0,w1,w2,p,M,r,A,T,rfl,_⟩:=h;rfl
 . obtain⟨q,z,b,w0,w1,w2,p,M,r,A,T,rfl,⟨dx,hx⟩,S,hp,o0,o1,o2,hl,hA,hT,k⟩:=h;refine⟨_,((aC (ap cw (aV (pv 0) G.au G.fA Rm (hr.mono (by decide)) G.gi .nil aq) aj (av _)) (eE⁻¹) al)∪((@aH _ _ 1 _ _ _ _ jg.nd rfl (Mx rfl) (ar (ak (pv 0) rfl) G.aF G.cS Ry (hr.mono (by decide)) G.dR .nil aq ((ak (pv 0) rfl)∣((ak (pv 0) rfl)∣aa))) (by rfl) (by first|exact .inl rfl|exact .inr rfl|assumption))∪((@aH _ _ 2 _ _ _ _ jg.nd rfl (Mx rfl) (ar (ak (pv 0) rfl) G.aF G.cS Ry (hr.mono (by decide)) G.dR .nil aq ((ak (pv 0) rfl)∣((ar (pv 0) G.au G.jx Rq (hr.mono (by decide)) G.jZ .nil aq ((pv 1)∣aa))∣aa))) (by rfl) (by first|exact .inl rfl|exact .inr rfl|assumption))∪((@aK _ _ _ _ (ar (pv 0) G.au G.cN Rr (hr.mono (by decide)) G.cU .nil aq ((ak (pv 0) rfl)∣((pv 1)∣aa))) (by rfl))∪((gc (bi (aA cb (by rfl) G.bb aX ((pv 2)∣((ie (v:=.ty "tuple") (by rfl) G.k8 gS rfl)∣aa)))) (pv 2) (@bO _ _ _ _ _ (eE∣(eE∣aa))))⁻¹))))),?_⟩;obtain⟨dxs,hxs⟩:=S.ob;refine⟨_,rfl,q,dx,_,rfl,hx,mK,q,z,b,w0,w1,w2,p,M,r,A,T,rfl,⟨dx,hx⟩,S,hp,o1,o2,hA,hT,rfl,_,rfl,?_⟩;by_cases h0:(A - T) % (p.s * p.R)=0
   . rw[SF h0]at k;rw[h0];exact oX rfl k
   rw[SG h0]at k;refine ir (λz=>h0 (mG z)) ?_;refine⟨_,rfl,fld hx G.au G.br gQ ⟨z.x,dxs,_,rfl,hxs,cK (by decide +kernel) (by decide +kernel),_,rfl,fld hx G.au G.bJ jT ⟨_,rfl,fld hx G.au G.eC mU ⟨z.x,z.hd,z.rl,z.l,M,r,b,.str w2,.str w2,rfl,S,kS o2,?_⟩⟩⟩⟩;rw[hT];refine⟨_,rfl,fld hx G.au G.br gQ ⟨z.x,dxs,_,rfl,hxs,cK (by decide +kernel) (by decide +kernel),_,rfl,fld hx G.au G.bJ jT ⟨_,rfl,q,dx,_,rfl,hx,sS,_,rfl,q,z.x,b,w0,w1,w2,p,T,rfl,⟨dx,hx⟩,hp,λt1 ht1=>?_⟩⟩⟩;have e1:=af (o:=.tup [V.str w0,V.int (T % p.s)]) ht1;have S1:=S.same e1;have v1:=a8 (H:=H) (a:=t1) (o:=.tup [V.str w0,V.int (T % p.s)]);have hx1:=e1 _ _ hx;generalize upd H t1 (.tup [V.str w0,V.int (T % p.s)])=H1 at e1 S1 v1 hx1 |-;refine⟨z.x,z.hd,z.rl,z.l,M,r,b,.ref t1,.tuple [.str w0,.int (T % p.s)],rfl,S1,kT o0 v1,?_⟩;refine⟨_,rfl,q,dx,_,rfl,hx1,mP,_,rfl,fld hx1 G.au G.eC mU ⟨_,rfl,q,z,b,w0,w1,w2,p,M,r,T,.str w2,.str w2,rfl,⟨dx,hx1⟩,S1,hp,hl,kS o2,λH2 S2 kp2=>?_⟩⟩;rcases k with⟨c,vs,e,hc,k⟩|⟨i,e,k⟩
   . rw[e];have hc2:=kp2 _ _ (S1.noT (e1 _ _ hc)) (e1 _ _ hc);exact⟨_,rfl,_,_,_,l',rfl,TyOf.tup hc2,Ck,_,rfl,fP ⟨_,rfl,k H2 S2 λc o n q=>kp2 c o n (e1 _ _ q)⟩⟩
   . rw[e];refine⟨_,rfl,_,_,_,K',rfl,TyOf.int i,IL,_,rfl,cW ⟨l2,λt ht=>?_⟩⟩;have e3:=af (o:=.tup [V.non,V.non]) ht;have n3:H t=LJ:=jL e1 (gL kp2 ht λx hx=>by
      obtain⟨ts,e,_⟩:=S2.rw b;rw[LM.mp hx,e];intro z;cases z)
     exact k t _ n3 a8 (S2.same e3) λc o n q=>e3 _ _ (kp2 c o n (e1 _ _ q))
def DM (CH CR:D'):Sp:=λvs H Q _=>∃ (h dx st ft:D') (s R n:Int) (fs:List Str),vs=[.ref h,.ref st,.int s,.int R,.int n,.ref ft]/\H h=f' (.ins CH dx [])/\H ft=f' (.tup (fs.map V.str)) /\
 ∀ (z:HA) (H':Hp),z.h=h->H z.ra=LJ->H z.rb=LJ->H z.gd=LJ->Hn CH CR H' z st ⟨s,if fs.contains "round" then 1 else R,fs.contains "counter"⟩ n []->Kp [h] H H'->Q .non H'
def DO (CH CR:D'):Sp:=λvs H Q _=>∃ (z:HA) (st:D') (p:RP) (n:Nat) (aw:List Int),vs=[.ref z.h]/\Hn CH CR H z st p n aw/\n <= 9/\Q (match fE n aw with|some k=>.int k|none=>.non) H
def yq (w:LZ) (CH CR CS F N:D'):Sp:=λvs H Q E=>∃ (z:HA) (sa:SA) (p:RP) (n:Nat) (aw:List Int) (M:List (LO × V)) (r:Bool->List (LO × V)) (A T:Int),vs=[.ref z.h]/\Hn CH CR H z sa.x p n aw/\sa.At w CS H M r/\p.Ok/\n <= 9 /\
 cA M (r K') (.str "asked")=.int A/\cA M (r K') (.str "taken")=.int T/\if (A - T) % (p.s * p.R)=p.s then E (.ref F) LJ H else match fE n aw with|none=>E (.ref N) LJ H|some _=>Q .non H
def EQ (w:LZ) (CH CR CS F N:D'):Sp:=λvs H Q E=>∃ (z:HA) (sa:SA) (p:RP) (n:Nat) (aw:List Int) (M:List (LO × V)) (r:Bool->List (LO × V)) (wv:V) (A T:Int),vs=[.ref z.h,wv]/\Hn CH CR H z sa.x p n aw/\sa.At w CS H M r/\p.Ok/\n <= 9/\aw.length < 1000/\(r K').length < 99999 /\
 cA M (r K') (.str "asked")=.int A/\cA M (r K') (.str "taken")=.int T/\if (A - T) % (p.s * p.R)=p.s then E (.ref F) LJ H else match fE n aw with
 |none=>E (.ref N) LJ H
 |some nm=>∀ t H',H t=LJ->H' t=f' (.tup [.int nm,wv])->Hn CH CR H' z sa.x p n (aw++[nm])->sa.At w CS H' M (setR r K' (r K'++oQ p "ask" "asked" A (.ref t)))->Kp [z.gd,sa.l K'] H H'->Q (.int nm) H'
def rn (w:LZ) (CH CR CS:D'):Sp:=λvs H Q _=>∃ (z:HA) (sa:SA) (p:RP) (n:Int) (aw:List Int) (M:List (LO × V)) (r:Bool->List (LO × V)) (A T:Int),vs=[.ref z.h]/\Hn CH CR H z sa.x p n aw/\sa.At w CS H M r/\p.Ok/\(r K').length < 100000 /\
 cA M (r K') (.str "answered")=.int A/\cA M (r K') (.str "handed")=.int T/\(if (A - T) % (p.s * p.R)=0 then Q .non H else
  (∃ c nm wv,cA M (r K') (.tuple [.str "answer",.int (T % p.s)])=.ref c/\H c=f' (.tup [.int nm,wv])/\∀ H',Hn CH CR H' z sa.x p n (aw.filter λk=>decide (k≠nm))->sa.At w CS H' M (setR r K' (r K'++[(.str "handed",.int ((T+1) % (p.s * p.R)))]))->Kp [z.gd,sa.l K'] H H'->Q (.ref c) H') \/
  ∃ i,cA M (r K') (.tuple [.str "answer",.int (T % p.s)])=.int i/\∀ t H',H t=LJ->H' t=f' (.tup [.non,.non])->Hn CH CR H' z sa.x p n aw->sa.At w CS H' M (setR r K' (r K'++[(.str "handed",.int ((T+1) % (p.s * p.R)))]))->Kp [sa.l K'] H H'->Q (.ref t) H')
def Cl (G:Gs K mg a d):FnOk P w K mg base CX0 4 a.f9 d.f9 ["self","store","size","rounds","names","faults"] (DM a.dc a.ce):=by
 have Rj:FnOk P w K mg base CX0 2 _ _ _ _:=xy G;refine G.tV.ok tm (λvs H Q E h=>?_) (λcdv A outer s H vs Q E hr h=>?_)
 . obtain⟨h,dx,st,ft,s,R,n,fs,rfl,_⟩:=h;rfl
 . obtain⟨h,dx,st,ft,s,R,n,fs,rfl,hx,hf,k⟩:=h;refine⟨_,((bh (pv 0) (kB G.xq Rj (hr.mono (by decide)) (by rfl) G.yc G.gU .nil aq ((pv 1)∣(aj∣((bX (v:=.ref a.gP) (by rfl) G.xP rfl)∣((pv 2)∣((pv 3)∣((pv 5)∣aa))))))) rfl)∪((bh (pv 0) (kB G.xq Rj (hr.mono (by decide)) (by rfl) G.yc G.gU .nil aq ((pv 1)∣(aj∣((bX (v:=.ref a.bG) (by rfl) G.mC rfl)∣((pv 2)∣((pv 3)∣((pv 5)∣aa))))))) rfl)∪((bh (pv 0) (pv 4) rfl)∪(@ao _ _ _ (bh (pv 0) kU rfl))))),?_⟩;refine⟨_,rfl,_,rfl,_,rfl,_,rfl,λra da na nda nea=>?_⟩;refine⟨ra,da,st,a.gP,ft,K',"ask","asked","taken",s,R,fs,rfl,a8,G.x8,?_,λH1 r1 kp1=>?_⟩
   . rw[ac (ae hf na),ac (ae hf nda)];exact hf
   have e1:aZ H H1:=λc o e=>kp1 c o (λz=>ae e na (LM.mp z)) (by rw[ac (ae e na),ac (ae e nda)];exact e)
   clear kp1;refine⟨rfl,_,rfl,h,a.dc,dx,[],rfl,e1 _ _ hx,G.bU,G.kD,by decide,?_⟩;have n1:ra≠h:=λz=>by rw[z,hx]at na;cases na
   have hx1:=e1 _ _ hx;have kp2:Kp [h] H (upd H1 h (.ins a.dc dx (bj "asks" (.ref ra) []))):=λc o n e=>by rw[ac λz=>n (LM.mpr z)];exact e1 _ _ e
   have hx2:upd H1 h (.ins a.dc dx (bj "asks" (.ref ra) [])) h=f' (.ins a.dc dx (bj "asks" (.ref ra) [])):=a8;have r2:=r1.keep (H':=upd H1 h (.ins a.dc dx (bj "asks" (.ref ra) []))) λo e=>by rw[ac n1];exact e
   have hf2:upd H1 h (.ins a.dc dx (bj "asks" (.ref ra) [])) ft=f' (.tup (fs.map V.str)):=by
    rw[ac (jo (e1 _ _ hf) hx1 (by intro z;cases z))];exact e1 _ _ hf
   generalize upd H1 h (.ins a.dc dx (bj "asks" (.ref ra) []))=H2 at kp2 hx2 r2 hf2 |-;refine⟨_,rfl,_,rfl,_,rfl,_,rfl,λrb db nb ndb neb=>?_⟩;refine⟨rb,db,st,a.bG,ft,K',"answer","answered","handed",s,R,fs,rfl,a8,G.mh,?_,λH3 r3 kp3=>?_⟩
   . rw[ac (ae hf2 nb),ac (ae hf2 ndb)];exact hf2
   have e3:aZ H2 H3:=λc o e=>kp3 c o (λz=>ae e nb (LM.mp z)) (by rw[ac (ae e nb),ac (ae e ndb)];exact e)
   clear kp3;have nbH:H rb=LJ:=gL kp2 nb λx m=>by rw[LM.mp m,hx2];intro z;cases z
   have n3:rb≠h:=λz=>by rw[z,hx2]at nb;cases nb
   refine⟨rfl,_,rfl,h,a.dc,dx,_,rfl,e3 _ _ hx2,G.bU,G.gp,by show 1 < 1000;decide,?_⟩;refine⟨_,rfl,_,rfl,h,a.dc,dx,_,rfl,a8,G.bU,G.mL,by show 2 < 1000;decide,?_⟩;rw[eY];refine λgd hg=>⟨_,rfl,h,a.dc,dx,_,rfl,(by rw[ac (ae a8 hg)];exact a8),G.bU,G.ez,by show 3 < 1000;decide,?_⟩
   obtain⟨ng,hg3⟩:=up1 hg;have gdH:H gd=LJ:=gL kp2 (jL e3 hg3) λx m=>by rw[LM.mp m,hx2];intro z;cases z
   refine k ⟨h,ra,rb,gd⟩ _ rfl na nbH gdH ⟨⟨dx,a8⟩,(r2.keep λo e=>e3 _ _ e).keep λo e=>?_,r3.keep λo e=>?_,?_⟩ λc o nc ec=>?_
   . rw[ac n1,ac (ae e hg3),ac n1];exact e
   . rw[ac n3,ac (ae e hg3),ac n3];exact e
   . rw[ac ng,a8];rfl
   . have c1:c≠h:=λz=>nc (LM.mpr z)
     have e4:=e3 _ _ (kp2 c o nc ec);rw[ac c1,ac (ae e4 hg3),ac c1];exact e4
def xn (G:Gs K mg a d):FnOk P w K mg base CX0 1 a.bz d.bz ["self"] (DO a.dc a.ce):=by
 refine G.ni.ok gY (λvs H Q E h=>?_) (λcdv A outer s H vs Q E hr h=>?_)
 . obtain⟨z,st,p,n,aw,rfl,_⟩:=h;rfl
 . obtain⟨z,st,p,n,aw,rfl,hn,hn9,k⟩:=h;have hu:=bP hr;refine⟨_,((nU NG rfl (AX (by rfl) G.Ge ((ak (pv 0) rfl)∣aa)) (fV (i:=1) gY.nd rfl (Mx rfl)) (@ao _ _ _ (aC (xk (lX hu (pv 1) (ak (pv 0) rfl))) ((pv 1)⁻¹) al)))∪(eE⁻¹)),?_⟩;obtain⟨dx,hx⟩:=hn.ob;refine⟨_,rfl,fld hx G.bU G.mL Dt ⟨n,rfl,by omega,by omega,?_⟩⟩;refine AM (n:=((n:Nat):Int).toNat) (λi σ H'=>(∃ v,σ=[f' (.ref z.h),v])/\H'=H/\∀ j < i,aw.contains (j:Int)=l') ⟨⟨_,rfl⟩,rfl,λj hj=>absurd hj (by omega)⟩ ?_ ?_
   . rintro i σ H' hi ⟨⟨v,rfl⟩,rfl,hno⟩;rw[Int.zero_add];refine⟨_,rfl,_,rfl,fld hx G.bU G.ez oo ⟨z.gd,_,rfl,Ch.k (k:=.inl (i:Int)) hn.go,_,rfl,?_⟩⟩;rw[jS];cases hc:aw.contains (i:Int) with
    |false =>
      rw[zc (by omega) hc hno]at k;exact fP ⟨_,rfl,k⟩
    |true =>
      refine cW ⟨⟨_,rfl⟩,rfl,λj hj=>?_⟩;by_cases hji:j < i
      . exact hno j hji
      . have e:j=i:=by omega
        rw[e];exact hc
   . rintro σ H' ⟨⟨v,rfl⟩,rfl,hno⟩;rw[yR λj hj=>hno j (by omega)]at k;exact k
def yk (G:Gs K mg a d):FnOk P w K mg base (CXv P w) 6 a.bM d.bM ["self"] (yq w a.dc a.ce a.aG a.B0 a.mO):=by
 have Ro:FnOk P w K mg base CX0 4 _ _ _ _:=BJ G;have Q8:FnOk P w K mg base CX0 1 _ _ _ _:=xn G;refine G.o4.okX (k:=5) mT (λvs H Q E h=>?_) (λcdv A' outer s' H vs Q E hr hR h=>?_)
 . obtain⟨z,sa,p,n,aw,M,r,A,T,rfl,_⟩:=h;rfl
 . obtain⟨z,sa,p,n,aw,M,r,A,T,rfl,hn,S,hp,n9,hA,hT,k⟩:=h;refine⟨_,((aC (bi (aV (ak (pv 0) rfl) G.au G.kl Ro (hr.mono (by decide)) G.lr .nil aq)) (@ao _ _ _ (c6 hR hr.hd (by rfl) G.Aa G.xc_Full (ag∣aa))) al)∪(@ao _ _ _ (aC (ap vm (aV (pv 0) G.bU G.hG Q8 (hr.mono (by decide)) G.iz .nil aq) eE (av _)) (@ao _ _ _ (c6 hR hr.hd (by rfl) G.yn G.xc_NoName (ag∣aa))) al))),?_⟩;obtain⟨dx,hx⟩:=hn.ob;obtain⟨dr,hra⟩:=hn.ra;refine⟨_,rfl,fld hx G.bU G.kD AQ ⟨z.ra,dr,_,rfl,hra,Aq,z.ra,sa,K',"ask","asked","taken",p,M,r,A,T,rfl,⟨dr,hra⟩,S,hp,by decide +kernel,by decide +kernel,hA,hT,_,rfl,?_⟩⟩;by_cases hc:(A - T) % (p.s * p.R)=p.s
   . rw[SF hc]at k;exact oX hc ⟨by show 1 <= LP;decide,k⟩
   rw[SG hc]at k;refine ir hc ?_;refine⟨_,rfl,z.h,dx,_,rfl,hx,wS,z,sa.x,p,n,aw,rfl,hn,n9,rfl,_,rfl,?_⟩;cases hle:fE n aw with
  |none =>
    rw[hle]at k;exact oX rfl ⟨by show 1 <= LP;decide,k⟩
  |some nm =>
    rw[hle]at k;exact ir (by intro z;cases z) k
def Jd (G:Gs K mg a d):FnOk P w K mg base (CXv P w) 8 a.jb d.jb ["self","worth"] (EQ w a.dc a.ce a.aG a.B0 a.mO):=by
 have Su:FnOk P w K mg base (CXv P w) 6 _ _ _ _:=yk G;have Q8:FnOk P w K mg base CX0 1 _ _ _ _:=xn G;have Rp:FnOk P w K mg base CX0 4 _ _ _ _:=Eu G;refine G.zd.okX (k:=7) pA (λvs H Q E h=>?_) (λcdv A' outer s' H vs Q E hr hR h=>?_)
 . obtain⟨z,sa,p,n,aw,M,r,wv,A,T,rfl,_⟩:=h;rfl
 . obtain⟨z,sa,p,n,aw,M,r,wv,A,T,rfl,hn,S,hp,n9,hal,hrl,hA,hT,k⟩:=h;have hu:=bP hr;refine⟨_,((@aK _ _ _ _ (aV (pv 0) G.bU G.ix Su (hr.mono (by decide)) G.jy .nil hR.passes) (by rfl))∪((@aH _ _ 2 _ _ _ _ pA.nd rfl (Mx rfl) (aV (pv 0) G.bU G.hG Q8 (hr.mono (by decide)) G.iz .nil aq) (by rfl) (by first|exact .inl rfl|exact .inr rfl|assumption))∪((sY hu (ak (pv 0) rfl) (pv 2) cX rfl)∪((@aK _ _ _ _ (ar (ak (pv 0) rfl) G.au G.oO Rp (hr.mono (by decide)) G.re .nil aq ((pv 2)∣((pv 1)∣aa))) (by rfl))∪((pv 2)⁻¹))))),?_⟩;obtain⟨dx,hx⟩:=hn.ob;refine⟨_,rfl,z.h,dx,_,rfl,hx,xb,z,sa,p,n,aw,M,r,A,T,rfl,hn,S,hp,n9,hA,hT,?_⟩;by_cases hc:(A - T) % (p.s * p.R)=p.s
   . rw[SF hc]at k |-;exact k
   rw[SG hc]at k |-;cases hle:fE n aw with
  |none=>rw[hle]at k;exact k
  |some nm =>
    rw[hle]at k;refine⟨_,rfl,z.h,dx,_,rfl,hx,wS,z,sa.x,p,n,aw,rfl,hn,n9,?_⟩;rw[hle];refine⟨_,rfl,fld hx G.bU G.ez oo ⟨_,rfl,z.gd,_,rfl,EE.k (k:=.inl nm) hn.go (LR (by rw[yg];exact hal) (by decide)),?_⟩⟩;rw[xz nm aw (qT hle)];have n1:z.h≠z.gd:=jo hx hn.go (by intro z;cases z);have kp1:Kp [z.gd] H (upd H z.gd (.dK (gK (aw++[nm])))):=Kp.one;have S1:=Sto.kp S kp1 (λc hc=>by rw[LM.mp hc];exact S.noD hn.go) (λc hc vs e=>by rw[LM.mp hc,hn.go]at e;cases e);have hn1:Hn a.dc a.ce (upd H z.gd (.dK (gK (aw++[nm])))) z sa.x p n (aw++[nm]):=by
     obtain⟨d1,x1⟩:=hn.ra;obtain⟨d2,x2⟩:=hn.rb;exact⟨⟨dx,by rw[ac n1];exact hx⟩,⟨d1,by rw[ac (jo x1 hn.go (by intro z;cases z))];exact x1⟩,⟨d2,by rw[ac (jo x2 hn.go (by intro z;cases z))];exact x2⟩,a8⟩
    generalize upd H z.gd (.dK (gK (aw++[nm])))=H1 at kp1 S1 hn1 |-;obtain⟨dx1,hx1⟩:=hn1.ob;obtain⟨dr,hra⟩:=hn1.ra;refine⟨_,rfl,fld hx1 G.bU G.kD AQ ⟨z.ra,dr,_,rfl,hra,Ff,_,rfl,_,rfl,z.ra,sa,K',"ask","asked","taken",p,M,r,A,.int nm,wv,rfl,⟨dr,hra⟩,S1,hp,by decide +kernel,by decide +kernel,hrl,hA,λt H2 n2 v2 S2 kp2=>⟨_,rfl,?_⟩⟩⟩;refine k t H2 (gL kp1 n2 λx m=>by rw[LM.mp m,hn1.go];intro z;cases z) v2 (hn1.lists kp2 λc m=>.inl ?_) S2 λc o nc e=>?_
    . obtain⟨ts,e,_⟩:=S1.rw K';exact⟨ts,by rw[LM.mp m];exact e⟩
    . exact kp2 c o (λm=>nc (Ma _ m)) (kp1 c o (λm=>nc (by rw[LM.mp m];exact LY)) e)
def A0 (G:Gs K mg a d):FnOk P w K mg base CX0 7 a.cB d.cB ["self"] (rn w a.dc a.ce a.aG):=by
 have Rk:FnOk P w K mg base CX0 5 _ _ _ _:=xf G;refine G.qG.ok jJ (λvs H Q E h=>?_) (λcdv A' outer s' H vs Q E hr h=>?_)
 . obtain⟨z,sa,p,n,aw,M,r,A,T,rfl,_⟩:=h;rfl
 . obtain⟨z,sa,p,n,aw,M,r,A,T,rfl,hn,S,hp,hrl,hA,hT,k⟩:=h;refine⟨_,((@aH _ _ 1 _ _ _ _ jJ.nd rfl (Mx rfl) (aV (ak (pv 0) rfl) G.au G.mI Rk (hr.mono (by decide)) G.nO .nil aq) (by rfl) (by first|exact .inl rfl|exact .inr rfl|assumption))∪((aC (ap oN (pv 1) eE (av _)) (@ao _ _ _ (@aK _ _ _ _ (BO (ak (pv 0) rfl) (@aB _ _ _ _ _ _ _ aD (pv 1) aj (λ_ _=>rfl)) eE ⟨rfl,rfl,rfl,rfl⟩) (by rfl))) al)∪((pv 1)⁻¹))),?_⟩;obtain⟨dx,hx⟩:=hn.ob;obtain⟨dr,hrb⟩:=hn.rb;refine⟨_,rfl,fld hx G.bU G.gp rL ⟨z.rb,dr,_,rfl,hrb,yr,z.rb,sa,K',"answer","answered","handed",p,M,r,A,T,rfl,⟨dr,hrb⟩,S,hp,by decide +kernel,by decide +kernel,by decide +kernel,hrl,hA,hT,?_⟩⟩;by_cases h0:(A - T) % (p.s * p.R)=0
   . rw[SF h0]at k |-;exact⟨_,rfl,rfl,_,rfl,cW ⟨_,rfl,k⟩⟩
   rw[SG h0]at k |-;rcases k with⟨c,nm,wv,hrd,hc,k⟩|⟨i,hrd,k⟩
   rotate_left
   . refine .inr ⟨i,hrd,λt H1 n1 v1 S1 kp1=>?_⟩;have hn1:=hn.lists kp1 λc m=>.inl (by
      obtain⟨ts,e,_⟩:=S.rw K';exact⟨ts,by rw[LM.mp m];exact e⟩)
     obtain⟨dx1,hx1⟩:=hn1.ob;exact⟨_,rfl,rfl,_,rfl,fP ⟨_,rfl,fld hx1 G.bU G.ez oo ⟨z.gd,rfl,.inl ⟨_,.inl hn1.go⟩,_,rfl,t,_,_,_,rfl,rfl,SqT.of v1,rfl,_,hn1.go,.inr ⟨rfl,_,rfl,k t H1 n1 v1 hn1 S1 kp1⟩⟩⟩⟩
   refine .inl ⟨c,_,hrd,hc,λH1 S1 kp1=>?_⟩;have hn1:=hn.lists kp1 λc m=>.inl (by
    obtain⟨ts,e,_⟩:=S.rw K';exact⟨ts,by rw[LM.mp m];exact e⟩)
   have hc1:=kp1 _ _ (S.noT hc) hc;obtain⟨dx1,hx1⟩:=hn1.ob;refine⟨_,rfl,rfl,_,rfl,fP ?_⟩;refine⟨_,rfl,fld hx1 G.bU G.ez oo ⟨z.gd,rfl,.inl ⟨_,.inl hn1.go⟩,_,rfl,c,_,_,_,rfl,rfl,SqT.of hc1,rfl,_,hn1.go,.inl ⟨.inl nm,rfl,λv hv=>⟨_,rfl,?_⟩,λhv=>⟨_,rfl,?_⟩⟩⟩⟩
   . rw[pZ];refine k _ ?_ (S1.kp Kp.one (λc hc=>by rw[LM.mp hc];exact S1.noD hn1.go) λc hc vs e=>by rw[LM.mp hc,hn1.go]at e;cases e) λc o nc e=>?_
     . obtain⟨d1,x1⟩:=hn1.ra;obtain⟨d2,x2⟩:=hn1.rb;exact⟨⟨dx1,by rw[ac (jo hx1 hn1.go (by intro z;cases z))];exact hx1⟩,⟨d1,by rw[ac (jo x1 hn1.go (by intro z;cases z))];exact x1⟩,⟨d2,by rw[ac (jo x2 hn1.go (by intro z;cases z))];exact x2⟩,a8⟩
     . rw[ac λz=>nc (by rw[z];exact LY)];exact kp1 c o (λm=>nc (Ma _ m)) e
   . rw[jS]at hv;have hno:aw.contains nm=K':=by
      cases z:aw.contains nm with
     |false=>rfl
     |true=>rw[z]at hv;cases hv
     have ef:aw.filter (λk=>decide (k≠nm))=aw:=by
      rw[List.filter_eq_self];intro x hx;refine SI λz=>?_
      rw[z]at hx;rw[Nv,decide_eq_false_iff_not]at hno;exact hno hx
     rw[ef]at k;exact k H1 hn1 S1 λc o nc e=>kp1 c o (λm=>nc (Ma _ m)) e
def Er (CT CR:D'):Sp:=λvs H Q _=>∃ (h dx st ft:D') (s R:Int) (fs:List Str),vs=[.ref h,.ref st,.int s,.int R,.ref ft]/\H h=f' (.ins CT dx [])/\H ft=f' (.tup (fs.map V.str)) /\
 ∀ (z:TA') (H':Hp),z.h=h->H z.ra=LJ->H z.rb=LJ->H z.gd=LJ->Tn CT CR H' z st ⟨s,if fs.contains "round" then 1 else R,fs.contains "counter"⟩ []->Kp [h] H H'->Q .non H'
def xp (w:LZ) (CT CR CS:D'):Sp:=λvs H Q _=>∃ (z:TA') (sa:SA) (p:RP) (ts:List Int) (M:List (LO × V)) (r:Bool->List (LO × V)) (A T:Int),vs=[.ref z.h]/\Tn CT CR H z sa.x p ts/\sa.At w CS H M r/\p.Ok/\ts.length < 1000/\(r l').length < 100000 /\
 cA M (r l') (.str "asked")=.int A/\cA M (r l') (.str "taken")=.int T/\(if (A - T) % (p.s * p.R)=0 then Q .non H else
  (∃ c nm wv,cA M (r l') (.tuple [.str "ask",.int (T % p.s)])=.ref c/\H c=f' (.tup [.int nm,wv])/\∀ H',Tn CT CR H' z sa.x p (wI ts nm)->sa.At w CS H' M (setR r l' (r l'++[(.str "taken",.int ((T+1) % (p.s * p.R)))]))->Kp [z.gd,sa.l l'] H H'->Q (.ref c) H') \/
  ∃ i,cA M (r l') (.tuple [.str "ask",.int (T % p.s)])=.int i/\∀ t H',H t=LJ->H' t=f' (.tup [.non,.non])->Tn CT CR H' z sa.x p ts->sa.At w CS H' M (setR r l' (r l'++[(.str "taken",.int ((T+1) % (p.s * p.R)))]))->Kp [sa.l l'] H H'->Q (.ref t) H')
def vA (w:LZ) (CT CR CS F N:D'):Sp:=λvs H Q E=>∃ (z:TA') (sa:SA) (p:RP) (ts:List Int) (M:List (LO × V)) (r:Bool->List (LO × V)) (A T nm:Int),vs=[.ref z.h,.int nm]/\Tn CT CR H z sa.x p ts/\sa.At w CS H M r/\p.Ok /\
 cA M (r l') (.str "answered")=.int A/\cA M (r l') (.str "handed")=.int T/\if ts.contains nm=K' then E (.ref N) LJ H else if (A - T) % (p.s * p.R)=p.s then E (.ref F) LJ H else Q .non H
def ua (w:LZ) (CT CR CS F N:D'):Sp:=λvs H Q E=>∃ (z:TA') (sa:SA) (p:RP) (ts:List Int) (M:List (LO × V)) (r:Bool->List (LO × V)) (A T nm:Int) (wv:V),vs=[.ref z.h,.int nm,wv]/\Tn CT CR H z sa.x p ts/\sa.At w CS H M r/\p.Ok/\(r l').length < 99999 /\
 cA M (r l') (.str "answered")=.int A/\cA M (r l') (.str "handed")=.int T/\if ts.contains nm=K' then E (.ref N) LJ H else if (A - T) % (p.s * p.R)=p.s then E (.ref F) LJ H else
  ∀ t H',H t=LJ->H' t=f' (.tup [.int nm,wv])->Tn CT CR H' z sa.x p (ts.filter λk=>decide (k≠nm))->sa.At w CS H' M (setR r l' (r l'++oQ p "answer" "answered" A (.ref t)))->Kp [z.gd,sa.l l'] H H'->Q .non H'
def CP (G:Gs K mg a d):FnOk P w K mg base CX0 4 a.dj d.dj ["self","store","size","rounds","faults"] (Er a.ba a.ce):=by
 have Rj:FnOk P w K mg base CX0 2 _ _ _ _:=xy G;refine G.rQ.ok qK (λvs H Q E h=>?_) (λcdv A outer s H vs Q E hr h=>?_)
 . obtain⟨h,dx,st,ft,s,R,fs,rfl,_⟩:=h;rfl
 . obtain⟨h,dx,st,ft,s,R,fs,rfl,hx,hf,k⟩:=h;refine⟨_,((bh (pv 0) (kB G.xq Rj (hr.mono (by decide)) (by rfl) G.yc G.gU .nil aq ((pv 1)∣(aj∣((bX (v:=.ref a.gP) (by rfl) G.xP rfl)∣((pv 2)∣((pv 3)∣((pv 4)∣aa))))))) rfl)∪((bh (pv 0) (kB G.xq Rj (hr.mono (by decide)) (by rfl) G.yc G.gU .nil aq ((pv 1)∣(aj∣((bX (v:=.ref a.bG) (by rfl) G.mC rfl)∣((pv 2)∣((pv 3)∣((pv 4)∣aa))))))) rfl)∪(@ao _ _ _ (bh (pv 0) kU rfl)))),?_⟩;refine⟨_,rfl,_,rfl,_,rfl,_,rfl,λra da na nda nea=>?_⟩;refine⟨ra,da,st,a.gP,ft,l',"ask","asked","taken",s,R,fs,rfl,a8,G.x8,?_,λH1 r1 kp1=>?_⟩
   . rw[ac (ae hf na),ac (ae hf nda)];exact hf
   have e1:aZ H H1:=λc o e=>kp1 c o (λz=>ae e na (LM.mp z)) (by rw[ac (ae e na),ac (ae e nda)];exact e)
   clear kp1;refine⟨rfl,_,rfl,h,a.ba,dx,[],rfl,e1 _ _ hx,G.bZ,G.ji,by decide,?_⟩;have n1:ra≠h:=λz=>by rw[z,hx]at na;cases na
   have hx1:=e1 _ _ hx;have kp2:Kp [h] H (upd H1 h (.ins a.ba dx (bj "asks" (.ref ra) []))):=λc o n e=>by rw[ac λz=>n (LM.mpr z)];exact e1 _ _ e
   have hx2:upd H1 h (.ins a.ba dx (bj "asks" (.ref ra) [])) h=f' (.ins a.ba dx (bj "asks" (.ref ra) [])):=a8;have r2:=r1.keep (H':=upd H1 h (.ins a.ba dx (bj "asks" (.ref ra) []))) λo e=>by rw[ac n1];exact e
   have hf2:upd H1 h (.ins a.ba dx (bj "asks" (.ref ra) [])) ft=f' (.tup (fs.map V.str)):=by
    rw[ac (jo (e1 _ _ hf) hx1 (by intro z;cases z))];exact e1 _ _ hf
   generalize upd H1 h (.ins a.ba dx (bj "asks" (.ref ra) []))=H2 at kp2 hx2 r2 hf2 |-;refine⟨_,rfl,_,rfl,_,rfl,_,rfl,λrb db nb ndb neb=>?_⟩;refine⟨rb,db,st,a.bG,ft,l',"answer","answered","handed",s,R,fs,rfl,a8,G.mh,?_,λH3 r3 kp3=>?_⟩
   . rw[ac (ae hf2 nb),ac (ae hf2 ndb)];exact hf2
   have e3:aZ H2 H3:=λc o e=>kp3 c o (λz=>ae e nb (LM.mp z)) (by rw[ac (ae e nb),ac (ae e ndb)];exact e)
   clear kp3;have nbH:H rb=LJ:=gL kp2 nb λx m=>by rw[LM.mp m,hx2];intro z;cases z
   have n3:rb≠h:=λz=>by rw[z,hx2]at nb;cases nb
   refine⟨rfl,_,rfl,h,a.ba,dx,_,rfl,e3 _ _ hx2,G.bZ,G.fX,by show 1 < 1000;decide,?_⟩;refine λgd hg=>⟨_,rfl,h,a.ba,dx,_,rfl,(by rw[ac (ae a8 hg)];exact a8),G.bZ,G.fi,by show 2 < 1000;decide,?_⟩
   obtain⟨ng,hg3⟩:=up1 hg;have gdH:H gd=LJ:=gL kp2 (jL e3 hg3) λx m=>by rw[LM.mp m,hx2];intro z;cases z
   refine k ⟨h,ra,rb,gd⟩ _ rfl na nbH gdH ⟨⟨dx,a8⟩,(r2.keep λo e=>e3 _ _ e).keep λo e=>?_,r3.keep λo e=>?_,?_⟩ λc o nc ec=>?_
   . rw[ac n1,ac (ae e hg3),ac n1];exact e
   . rw[ac n3,ac (ae e hg3),ac n3];exact e
   . rw[ac ng,a8];rfl
   . have c1:c≠h:=λz=>nc (LM.mpr z)
     have e4:=e3 _ _ (kp2 c o nc ec);rw[ac c1,ac (ae e4 hg3),ac c1];exact e4
def CN (G:Gs K mg a d):FnOk P w K mg base CX0 7 a.f8 d.f8 ["self"] (xp w a.ba a.ce a.aG):=by
 have Rk:FnOk P w K mg base CX0 5 _ _ _ _:=xf G;refine G.vB.ok m9 (λvs H Q E h=>?_) (λcdv A' outer s' H vs Q E hr h=>?_)
 . obtain⟨z,sa,p,ts,M,r,A,T,rfl,_⟩:=h;rfl
 . obtain⟨z,sa,p,ts,M,r,A,T,rfl,hn,S,hp,htl,hrl,hA,hT,k⟩:=h;have hu:=bP hr;refine⟨_,((@aH _ _ 1 _ _ _ _ m9.nd rfl (Mx rfl) (aV (ak (pv 0) rfl) G.au G.mI Rk (hr.mono (by decide)) G.nO .nil aq) (by rfl) (by first|exact .inl rfl|exact .inr rfl|assumption))∪((aC ((IA (ap oN (pv 1) eE (av _)) (G4 (ap oN (@aB _ _ _ _ _ _ _ aD (pv 1) aj (λ_ _=>rfl)) eE (av _))))).pt (@ao _ _ _ (sY hu (ak (pv 0) rfl) (@aB _ _ _ _ _ _ _ aD (pv 1) aj (λ_ _=>rfl)) cX rfl)) al)∪((pv 1)⁻¹))),?_⟩;obtain⟨dx,hx⟩:=hn.ob;obtain⟨dr,hra⟩:=hn.ra;refine⟨_,rfl,fld hx G.bZ G.ji Ax ⟨z.ra,dr,_,rfl,hra,yr,z.ra,sa,l',"ask","asked","taken",p,M,r,A,T,rfl,⟨dr,hra⟩,S,hp,by decide +kernel,by decide +kernel,by decide +kernel,hrl,hA,hT,?_⟩⟩;by_cases h0:(A - T) % (p.s * p.R)=0
   . rw[SF h0]at k |-;exact⟨_,rfl,rfl,_,rfl,cW ⟨_,rfl,k⟩⟩
   rw[SG h0]at k |-;rcases k with⟨c,nm,wv,hrd,hc,k⟩|⟨i,hrd,k⟩
   . refine .inl ⟨c,_,hrd,hc,λH1 S1 kp1=>?_⟩;have hn1:=hn.lists kp1 λc m=>.inl (by
      obtain⟨ts,e,_⟩:=S.rw l';exact⟨ts,by rw[LM.mp m];exact e⟩)
     have hc1:=kp1 _ _ (S.noT hc) hc;obtain⟨dx1,hx1⟩:=hn1.ob;refine⟨_,rfl,rfl,_,rfl,fP ⟨_,rfl,c,_,_,_,rfl,rfl,SqT.of hc1,rfl,rfl,_,rfl,fP ?_⟩⟩;refine⟨_,rfl,fld hx1 G.bZ G.fi rZ ⟨_,rfl,c,_,_,_,rfl,rfl,SqT.of hc1,rfl,z.gd,_,rfl,EE.k (k:=.inl nm) hn1.go (LR (by rw[yg];exact htl) (by decide)),_,rfl,?_⟩⟩;rw[GR];refine k _ ?_ (S1.kp Kp.one (λc hc=>by rw[LM.mp hc];exact S1.noD hn1.go) λc hc vs e=>by rw[LM.mp hc,hn1.go]at e;cases e) λc o nc e=>?_
     . obtain⟨d1,x1⟩:=hn1.ra;obtain⟨d2,x2⟩:=hn1.rb;exact⟨⟨dx1,by rw[ac (jo hx1 hn1.go (by intro z;cases z))];exact hx1⟩,⟨d1,by rw[ac (jo x1 hn1.go (by intro z;cases z))];exact x1⟩,⟨d2,by rw[ac (jo x2 hn1.go (by intro z;cases z))];exact x2⟩,a8⟩
     . rw[ac λz=>nc (by rw[z];exact LY)];exact kp1 c o (λm=>nc (Ma _ m)) e
   . refine .inr ⟨i,hrd,λt H1 n1 v1 S1 kp1=>?_⟩;have hn1:=hn.lists kp1 λc m=>.inl (by
      obtain⟨ts,e,_⟩:=S.rw l';exact⟨ts,by rw[LM.mp m];exact e⟩)
     exact⟨_,rfl,rfl,_,rfl,fP ⟨_,rfl,t,_,_,_,rfl,rfl,SqT.of v1,rfl,rfl,_,rfl,cW ⟨_,rfl,k t H1 n1 v1 hn1 S1 kp1⟩⟩⟩
def uv (G:Gs K mg a d):FnOk P w K mg base (CXv P w) 6 a.b7 d.b7 ["self","name"] (vA w a.ba a.ce a.aG a.B0 a.mH):=by
 have Ro:FnOk P w K mg base CX0 4 _ _ _ _:=BJ G;refine G.l9.okX (k:=5) kF (λvs H Q E h=>?_) (λcdv A' outer s' H vs Q E hr hR h=>?_)
 . obtain⟨z,sa,p,ts,M,r,A,T,nm,rfl,_⟩:=h;rfl
 . obtain⟨z,sa,p,ts,M,r,A,T,nm,rfl,hn,S,hp,hA,hT,k⟩:=h;have hu:=bP hr;refine⟨_,((aC (xk (lX hu (pv 1) (ak (pv 0) rfl))) (@ao _ _ _ (c6 hR hr.hd (by rfl) G.xl G.xc_NoTask (ag∣aa))) al)∪(@ao _ _ _ (aC (bi (aV (ak (pv 0) rfl) G.au G.kl Ro (hr.mono (by decide)) G.lr .nil aq)) (@ao _ _ _ (c6 hR hr.hd (by rfl) G.Aa G.xc_Full (ag∣aa))) al))),?_⟩;obtain⟨dx,hx⟩:=hn.ob;obtain⟨dr,hrb⟩:=hn.rb;refine⟨_,rfl,_,rfl,fld hx G.bZ G.fi rZ ⟨z.gd,_,rfl,Ch.k (k:=.inl nm) hn.go,_,rfl,?_⟩⟩;rw[jS];cases hc:ts.contains nm with
  |false =>
    rw[SF hc]at k;exact fP ⟨by show 1 <= LP;decide,k⟩
  |true =>
    rw[SG (by rw[hc];decide)]at k;refine cW ?_;refine⟨_,rfl,fld hx G.bZ G.fX rN ⟨z.rb,dr,_,rfl,hrb,Aq,z.rb,sa,l',"answer","answered","handed",p,M,r,A,T,rfl,⟨dr,hrb⟩,S,hp,by decide +kernel,by decide +kernel,hA,hT,_,rfl,?_⟩⟩;by_cases hf:(A - T) % (p.s * p.R)=p.s
    . rw[SF hf]at k;exact oX hf ⟨by show 1 <= LP;decide,k⟩
    . rw[SG hf]at k;exact ir hf k
def Ap (G:Gs K mg a d):FnOk P w K mg base (CXv P w) 8 a.cM d.cM ["self","name","worth"] (ua w a.ba a.ce a.aG a.B0 a.mH):=by
 have Sw:FnOk P w K mg base (CXv P w) 6 _ _ _ _:=uv G;have Rp:FnOk P w K mg base CX0 4 _ _ _ _:=Eu G;refine G.ql.okX (k:=7) pR (λvs H Q E h=>?_) (λcdv A' outer s' H vs Q E hr hR h=>?_)
 . obtain⟨z,sa,p,ts,M,r,A,T,nm,wv,rfl,_⟩:=h;rfl
 . obtain⟨z,sa,p,ts,M,r,A,T,nm,wv,rfl,hn,S,hp,hrl,hA,hT,k⟩:=h;refine⟨_,((@aK _ _ _ _ (ar (pv 0) G.bZ G.fD Sw (hr.mono (by decide)) G.g9 .nil hR.passes ((pv 1)∣aa)) (by rfl))∪((@aK _ _ _ _ (ar (ak (pv 0) rfl) G.au G.oO Rp (hr.mono (by decide)) G.re .nil aq ((pv 1)∣((pv 2)∣aa))) (by rfl))∪(@ao _ _ _ (@aK _ _ _ _ (tq (ak (pv 0) rfl) (pv 1) ⟨rfl,rfl,rfl,rfl⟩) (by rfl))))),?_⟩;obtain⟨dx,hx⟩:=hn.ob;obtain⟨dr,hrb⟩:=hn.rb;refine⟨_,rfl,z.h,dx,_,rfl,hx,xR,_,rfl,z,sa,p,ts,M,r,A,T,nm,rfl,hn,S,hp,hA,hT,?_⟩;by_cases hc:ts.contains nm=K'
   . rw[SF hc]at k |-;exact k
   rw[SG hc]at k |-;by_cases hf:(A - T) % (p.s * p.R)=p.s
   . rw[SF hf]at k |-;exact k
   rw[SG hf]at k |-;refine⟨_,rfl,fld hx G.bZ G.fX rN ⟨z.rb,dr,_,rfl,hrb,Ff,_,rfl,_,rfl,z.rb,sa,l',"answer","answered","handed",p,M,r,A,.int nm,wv,rfl,⟨dr,hrb⟩,S,hp,by decide +kernel,by decide +kernel,hrl,hA,λt H1 n1 v1 S1 kp1=>?_⟩⟩;have hn1:=hn.lists kp1 λc m=>.inl (by
    obtain⟨ts,e,_⟩:=S.rw l';exact⟨ts,by rw[LM.mp m];exact e⟩)
   obtain⟨dx1,hx1⟩:=hn1.ob;have hv:pq (gK ts) (.inl nm)=f' (.bl l'):=by
    rw[jS];cases y:ts.contains nm with
   |true=>rfl
   |false=>exact absurd y hc
   refine⟨_,rfl,fld hx1 G.bZ G.fi rZ ⟨z.gd,rfl,.inl ⟨_,.inl hn1.go⟩,_,rfl,_,.inl nm,_,hn1.go,rfl,hv,?_⟩⟩;rw[pZ];refine k t _ n1 ?_ ?_ (S1.kp Kp.one (λc hc=>by rw[LM.mp hc];exact S1.noD hn1.go) λc hc vs e=>by rw[LM.mp hc,hn1.go]at e;cases e) λc o nc e=>?_
   . rw[ac (jo v1 hn1.go (by intro z;cases z))];exact v1
   . obtain⟨d1,x1⟩:=hn1.ra;obtain⟨d2,x2⟩:=hn1.rb;exact⟨⟨dx1,by rw[ac (jo hx1 hn1.go (by intro z;cases z))];exact hx1⟩,⟨d1,by rw[ac (jo x1 hn1.go (by intro z;cases z))];exact x1⟩,⟨d2,by rw[ac (jo x2 hn1.go (by intro z;cases z))];exact x2⟩,a8⟩
   . rw[ac λz=>nc (by rw[z];exact LY)];exact kp1 c o (λm=>nc (Ma _ m)) e
def DA (w:LZ) (C:D'):Sp:=λvs H Q _=>∃ x dx,vs=[.ref x]/\H x=f' (.ins C dx []) /\
 ∀ (sa:SA) (H':Hp),sa.x=x->(∀ c,sa.own c->c≠x->H c=LJ)->StT w C H' sa Mem.zero (λ_=>[])->Kp [x] H H'->Q .non H'
def C8 (w:LZ) (C:D'):Sp:=λvs H Q _=>∃ (sa:SA) (m:Mem) (rs:Bool->List Wr) (b:Bool) (cv wv:V) (x:Wr),vs=[.ref sa.x,.int (sdI b),cv,wv]/\StT w C H sa m rs/\(rs b).length < 99990/\vK H x.key cv/\DV H x.dat wv/\x.Ok /\
 ∀ H',StT w C H' sa m (setR rs b (rs b++[x]))->Kp [sa.l b] H H'->Q .non H'
def BL (w:LZ) (C:D'):Sp:=λvs H Q _=>∃ (sa:SA) (m:Mem) (rs:Bool->List Wr) (b:Bool) (x:Wr) (cx:List Wr),vs=[.ref sa.x,.int (sdI b)]/\StT w C H sa m rs/\rs b=x :: cx /\
 ∀ H',StT w C H' sa (m.put x) (setR rs b cx)->Kp [sa.l b,sa.hd] H H'->Q .non H'
def wrD (x:Wr):LO:=.tuple [x.key,x.dat]
def BT (w:LZ) (C:D'):Sp:=λvs H Q _=>∃ (sa:SA) (m:Mem) (rs:Bool->List Wr) (b:Bool),vs=[.ref sa.x,.int (sdI b)]/\StT w C H sa m rs /\
 ∀ (p:D') (ts:List V),H p=LJ->DVs H ((rs b).map wrD) ts->Q (.ref p) (upd H p (.lst ts))
theorem yb {H:Hp}:∀ {row:List Wr}{es:List (LO × V)},Mn (WrR H) row es->Mn (RD H) es (row.map wrD)
|_,_,.nil=>.nil
|x :: _,_,.cons ⟨_,hk,hd⟩ t=>.cons ⟨x.dat,by rw[hk];rfl,hd⟩ (yb t)
def JL {w:LZ}{C:D'}{vs:List V}{H:Hp}{Q:VK}{E:XK}(h:DA w C vs H Q E):AL w C vs H Q E:=by
 obtain⟨x,dx,rfl,hx,k⟩:=h;refine⟨x,dx,rfl,hx,λhd rl l H' f1 f2 f3 S kp=>k ⟨x,hd,rl,l⟩ H' rfl (λc hc n=>?_) ⟨[],_,S,MemR.zero,λ_=>.nil⟩ kp⟩;rcases hc with y|y|y|y|y
 . exact absurd y n
 . rw[y];exact f1
 . rw[y];exact f2
 . rw[y];exact f3 _
 . rw[y];exact f3 _
def Br {w:LZ}{C:D'}{vs:List V}{H:Hp}{Q:VK}{E:XK}(h:C8 w C vs H Q E):yf w C vs H Q E:=by
 obtain⟨sa,m,rs,b,cv,wv,x,rfl,⟨M,r,S,R,P⟩,hl,hk,hd,ho,k⟩:=h;have hl':=b9 (P b);refine⟨sa.x,sa.hd,sa.rl,sa.l,M,r,b,cv,wv,x.key,rfl,S,by omega,hk,λH' S' kp=>k H' ?_ kp⟩;have ht:∀ c vs,H c=f' (.tup vs)->H' c=f' (.tup vs):=λc vs e=>kp c _ (S.noT e) e
 exact StT.grow R P S' ht (.cons ⟨ho,rfl,DV.keep ht _ _ x.dat_kd hd⟩ .nil)
def Ip {w:LZ}{C:D'}{vs:List V}{H:Hp}{Q:VK}{E:XK}(h:BL w C vs H Q E):yE w C vs H Q E:=by
 obtain⟨sa,m,rs,b,x,cx,rfl,⟨M,r,S,R,P⟩,hb,k⟩:=h;have pb:=P b;rw[hb]at pb;cases hr:r b with
|nil=>rw[hr]at pb;cases pb
|cons q es =>
  rw[hr]at pb;cases pb with
 |cons hx pt =>
   refine⟨sa.x,sa.hd,sa.rl,sa.l,M,r,b,q.1,q.2,es,rfl,S,hr,Nat.lt_of_le_of_lt (StT.small S R) (by decide),λH' S' kp=>k H' ⟨_,_,S',?_,λc=>?_⟩ kp⟩
   all_goals
    have ht:∀ c vs,H c=f' (.tup vs)->H' c=f' (.tup vs):=λc vs e=>kp c _ (λmm=>by
     rcases Mf.mp mm with y|y
     . exact S.noT (b:=b) e (LM.mpr y)
     . obtain⟨ee,e'⟩:=S.me.there;rw[LM.mp y,e']at e;cases e) e
   . exact(R.put hx).keep ht
   . by_cases e:c=b
     . subst e;rw[b8,b8];exact Paired.mapP pt λ_ _ q=>q.keep ht
     . rw[eN e,eN e];exact Paired.mapP (P c) λ_ _ q=>q.keep ht
def xO {w:LZ}{C:D'}{vs:List V}{H:Hp}{Q:VK}{E:XK}(h:BT w C vs H Q E):xt w C vs H Q E:=by
 obtain⟨sa,m,rs,b,rfl,⟨M,r,S,R,P⟩,k⟩:=h;exact⟨sa.x,sa.hd,sa.rl,sa.l,M,r,b,rfl,S,λp ts hp pr=>k p ts hp (xI pr (yb (P b)))⟩
def FX (w:LZ) (CH CR CS F N:D'):Sp:=λvs H Q E=>∃ (z:HA) (sa:SA) (p:RP) (n:Nat) (aw:List Int) (m:Mem) (rs:Bool->List Wr) (wt:Int),vs=[.ref z.h,.int wt]/\Hn CH CR H z sa.x p n aw/\StT w CS H sa m rs/\p.Ok/\n <= 9/\aw.length < 1000/\(rs K').length < 99990 /\
 if bC p m (rs K') .asked .taken=p.s then E (.ref F) LJ H else match fE n aw with
 |none=>E (.ref N) LJ H
 |some nm=>∀ H',Hn CH CR H' z sa.x p n (aw++[nm])->StT w CS H' sa m (setR rs K' (rs K'++BW p m (rs K') K' .asked nm wt))->Kp [z.gd,sa.l K'] H H'->Q (.int nm) H'
def vS (w:LZ) (CH CR CS:D'):Sp:=λvs H Q _=>∃ (z:HA) (sa:SA) (p:RP) (n:Int) (aw:List Int) (m:Mem) (rs:Bool->List Wr),vs=[.ref z.h]/\Hn CH CR H z sa.x p n aw/\StT w CS H sa m rs/\p.Ok/\(rs K').length < 99990 /\
 (if bC p m (rs K') .answered .handed=0 then Q .non H else match rdP m (rs K') l' (rdC m (rs K') .handed % p.s) with
 |some nw=>∀ c H',H' c=f' (.tup [.int nw.1,.int nw.2])->Hn CH CR H' z sa.x p n (aw.filter λk=>decide (k≠nw.1))->StT w CS H' sa m (setR rs K' (rs K'++[lW p m (rs K') .handed]))->Kp [z.gd,sa.l K'] H H'->Q (.ref c) H'
 |none=>∀ c H',H' c=f' (.tup [.non,.non])->Hn CH CR H' z sa.x p n aw->StT w CS H' sa m (setR rs K' (rs K'++[lW p m (rs K') .handed]))->Kp [z.gd,sa.l K'] H H'->Q (.ref c) H')
def Lg {w:LZ}{CH CR CS F N:D'}{vs:List V}{H:Hp}{Q:VK}{E:XK}(h:FX w CH CR CS F N vs H Q E):EQ w CH CR CS F N vs H Q E:=by
 obtain⟨z,sa,p,n,aw,m,rs,wt,rfl,hn,⟨M,r,S,R,P⟩,hp,n9,hal,hrl,k⟩:=h;have hl:=b9 (P K');refine⟨z,sa,p,n,aw,M,r,.int wt,rdC m (rs K') .asked,rdC m (rs K') .taken,rfl,hn,S,hp,n9,hal,by omega,cF R (P K') .asked,cF R (P K') .taken,?_⟩;unfold bC at k;by_cases hc:(rdC m (rs K') .asked - rdC m (rs K') .taken) % (p.s * p.R)=p.s
 . rw[SF hc]at k |-;exact k
 . rw[SG hc]at k |-;cases hle:fE n aw with
  |none=>rw[hle]at k;exact k
  |some nm =>
    rw[hle]at k;intro t H' n2 v2 hn2 S2 kp2;have ht:∀ c vs,H c=f' (.tup vs)->H' c=f' (.tup vs):=λc vs e=>kp2 c _ (λmm=>by
     rcases Mf.mp mm with y|y
     . rw[y,hn.go]at e;cases e
     . exact S.noT e y) e
    exact k H' hn2 (StT.grow R P S2 ht (yA hp (by have:=oE hle;omega) v2)) kp2
def Ct {w:LZ}{CH CR CS:D'}{vs:List V}{H:Hp}{Q:VK}{E:XK}(h:vS w CH CR CS vs H Q E):rn w CH CR CS vs H Q E:=by
 obtain⟨z,sa,p,n,aw,m,rs,rfl,hn,⟨M,r,S,R,P⟩,hp,hrl,k⟩:=h;have hl:=b9 (P K');refine⟨z,sa,p,n,aw,M,r,rdC m (rs K') .answered,rdC m (rs K') .handed,rfl,hn,S,hp,by omega,cF R (P K') .answered,cF R (P K') .handed,?_⟩;unfold bC at k;by_cases hc:(rdC m (rs K') .answered - rdC m (rs K') .handed) % (p.s * p.R)=0
 . rw[SF hc]at k |-;exact k
 . rw[SG hc]at k |-;have ht:∀ {H':Hp} {xs:List D'},(∀ x∈xs,x=z.gd\/x=sa.l K')->Kp xs H H'->∀ c vs,H c=f' (.tup vs)->H' c=f' (.tup vs):=λhx kp c vs e=>kp c _ (λmm=>by
    rcases hx c mm with y|y
    . rw[y,hn.go]at e;cases e
    . exact S.noT (b:=K') e (LM.mpr y)) e
   rcases BI R (P K') l' (rdC m (rs K') .handed % p.s) with⟨e1,e2⟩|⟨nm,wt,c,e1,e2,hc'⟩
   . rw[e1]at k;refine .inr ⟨0,e2,λt H' n1 v1 hn1 S1 kp1=>k t H' v1 hn1 (StT.grow R P S1 (ht (λx mx=>.inr (LM.mp mx)) kp1) (.cons ⟨trivial,rfl,rfl⟩ .nil)) (kp1.mono λc mc=>Ma _ mc)⟩
   . rw[e1]at k;refine .inl ⟨c,nm,.int wt,e2,hc',λH' hn1 S1 kp1=>?_⟩;have ht':=ht (λx mx=>by
      rcases Mf.mp mx with y|y
      . exact .inl y
      . exact .inr (LM.mp y)) kp1
     exact k c H' (ht' _ _ hc') hn1 (StT.grow R P S1 ht' (.cons ⟨trivial,rfl,rfl⟩ .nil)) kp1
def Ek (w:LZ) (CT CR CS:D'):Sp:=λvs H Q _=>∃ (z:TA') (sa:SA) (p:RP) (ts:List Int) (m:Mem) (rs:Bool->List Wr),vs=[.ref z.h]/\Tn CT CR H z sa.x p ts/\StT w CS H sa m rs/\p.Ok/\ts.length < 1000/\(rs l').length < 99990 /\
 (if bC p m (rs l') .asked .taken=0 then Q .non H else match rdP m (rs l') K' (rdC m (rs l') .taken % p.s) with
 |some nw=>∀ c H',H' c=f' (.tup [.int nw.1,.int nw.2])->Tn CT CR H' z sa.x p (wI ts nw.1)->StT w CS H' sa m (setR rs l' (rs l'++[lW p m (rs l') .taken]))->Kp [z.gd,sa.l l'] H H'->Q (.ref c) H'
 |none=>∀ c H',H' c=f' (.tup [.non,.non])->Tn CT CR H' z sa.x p ts->StT w CS H' sa m (setR rs l' (rs l'++[lW p m (rs l') .taken]))->Kp [z.gd,sa.l l'] H H'->Q (.ref c) H')
def zI (w:LZ) (CT CR CS F N:D'):Sp:=λvs H Q E=>∃ (z:TA') (sa:SA) (p:RP) (ts:List Int) (m:Mem) (rs:Bool->List Wr) (nm wt:Int),vs=[.ref z.h,.int nm,.int wt]/\Tn CT CR H z sa.x p ts/\StT w CS H sa m rs/\p.Ok/\(rs l').length < 99990/\(∀ x∈ts,0 <= x/\x < 9) /\
 if ts.contains nm=K' then E (.ref N) LJ H else if bC p m (rs l') .answered .handed=p.s then E (.ref F) LJ H else
  ∀ H',Tn CT CR H' z sa.x p (ts.filter λk=>decide (k≠nm))->StT w CS H' sa m (setR rs l' (rs l'++BW p m (rs l') l' .answered nm wt))->Kp [z.gd,sa.l l'] H H'->Q .non H'
def K1 {w:LZ}{CT CR CS:D'}{vs:List V}{H:Hp}{Q:VK}{E:XK}(h:Ek w CT CR CS vs H Q E):xp w CT CR CS vs H Q E:=by
 obtain⟨z,sa,p,ts,m,rs,rfl,hn,⟨M,r,S,R,P⟩,hp,htl,hrl,k⟩:=h;have hl:=b9 (P l');refine⟨z,sa,p,ts,M,r,rdC m (rs l') .asked,rdC m (rs l') .taken,rfl,hn,S,hp,htl,by omega,cF R (P l') .asked,cF R (P l') .taken,?_⟩;unfold bC at k;by_cases hc:(rdC m (rs l') .asked - rdC m (rs l') .taken) % (p.s * p.R)=0
 . rw[SF hc]at k |-;exact k
 . rw[SG hc]at k |-;have ht:∀ {H':Hp} {xs:List D'},(∀ x∈xs,x=z.gd\/x=sa.l l')->Kp xs H H'->∀ c vs,H c=f' (.tup vs)->H' c=f' (.tup vs):=λhx kp c vs e=>kp c _ (λmm=>by
    rcases hx c mm with y|y
    . rw[y,hn.go]at e;cases e
    . exact S.noT (b:=l') e (LM.mpr y)) e
   rcases BI R (P l') K' (rdC m (rs l') .taken % p.s) with⟨e1,e2⟩|⟨nm,wt,c,e1,e2,hc'⟩
   . rw[e1]at k;refine .inr ⟨0,e2,λt H' n1 v1 hn1 S1 kp1=>k t H' v1 hn1 (StT.grow R P S1 (ht (λx mx=>.inr (LM.mp mx)) kp1) (.cons ⟨trivial,rfl,rfl⟩ .nil)) (kp1.mono λc mc=>Ma _ mc)⟩
   . rw[e1]at k;refine .inl ⟨c,nm,.int wt,e2,hc',λH' hn1 S1 kp1=>?_⟩;have ht':=ht (λx mx=>by
      rcases Mf.mp mx with y|y
      . exact .inl y
      . exact .inr (LM.mp y)) kp1
     exact k c H' (ht' _ _ hc') hn1 (StT.grow R P S1 ht' (.cons ⟨trivial,rfl,rfl⟩ .nil)) kp1
def GW {w:LZ}{CT CR CS F N:D'}{vs:List V}{H:Hp}{Q:VK}{E:XK}(h:zI w CT CR CS F N vs H Q E):ua w CT CR CS F N vs H Q E:=by
 obtain⟨z,sa,p,ts,m,rs,nm,wt,rfl,hn,⟨M,r,S,R,P⟩,hp,hrl,hts,k⟩:=h;have hl:=b9 (P l');refine⟨z,sa,p,ts,M,r,rdC m (rs l') .answered,rdC m (rs l') .handed,nm,.int wt,rfl,hn,S,hp,by omega,cF R (P l') .answered,cF R (P l') .handed,?_⟩;unfold bC at k;by_cases h0:ts.contains nm=K'
 . rw[SF h0]at k |-;exact k
 rw[SG h0]at k |-;by_cases hc:(rdC m (rs l') .answered - rdC m (rs l') .handed) % (p.s * p.R)=p.s
 . rw[SF hc]at k |-;exact k
 . rw[SG hc]at k |-;intro t H' n2 v2 hn2 S2 kp2;have ht:∀ c vs,H c=f' (.tup vs)->H' c=f' (.tup vs):=λc vs e=>kp2 c _ (λmm=>by
    rcases Mf.mp mm with y|y
    . rw[y,hn.go]at e;cases e
    . exact S.noT e y) e
   exact k H' hn2 (StT.grow R P S2 ht (yA hp (hts nm (by
    cases y:ts.contains nm with
   |false=>exact absurd y h0
   |true=>rw[Nv]at y;exact of_decide_eq_true y)) v2)) kp2
def DJ:Sp:=λvs H Q _=>∃ i:Int,vs=[.int i]/\Q (.bl l') H
def BN:Sp:=λvs H Q _=>∃ (i:Int) (k:Str),vs=[.int i,.str k]/\∀ H',aZ H H'->Q (.bl (gT i k)) H'
def Ag:Sp:=λvs H Q _=>∃ (t:D') (x:Dd),vs=[.ref t]/\H t=f' (.tup x.vs)/\x.Ok/\∀ H',aZ H H'->Q (.bl l') H'
def Hb:Sp:=λvs H Q _=>∃ (t:D') (x:Dd),vs=[.ref t]/\H t=f' (.tup x.vs)/\∀ H',aZ H H'->Q (.int (sdI x.side)) H'
def CO (G:Gs K mg a d):FnOk P w K mg base CX0 1 a.iI d.iI ["value"] DJ:=by
 refine G.rm.ok wJ (λvs H Q E h=>?_) (λcdv A' outer s' H vs Q E hr h=>?_)
 . obtain⟨i,rfl,_⟩:=h;rfl
 . obtain⟨i,rfl,k⟩:=h;refine⟨_,((xu (aA cb (by rfl) G.bb aX ((pv 0)∣((ie (v:=.ty "int") (by rfl) G.BK uo rfl)∣aa))) (uD (EM (aA cb (by rfl) G.bb aX ((pv 0)∣((ie (v:=.ty "bool") (by rfl) G.F5 Am rfl)∣aa))))))⁻¹),?_⟩;exact⟨_,rfl,_,_,.type "int",l',rfl,.int i,Kg,_,rfl,fP ⟨_,rfl,_,_,.type "int",K',rfl,.int i,Hk,_,rfl,k⟩⟩
def Gu (G:Gs K mg a d):FnOk P w K mg base CX0 2 a.lM d.lM ["value","kind"] BN:=by
 have R3:FnOk P w K mg base CX0 1 _ _ _ _:=CO G;refine G.tX.ok zr (λvs H Q E h=>?_) (λcdv A' outer s' H vs Q E hr h=>?_)
 . obtain⟨i,k,rfl,_⟩:=h;rfl
 . obtain⟨i,kd,rfl,k⟩:=h;refine⟨_,((aC (bN (bi (ax R3 (hr.mono (by decide)) (by rfl) G.zo G.rm.kp G.yN .nil aq ((pv 0)∣aa)))) (cX⁻¹) al)∪((aC (ap cw (pv 1) ag (av _)) ((Dc qz qz (Gx AH (gO (by rfl) G.dP)) (pv 0) (gO (by rfl) G.dP))⁻¹) al)∪((aC (ap cw (pv 1) ag (av _)) ((bD fT (pv 0) (@bO _ _ _ _ _ (aj∣(aj∣aa))) (by with_unfolding_all rfl))⁻¹) al)∪(cX⁻¹)))),?_⟩;refine⟨_,rfl,i,rfl,_,rfl,cW ?_⟩;refine⟨_,rfl,rfl,_,rfl,?_⟩;by_cases h1:kd="worth"
   . refine i9 (SI (by rw[h1])) ?_;have e:gT i kd=(decide (-1000000000 <= i) && decide (i <= 1000000000)):=by unfold gT;rw[SF h1]
     refine⟨_,rfl,_,rfl,_,_,rfl,rfl,_,rfl,?_⟩;by_cases hb:-1000000000 <= i
     . refine i9 (SI hb) ⟨_,_,rfl,rfl,?_⟩;rw[SI hb,Bool.true_and]at e;show Q (.bl (decide (i <= 1000000000))) H;rw[<-e];exact k _ λ_ _ z=>z
     . refine cz (by rw[SH];exact hb) ?_;rw[decide_eq_false hb,Bool.false_and]at e;show Q (.bl K') H;rw[<-e];exact k _ λ_ _ z=>z
   . refine cz (by rw[SH];exact sne h1) ?_;refine⟨_,rfl,rfl,_,rfl,?_⟩;by_cases h2:kd="side"
     . refine i9 (SI (by rw[h2])) ?_;have e:gT i kd=(decide (i=0) || decide (i=1)):=by unfold gT;rw[SG h1,SF h2]
       refine⟨_,rfl,l2,λt ht=>⟨t,_,rfl,.inr (SqT.of a8),rfl,rfl,?_⟩⟩;simp only[Mz,if_false];have e2:inV (.int i) [V.int 0,V.int 1]=gT i kd:=by
        have:=Bo i [0,1];show inV (.int i) (([0,1]:List Int).map V.int)=_;rw[this,e,Nv,Nk,SH,or_eq_true,SH,SH];simp
       rw[e2];exact k _ (af ht)
     . refine cz (by rw[SH];exact sne h2) ?_;have e:gT i kd=l':=by unfold gT;rw[SG h1,SG h2]
       show Q (.bl l') H;rw[<-e];exact k _ λ_ _ z=>z
def tj (x:Dd):∃ b,PyProof.Rows.KTD.datumAt x.word [("ask",a.fI),("collect",a.fF),("take",a.fO),("answer",a.fN),("bell",a.fQ),("lie",a.fK),("look",a.fB),("drain",a.fL)]=f' b/\(∀ (G:Gs K mg a d) (H:Hp),SqT K H b (x.ks.map V.str)):=by
 cases x
 . exact⟨_,rfl,λG=>G.uA⟩
 . exact⟨_,rfl,λG=>G.uc⟩
 . exact⟨_,rfl,λG=>G.uV⟩
 . exact⟨_,rfl,λG=>G.uI⟩
 . exact⟨_,rfl,λG=>G.va⟩
 . exact⟨_,rfl,λG=>G.vh⟩
 . exact⟨_,rfl,λG=>G.vo⟩
 . exact⟨_,rfl,λG=>G.u8⟩
def Cg (G:Gs K mg a d):FnOk P w K mg base CX0 3 a.lH d.lH ["some"] Ag:=by
 have R1:FnOk P w K mg base CX0 2 _ _ _ _:=Gu G;refine G.uC.ok rA (λvs H Q E h=>?_) (λcdv A' outer s' H vs Q E hr h=>?_)
 . obtain⟨t,x,rfl,_⟩:=h;rfl
 . obtain⟨t,x,rfl,ht,hx,k⟩:=h;have hu:=bP hr;refine⟨_,((aC ((o6 (bN (bi (aA cb (by rfl) G.bb aX ((pv 0)∣((ie (v:=.ty "tuple") (by rfl) G.k8 gS rfl)∣aa))))) (o6 (ap cw (aA aN (by rfl) G.kJ fJ ((pv 0)∣aa)) aj (av _)) (kN (bN (bi (aA cb (by rfl) G.bb aX ((@aB _ _ _ _ _ _ _ aD (pv 0) aj (λ_ _=>rfl))∣((ie (v:=.ty "str") (by rfl) G.qQ lv rfl)∣aa))))))))).pt (cX⁻¹) al)∪((@aH _ _ 1 _ _ _ _ rA.nd rfl (Mx rfl) (Bs (by rfl) G.pH G.oS (@aB _ _ _ _ _ _ _ aD (pv 0) aj (λ_ _=>rfl)) ⟨rfl,rfl,rfl,rfl⟩) (by rfl) (by first|exact .inl rfl|exact .inr rfl|assumption))∪((aC ((o6 (ap vm (pv 1) eE (av _)) (kN (ap sJ (aA aN (by rfl) G.kJ fJ ((pv 0)∣aa)) (@gs _ _ _ _ _ _ _ _ EH (aA aN (by rfl) G.kJ fJ ((pv 1)∣aa)) aj) (av _))))).pt (cX⁻¹) al)∪((aA (my rfl) (by rfl) G.BZ ui ((by exact yx (x:="value") (x2:="kind") (g:=Ir K 2 (sI (jP 0) (sI (jP 1) IB))) (tc:=λ_ H Q=>Q l' H) (te:=zf BN [] E0 (io (nJ 0) (io (nJ 1) vQ))) (caps:=[]) (js:=[]) rfl (ky rfl rfl (by decide +kernel) (by decide +kernel) rfl trivial rfl rfl) (λC s₃ H₃ Oj ex E'=>by exact AF rfl (show (["value","kind"]:List Str).Nodup from by decide +kernel) rfl rfl (.inl (lookup_relabel_local rfl)) (.inl (lookup_relabel_local rfl)) rfl rfl) trivial (HK (by rfl) G.FJ ((bB Iy (pv 0) (bK aj) dw)∣((pv 1)∣aa))) (λC s₃ H₃ Oj ex E'=>by exact ge) (λC s₃ H₃ Oj ex E'=>by exact(ax R1 (hr.mono (by decide)) (by rfl) G.BX G.tX.kp G.AS .nil aq ((pv 0)∣((pv 1)∣aa)))))∣aa))⁻¹)))),?_⟩;obtain⟨b,hb,hs⟩:=tj (K:=K) (mg:=mg) (d:=d) (a:=a) x;have hs:=hs G;obtain⟨l1,l2'⟩:=x.len;have ht':H t=f' (.tup (.str x.word :: x.args.map V.int)):=by rw[<-x.vs_eq];exact ht
   refine⟨_,rfl,_,_,.type "tuple",l',rfl,.tup ht',Ck,_,rfl,cW ?_⟩;refine⟨_,rfl,t,_,rfl,.inr (SqT.of ht'),rfl,_,rfl,cz (by rw[SH];exact λy=>by have:=mG y;rw[Mw]at this;omega) ?_⟩;refine⟨_,rfl,t,_,_,_,rfl,rfl,SqT.of ht',aU,_,_,.type "str",l',rfl,.str _,AT,_,rfl,cW ?_⟩;refine⟨_,rfl,t,_,_,_,rfl,rfl,SqT.of ht',aU,x.word,rfl,?_⟩;rw[hb];refine⟨_,rfl,rfl,_,rfl,cW ?_⟩;refine⟨_,rfl,t,_,rfl,.inr (SqT.of ht'),_,rfl,b,_,rfl,.inr (hs H),_,_,rfl,rfl,rfl,_,rfl,cz ?_ ?_⟩
   . rw[NL,decide_eq_false_iff_not,Decidable.not_not];refine congrArg V.int ?_;rw[Mw,Md,Md,l1];rfl
   refine⟨_,rfl,_,rfl,t,_,rfl,SqT.of ht',?_,λp1 hp1=>⟨_,rfl,l',p1,b,_,_,rfl,SqT.of a8,hs _,?_⟩⟩
   . rintro⟨y,_⟩;rw[show (f' (1:Int))=f' ((1:Nat):Int) from rfl,HT.sIx_nat,Mw]at y;omega
   have e1:=af (o:=.tup (gM (V.str x.word :: x.args.map V.int) (f' 1) LJ)) hp1;rw[show (f' (1:Int))=f' ((1:Nat):Int) from rfl,dQ,show List.drop 1 (V.str x.word :: x.args.map V.int)=x.args.map V.int from rfl]at e1 |-;have v1:upd H p1 (.tup (x.args.map V.int)) p1=f' (.tup (x.args.map V.int)):=a8;intro D hD;generalize upd H p1 (.tup (x.args.map V.int))=H1 at e1 v1 hD |-;refine⟨λi mm ys H'=>i <= x.args.length/\mm=x.args.length - i/\ys=(replicate i l').map V.bl/\H' D=f' (.lst ys)/\∀ c o,c≠D->H1 c=f' o->H' c=f' o,⟨_,Ny _,rfl,rfl,a8,λc o n e=>by rw[ac n];exact e⟩,?_⟩;rintro i mm ys H2 ⟨hi,rfl,rfl,hD2,k2⟩;have e2:aZ H1 H2:=λc o e=>k2 c o (λy=>by rw[y,hD]at e;cases e) e
   refine⟨hD2,LR (show _ < 1000 by rw[Md,Nx];omega) (by decide),?_⟩;by_cases hii:i=x.args.length
   . refine .inl ⟨⟨_,SqT.of (e2 _ _ v1),by rw[Md];omega⟩,D,replicate i l',rfl,SqL.of hD2,?_⟩;have:(replicate i l').all id=l':=by
      rw[all_eq_true];intro y hy;rw[(List.mem_replicate.mp hy).2];rfl
     rw[this];exact k _ (e1.trans e2)
   . have hlt:i < x.args.length:=by omega
     have hlt2:i < x.ks.length:=by omega
     refine .inr ⟨⟨_,_,_,_,SqT.of (e2 _ _ v1),hs _,by rw[Mp,LQ hlt];rfl,by rw[Mp,LQ hlt2];rfl⟩,?_⟩;rintro v H3 ⟨T,xv,yv,hT,rfl,rfl,hxv,hyv⟩ v0 v1';have hxv:=hxv _ (SqT.of (e2 _ _ v1));have hyv:=hyv _ (hs _);rw[Mp,LQ hlt]at hxv;rw[Mp,LQ hlt2]at hyv;cases hxv;cases hyv;refine⟨T,_,rfl,SqT.of a8,rfl,_,_,rfl,_,_,rfl,rfl,_,_,rfl,?_⟩;refine fP ⟨_,rfl,_,rfl,_,_,rfl,λH4 e4=>?_⟩;have hp:=Dd.part hx i _ _ (LQ hlt) (LQ hlt2);rw[hp];have nD:D≠T:=λy=>by rw[<-y,hD2]at hT;cases hT
     refine⟨e4 _ _ (by rw[ac nD];exact hD2),x.args.length - (i+1),by omega,by omega,rfl,by rw[List.replicate_succ',NV];rfl,a8,λc o n e=>?_⟩;rw[ac n];exact e4 _ _ (af hT _ _ (k2 c o n e))
def FO (G:Gs K mg a d):FnOk P w K mg base CX0 1 a.lN d.lN ["some"] Hb:=by
 refine G.tW.ok zQ (λvs H Q E h=>?_) (λcdv A' outer s' H vs Q E hr h=>?_)
 . obtain⟨t,x,rfl,_⟩:=h;rfl
 . obtain⟨t,x,rfl,ht,k⟩:=h;have hu:=bP hr;refine⟨_,((aC (ap fT (@aB _ _ _ _ _ _ _ aD (pv 0) aj (λ_ _=>rfl)) (@bO _ _ _ _ _ (ag∣(ag∣aa))) (by with_unfolding_all rfl)) (aj⁻¹) al)∪((aC (ap fT (@aB _ _ _ _ _ _ _ aD (pv 0) aj (λ_ _=>rfl)) (@bO _ _ _ _ _ (ag∣(ag∣aa))) (by with_unfolding_all rfl)) (aj⁻¹) al)∪((@aB _ _ _ _ _ _ _ aD (pv 0) aj (λ_ _=>rfl))⁻¹))),?_⟩;have ht':H t=f' (.tup (.str x.word :: x.args.map V.int)):=by rw[<-x.vs_eq];exact ht
   refine⟨_,rfl,t,_,_,_,rfl,rfl,SqT.of ht',aU,l2,λt1 h1=>⟨t1,_,rfl,.inr (SqT.of a8),rfl,rfl,_,rfl,?_⟩⟩;have e1:=af (o:=.tup [V.str "ask",V.str "collect"]) h1;generalize upd H t1 (.tup [V.str "ask",V.str "collect"])=H1 at e1 |-;rcases x.grp with⟨c1,hsd⟩|⟨c1,hsd⟩|⟨c1,hsd⟩
   . refine i9 ?_ ?_
     . rcases c1 with y|y<;>(rw[y];decide +kernel)
     . rw[hsd]at k;exact k H1 e1
   . refine cz ?_ ?_
     . rcases c1 with y|y<;>(rw[y];decide +kernel)
     refine⟨_,rfl,t,_,_,_,rfl,rfl,SqT.of (e1 _ _ ht'),aU,l2,λt2 h2=>⟨t2,_,rfl,.inr (SqT.of a8),rfl,rfl,_,rfl,i9 ?_ ?_⟩⟩
     . rcases c1 with y|y<;>(rw[y];decide +kernel)
     . rw[hsd]at k;exact k _ (e1.trans (af h2))
   . refine cz ?_ ?_
     . rcases c1 with y|y|y|y<;>(rw[y];decide +kernel)
     refine⟨_,rfl,t,_,_,_,rfl,rfl,SqT.of (e1 _ _ ht'),aU,l2,λt2 h2=>⟨t2,_,rfl,.inr (SqT.of a8),rfl,rfl,_,rfl,cz ?_ ?_⟩⟩
     . rcases c1 with y|y|y|y<;>(rw[y];decide +kernel)
     rw[hsd]at ht';exact⟨_,rfl,t,_,_,_,rfl,rfl,SqT.of ((e1.trans (af h2)) _ _ ht'),rfl,k _ (e1.trans (af h2))⟩
def yU (w:LZ) (CH CR CS F N:D'):Sp:=λvs H Q E=>∃ (z:HA) (sa:SA) (p:RP) (n:Nat) (aw:List Int) (m:Mem) (rs:Bool->List Wr),vs=[.ref z.h]/\Hn CH CR H z sa.x p n aw/\StT w CS H sa m rs/\p.Ok/\n <= 9 /\
 if bC p m (rs K') .asked .taken=p.s then E (.ref F) LJ H else match fE n aw with|none=>E (.ref N) LJ H|some _=>Q .non H
def yW (w:LZ) (CT CR CS F N:D'):Sp:=λvs H Q E=>∃ (z:TA') (sa:SA) (p:RP) (ts:List Int) (m:Mem) (rs:Bool->List Wr) (nm:Int),vs=[.ref z.h,.int nm]/\Tn CT CR H z sa.x p ts/\StT w CS H sa m rs/\p.Ok /\
 if ts.contains nm=K' then E (.ref N) LJ H else if bC p m (rs l') .answered .handed=p.s then E (.ref F) LJ H else Q .non H
def Fx {w:LZ}{CH CR CS F N:D'}{vs:List V}{H:Hp}{Q:VK}{E:XK}(h:yU w CH CR CS F N vs H Q E):yq w CH CR CS F N vs H Q E:=by
 obtain⟨z,sa,p,n,aw,m,rs,rfl,hn,⟨M,r,S,R,P⟩,hp,n9,k⟩:=h;exact⟨z,sa,p,n,aw,M,r,rdC m (rs K') .asked,rdC m (rs K') .taken,rfl,hn,S,hp,n9,cF R (P K') .asked,cF R (P K') .taken,k⟩
def G2 {w:LZ}{CT CR CS F N:D'}{vs:List V}{H:Hp}{Q:VK}{E:XK}(h:yW w CT CR CS F N vs H Q E):vA w CT CR CS F N vs H Q E:=by
 obtain⟨z,sa,p,ts,m,rs,nm,rfl,hn,⟨M,r,S,R,P⟩,hp,k⟩:=h;exact⟨z,sa,p,ts,M,r,rdC m (rs l') .answered,rdC m (rs l') .handed,nm,rfl,hn,S,hp,cF R (P l') .answered,cF R (P l') .handed,k⟩
def rfC (a:Ad):Rf->D'
|.deed=>a.nP
|.full=>a.B0
|.name=>a.mO
|.task=>a.mH
def AB (w:LZ) (ad:Ad):Sp:=λvs H Q E=>∃ (a:YA) (q:YP) (S:YS) (x:Dd) (t:D'),vs=[.ref a.y,.ref t]/\Yn w ad.bf ad.dc ad.ba ad.ce ad.aG H a q S/\q.Ok/\H t=f' (.tup x.vs)/\x.Ok /\
 ∀ H',aZ H H'->match x.chk q S with|none=>Q .non H'|some r=>E (.ref (rfC ad r)) LJ H'
def FG {f:Bool->Bd}(b:Bool):atI [V.str (f K').key,V.str (f l').key] (sdI b)=f' (.str (f b).key):=by cases b<;>rfl
def JB {f:Bool->Bool}(b:Bool):atI [V.bl (f K'),V.bl (f l')] (sdI b)=f' (.bl (f b)):=by cases b<;>rfl
def C5 (G:Gs K mg a d):FnOk P w K mg base (CXv P w) 8 a.eV d.eV ["self","some"] (AB w a):=by
 have RZ:FnOk P w K mg base CX0 3 _ _ _ _:=Cg G;have Sj:FnOk P w K mg base CX0 1 _ _ _ _:=FO G;have Rz:FnOk P w K mg base CX0 1 _ _ _ _:=(oF G).imp λvs H Q E=>xO
 have Su:FnOk P w K mg base (CXv P w) 6 _ _ _ _:=(yk G).imp λvs H Q E=>Fx
 have Sw:FnOk P w K mg base (CXv P w) 6 _ _ _ _:=(uv G).imp λvs H Q E=>G2
 refine G.vt.okX (k:=7) sx (λvs H Q E h=>?_) (λcdv A' outer s' H vs Q E hr hR h=>?_)
 . obtain⟨y,q,S,x,t,rfl,_⟩:=h;rfl
 . obtain⟨y,q,S,x,t,rfl,Y,qo,ht,hx,k⟩:=h;have hu:=bP hr;refine⟨_,((aC (bN (bi (ax RZ (hr.mono (by decide)) (by rfl) G.BP G.uC.kp G.Au .nil aq ((pv 1)∣aa)))) (@ao _ _ _ (c6 hR hr.hd (by rfl) G.oA G.xc_NoDeed (ag∣aa))) al)∪((aC (ap cw (@aB _ _ _ _ _ _ _ aD (pv 1) aj (λ_ _=>rfl)) ag (av _)) ((aC (bN (mD (ar (ak (pv 0) rfl) G.aF G.cY Rz (hr.mono (by decide)) G.eI .nil aq ((@aB _ _ _ _ _ _ _ aD (pv 1) aj (λ_ _=>rfl))∣aa)) (λ_=>rfl))) (@ao _ _ _ (c6 hR hr.hd (by rfl) G.oA G.xc_NoDeed (ag∣aa))) al)∪(@ao _ _ _ GC)) al)∪((aC (ap sJ (@aB _ _ _ _ _ _ _ aS (ak (pv 0) rfl) (ax Sj (hr.mono (by decide)) (by rfl) G.BD G.tW.kp G.A4 .nil aq ((pv 1)∣aa)) (λ_ _=>rfl)) (gc (ap cw (@aB _ _ _ _ _ _ _ aD (pv 1) aj (λ_ _=>rfl)) ag (av _)) ag ag) (av _)) (@ao _ _ _ (c6 hR hr.hd (by rfl) G.oA G.xc_NoDeed (ag∣aa))) al)∪((aC (ap cw (@aB _ _ _ _ _ _ _ aD (pv 1) aj (λ_ _=>rfl)) ag (av _)) (@ao _ _ _ (@aK _ _ _ _ (aV (ak (pv 0) rfl) G.bU G.ix Su (hr.mono (by decide)) G.jy .nil hR.passes) (by rfl))) al)∪(@ao _ _ _ (aC (ap cw (@aB _ _ _ _ _ _ _ aD (pv 1) aj (λ_ _=>rfl)) ag (av _)) (@ao _ _ _ (@aK _ _ _ _ (ar (ak (pv 0) rfl) G.bZ G.fD Sw (hr.mono (by decide)) G.g9 .nil hR.passes ((@aB _ _ _ _ _ _ _ aD (pv 1) aj (λ_ _=>rfl))∣aa)) (by rfl))) al)))))),?_⟩;have ht':H t=f' (.tup (.str x.word :: x.args.map V.int)):=by rw[<-x.vs_eq];exact ht
   refine⟨_,rfl,t,x,rfl,ht,hx,λH1 e1=>⟨_,rfl,cW ?_⟩⟩;have Y1:=Y.same e1;have ht1:=e1 _ _ ht';refine⟨_,rfl,t,_,_,_,rfl,rfl,SqT.of ht1,aU,rfl,_,rfl,?_⟩;by_cases hd:∃ b,x=.drain b
   . obtain⟨b,rfl⟩:=hd;refine i9 (SI rfl) ?_;refine⟨_,rfl,gm Y1.ob G.am G.aW gf (fc Y1.x.st.ob (cK (by decide +kernel) (by decide +kernel)) ?_)⟩;refine⟨_,rfl,t,_,_,_,rfl,rfl,SqT.of ht1,rfl,y.sa,S.m,S.rs,b,rfl,Y1.x.st,λp2 ts hp2 dv=>?_⟩;have e2:=af (o:=.lst ts) hp2;have hl:=iL dv;rw[Md]at hl;refine⟨!ts.isEmpty,.inl ⟨_,SqL.of a8,rfl⟩,?_⟩;have k2:=k _ (e1.trans e2);cases hrs:S.rs b with
    |nil =>
      rw[hrs]at hl;have:ts=[]:=MW.mp hl;subst this;rw[show (Dd.drain b).chk q S=f' .deed from SF hrs]at k2;exact fP ⟨by show 1 <= LP;decide,k2⟩
    |cons r cx =>
      rw[hrs]at hl;have:ts.isEmpty=K':=by cases ts with|nil=>cases hl|cons=>rfl
      rw[this];rw[show (Dd.drain b).chk q S=LJ from SG (by rw[hrs];exact λy=>by cases y)]at k2;exact cW k2
   . have hnd:∀ b,x≠.drain b:=λb e=>hd ⟨b,e⟩
     refine cz (by rw[SH];exact sne λy=>hd ((x.word_drain).mp y)) ?_;refine⟨_,rfl,gm Y1.ob G.am G.aY cE ?_⟩;refine⟨_,rfl,t,x,rfl,e1 _ _ ht,λH2 e2=>?_⟩;have Y2:=Y1.same e2;have ht2:=e2 _ _ ht1;refine⟨y.sl,_,_,_,rfl,rfl,SqL.of Y2.sl,FG x.side,?_⟩;refine⟨_,rfl,t,_,_,_,rfl,rfl,SqT.of ht2,aU,rfl,_,rfl,?_⟩;have e3:=e1.trans e2;have bad:∀ {X:Prop},S.bd x.side≠x.need->E (.ref a.nP) LJ H2:=λ{X} hb=>by
      have k2:=k H2 e3;rw[Dd.chk_bed hnd hb]at k2;exact k2
     rcases x.word_look with⟨hw,hn,b,rfl⟩|⟨hw,hn⟩
     . refine i9 (SI (by rw[hw])) ⟨rfl,_,rfl,?_⟩;by_cases hb:S.bd (Dd.look b).side=(Dd.look b).need
       . refine cz (by rw[hb,hn];decide +kernel) ?_;refine⟨_,rfl,t,_,_,_,rfl,rfl,SqT.of ht2,aU,rfl,_,rfl,cz (by rw[SH];exact sne (show ¬ (("look":Str)="ask") by decide +kernel)) ?_⟩;refine⟨_,rfl,t,_,_,_,rfl,rfl,SqT.of ht2,aU,rfl,_,rfl,cz (by rw[SH];exact sne (show ¬ (("look":Str)="answer") by decide +kernel)) ?_⟩;have k2:=k H2 e3;rw[show (Dd.look b).chk q S=LJ from SF hb]at k2;exact k2
       . refine i9 ?_ ⟨by show 1 <= LP;decide,bad (X:=True) hb⟩;have:=Gc hb;rw[hn]at this;rw[NL,decide_eq_false_iff_not];exact this
     . refine cz (by rw[SH];exact sne hw) ⟨rfl,_,rfl,?_⟩;by_cases hb:S.bd x.side=x.need
       . refine cz (by rw[hb,hn];decide +kernel) ?_;rcases x.word_aa with⟨wt,rfl⟩|⟨nm,wt,rfl⟩|⟨h1,h2,h3⟩
         . refine⟨_,rfl,t,_,_,_,rfl,rfl,SqT.of ht2,aU,rfl,_,rfl,i9 (SI rfl) ?_⟩;refine⟨_,rfl,gm Y2.ob G.am G.fR sX (fc Y2.x.hn.ob xb ⟨y.z,y.sa,q.p,q.n,S.un,S.m,S.rs,rfl,Y2.x.hn,Y2.x.st,qo.ok,qo.n9,?_⟩)⟩;have k2:=k H2 e3;rw[show (Dd.ask wt).chk q S=_ from SF hb]at k2;by_cases hc:bC q.p S.m (S.rs K') .asked .taken=q.p.s
           . rw[SF hc]at k2 |-;exact k2
           . rw[SG hc]at k2 |-;cases hl:fE q.n S.un with
            |none=>rw[hl]at k2;exact k2
            |some nm =>
              rw[hl]at k2;exact⟨_,rfl,t,_,_,_,rfl,rfl,SqT.of ht2,aU,rfl,_,rfl,cz (by rw[SH];exact sne (show ¬ (("ask":Str)="answer") by decide +kernel)) k2⟩
         . refine⟨_,rfl,t,_,_,_,rfl,rfl,SqT.of ht2,aU,rfl,_,rfl,cz (by rw[SH];exact sne (show ¬ (("answer":Str)="ask") by decide +kernel)) ?_⟩;refine⟨_,rfl,t,_,_,_,rfl,rfl,SqT.of ht2,aU,rfl,_,rfl,i9 (SI rfl) ?_⟩;refine⟨_,rfl,gm Y2.ob G.am G.dY om (fc Y2.x.tn.ob xR ⟨_,rfl,t,_,_,_,rfl,rfl,SqT.of ht2,rfl,y.zt,y.sa,q.p,S.tk,S.m,S.rs,nm,rfl,Y2.x.tn,Y2.x.st,qo.ok,?_⟩)⟩;have k2:=k H2 e3;rw[show (Dd.answer nm wt).chk q S=_ from SF hb]at k2;by_cases h0:S.tk.contains nm=K'
           . rw[SF h0]at k2 |-;exact k2
           . rw[SG h0]at k2 |-;by_cases hc:bC q.p S.m (S.rs l') .answered .handed=q.p.s
             . rw[SF hc]at k2 |-;exact k2
             . rw[SG hc]at k2 |-;exact k2
         . refine⟨_,rfl,t,_,_,_,rfl,rfl,SqT.of ht2,aU,rfl,_,rfl,cz (by rw[SH];exact sne h1) ?_⟩;refine⟨_,rfl,t,_,_,_,rfl,rfl,SqT.of ht2,aU,rfl,_,rfl,cz (by rw[SH];exact sne h2) ?_⟩;have k2:=k H2 e3;rw[h3 q S hnd hb]at k2;exact k2
       . refine i9 ?_ ⟨by show 1 <= LP;decide,bad (X:=True) hb⟩;have:=Gc hb;rw[hn]at this;rw[NL,decide_eq_false_iff_not];exact this
def Jk (s R:Int) (n:Nat) (fs:List Str):YP:=⟨⟨s,if fs.contains "round" then 1 else R,fs.contains "counter"⟩,n,!fs.contains "bell",!fs.contains "lie",!fs.contains "look"⟩
def CF (w:LZ) (ad:Ad):Sp:=λvs H Q _=>∃ (y dx ft:D') (s R:Int) (n:Nat) (fs:List Str),vs=[.ref y,.int s,.int R,.int n,.ref ft]/\H y=f' (.ins ad.bf dx [])/\H ft=f' (.tup (fs.map V.str)) /\
 ∀ (a:YA) (H':Hp),a.y=y->(∀ c,a.own c->c≠y->H c=LJ)->Yn w ad.bf ad.dc ad.ba ad.ce ad.aG H' a (Jk s R n fs) YS.zero->Kp [y] H H'->Q .non H'
def FY (w:LZ) (ad:Ad):Sp:=λvs H Q _=>∃ (a:YA) (q:YP) (S:YS),vs=[.ref a.y]/\Yn w ad.bf ad.dc ad.ba ad.ce ad.aG H a q S/\∀ t,H t=LJ->Q (.ref t) (upd H t (.tup [.int q.p.s,.int q.p.R]))
def CL (w:LZ) (ad:Ad):Sp:=λvs H Q _=>∃ (a:YA) (q:YP) (S:YS),vs=[.ref a.y]/\Yn w ad.bf ad.dc ad.ba ad.ce ad.aG H a q S/\∀ l ts,H l=LJ->DVs H S.hs ts->Q (.ref l) (upd H l (.lst ts))
def zn (w:LZ) (ad:Ad):Sp:=λvs H Q _=>∃ (a:YA) (q:YP) (S:YS) (b:Bool),vs=[.ref a.y,.int (sdI b)]/\Yn w ad.bf ad.dc ad.ba ad.ce ad.aG H a q S/\Q (.str (S.bd b).key) H
def zN (w:LZ) (ad:Ad):Sp:=λvs H Q _=>∃ (a:YA) (q:YP) (S:YS) (b:Bool),vs=[.ref a.y,.int (sdI b)]/\Yn w ad.bf ad.dc ad.ba ad.ce ad.aG H a q S/\Q (.bl (S.qt b)) H
def BH (w:LZ) (ad:Ad):Sp:=λvs H Q _=>∃ (a:YA) (q:YP) (S:YS),vs=[.ref a.y]/\Yn w ad.bf ad.dc ad.ba ad.ce ad.aG H a q S/\Q (.ref a.sa.x) H
def Gm (G:Gs K mg a d):FnOk P w K mg base CX0 1 a.gH d.gH ["self"] (FY w a):=by
 refine G.wm.ok ug (λvs H Q E h=>?_) (λcdv A' outer s' H vs Q E hr h=>?_)
 . obtain⟨y,q,S,rfl,_⟩:=h;rfl
 . obtain⟨y,q,S,rfl,Y,k⟩:=h;refine⟨_,((@bO _ _ _ _ _ ((ak (pv 0) rfl)∣((ak (pv 0) rfl)∣aa)))⁻¹),?_⟩;exact⟨_,rfl,gm Y.ob G.am G.nC FU ⟨_,rfl,gm Y.ob G.am G.lm BG ⟨l2,λt ht=>k t ht⟩⟩⟩
def sg (G:Gs K mg a d):FnOk P w K mg base CX0 1 a.eW d.eW ["self"] (CL w a):=by
 refine G.uf.ok tz (λvs H Q E h=>?_) (λcdv A' outer s' H vs Q E hr h=>?_)
 . obtain⟨y,q,S,rfl,_⟩:=h;rfl
 . obtain⟨y,q,S,rfl,Y,k⟩:=h;refine⟨_,((b5 nF (by rfl) G.Ey B2 ((ak (pv 0) rfl)∣aa))⁻¹),?_⟩;obtain⟨ts,h1,h2⟩:=Y.hp;exact⟨_,rfl,gm Y.ob G.am G.cg jm ⟨y.hp,ts,rfl,.inl (SqL.of h1),λl hl=>k l ts hl h2⟩⟩
def yH (G:Gs K mg a d):FnOk P w K mg base CX0 1 a.cH d.cH ["self","side"] (zn w a):=by
 refine G.qq.ok pQ (λvs H Q E h=>?_) (λcdv A' outer s' H vs Q E hr h=>?_)
 . obtain⟨y,q,S,b,rfl,_⟩:=h;rfl
 . obtain⟨y,q,S,b,rfl,Y,k⟩:=h;refine⟨_,((@aB _ _ _ _ _ _ _ aS (ak (pv 0) rfl) (pv 1) (λ_ _=>rfl))⁻¹),?_⟩;exact⟨_,rfl,gm Y.ob G.am G.aY cE ⟨_,rfl,y.sl,_,_,_,rfl,rfl,SqL.of Y.sl,FG b,k⟩⟩
def zw (G:Gs K mg a d):FnOk P w K mg base CX0 1 a.cc d.cc ["self","side"] (zN w a):=by
 refine G.qb.ok nX (λvs H Q E h=>?_) (λcdv A' outer s' H vs Q E hr h=>?_)
 . obtain⟨y,q,S,b,rfl,_⟩:=h;rfl
 . obtain⟨y,q,S,b,rfl,Y,k⟩:=h;refine⟨_,((@aB _ _ _ _ _ _ _ aS (ak (pv 0) rfl) (pv 1) (λ_ _=>rfl))⁻¹),?_⟩;exact⟨_,rfl,gm Y.ob G.am G.em oi ⟨_,rfl,y.qu,_,_,_,rfl,rfl,SqL.of Y.qu,JB b,k⟩⟩
def mt (G:Gs K mg a d):FnOk P w K mg base CX0 1 a.eL d.eL ["self"] (BH w a):=by
 refine G.uT.ok sy (λvs H Q E h=>?_) (λcdv A' outer s' H vs Q E hr h=>?_)
 . obtain⟨y,q,S,rfl,_⟩:=h;rfl
 . obtain⟨y,q,S,rfl,Y,k⟩:=h;refine⟨_,((ak (pv 0) rfl)⁻¹),?_⟩;exact⟨_,rfl,gm Y.ob G.am G.aW gf k⟩
def xU (G:Gs K mg a d):FnOk P w K mg base CX0 6 a.eX d.eX ["self","size","rounds","names","faults"] (CF w a):=by
 have Si:FnOk P w K mg base CX0 1 _ _ _ _:=xZ G;have Rt:FnOk P w K mg base CX0 1 _ _ _ _:=(Fz G).imp λvs H Q E=>JL
 have Q6:FnOk P w K mg base CX0 4 _ _ _ _:=Cl G;have Ra:FnOk P w K mg base CX0 4 _ _ _ _:=CP G;refine G.ur.ok rX (λvs H Q E h=>?_) (λcdv A' outer s' H vs Q E hr h=>?_)
 . obtain⟨y,dx,ft,s,R,n,fs,rfl,_⟩:=h;rfl
 . obtain⟨y,dx,ft,s,R,n,fs,rfl,hx,hf,k⟩:=h;have hu:=bP hr;refine⟨_,((bh (pv 0) (pv 1) rfl)∪((bh (pv 0) (ax Si (hr.mono (by decide)) (by rfl) G.mB G.iT.kp G.m7 .nil aq ((pv 2)∣((pv 4)∣aa))) rfl)∪((bh (pv 0) (b5 eB (by rfl) G.k8 gS ((pv 4)∣aa)) rfl)∪((bh (pv 0) (sk G.GJ Rt (hr.mono (by decide)) (by rfl) G.GP G.rO .nil aq) rfl)∪((bh (pv 0) (kB G.Io Q6 (hr.mono (by decide)) (by rfl) G.Ix G.ut .nil aq ((ak (pv 0) rfl)∣((pv 1)∣((pv 2)∣((pv 3)∣((pv 4)∣aa)))))) rfl)∪((bh (pv 0) (kB G.G6 Ra (hr.mono (by decide)) (by rfl) G.GO G.rS .nil aq ((ak (pv 0) rfl)∣((pv 1)∣((pv 2)∣((pv 4)∣aa))))) rfl)∪((bh (pv 0) (bD ku ag (pv 4) (by with_unfolding_all rfl)) rfl)∪((bh (pv 0) (bD ku ag (pv 4) (by with_unfolding_all rfl)) rfl)∪((bh (pv 0) (bD ku ag (pv 4) (by with_unfolding_all rfl)) rfl)∪((bh (pv 0) (@bo _ _ _ _ (ag∣(ag∣aa))) rfl)∪((bh (pv 0) (@bo _ _ _ _ (cX∣(cX∣aa))) rfl)∪(@ao _ _ _ (bh (pv 0) (@bo _ _ _ _ aa) rfl))))))))))))),?_⟩;refine⟨_,rfl,_,rfl,y,a.bf,dx,[],rfl,hx,G.am,G.nC,by decide,?_⟩;have fy:ft≠y:=λz=>by rw[z,hx]at hf;cases hf
   refine⟨_,rfl,_,rfl,R,ft,fs,rfl,by rw[ac fy];exact hf,_,rfl,y,a.bf,dx,_,rfl,a8,G.am,G.lm,by show 1 < 1000;decide,?_⟩;rw[eY];refine⟨_,rfl,ft,_,rfl,.inr ⟨SqT.of (by rw[ac fy];exact hf),?_⟩⟩;refine⟨_,rfl,y,a.bf,dx,_,rfl,a8,G.am,G.qr,by show 2 < 1000;decide,?_⟩;rw[eY];generalize hF3:bj "faults" (.ref ft) (bj "rounds" (.int (if fs.contains "round" then 1 else R)) (bj "size" (.int s) []))=F3;have hl3:F3.length=3:=by rw[<-hF3];rfl
   have kp3:Kp [y] H (upd H y (.ins a.bf dx F3)):=Kp.one;have hx3:upd H y (.ins a.bf dx F3) y=f' (.ins a.bf dx F3):=a8;have hf3:upd H y (.ins a.bf dx F3) ft=f' (.tup (fs.map V.str)):=by rw[ac fy];exact hf
   generalize upd H y (.ins a.bf dx F3)=H3 at kp3 hx3 hf3 |-;have up:∀ {Hi:Hp} {F:List (Str × V)} {c:D'} {o:HO},c≠y->Hi c=f' o->upd Hi y (.ins a.bf dx F) c=f' o:=λn e=>by rw[ac n];exact e
   have nn:∀ {Hi:Hp} {F:List (Str × V)} {c:D'},Hi y=f' (.ins a.bf dx F)->Hi c=LJ->c≠y:=λe h z=>by rw[z,e]at h;cases h
   intro x dxs nx ndx nex;refine⟨x,dxs,rfl,a8,λsa H4 hsx fsa S4 kp4=>⟨rfl,?_⟩⟩;have e4:=mf nx ndx kp4;have fs4:∀ c,sa.own c->H3 c=LJ:=λc hc=>by
    by_cases z:c=x
    . rw[z];exact nx
    . exact(up1 (up1 (fsa c hc z)).2).2
   subst hsx;refine⟨_,rfl,y,a.bf,dx,F3,rfl,e4 _ _ hx3,G.am,G.aW,by rw[hl3];decide,?_⟩;clear kp4 nx ndx nex fsa;have S5:StT w a.aG (upd H4 y (.ins a.bf dx (bj "shelf" (.ref sa.x) F3))) sa Mem.zero λ_=>[]:=S4.keep (λc o hc e=>up (nn hx3 (fs4 c hc)) e) λb vs e=>up (λz=>by rw[z,e4 _ _ hx3]at e;cases e) e
   have kp5:Kp [y] H3 (upd H4 y (.ins a.bf dx (bj "shelf" (.ref sa.x) F3))):=λc o n e=>up (λz=>n (LM.mpr z)) (e4 _ _ e)
   have hx5:upd H4 y (.ins a.bf dx (bj "shelf" (.ref sa.x) F3)) y=f' (.ins a.bf dx (bj "shelf" (.ref sa.x) F3)):=a8;have hf5:upd H4 y (.ins a.bf dx (bj "shelf" (.ref sa.x) F3)) ft=f' (.tup (fs.map V.str)):=up fy (e4 _ _ hf3);generalize upd H4 y (.ins a.bf dx (bj "shelf" (.ref sa.x) F3))=H5 at S5 kp5 hx5 hf5 |-;clear S4 e4;refine⟨_,rfl,gm ⟨dx,hx5⟩ G.am G.aW (v:=.ref sa.x) (by rw[a9,SF rfl]) ⟨_,rfl,_,rfl,_,rfl,_,rfl,?_⟩⟩;intro h dh nh ndh neh;refine⟨h,dh,sa.x,ft,s,R,n,fs,rfl,a8,?_,λz H6 hz g1 g2 g3 hn6 kp6=>⟨rfl,?_⟩⟩
   . rw[ac (ae hf5 nh),ac (ae hf5 ndh)];exact hf5
   have e6:=mf nh ndh kp6;have fz:∀ c,z.own c->H5 c=LJ:=λc h2=>by
    rcases h2 with y|y|y|y
    . rw[y,hz];exact nh
    . rw[y];exact(up1 (up1 g1).2).2
    . rw[y];exact(up1 (up1 g2).2).2
    . rw[y];exact(up1 (up1 g3).2).2
   subst hz;refine⟨_,rfl,y,a.bf,dx,_,rfl,e6 _ _ hx5,G.am,G.fR,?_,?_⟩
   . rw[<-hF3];show 4 < 1000;decide
   generalize hF7:bj "hand" (.ref z.h) (bj "shelf" (.ref sa.x) F3)=F7;have S7:StT w a.aG (upd H6 y (.ins a.bf dx F7)) sa Mem.zero λ_=>[]:=(S5.same e6).keep (λc o hc e=>up (nn hx3 (fs4 c hc)) e) λb vs e=>up (λz=>by rw[z,e6 _ _ hx5]at e;cases e) e
   have hn7:Hn a.dc a.ce (upd H6 y (.ins a.bf dx F7)) z sa.x ⟨s,if fs.contains "round" then 1 else R,fs.contains "counter"⟩ n []:=hn6.keep λc o hc e=>up (nn hx5 (fz c hc)) e
   have kp7:Kp [y] H5 (upd H6 y (.ins a.bf dx F7)):=λc o n e=>up (λz=>n (LM.mpr z)) (e6 _ _ e)
   have hx7:upd H6 y (.ins a.bf dx F7) y=f' (.ins a.bf dx F7):=a8;have hf7:upd H6 y (.ins a.bf dx F7) ft=f' (.tup (fs.map V.str)):=up fy (e6 _ _ hf5);generalize upd H6 y (.ins a.bf dx F7)=H7 at S7 hn7 kp7 hx7 hf7 |-;clear kp6 nh ndh neh g1 g2 g3 S5 hn6 e6;refine⟨_,rfl,gm ⟨dx,hx7⟩ G.am G.aW (v:=.ref sa.x) (by rw[<-hF7,a9,SG (by decide +kernel),a9,SF rfl]) ⟨_,rfl,_,rfl,_,rfl,?_⟩⟩;intro h dh nh ndh neh;refine⟨h,dh,sa.x,ft,s,R,fs,rfl,a8,?_,λzt H8 hz g1 g2 g3 tn8 kp8=>⟨rfl,?_⟩⟩
   . rw[ac (ae hf7 nh),ac (ae hf7 ndh)];exact hf7
   have e8:=mf nh ndh kp8;have fzt:∀ c,zt.own c->H7 c=LJ:=λc h2=>by
    rcases h2 with y|y|y|y
    . rw[y,hz];exact nh
    . rw[y];exact(up1 (up1 g1).2).2
    . rw[y];exact(up1 (up1 g2).2).2
    . rw[y];exact(up1 (up1 g3).2).2
   subst hz;have dz:∀ c,z.own c->¬ zt.own c:=λc h1 h2=>by
    obtain⟨o,e,_⟩:=hn7.there h1;rw[fzt c h2]at e;cases e
   refine⟨_,rfl,y,a.bf,dx,_,rfl,e8 _ _ hx7,G.am,G.dY,?_,?_⟩
   . rw[<-hF7,<-hF3];show 5 < 1000;decide
   have hf9:∀ F,upd H8 y (.ins a.bf dx F) ft=f' (.tup (fs.map V.str)):=λF=>up fy (e8 _ _ hf7)
   refine⟨_,rfl,ft,_,rfl,.inr (SqT.of (hf9 _)),rfl,eG fs,?_⟩;refine⟨_,rfl,y,a.bf,dx,_,rfl,a8,G.am,G.gB,?_,?_⟩
   . rw[<-hF7,<-hF3];show 6 < 1000;decide
   rw[eY];refine⟨_,rfl,ft,_,rfl,.inr (SqT.of (hf9 _)),rfl,eG fs,?_⟩;refine⟨_,rfl,y,a.bf,dx,_,rfl,a8,G.am,G.gX,?_,?_⟩
   . rw[<-hF7,<-hF3];show 7 < 1000;decide
   rw[eY];refine⟨_,rfl,ft,_,rfl,.inr (SqT.of (hf9 _)),rfl,eG fs,?_⟩;refine⟨_,rfl,y,a.bf,dx,_,rfl,a8,G.am,G.iq,?_,?_⟩
   . rw[<-hF7,<-hF3];show 8 < 1000;decide
   rw[eY];simp only[if_true,lS];generalize hF9:bj "look_sees" (V.bl (!fs.contains "look")) (bj "lie_fences" (V.bl (!fs.contains "lie")) (bj "bell_fences" (V.bl (!fs.contains "bell")) (bj "heart" (V.ref zt.h) F7)))=F9;have hl9:F9.length=9:=by rw[<-hF9,<-hF7,<-hF3];rfl
   have S9:StT w a.aG (upd H8 y (.ins a.bf dx F9)) sa Mem.zero λ_=>[]:=(S7.same e8).keep (λc o hc e=>up (nn hx3 (fs4 c hc)) e) λb vs e=>up (λz=>by rw[z,e8 _ _ hx7]at e;cases e) e
   have hn9:=(hn7.same e8).keep (H':=upd H8 y (.ins a.bf dx F9)) λc o hc e=>up (nn hx5 (fz c hc)) e
   have tn9:=Tn.keep (H':=upd H8 y (.ins a.bf dx F9)) tn8 λc o hc e=>up (nn hx7 (fzt c hc)) e
   have kp9:Kp [y] H7 (upd H8 y (.ins a.bf dx F9)):=λc o n e=>up (λz=>n (LM.mpr z)) (e8 _ _ e)
   have hx9:upd H8 y (.ins a.bf dx F9) y=f' (.ins a.bf dx F9):=a8;generalize upd H8 y (.ins a.bf dx F9)=H9 at S9 hn9 tn9 kp9 hx9 |-;clear kp8 nh ndh neh g1 g2 g3 S7 hn7 e8 tn8 hf9;have X9:X5 w a.dc a.ba a.ce a.aG H9 z zt sa ⟨s,if fs.contains "round" then 1 else R,fs.contains "counter"⟩ n Mem.zero (λ_=>[]) [] []:=⟨hn9,tn9,S9,dz⟩
   clear S9 hn9 tn9;have kpA:Kp [y] H H9:=kp3.trans (kp5.trans (kp7.trans kp9));have ow:∀ c,yG z zt sa c->H3 c=LJ:=λc hc=>by
    rcases hc with hc|hc|hc
    . exact gL kp5 (fz c hc) λx mx=>by rw[LM.mp mx,hx5];exact λz=>by cases z
    . exact gL (kp5.trans kp7) (fzt c hc) λx mx=>by rw[LM.mp mx,hx7];exact λz=>by cases z
    . exact fs4 c hc
   have owH:∀ c,yG z zt sa c->H c=LJ:=λc hc=>gL kp3 (ow c hc) λx mx=>by rw[LM.mp mx,hx3];exact λz=>by cases z
   have owy:¬ yG z zt sa y:=λhc=>by have:=ow y hc;rw[hx3]at this;cases this
   clear kp3 kp5 kp7 kp9 fs4 fz fzt;have stp:∀ {Hi:Hp} {Fi F':List (Str × V)} {l:D'} {o:HO},Hi y=f' (.ins a.bf dx Fi)->Hi l=LJ->(∀ c u,c≠y->Hi c=f' u->upd (upd Hi l o) y (.ins a.bf dx F') c=f' u)/\upd (upd Hi l o) y (.ins a.bf dx F') l=f' o/\upd (upd Hi l o) y (.ins a.bf dx F') y=f' (.ins a.bf dx F'):=λ{Hi Fi F' l o} hy hl =>
    ⟨λc u n e=>up n (by rw[ac (ae e hl)];exact e),up (nn hy hl) a8,a8⟩
   have kx:∀ {Hi Hj:Hp},(∀ c u,c≠y->Hi c=f' u->Hj c=f' u)->(∃ F,Hi y=f' (.ins a.bf dx F))->X5 w a.dc a.ba a.ce a.aG Hi z zt sa ⟨s,if fs.contains "round" then 1 else R,fs.contains "counter"⟩ n Mem.zero (λ_=>[]) [] []->X5 w a.dc a.ba a.ce a.aG Hj z zt sa ⟨s,if fs.contains "round" then 1 else R,fs.contains "counter"⟩ n Mem.zero (λ_=>[]) [] []:=λ{Hi Hj} kk ⟨F,hy⟩ X=>X.keep (λc o hc e=>kk c o (λy'=>owy (by rw[<-y'];exact hc)) e) λb vs e=>kk b _ (λy'=>by rw[y',hy]at e;cases e) e
   refine⟨l2,λsl hsl=>⟨_,rfl,y,a.bf,dx,F9,rfl,(by rw[ac (ae hx9 hsl)];exact hx9),G.am,G.aY,by rw[hl9];decide,?_⟩⟩;obtain⟨a1,a2,a3⟩:=stp (F':=bj "sleepers" (.ref sl) F9) (o:=.lst [V.str "up",V.str "up"]) hx9 hsl;generalize upd (upd H9 sl (.lst [V.str "up",V.str "up"])) y (.ins a.bf dx (bj "sleepers" (.ref sl) F9))=H10 at a1 a2 a3 |-;have X10:=kx a1 ⟨_,hx9⟩ X9;refine⟨l2,λqu hqu=>⟨_,rfl,y,a.bf,dx,_,rfl,(by rw[ac (ae a3 hqu)];exact a3),G.am,G.em,?_,?_⟩⟩
   . rw[<-hF9,<-hF7,<-hF3];show 10 < 1000;decide
   obtain⟨b1,b2,b3⟩:=stp (F':=bj "quiet" (.ref qu) (bj "sleepers" (.ref sl) F9)) (o:=.lst [V.bl l',V.bl l']) a3 hqu;generalize upd (upd H10 qu (.lst [V.bl l',V.bl l'])) y (.ins a.bf dx (bj "quiet" (.ref qu) (bj "sleepers" (.ref sl) F9)))=H11 at b1 b2 b3 |-;have X11:=kx b1 ⟨_,a3⟩ X10;have b4:=b1 _ _ (nn hx9 hsl) a2;refine⟨Gn,λhp hhp=>⟨_,rfl,y,a.bf,dx,_,rfl,(by rw[ac (ae b3 hhp)];exact b3),G.am,G.cg,?_,?_⟩⟩
   . rw[<-hF9,<-hF7,<-hF3];show 11 < 1000;decide
   obtain⟨c1,c2,c3⟩:=stp (F':=bj "happened" (.ref hp) (bj "quiet" (.ref qu) (bj "sleepers" (.ref sl) F9))) (o:=.lst []) b3 hhp;generalize upd (upd H11 hp (.lst [])) y (.ins a.bf dx (bj "happened" (.ref hp) (bj "quiet" (.ref qu) (bj "sleepers" (.ref sl) F9))))=H12 at c1 c2 c3 |-;have X12:=kx c1 ⟨_,b3⟩ X11;have c4:=c1 _ _ (nn hx9 hsl) b4;have c5:=c1 _ _ (nn a3 hqu) b2;have n1:sl≠qu:=ae a2 hqu;have n2:sl≠hp:=ae b4 hhp;have n3:qu≠hp:=ae b2 hhp;have kpB:Kp [y] H H12:=λc o n e=>c1 c o (λz=>n (LM.mpr z)) (b1 c o (λz=>n (LM.mpr z)) (a1 c o (λz=>n (LM.mpr z)) (kpA c o n e)))
   have nH:∀ {Hi:Hp} {c:D'},Kp [y] H Hi->(∃ F,Hi y=f' (.ins a.bf dx F))->Hi c=LJ->H c=LJ:=λkk ⟨F,e⟩ h=>gL kk h λx mx=>by rw[LM.mp mx,e];exact λz=>by cases z
   have kp10:Kp [y] H H10:=λc o n e=>a1 c o (λz=>n (LM.mpr z)) (kpA c o n e)
   have kp11:Kp [y] H H11:=λc o n e=>b1 c o (λz=>n (LM.mpr z)) (kp10 c o n e)
   refine k ⟨y,ft,sa,z,zt,sl,qu,hp⟩ H12 rfl (λc hc ny=>?_) ⟨⟨dx,?_⟩,X12,c4,c5,⟨[],c2,rfl⟩,λ_ h=>(by cases h),λc hc h5=>?_,⟨n1,n2,n3⟩,owy⟩ kpB
   . rcases hc with y'|hc|y'|y'|y'
     . exact absurd y' ny
     . exact owH c hc
     . rw[y'];exact nH kpA ⟨_,hx9⟩ hsl
     . rw[y'];exact nH kp10 ⟨_,a3⟩ hqu
     . rw[y'];exact nH kp11 ⟨_,b3⟩ hhp
   . rw[c3,<-hF9,<-hF7,<-hF3];rfl
   . rcases hc with y'|y'|y'
     . obtain⟨o,e,_⟩:=X9.there h5;rw[y',hsl]at e;cases e
     . obtain⟨o,e,_⟩:=X10.there h5;rw[y',hqu]at e;cases e
     . obtain⟨o,e,_⟩:=X11.there h5;rw[y',hhp]at e;cases e
def IZ (ws:List Int):List Dd:=ws.map Dd.ask++[.collect,.take]
def HD (ws ks:List Int):List Dd:=IZ ws++ks.flatMap λnm=>ws.map (Dd.answer nm)
def Lu:List Dd:=[.bell K',.bell l',.lie K',.lie l',.look K',.look l',.drain K',.drain l']
def KM (ws ks:List Int):List Dd:=HD ws ks++Lu
theorem kY {α β:Type}{R:α->β->Prop}:∀ {a:List α}{b:List β}{c:List α}{d:List β},Mn R a b->Mn R c d->Mn R (a++c) (b++d)
|_,_,_,_,.nil,h=>h
|_,_,_,_,.cons r t,h=>.cons r (kY t h)
section
variable {H H' H'':Hp}{D:D'}{xs es:List Dd}{ts zs:List V}
end
def Ab (w:LZ) (CH CR CS:D'):Sp:=λvs H Q _=>∃ (z:HA) (sa:SA) (p:RP) (n:Int) (aw:List Int) (m:Mem) (rs:Bool->List Wr),vs=[.ref z.h]/\Hn CH CR H z sa.x p n aw/\StT w CS H sa m rs/\p.Ok/\Q (.bl (decide (bC p m (rs K') .answered .handed≠0))) H
def Bk (w:LZ) (CT CR CS:D'):Sp:=λvs H Q _=>∃ (z:TA') (sa:SA) (p:RP) (ts:List Int) (m:Mem) (rs:Bool->List Wr),vs=[.ref z.h]/\Tn CT CR H z sa.x p ts/\StT w CS H sa m rs/\p.Ok/\Q (.bl (decide (bC p m (rs l') .asked .taken≠0))) H
def B8 (w:LZ) (ad:Ad):Sp:=λvs H Q _=>∃ (a:YA) (q:YP) (S:YS) (b:Bool),vs=[.ref a.y,.int (sdI b)]/\Yn w ad.bf ad.dc ad.ba ad.ce ad.aG H a q S/\q.Ok/\Q (.bl (swT q S b)) H
def Bh (w:LZ) (ad:Ad) (a:YA) (q:YP) (S':YS) (L:Nat) (dd:LO) (H:Hp) (Q:VK):Prop:=∀ (v:V) (H':Hp),Yn w ad.bf ad.dc ad.ba ad.ce ad.aG H' a q S'->YI q S' (L+2)->DV H' dd v->KO a.own H H'->Q v H'
structure Rdy (w:LZ) (ad:Ad) (H:Hp) (a:YA) (q:YP) (S:YS) (L:Nat):Prop where
 y:Yn w ad.bf ad.dc ad.ba ad.ce ad.aG H a q S
 ok:q.Ok
 i:YI q S L
 l:L < 90000
def CV (w:LZ) (ad:Ad):Sp:=λvs H Q _=>∃ (a:YA) (q:YP) (S:YS) (L:Nat) (wt:Int),vs=[.ref a.y,.int wt]/\Rdy w ad H a q S L/\bC q.p S.m (S.rs K') .asked .taken≠q.p.s/\fE q.n S.un≠LJ/\Bh w ad a q ((Dd.ask wt).run q S).2 L ((Dd.ask wt).run q S).1 H Q
def DR (w:LZ) (ad:Ad):Sp:=λvs H Q _=>∃ (a:YA) (q:YP) (S:YS) (L:Nat) (nm wt:Int),vs=[.ref a.y,.int nm,.int wt]/\Rdy w ad H a q S L/\S.tk.contains nm≠K'/\bC q.p S.m (S.rs l') .answered .handed≠q.p.s/\Bh w ad a q ((Dd.answer nm wt).run q S).2 L ((Dd.answer nm wt).run q S).1 H Q
def tS {own:D'->Prop}{H1 H2 H3:Hp}(h1:KO own H1 H2) (h2:KO own H2 H3):KO own H1 H3:=h1.trans h2 λ_ hc=>.inl hc
def qJ {own:D'->Prop}{H:Hp}{c:D'}{o:HO}(h:own c):KO own H (upd H c o):=KO.of_kp Kp.one λx hx=>by rw[LM.mp hx];exact h
def yy {p:RP}{m:Mem}{row:List Wr}{g:Bool}{a:Cn}{nm wt:Int}:(BW p m row g a nm wt).length=2:=by
 unfold BW;cases p.e<;>rfl
def jO {rs:Bool->List Wr}{L n:Nat}(h:∀ b,(rs b).length <= L) (b:Bool) {row:List Wr}(hr:row.length <= L+n):∀ c,(setR rs b row c).length <= L+n:=λc=>by
 by_cases e:c=b
 . subst e;rw[b8];exact hr
 . rw[eN e];have:=h c;omega
def Al (G:Gs K mg a d):FnOk P w K mg base CX0 6 a.aQ d.aQ ["self"] (Ab w a.dc a.ce a.aG):=by
 have Rm:FnOk P w K mg base CX0 3 _ _ _ _:=mr G;refine G.jD.ok jj (λvs H Q E h=>?_) (λcdv A' outer s' H vs Q E hr h=>?_)
 . obtain⟨z,sa,p,n,aw,m,rs,rfl,_⟩:=h;rfl
 . obtain⟨z,sa,p,n,aw,m,rs,rfl,hn,⟨M,r,S,R,Pr⟩,hp,k⟩:=h;refine⟨_,((bD sJ (aV (ak (pv 0) rfl) G.au G.fA Rm (hr.mono (by decide)) G.gi .nil aq) aj (av _))⁻¹),?_⟩;obtain⟨dx,hx⟩:=hn.ob;obtain⟨dr,hrb⟩:=hn.rb;refine⟨_,rfl,fld hx G.bU G.gp rL ⟨z.rb,dr,_,rfl,hrb,mK,z.rb,sa,K',"answer","answered","handed",p,M,r,rdC m (rs K') .answered,rdC m (rs K') .handed,rfl,⟨dr,hrb⟩,S,hp,by decide +kernel,by decide +kernel,cF R (Pr K') .answered,cF R (Pr K') .handed,rfl,?_⟩⟩;have e:(!decide (V.int ((rdC m (rs K') .answered - rdC m (rs K') .handed) % (p.s * p.R))=V.int 0))=decide (bC p m (rs K') .answered .handed≠0):=by
    rw[Nk,NL,decide_eq_false_iff_not,SH];exact not_congr ⟨λh=>by injection h,λh=>congrArg V.int h⟩
   rw[e];exact k
def BA (G:Gs K mg a d):FnOk P w K mg base CX0 6 a.aO d.aO ["self"] (Bk w a.ba a.ce a.aG):=by
 have Rm:FnOk P w K mg base CX0 3 _ _ _ _:=mr G;refine G.ja.ok iw (λvs H Q E h=>?_) (λcdv A' outer s' H vs Q E hr h=>?_)
 . obtain⟨z,sa,p,ts,m,rs,rfl,_⟩:=h;rfl
 . obtain⟨z,sa,p,ts,m,rs,rfl,hn,⟨M,r,S,R,Pr⟩,hp,k⟩:=h;refine⟨_,((bD sJ (aV (ak (pv 0) rfl) G.au G.fA Rm (hr.mono (by decide)) G.gi .nil aq) aj (av _))⁻¹),?_⟩;obtain⟨dx,hx⟩:=hn.ob;obtain⟨dr,hra⟩:=hn.ra;refine⟨_,rfl,fld hx G.bZ G.ji Ax ⟨z.ra,dr,_,rfl,hra,mK,z.ra,sa,l',"ask","asked","taken",p,M,r,rdC m (rs l') .asked,rdC m (rs l') .taken,rfl,⟨dr,hra⟩,S,hp,by decide +kernel,by decide +kernel,cF R (Pr l') .asked,cF R (Pr l') .taken,rfl,?_⟩⟩;have e:(!decide (V.int ((rdC m (rs l') .asked - rdC m (rs l') .taken) % (p.s * p.R))=V.int 0))=decide (bC p m (rs l') .asked .taken≠0):=by
    rw[Nk,NL,decide_eq_false_iff_not,SH];exact not_congr ⟨λh=>by injection h,λh=>congrArg V.int h⟩
   rw[e];exact k
def BC (G:Gs K mg a d):FnOk P w K mg base CX0 7 a.aR d.aR ["self","side"] (B8 w a):=by
 have Q9:FnOk P w K mg base CX0 6 _ _ _ _:=Al G;have Rb:FnOk P w K mg base CX0 6 _ _ _ _:=BA G;refine G.jC.ok j8 (λvs H Q E h=>?_) (λcdv A' outer s' H vs Q E hr h=>?_)
 . obtain⟨y,q,S,b,rfl,_⟩:=h;rfl
 . obtain⟨y,q,S,b,rfl,Y,qo,k⟩:=h;refine⟨_,((gc (ap cw (pv 1) aj (av _)) (aV (ak (pv 0) rfl) G.bU G.iW Q9 (hr.mono (by decide)) G.jG .nil aq) (aV (ak (pv 0) rfl) G.bZ G.im Rb (hr.mono (by decide)) G.jq .nil aq))⁻¹),?_⟩;refine⟨_,rfl,rfl,_,rfl,?_⟩;cases b with
  |false =>
    refine i9 (by decide +kernel) ?_;exact⟨_,rfl,gm Y.ob G.am G.fR sX (fc Y.x.hn.ob Cs ⟨y.z,y.sa,q.p,_,S.un,S.m,S.rs,rfl,Y.x.hn,Y.x.st,qo.ok,k⟩)⟩
  |true =>
    refine cz (by decide +kernel) ?_;exact⟨_,rfl,gm Y.ob G.am G.dY om (fc Y.x.tn.ob DX ⟨y.zt,y.sa,q.p,S.tk,S.m,S.rs,rfl,Y.x.tn,Y.x.st,qo.ok,k⟩)⟩
def Dk (G:Gs K mg a d):FnOk P w K mg base CX0 9 a.dJ d.dJ ["self","worth"] (CV w a):=by
 have Ss:FnOk P w K mg base (CXv P w) 8 _ _ _ _:=(Jd G).imp λvs H Q E=>Lg
 refine G.sH.ok ln (λvs H Q E h=>?_) (λcdv A' outer s' H vs Q E hr h=>?_)
 . obtain⟨y,q,S,L,wt,rfl,_⟩:=h;rfl
 . obtain⟨y,q,S,L,wt,rfl,Rd,hc,hl,k⟩:=h;have Y:=Rd.y;have ll:=Rd.l;have ul:=Rd.i.und.len (by have:=Rd.ok.n9;omega);have rl:=Rd.i.len;have hsl:=Rd.i.hl;refine⟨_,((@aH _ _ 2 _ _ _ _ ln.nd rfl (Mx rfl) (ar (ak (pv 0) rfl) G.bU G.vZ Ss (hr.mono (by decide)) G.zH .nil Ar ((pv 1)∣aa)) (by rfl) (by first|exact .inl rfl|exact .inr rfl|assumption))∪((@aK _ _ _ _ (@mv _ _ _ _ _ _ _ _ _ _ _ _ MS Nt PySem.F.type_list_append fC (ak (pv 0) rfl) ((@bO _ _ _ _ _ (ag∣((pv 2)∣((pv 1)∣aa))))∣aa) (by rfl) (by rfl) (by rfl) (by rfl) (by rfl)) (by rfl))∪((@pV _ _ _ _ _ _ cX (qc (ak (pv 0) rfl) aj jt) (by rfl) (by rfl) (by rfl))∪((pv 2)⁻¹)))),?_⟩;cases hle:fE q.n S.un with
  |none=>exact absurd hle hl
  |some nm =>
    refine⟨_,rfl,gm Y.ob G.am G.fR sX (fc Y.x.hn.ob HX ⟨_,rfl,y.z,y.sa,q.p,q.n,S.un,S.m,S.rs,wt,rfl,Y.x.hn,Y.x.st,Rd.ok.ok,Rd.ok.n9,by omega,by have:=rl K';omega,?_⟩)⟩;rw[SG hc,hle];intro H1 hn1 st1 kp1;have Y1:=Y.parts (Y.x.hand hn1 st1 kp1) kp1 rG;obtain⟨ts,h1,h2⟩:=Y1.hp;have tl:=iL h2;refine⟨_,rfl,gm Y1.ob G.am G.cg jm ⟨.inl ⟨rfl,_,SqL.of h1⟩,_,rfl,_,rfl,l3,λt ht=>?_⟩⟩;have e2:=af (o:=.tup [V.str "asked",V.int nm,V.int wt]) ht;have v2:upd H1 t (.tup [V.str "asked",V.int nm,V.int wt]) t=f' (.tup [V.str "asked",V.int nm,V.int wt]):=a8;generalize upd H1 t (.tup [V.str "asked",V.int nm,V.int wt])=H2 at e2 v2 |-;have Y2:=Y1.same e2;refine⟨y.hp,ts,_,rfl,rfl,e2 _ _ h1,LR (show _ < 100000 by rw[tl];show S.hs.length < _;omega) (by decide),?_⟩;have Y3:=Y2.setHp (e2 _ _ h1) (x:=yQ "asked" (.int nm) (.int wt)) (v:=.ref t) ⟨t,_,rfl,v2,_,_,rfl,rfl,_,_,rfl,rfl,_,_,rfl,rfl,rfl⟩ rfl;refine⟨_,rfl,gm Y3.ob G.am G.em oi ⟨y.qu,_,_,_,rfl,rfl,Y3.qu,rfl,?_⟩⟩;have Y4:=Y3.setQu K' K' (ys:=[.bl K',.bl (S.qt l')]) rfl;have hrun:(Dd.ask wt).run q S=(.int nm,{ S with rs:=setR S.rs K' (S.rs K'++BW q.p S.m (S.rs K') K' .asked nm wt),un:=S.un++[nm],qt:=setR S.qt K' K',hs:=S.hs++[yQ "asked" (.int nm) (.int wt)] }):=by
     show (match fE q.n S.un with|some nm=>_|none=>_)=_;rw[hle]
    rw[hrun]at k;refine⟨_,rfl,k (.int nm) _ Y4 ⟨Rd.i.und.snoc (qT hle) (oE hle),Rd.i.tkd,jO rl K' (by rw[LU,yy];have:=rl K';omega),by show (S.hs++[_]).length <= _;rw[LU];show _+1 <= _;omega⟩ rfl ?_⟩;exact tS (KO.of_kp kp1 λc hc=>.inr (.inl (rG c hc))) (tS (KO.of_same e2) (tS (qJ (.inr (.inr (.inr (.inr rfl))))) (qJ (.inr (.inr (.inr (.inl rfl)))))))
def DQ (G:Gs K mg a d):FnOk P w K mg base CX0 9 a.bL d.bL ["self","name","worth"] (DR w a):=by
 have Sv:FnOk P w K mg base (CXv P w) 8 _ _ _ _:=(Ap G).imp λvs H Q E=>GW
 refine G.nY.ok mR (λvs H Q E h=>?_) (λcdv A' outer s' H vs Q E hr h=>?_)
 . obtain⟨y,q,S,L,nm,wt,rfl,_⟩:=h;rfl
 . obtain⟨y,q,S,L,nm,wt,rfl,Rd,h0,hc,k⟩:=h;have Y:=Rd.y;have ll:=Rd.l;have rl:=Rd.i.len;have hsl:=Rd.i.hl;refine⟨_,((@aK _ _ _ _ (ar (ak (pv 0) rfl) G.bZ G.pw Sv (hr.mono (by decide)) G.qp .nil Ar ((pv 1)∣((pv 2)∣aa))) (by rfl))∪((@aK _ _ _ _ (@mv _ _ _ _ _ _ _ _ _ _ _ _ MS Nt PySem.F.type_list_append fC (ak (pv 0) rfl) ((@bO _ _ _ _ _ (ag∣((pv 1)∣((pv 2)∣aa))))∣aa) (by rfl) (by rfl) (by rfl) (by rfl) (by rfl)) (by rfl))∪(@ao _ _ _ (@pV _ _ _ _ _ _ cX (qc (ak (pv 0) rfl) aj jt) (by rfl) (by rfl) (by rfl))))),?_⟩;refine⟨_,rfl,gm Y.ob G.am G.dY om (fc Y.x.tn.ob AN ⟨_,rfl,_,rfl,y.zt,y.sa,q.p,S.tk,S.m,S.rs,nm,wt,rfl,Y.x.tn,Y.x.st,Rd.ok.ok,by have:=rl l';omega,λx hx=>Rd.i.tkd.2 x hx,?_⟩)⟩;rw[SG h0,SG hc];intro H1 tn1 st1 kp1;have Y1:=Y.parts (Y.x.heart tn1 st1 kp1) kp1 rE;obtain⟨ts,h1,h2⟩:=Y1.hp;have tl:=iL h2;refine⟨_,rfl,gm Y1.ob G.am G.cg jm ⟨.inl ⟨rfl,_,SqL.of h1⟩,_,rfl,_,rfl,l3,λt ht=>?_⟩⟩;have e2:=af (o:=.tup [V.str "answered",V.int nm,V.int wt]) ht;have v2:upd H1 t (.tup [V.str "answered",V.int nm,V.int wt]) t=f' (.tup [V.str "answered",V.int nm,V.int wt]):=a8;generalize upd H1 t (.tup [V.str "answered",V.int nm,V.int wt])=H2 at e2 v2 |-;have Y2:=Y1.same e2;refine⟨y.hp,ts,_,rfl,rfl,e2 _ _ h1,LR (show _ < 100000 by rw[tl];show S.hs.length < _;omega) (by decide),?_⟩;have Y3:=Y2.setHp (e2 _ _ h1) (x:=yQ "answered" (.int nm) (.int wt)) (v:=.ref t) ⟨t,_,rfl,v2,_,_,rfl,rfl,_,_,rfl,rfl,_,_,rfl,rfl,rfl⟩ rfl;refine⟨_,rfl,gm Y3.ob G.am G.em oi ⟨y.qu,_,_,_,rfl,rfl,Y3.qu,rfl,?_⟩⟩;have Y4:=Y3.setQu l' K' (ys:=[.bl (S.qt K'),.bl K']) rfl;refine k .non _ Y4 ⟨Rd.i.und,Rd.i.tkd.filter,jO rl l' (by rw[LU,yy];have:=rl l';omega),by show (S.hs++[_]).length <= _;rw[LU];show _+1 <= _;omega⟩ rfl ?_;exact tS (KO.of_kp kp1 λc hc=>.inr (.inl (rE c hc))) (tS (KO.of_same e2) (tS (qJ (.inr (.inr (.inr (.inr rfl))))) (qJ (.inr (.inr (.inr (.inl rfl)))))))
def G1 (w:LZ) (ad:Ad):Sp:=λvs H Q _=>∃ (a:YA) (q:YP) (S:YS) (wd:Str) (tv:V),vs=[.ref a.y,.str wd,tv]/\Yn w ad.bf ad.dc ad.ba ad.ce ad.aG H a q S/\S.hs.length < 99000 /\
 ((tv=.non/\Q .non H)\/∃ (t:D') (v1 v2:V) (d1 d2:LO),tv=.ref t/\H t=f' (.tup [v1,v2])/\DV H d1 v1/\DV H d2 v2/\scD d1=l'/\scD d2=l'/\∀ H',Yn w ad.bf ad.dc ad.ba ad.ce ad.aG H' a q { S with hs:=S.hs++[yQ wd d1 d2] }->KO a.own H H'->H' t=f' (.tup [v1,v2])->Q (.ref t) H')
def G9 (G:Gs K mg a d):FnOk P w K mg base CX0 1 a.bg d.bg ["self","word","told"] (G1 w a):=by
 refine G.lF.ok l8 (λvs H Q E h=>?_) (λcdv A' outer s' H vs Q E hr h=>?_)
 . obtain⟨y,q,S,wd,tv,rfl,_⟩:=h;rfl
 . obtain⟨y,q,S,wd,tv,rfl,Y,hsl,k⟩:=h;refine⟨_,(@gC _ _ _ _ _ (aC (ap oN (pv 2) eE (av _)) (@ao _ _ _ (@aK _ _ _ _ (@mv _ _ _ _ _ _ _ _ _ _ _ _ MS Nt PySem.F.type_list_append fC (ak (pv 0) rfl) ((@bO _ _ _ _ _ ((pv 1)∣((@aB _ _ _ _ _ _ _ aD (pv 2) aj (λ_ _=>rfl))∣((@aB _ _ _ _ _ _ _ aD (pv 2) aj (λ_ _=>rfl))∣aa))))∣aa) (by rfl) (by rfl) (by rfl) (by rfl) (by rfl)) (by rfl))) al)
    ((pv 2)⁻¹)),?_⟩
   rcases k with⟨rfl,k⟩|⟨t,v1,v2,d1,d2,rfl,ht,dv1,dv2,s1,s2,k⟩
   . refine⟨λσ' H'=>H'=H/\σ'=[f' (.ref y.y),f' (.str wd),f' .non],?_,?_⟩
     . exact⟨_,rfl,rfl,_,rfl,cW ⟨rfl,rfl⟩⟩
     . rintro σ' H' ⟨rfl,rfl⟩;exact⟨_,rfl,k⟩
   . refine⟨λσ' H'=>σ'=[f' (.ref y.y),f' (.str wd),f' (.ref t)]/\Yn w a.bf a.dc a.ba a.ce a.aG H' y q { S with hs:=S.hs++[yQ wd d1 d2] }/\KO y.own H H'/\H' t=f' (.tup [v1,v2]),?_,?_⟩
     . refine⟨_,rfl,rfl,_,rfl,fP ?_⟩;obtain⟨ts,h1,h2⟩:=Y.hp;have tl:=iL h2;refine⟨_,rfl,gm Y.ob G.am G.cg jm ⟨.inl ⟨rfl,_,SqL.of h1⟩,_,rfl,_,rfl,t,_,_,_,rfl,rfl,SqT.of ht,rfl,_,rfl,t,_,_,_,rfl,rfl,SqT.of ht,rfl,l3,λt2 ht2=>?_⟩⟩;have e2:=af (o:=.tup [V.str wd,v1,v2]) ht2;have w2:upd H t2 (.tup [V.str wd,v1,v2]) t2=f' (.tup [V.str wd,v1,v2]):=a8;generalize upd H t2 (.tup [V.str wd,v1,v2])=H2 at e2 w2 |-;have Y2:=Y.same e2;refine⟨y.hp,ts,_,rfl,rfl,e2 _ _ h1,LR (show _ < 100000 by rw[tl];omega) (by decide),rfl,?_,?_,?_⟩
       . exact Y2.setHp (e2 _ _ h1) (x:=yQ wd d1 d2) (v:=.ref t2) ⟨t2,_,rfl,w2,_,_,rfl,rfl,_,_,rfl,DV.sc s1 dv1,_,_,rfl,DV.sc s2 dv2,rfl⟩ (by show (l' && (scD d1 && (scD d2 && l')))=l';rw[s1,s2];rfl)
       . exact tS (KO.of_same e2) (qJ (.inr (.inr (.inr (.inr rfl)))))
       . rw[ac (λz=>by rw[z,h1]at ht;cases ht)];exact e2 _ _ ht
     . rintro σ' H' ⟨rfl,Y',ko,ht'⟩;exact⟨_,rfl,k H' Y' ko ht'⟩
theorem MemR.putAllY {H:Hp}:∀ {row:List Wr}{es M:List (LO × V)}{m:Mem},MemR H M m->Mn (WrR H) row es->MemR H (mj M es) (m.putAllY row)
|_,_,_,_,R,.nil=>R
|_,_,_,_,R,.cons hx t=>by
  have h:=MemR.putAllY (R.put hx) t;exact h
def AV (w:LZ) (C:D'):Sp:=λvs H Q _=>∃ (sa:SA) (m:Mem) (rs:Bool->List Wr) (b:Bool),vs=[.ref sa.x,.int (sdI b)]/\StT w C H sa m rs/\(rs b).length < 99000 /\
 ∀ H',StT w C H' sa (m.putAllY (rs b)) (setR rs b [])->Kp [sa.l b,sa.hd] H H'->Q .non H'
def ES {w:LZ}{C:D'}{vs:List V}{H:Hp}{Q:VK}{E:XK}(h:AV w C vs H Q E):xw w C vs H Q E:=by
 obtain⟨sa,m,rs,b,rfl,⟨M,r,S,R,P⟩,hl,k⟩:=h;have hl':=b9 (P b);have hM:=StT.small S R;refine⟨sa.x,sa.hd,sa.rl,sa.l,M,r,b,rfl,S,by omega,λH' S' kp=>k H' ?_ kp⟩;have ht:∀ c vs,H c=f' (.tup vs)->H' c=f' (.tup vs):=λc vs e=>kp c _ (λmm=>by
  rcases Mf.mp mm with y|y
  . exact S.noT (b:=b) e (LM.mpr y)
  . obtain⟨ee,e'⟩:=S.me.there;rw[LM.mp y,e']at e;cases e) e
 refine⟨_,_,S',(MemR.putAllY R (P b)).keep ht,λc=>?_⟩;by_cases e:c=b
 . subst e;rw[b8,b8];exact .nil
 . rw[eN e,eN e];exact Paired.mapP (P c) λ_ _ q=>q.keep ht
def CD (w:LZ) (C:D'):Sp:=λvs H Q _=>∃ (sa:SA) (m:Mem) (rs:Bool->List Wr) (b:Bool) (k:Cn),vs=[.ref sa.x,.int (sdI b),.str k.key]/\StT w C H sa m rs/\Q (.int (rdC m (rs b) k)) H
def K7 {w:LZ}{C:D'}{vs:List V}{H:Hp}{Q:VK}{E:XK}(h:CD w C vs H Q E):A6 w C vs H Q E:=by
 obtain⟨sa,m,rs,b,k,rfl,⟨M,r,S,R,P⟩,q⟩:=h;refine⟨sa.x,sa.hd,sa.rl,sa.l,M,r,b,.str k.key,.str k.key,rfl,S,kS (zB k),?_⟩;rw[cF R (P b) k];exact q
def jN (b:Bool):Nat:=if b then 1 else 0
def zh {b:Bool}:ixN 2 (sdI b)=f' (jN b):=by cases b<;>rfl
def uQ {f:Bool->Bd}{b:Bool}{x:Bd}:[V.str (f K').key,V.str (f l').key].set (jN b) (.str x.key)=[V.str (setR f b x K').key,V.str (setR f b x l').key]:=by cases b<;>rfl
def HQ {f:Bool->Bool}{b x:Bool}:[V.bl (f K'),V.bl (f l')].set (jN b) (.bl x)=[V.bl (setR f b x K'),V.bl (setR f b x l')]:=by cases b<;>rfl
def xS {b:Bool}:atI [V.str "hand sleeps",V.str "heart sleeps"] (sdI b)=f' (.str (mF b).key):=by cases b<;>rfl
def xH (b:Bool):(1:Int) - sdI b=sdI (!b):=by cases b<;>rfl
def Ca (w:LZ) (ad:Ad):Sp:=λvs H Q _=>∃ (a:YA) (q:YP) (S:YS) (L:Nat) (b:Bool),vs=[.ref a.y,.int (sdI b)]/\Rdy w ad H a q S L/\Bh w ad a q ((Dd.bell b).run q S).2 L ((Dd.bell b).run q S).1 H Q
def Ef (w:LZ) (ad:Ad):Sp:=λvs H Q _=>∃ (a:YA) (q:YP) (S:YS) (L:Nat) (b:Bool),vs=[.ref a.y,.int (sdI b)]/\Rdy w ad H a q S L/\Bh w ad a q ((Dd.lie b).run q S).2 L ((Dd.lie b).run q S).1 H Q
def Ao (w:LZ) (ad:Ad):Sp:=λvs H Q _=>∃ (a:YA) (q:YP) (S:YS) (L:Nat) (b:Bool),vs=[.ref a.y,.int (sdI b)]/\Rdy w ad H a q S L/\Bh w ad a q ((Dd.look b).run q S).2 L ((Dd.look b).run q S).1 H Q
def Fm {ad:Ad}{H H':Hp}{y:YA}{q:YP}{S:YS}{b:Bool}(Y:Yn w ad.bf ad.dc ad.ba ad.ce ad.aG H y q S) (st:StT w ad.aG H' y.sa (S.m.putAllY (S.rs b)) (setR S.rs b [])) (kp:Kp [y.sa.l b,y.sa.hd] H H'):Yn w ad.bf ad.dc ad.ba ad.ce ad.aG H' y q (S.fence b):=Y.parts (Y.x.store st kp) kp vn
def B4 {ad:Ad}{H H':Hp}{y:YA}{q:YP}{S:YS}{b:Bool}{x:Wr}(Y:Yn w ad.bf ad.dc ad.ba ad.ce ad.aG H y q S) (st:StT w ad.aG H' y.sa S.m (setR S.rs b (S.rs b++[x]))) (kp:Kp [y.sa.l b] H H'):Yn w ad.bf ad.dc ad.ba ad.ce ad.aG H' y q (S.wr b x):=Y.parts (Y.x.store (b:=b) st (kp.mono λc hc=>by rw[LM.mp hc];exact LY)) kp λc hc=>vn (b:=b) c (by rw[LM.mp hc];exact LY)
def JE {y:YA}{H H':Hp}{b:Bool}(kp:Kp [y.sa.l b,y.sa.hd] H H'):KO y.own H H':=KO.of_kp kp λc hc=>.inr (.inl (vn c hc))
def Jg {y:YA}{H H':Hp}{b:Bool}(kp:Kp [y.sa.l b] H H'):KO y.own H H':=KO.of_kp kp λc hc=>.inr (.inl (vn (b:=b) c (by rw[LM.mp hc];exact LY)))
def Bu (G:Gs K mg a d):FnOk P w K mg base CX0 8 a.cL d.cL ["self","side"] (Ao w a):=by
 have RM:FnOk P w K mg base CX0 7 _ _ _ _:=BC G;have RB:FnOk P w K mg base CX0 1 _ _ _ _:=(ms G).imp λvs H Q E=>Br
 refine G.qj.ok oZ (λvs H Q E h=>?_) (λcdv A' outer s' H vs Q E hr h=>?_)
 . obtain⟨y,q,S,L,b,rfl,_⟩:=h;rfl
 . obtain⟨y,q,S,L,b,rfl,Rd,k⟩:=h;have Y:=Rd.y;have ll:=Rd.l;have rl:=Rd.i.len;have hu:=bP hr;refine⟨_,((aC ((o6 (bN (bi (ak (pv 0) rfl))) (kN (bN (bi (ar (pv 0) G.am G.iK RM (hr.mono (by decide)) G.jE .nil aq ((pv 1)∣aa))))))).pt ((@pV _ _ _ _ _ _ ag (qc (ak (pv 0) rfl) (pv 1) jt) (by rfl) (by rfl) (by rfl))∪(cX⁻¹)) al)∪((@aK _ _ _ _ (ar (ak (pv 0) rfl) G.aF G.d0 RB (hr.mono (by decide)) G.eD .nil aq ((pv 1)∣((@aB _ _ _ _ _ _ _ aD (bX (v:=.ref a.aI) (by rfl) G.gh rfl) (pv 1) (λ_ _=>rfl))∣(aj∣aa)))) (by rfl))∪((@pV _ _ _ _ _ _ ag (qc (ak (pv 0) rfl) (pv 1) jt) (by rfl) (by rfl) (by rfl))∪(cX⁻¹)))),?_⟩;have bad:¬ (q.fk=l'/\swT q S b=l')->Q (.bl K') (upd H y.sl (.lst [.str (setR S.bd b .asleep K').key,.str (setR S.bd b .asleep l').key])):=λhn=>by
    have k2:=k;rw[show (Dd.look b).run q S=_ from SG hn]at k2;exact k2 (.bl K') _ (Y.setSl b .asleep rfl) ⟨Rd.i.und,Rd.i.tkd,λc=>by have:=rl c;show (S.rs c).length <= _;omega,by have:=Rd.i.hl;show S.hs.length <= _;omega⟩ rfl (qJ (.inr (.inr (.inl rfl))))
   refine⟨_,rfl,gm Y.ob G.am G.iq GQ ⟨_,rfl,?_⟩⟩;cases hfk:q.fk with
  |false =>
    refine fP ?_;exact⟨_,rfl,gm Y.ob G.am G.aY cE ⟨_,rfl,y.sl,_,_,_,rfl,rfl,Y.sl,zh,by rw[show (V.str "asleep":V)=.str (Bd.key .asleep) from rfl,uQ];exact bad (by rw[hfk];exact λz=>by cases z.1)⟩⟩
  |true =>
    refine cW ?_;refine⟨_,rfl,fc Y.ob (iu (by decide +kernel)) ⟨_,rfl,y,q,S,b,rfl,Y,Rd.ok,_,rfl,?_⟩⟩;cases hw:swT q S b with
   |false =>
     refine fP ?_;exact⟨_,rfl,gm Y.ob G.am G.aY cE ⟨_,rfl,y.sl,_,_,_,rfl,rfl,Y.sl,zh,by rw[show (V.str "asleep":V)=.str (Bd.key .asleep) from rfl,uQ];exact bad (by rw[hw];exact λz=>by cases z.2)⟩⟩
   |true =>
     refine cW ?_;refine⟨_,rfl,gm Y.ob G.am G.aW gf (fc Y.x.st.ob (cK (by decide +kernel) (by decide +kernel)) ⟨_,rfl,_,rfl,a.aI,_,sdI b,.str (mF b).key,rfl,rfl,G.gk _,xS,y.sa,S.m,S.rs,b,.str (mF b).key,.int 0,.c (mF b) 0,rfl,Y.x.st,by have:=rl b;omega,kS (zB _),rfl,trivial,λH1 st1 kp1=>?_⟩)⟩;have Y1:=B4 Y st1 kp1;refine⟨_,rfl,gm Y1.ob G.am G.aY cE ⟨_,rfl,y.sl,_,_,_,rfl,rfl,Y1.sl,zh,?_⟩⟩;rw[show (V.str "up":V)=.str (Bd.key .up) from rfl,uQ];have Y2:=Y1.setSl b .up rfl;have k2:=k;rw[show (Dd.look b).run q S=_ from SF ⟨hfk,hw⟩]at k2;exact k2 (.bl l') _ Y2 ⟨Rd.i.und,Rd.i.tkd,jO rl b (by rw[LU];have:=rl b;show _+1 <= _;omega),by have:=Rd.i.hl;show S.hs.length <= _;omega⟩ rfl (tS (Jg kp1) (qJ (.inr (.inr (.inl rfl)))))
def DT (G:Gs K mg a d):FnOk P w K mg base CX0 8 a.dF d.dF ["self","side"] (Ef w a):=by
 have RB:FnOk P w K mg base CX0 1 _ _ _ _:=(ms G).imp λvs H Q E=>Br
 have Rw:FnOk P w K mg base CX0 2 _ _ _ _:=(wV G).imp λvs H Q E=>ES
 refine G.sm.ok qh (λvs H Q E h=>?_) (λcdv A' outer s' H vs Q E hr h=>?_)
 . obtain⟨y,q,S,L,b,rfl,_⟩:=h;rfl
 . obtain⟨y,q,S,L,b,rfl,Rd,k⟩:=h;have Y:=Rd.y;have ll:=Rd.l;have rl:=Rd.i.len;have hu:=bP hr;refine⟨_,((@aK _ _ _ _ (ar (ak (pv 0) rfl) G.aF G.d0 RB (hr.mono (by decide)) G.eD .nil aq ((pv 1)∣((@aB _ _ _ _ _ _ _ aD (bX (v:=.ref a.aI) (by rfl) G.gh rfl) (pv 1) (λ_ _=>rfl))∣(aj∣aa)))) (by rfl))∪(@gC _ _ _ _ _ (aC (bi (ak (pv 0) rfl)) (@ao _ _ _ (@aK _ _ _ _ (ar (ak (pv 0) rfl) G.aF G.lx Rw (hr.mono (by decide)) G.ml .nil aq ((pv 1)∣aa)) (by rfl))) al)
    (@ao _ _ _ (@pV _ _ _ _ _ _ ag (qc (ak (pv 0) rfl) (pv 1) jt) (by rfl) (by rfl) (by rfl))))),?_⟩
   refine⟨_,rfl,gm Y.ob G.am G.aW gf (fc Y.x.st.ob (cK (by decide +kernel) (by decide +kernel)) ⟨_,rfl,_,rfl,a.aI,_,sdI b,.str (mF b).key,rfl,rfl,G.gk _,xS,y.sa,S.m,S.rs,b,.str (mF b).key,.int 1,.c (mF b) 1,rfl,Y.x.st,by have:=rl b;omega,kS (zB _),rfl,trivial,λH1 st1 kp1=>?_⟩)⟩;have Y1:=B4 Y st1 kp1;have rl1:∀ c,((S.wr b (.c (mF b) 1)).rs c).length <= L+2:=jO rl b (by rw[LU];have:=rl b;show _+1 <= _;omega);refine⟨λσ' H'=>σ'=[f' (.ref y.y),f' (.int (sdI b))]/\KO y.own H H'/\∃ S2:YS,S2=(if q.fl then (S.wr b (.c (mF b) 1)).fence b else S.wr b (.c (mF b) 1))/\Yn w a.bf a.dc a.ba a.ce a.aG H' y q S2,?_,?_⟩
   . refine⟨_,rfl,gm Y1.ob G.am G.gX I9 ⟨_,rfl,?_⟩⟩;cases hfl:q.fl with
    |true =>
      refine fP ?_;refine⟨_,rfl,gm Y1.ob G.am G.aW gf (fc Y1.x.st.ob (cK (by decide +kernel) (by decide +kernel)) ⟨_,rfl,y.sa,_,_,b,rfl,Y1.x.st,by have:=rl1 b;omega,λH2 st2 kp2=>⟨rfl,tS (Jg kp1) (JE kp2),_,rfl,Fm Y1 st2 kp2⟩⟩)⟩
    |false=>exact cW ⟨rfl,Jg kp1,_,rfl,Y1⟩
   . rintro σ' H2 ⟨rfl,ko,S2,hS2,Y2⟩;refine⟨_,rfl,gm Y2.ob G.am G.aY cE ⟨_,rfl,y.sl,_,_,_,rfl,rfl,Y2.sl,zh,?_⟩⟩;rw[show (V.str "lies":V)=.str (Bd.key .lies) from rfl,uQ];have Y3:=Y2.setSl b .lies rfl;have k2:Bh w a y q { S2 with bd:=setR S2.bd b .lies } L .none H Q:=by rw[hS2];exact k
     have hun:S2.un=S.un/\S2.tk=S.tk/\S2.hs=S.hs/\∀ c,(S2.rs c).length <= L+2:=by
      rw[hS2];cases q.fl with
     |true =>
       refine⟨rfl,rfl,rfl,λc=>?_⟩;show (setR _ b [] c).length <= _;by_cases e:c=b
       . subst e;rw[b8];exact Ny _
       . rw[eN e];exact rl1 c
     |false=>exact⟨rfl,rfl,rfl,rl1⟩
     exact k2 .non _ Y3 ⟨by show Nms _ S2.un;rw[hun.1];exact Rd.i.und,by show Nms _ S2.tk;rw[hun.2.1];exact Rd.i.tkd,hun.2.2.2,by have:=Rd.i.hl;show S2.hs.length <= _;rw[hun.2.2.1];omega⟩ rfl (tS ko (qJ (.inr (.inr (.inl rfl)))))
def AD (G:Gs K mg a d):FnOk P w K mg base CX0 8 a.cJ d.cJ ["self","side"] (Ca w a):=by
 have RB:FnOk P w K mg base CX0 1 _ _ _ _:=(ms G).imp λvs H Q E=>Br
 have Rw:FnOk P w K mg base CX0 2 _ _ _ _:=(wV G).imp λvs H Q E=>ES
 have Ry:FnOk P w K mg base CX0 2 _ _ _ _:=(sO G).imp λvs H Q E=>K7
 refine G.qA.ok jV (λvs H Q E h=>?_) (λcdv A' outer s' H vs Q E hr h=>?_)
 . obtain⟨y,q,S,L,b,rfl,_⟩:=h;rfl
 . obtain⟨y,q,S,L,b,rfl,Rd,k⟩:=h;have Y:=Rd.y;have ll:=Rd.l;have rl:=Rd.i.len;have hu:=bP hr;refine⟨_,((@aH _ _ 2 _ _ _ _ jV.nd rfl (Mx rfl) (@gs _ _ _ _ _ _ _ _ Bw aj (pv 1)) (by rfl) (by first|exact .inl rfl|exact .inr rfl|assumption))∪(@gC _ _ _ _ _ (aC (bi (ak (pv 0) rfl)) (@ao _ _ _ (@aK _ _ _ _ (ar (ak (pv 0) rfl) G.aF G.lx Rw (hr.mono (by decide)) G.ml .nil aq ((pv 1)∣aa)) (by rfl))) al)
    ((@pV _ _ _ _ _ _ cX (qc (ak (pv 0) rfl) (pv 1) jt) (by rfl) (by rfl) (by rfl))∪((aC (ap (rH hr.units) (ar (ak (pv 0) rfl) G.aF G.cS Ry (hr.mono (by decide)) G.dR .nil aq ((pv 1)∣((@aB _ _ _ _ _ _ _ aD (bX (v:=.ref a.aI) (by rfl) G.gh rfl) (pv 2) (λ_ _=>rfl))∣aa))) aj (av _)) (cX⁻¹) al)∪(@gC _ _ _ _ _ (aC (ap cw (@aB _ _ _ _ _ _ _ aS (ak (pv 0) rfl) (pv 2) (λ_ _=>rfl)) ag (av _)) ((@pV _ _ _ _ _ _ ag (qc (ak (pv 0) rfl) (pv 2) jt) (by rfl) (by rfl) (by rfl))∪(@ao _ _ _ (@aK _ _ _ _ (ar (ak (pv 0) rfl) G.aF G.d0 RB (hr.mono (by decide)) G.eD .nil aq ((pv 2)∣((@aB _ _ _ _ _ _ _ aD (bX (v:=.ref a.aI) (by rfl) G.gh rfl) (pv 2) (λ_ _=>rfl))∣(aj∣aa)))) (by rfl)))) al)
    (cX⁻¹)))))),?_⟩
   refine⟨_,rfl,_,_,rfl,rfl,?_⟩;refine⟨λσ' H'=>σ'=[f' (.ref y.y),f' (.int (sdI b)),f' (.int (sdI (!b)))]/\KO y.own H H'/\∃ S1:YS,S1=(if q.fb then S.fence b else S)/\Yn w a.bf a.dc a.ba a.ce a.aG H' y q S1,?_,?_⟩
   . refine⟨_,rfl,gm Y.ob G.am G.gB GK ⟨_,rfl,?_⟩⟩;cases hfb:q.fb with
    |true =>
      refine fP ?_;refine⟨_,rfl,gm Y.ob G.am G.aW gf (fc Y.x.st.ob (cK (by decide +kernel) (by decide +kernel)) ⟨_,rfl,y.sa,_,_,b,rfl,Y.x.st,by have:=rl b;omega,λH2 st2 kp2=>⟨by rw[<-xH];rfl,JE kp2,_,rfl,Fm Y st2 kp2⟩⟩)⟩
    |false=>exact cW ⟨by rw[<-xH];rfl,KO.refl _ _,_,rfl,Y⟩
   . rintro σ' H1 ⟨rfl,ko1,S1,hS1,Y1⟩;refine⟨_,rfl,gm Y1.ob G.am G.em oi ⟨_,rfl,y.qu,_,_,jN b,rfl,rfl,Y1.qu,zh,?_⟩⟩;rw[HQ];have Y2:=Y1.setQu b l' rfl;have ko2:KO y.own H (upd H1 y.qu (.lst [V.bl (setR S1.qt b l' K'),V.bl (setR S1.qt b l' l')])):=tS ko1 (qJ (.inr (.inr (.inr (.inl rfl)))));generalize upd H1 y.qu (.lst [V.bl (setR S1.qt b l' K'),V.bl (setR S1.qt b l' l')])=H2 at Y2 ko2 |-;obtain⟨S2,hS2⟩:∃ S2:YS,S2={ S1 with qt:=setR S1.qt b l' }:=⟨_,rfl⟩
     rw[<-hS2]at Y2;have fS:S2.un=S.un/\S2.tk=S.tk/\S2.hs=S.hs/\(∀ c,(S2.rs c).length <= L):=by
      rw[hS2,hS1];cases q.fb with
     |true =>
       refine⟨rfl,rfl,rfl,λc=>?_⟩;show (setR S.rs b [] c).length <= _;by_cases e:c=b
       . subst e;rw[b8];exact Ny _
       . rw[eN e];exact rl c
     |false=>exact⟨rfl,rfl,rfl,rl⟩
     have yi:YI q S2 (L+2):=⟨by rw[fS.1];exact Rd.i.und,by rw[fS.2.1];exact Rd.i.tkd,λc=>by have:=fS.2.2.2 c;omega,by rw[fS.2.2.1];have:=Rd.i.hl;omega⟩
     have hrun:(Dd.bell b).run q S=(if rdC S2.m (S2.rs b) (mF (!b))≠1 then (.bool K',S2) else if S2.bd (!b)=.asleep then (.bool l',({ S2 with bd:=setR S2.bd (!b) .up }:YS).wr (!b) (.c (mF (!b)) 0)) else (.bool l',S2)):=by rw[hS2,hS1];rfl
     rw[hrun]at k;clear hrun hS2 hS1 Y1 ko1;refine⟨_,rfl,gm Y2.ob G.am G.aW gf (fc Y2.x.st.ob (cK (by decide +kernel) (by decide +kernel)) ⟨_,rfl,_,rfl,a.aI,_,sdI (!b),.str (mF (!b)).key,rfl,rfl,G.gk _,xS,y.sa,_,_,b,mF (!b),rfl,Y2.x.st,?_⟩)⟩;refine⟨.int (rdC S2.m (S2.rs b) (mF (!b))),.int 1,rfl,rfl,ue.int _,ue.int _,_,rfl,?_⟩;simp only[if_true];by_cases h1:rdC S2.m (S2.rs b) (mF (!b))=1
     . rw[SG (by rw[h1];exact λz=>z rfl)]at k;refine cz ?_ ?_
       . rw[h1];decide +kernel
       refine⟨λσ' H'=>σ'=[f' (.ref y.y),f' (.int (sdI b)),f' (.int (sdI (!b)))]/\Q (.bl l') H',?_,?_⟩
       . refine⟨_,rfl,gm Y2.ob G.am G.aY cE ⟨_,rfl,y.sl,_,_,_,rfl,rfl,SqL.of Y2.sl,FG (!b),rfl,_,rfl,?_⟩⟩;by_cases h2:S2.bd (!b)=.asleep
         . rw[SF h2]at k;refine i9 (SI (by rw[h2];rfl)) ?_;refine⟨_,rfl,gm Y2.ob G.am G.aY cE ⟨_,rfl,y.sl,_,_,jN (!b),rfl,rfl,Y2.sl,zh,?_⟩⟩;rw[show (V.str "up":V)=.str (Bd.key .up) from rfl,uQ];have Y3:=Y2.setSl (!b) .up rfl;have ko3:KO y.own H (upd H2 y.sl (.lst [V.str (setR S2.bd (!b) .up K').key,V.str (setR S2.bd (!b) .up l').key])):=tS ko2 (qJ (.inr (.inr (.inl rfl))));generalize upd H2 y.sl (.lst [V.str (setR S2.bd (!b) .up K').key,V.str (setR S2.bd (!b) .up l').key])=H3 at Y3 ko3 |-;refine⟨_,rfl,gm Y3.ob G.am G.aW gf (fc Y3.x.st.ob (cK (by decide +kernel) (by decide +kernel)) ⟨_,rfl,_,rfl,a.aI,_,sdI (!b),.str (mF (!b)).key,rfl,rfl,G.gk _,xS,y.sa,_,_,!b,.str (mF (!b)).key,.int 0,.c (mF (!b)) 0,rfl,Y3.x.st,by have:=fS.2.2.2 (!b);show (S2.rs (!b)).length < _;omega,kS (zB _),rfl,trivial,λH4 st4 kp4=>⟨rfl,?_⟩⟩)⟩;have Y4:=B4 Y3 st4 kp4;exact k (.bl l') H4 Y4 ⟨yi.und,yi.tkd,jO fS.2.2.2 (!b) (by show (S2.rs (!b)++[_]).length <= _;rw[LU];have:=fS.2.2.2 (!b);show _+1 <= _;omega),yi.hl⟩ rfl (tS ko3 (Jg kp4))
         . rw[SG h2]at k;refine cz (by rw[SH];exact Gc h2) ⟨rfl,?_⟩;exact k (.bl l') H2 Y2 yi rfl ko2
       . rintro σ' H' ⟨rfl,k'⟩;exact k'
     . rw[SF h1]at k;refine i9 ?_ (k (.bl K') H2 Y2 yi rfl ko2);rw[NL];cases z:Mc (.int (rdC S2.m (S2.rs b) (mF (!b)))) (.int 1) with
      |false=>rfl
      |true=>exact absurd (by have:=(MX.eqv_iff _ _ rfl rfl).mp z;injection this) h1
def GT {q:YP}{S:YS}{wt:Int}(h:(Dd.ask wt).chk q S=LJ):bC q.p S.m (S.rs K') .asked .taken≠q.p.s/\fE q.n S.un≠LJ:=by
 have h':(if S.bd K'=.up then (if bC q.p S.m (S.rs K') .asked .taken=q.p.s then f' Rf.full else match fE q.n S.un with|none=>f' Rf.name|some _=>LJ) else f' Rf.deed)=LJ:=h;split at h'
 . split at h'
   . cases h'
   . rename_i z;refine⟨z,λy=>?_⟩;rw[y]at h';cases h'
 . cases h'
def Gh {q:YP}{S:YS}{nm wt:Int}(h:(Dd.answer nm wt).chk q S=LJ):S.tk.contains nm≠K'/\bC q.p S.m (S.rs l') .answered .handed≠q.p.s:=by
 have h':(if S.bd l'=.up then (if S.tk.contains nm=K' then f' Rf.task else if bC q.p S.m (S.rs l') .answered .handed=q.p.s then f' Rf.full else LJ) else f' Rf.deed)=LJ:=h;split at h'
 . split at h'
   . cases h'
   . split at h'
     . cases h'
     . rename_i z1 z2;exact⟨z1,z2⟩
 . cases h'
def Ba {q:YP}{S:YS}{b:Bool}(h:(Dd.drain b).chk q S=LJ):∃ x cx,S.rs b=x :: cx:=by
 cases e:S.rs b with
|cons x cx=>exact⟨x,cx,rfl⟩
|nil =>
  have h':(if S.rs b=[] then f' Rf.deed else LJ)=LJ:=h;rw[e]at h';cases h'
def FS (w:LZ) (ad:Ad):Sp:=λvs H Q E=>∃ (a:YA) (q:YP) (S:YS) (L:Nat) (x:Dd) (t:D'),vs=[.ref a.y,.ref t]/\Rdy w ad H a q S L/\H t=f' (.tup x.vs)/\x.Ok /\
 match x.chk q S with
|none=>Bh w ad a q (x.run q S).2 L (x.run q S).1 H Q
|some r=>∀ H',aZ H H'->E (.ref (rfC ad r)) LJ H'
def B5 (G:Gs K mg a d):FnOk P w K mg base (CXv P w) 10 a.gJ d.gJ ["self","some"] (FS w a):=by
 have Sx:FnOk P w K mg base (CXv P w) 8 _ _ _ _:=C5 G;have RF:FnOk P w K mg base CX0 9 _ _ _ _:=Dk G;have RE:FnOk P w K mg base CX0 9 _ _ _ _:=DQ G;have RG:FnOk P w K mg base CX0 8 _ _ _ _:=AD G;have RH:FnOk P w K mg base CX0 8 _ _ _ _:=DT G;have RI:FnOk P w K mg base CX0 8 _ _ _ _:=Bu G;have RR:FnOk P w K mg base CX0 1 _ _ _ _:=G9 G;have Q7:FnOk P w K mg base CX0 7 _ _ _ _:=(A0 G).imp λvs H Q E=>Ct
 have Rc:FnOk P w K mg base CX0 7 _ _ _ _:=(CN G).imp λvs H Q E=>K1
 have Ru:FnOk P w K mg base CX0 1 _ _ _ _:=(yw G).imp λvs H Q E=>Ip
 refine G.wA.okX (k:=9) nI (λvs H Q E h=>?_) (λcdv A' outer s' H vs Q E hr hR h=>?_)
 . obtain⟨y,q,S,L,x,t,rfl,_⟩:=h;rfl
 . obtain⟨y,q,S,L,x,t,rfl,Rd,ht,hx,k⟩:=h;have hu:=bP hr;refine⟨_,((@aK _ _ _ _ (ar (pv 0) G.am G.sf Sx (hr.mono (by decide)) G.uU .nil hR.passes ((pv 1)∣aa)) (by rfl))∪((@aH _ _ 2 _ _ _ _ nI.nd rfl (Mx rfl) (@aB _ _ _ _ _ _ _ aD (pv 1) aj (λ_ _=>rfl)) (by rfl) (by first|exact .inl rfl|exact .inr rfl|assumption))∪((aC (ap cw (pv 2) ag (av _)) ((ar (pv 0) G.am G.qg RF (hr.mono (by decide)) G.tM .nil aq ((@aB _ _ _ _ _ _ _ aD (pv 1) aj (λ_ _=>rfl))∣aa))⁻¹) al)∪((aC (ap cw (pv 2) ag (av _)) ((ar (pv 0) G.am G.g0 RR (hr.mono (by decide)) G.gw .nil aq (ag∣((aV (ak (pv 0) rfl) G.bU G.pE Q7 (hr.mono (by decide)) G.qD .nil aq)∣aa)))⁻¹) al)∪((aC (ap cw (pv 2) ag (av _)) ((ar (pv 0) G.am G.g0 RR (hr.mono (by decide)) G.gw .nil aq (ag∣((aV (ak (pv 0) rfl) G.bZ G.sr Rc (hr.mono (by decide)) G.uW .nil aq)∣aa)))⁻¹) al)∪((aC (ap cw (pv 2) ag (av _)) ((ar (pv 0) G.am G.n8 RE (hr.mono (by decide)) G.o5 .nil aq ((@aB _ _ _ _ _ _ _ aD (pv 1) aj (λ_ _=>rfl))∣((@aB _ _ _ _ _ _ _ aD (pv 1) aj (λ_ _=>rfl))∣aa)))⁻¹) al)∪((aC (ap cw (pv 2) ag (av _)) ((ar (pv 0) G.am G.pB RG (hr.mono (by decide)) G.qB .nil aq ((@aB _ _ _ _ _ _ _ aD (pv 1) aj (λ_ _=>rfl))∣aa))⁻¹) al)∪((aC (ap cw (pv 2) ag (av _)) ((ar (pv 0) G.am G.qm RH (hr.mono (by decide)) G.sv .nil aq ((@aB _ _ _ _ _ _ _ aD (pv 1) aj (λ_ _=>rfl))∣aa))⁻¹) al)∪((aC (ap cw (pv 2) ag (av _)) ((ar (pv 0) G.am G.pS RI (hr.mono (by decide)) G.qC .nil aq ((@aB _ _ _ _ _ _ _ aD (pv 1) aj (λ_ _=>rfl))∣aa))⁻¹) al)∪((ar (ak (pv 0) rfl) G.aF G.lg Ru (hr.mono (by decide)) G.m8 .nil aq ((@aB _ _ _ _ _ _ _ aD (pv 1) aj (λ_ _=>rfl))∣aa))⁻¹)))))))))),?_⟩;refine⟨_,rfl,fc Rd.y.ob (iu (by decide +kernel)) ⟨_,rfl,y,q,S,x,t,rfl,Rd.y,Rd.ok,ht,hx,λH1 e1=>?_⟩⟩;cases hc:x.chk q S with
  |some r =>
    rw[hc]at k;exact k H1 e1
  |none =>
    rw[hc]at k;have Rd1:Rdy w a H1 y q S L:=⟨Rd.y.same e1,Rd.ok,Rd.i,Rd.l⟩
    have k1:Bh w a y q (x.run q S).2 L (x.run q S).1 H1 Q:=λv H' Y' i' dv ko=>k v H' Y' i' dv (tS (KO.of_same e1) ko)
    have ht1:=e1 _ _ ht;clear k ht Rd e1;refine⟨_,rfl,t,_,_,_,rfl,rfl,SqT.of ht1,by rw[x.vs_eq];exact aU,?_⟩;cases x with
   |ask wt =>
     refine⟨_,rfl,rfl,_,rfl,i9 (SI rfl) ?_⟩;obtain⟨c1,c2⟩:=GT hc;exact⟨_,rfl,fc Rd1.y.ob (iu (by decide +kernel)) ⟨_,rfl,t,_,_,_,rfl,rfl,SqT.of ht1,rfl,y,q,S,L,wt,rfl,Rd1,c1,c2,k1⟩⟩
   |collect =>
     refine⟨_,rfl,rfl,_,rfl,cz (by rw[SH];exact sne (show ¬ (("collect":Str)="ask") by decide +kernel)) ?_⟩;refine⟨_,rfl,rfl,_,rfl,i9 (SI rfl) ?_⟩;refine⟨_,rfl,fc Rd1.y.ob (iu (by decide +kernel)) ⟨_,rfl,gm Rd1.y.ob G.am G.fR sX (fc Rd1.y.x.hn.ob yY ⟨y.z,y.sa,q.p,_,S.un,S.m,S.rs,rfl,Rd1.y.x.hn,Rd1.y.x.st,Rd1.ok.ok,by have:=Rd1.i.len K';have:=Rd1.l;omega,?_⟩)⟩⟩;have rl:=Rd1.i.len;have hsl:=Rd1.i.hl;have ll:=Rd1.l;unfold Dd.run at k1;by_cases h0:bC q.p S.m (S.rs K') .answered .handed=0
     . rw[SF h0]at k1 |-;exact⟨y,q,S,"handed",.non,rfl,Rd1.y,by omega,.inl ⟨rfl,k1 .non H1 Rd1.y (Rd1.i.mono (by omega)) rfl (KO.refl _ _)⟩⟩
     . rw[SG h0]at k1 |-;have rl2:∀ c,(setR S.rs K' (S.rs K'++[lW q.p S.m (S.rs K') .handed]) c).length <= L+2:=jO rl K' (by rw[LU];have:=rl K';show _+1 <= _;omega);cases hrd:rdP S.m (S.rs K') l' (rdC S.m (S.rs K') .handed % q.p.s) with
      |none =>
        rw[hrd]at k1;intro c H2 hc2 hn2 st2 kp2;have Y2:=Rd1.y.parts (Rd1.y.x.hand hn2 st2 kp2) kp2 rG;refine⟨y,q,_,"handed",.ref c,rfl,Y2,by show S.hs.length < _;omega,.inr ⟨c,.non,.non,.none,.none,rfl,hc2,rfl,rfl,rfl,rfl,λH3 Y3 ko3 hc3=>k1 (.ref c) H3 Y3 ⟨Rd1.i.und,Rd1.i.tkd,rl2,?_⟩ ⟨c,_,rfl,hc3,_,_,rfl,rfl,_,_,rfl,rfl,rfl⟩ (tS (KO.of_kp kp2 λc hc=>.inr (.inl (rG c hc))) ko3)⟩⟩;show (S.hs++[_]).length <= _;rw[LU];show _+1 <= _;omega
      |some nw =>
        rw[hrd]at k1;intro c H2 hc2 hn2 st2 kp2;have Y2:=Rd1.y.parts (Rd1.y.x.hand hn2 st2 kp2) kp2 rG;refine⟨y,q,_,"handed",.ref c,rfl,Y2,by show S.hs.length < _;omega,.inr ⟨c,.int nw.1,.int nw.2,.int nw.1,.int nw.2,rfl,hc2,rfl,rfl,rfl,rfl,λH3 Y3 ko3 hc3=>k1 (.ref c) H3 Y3 ⟨Rd1.i.und.filter,Rd1.i.tkd,rl2,?_⟩ (DV2 hc3) (tS (KO.of_kp kp2 λc hc=>.inr (.inl (rG c hc))) ko3)⟩⟩;show (S.hs++[_]).length <= _;rw[LU];show _+1 <= _;omega
   |take =>
     refine⟨_,rfl,rfl,_,rfl,cz (by rw[SH];exact sne (show ¬ (("take":Str)="ask") by decide +kernel)) ?_⟩;refine⟨_,rfl,rfl,_,rfl,cz (by rw[SH];exact sne (show ¬ (("take":Str)="collect") by decide +kernel)) ?_⟩;refine⟨_,rfl,rfl,_,rfl,i9 (SI rfl) ?_⟩;refine⟨_,rfl,fc Rd1.y.ob (iu (by decide +kernel)) ⟨_,rfl,gm Rd1.y.ob G.am G.dY om (fc Rd1.y.x.tn.ob Fy ⟨y.zt,y.sa,q.p,S.tk,S.m,S.rs,rfl,Rd1.y.x.tn,Rd1.y.x.st,Rd1.ok.ok,by have:=Rd1.i.tkd.len (by omega);omega,by have:=Rd1.i.len l';have:=Rd1.l;omega,?_⟩)⟩⟩;have rl:=Rd1.i.len;have hsl:=Rd1.i.hl;have ll:=Rd1.l;unfold Dd.run at k1;by_cases h0:bC q.p S.m (S.rs l') .asked .taken=0
     . rw[SF h0]at k1 |-;exact⟨y,q,S,"taken",.non,rfl,Rd1.y,by omega,.inl ⟨rfl,k1 .non H1 Rd1.y (Rd1.i.mono (by omega)) rfl (KO.refl _ _)⟩⟩
     . rw[SG h0]at k1 |-;have rl2:∀ c,(setR S.rs l' (S.rs l'++[lW q.p S.m (S.rs l') .taken]) c).length <= L+2:=jO rl l' (by rw[LU];have:=rl l';show _+1 <= _;omega);cases hrd:rdP S.m (S.rs l') K' (rdC S.m (S.rs l') .taken % q.p.s) with
      |none =>
        rw[hrd]at k1;intro c H2 hc2 tn2 st2 kp2;have Y2:=Rd1.y.parts (Rd1.y.x.heart tn2 st2 kp2) kp2 rE;refine⟨y,q,_,"taken",.ref c,rfl,Y2,by show S.hs.length < _;omega,.inr ⟨c,.non,.non,.none,.none,rfl,hc2,rfl,rfl,rfl,rfl,λH3 Y3 ko3 hc3=>k1 (.ref c) H3 Y3 ⟨Rd1.i.und,Rd1.i.tkd,rl2,?_⟩ ⟨c,_,rfl,hc3,_,_,rfl,rfl,_,_,rfl,rfl,rfl⟩ (tS (KO.of_kp kp2 λc hc=>.inr (.inl (rE c hc))) ko3)⟩⟩;show (S.hs++[_]).length <= _;rw[LU];show _+1 <= _;omega
      |some nw =>
        rw[hrd]at k1;intro c H2 hc2 tn2 st2 kp2;have Y2:=Rd1.y.parts (Rd1.y.x.heart tn2 st2 kp2) kp2 rE;have nok:0 <= nw.1/\nw.1 < 9:=Rd1.y.x.st.names hrd;refine⟨y,q,_,"taken",.ref c,rfl,Y2,by show S.hs.length < _;omega,.inr ⟨c,.int nw.1,.int nw.2,.int nw.1,.int nw.2,rfl,hc2,rfl,rfl,rfl,rfl,λH3 Y3 ko3 hc3=>k1 (.ref c) H3 Y3 ⟨Rd1.i.und,Rd1.i.tkd.next nok,rl2,?_⟩ (DV2 hc3) (tS (KO.of_kp kp2 λc hc=>.inr (.inl (rE c hc))) ko3)⟩⟩;show (S.hs++[_]).length <= _;rw[LU];show _+1 <= _;omega
   |answer nm wt =>
     refine⟨_,rfl,rfl,_,rfl,cz (by rw[SH];exact sne (show ¬ (("answer":Str)="ask") by decide +kernel)) ?_⟩;refine⟨_,rfl,rfl,_,rfl,cz (by rw[SH];exact sne (show ¬ (("answer":Str)="collect") by decide +kernel)) ?_⟩;refine⟨_,rfl,rfl,_,rfl,cz (by rw[SH];exact sne (show ¬ (("answer":Str)="take") by decide +kernel)) ?_⟩;refine⟨_,rfl,rfl,_,rfl,i9 (SI rfl) ?_⟩;obtain⟨c1,c2⟩:=Gh hc;exact⟨_,rfl,fc Rd1.y.ob (iu (by decide +kernel)) ⟨_,rfl,t,_,_,_,rfl,rfl,SqT.of ht1,rfl,_,rfl,t,_,_,_,rfl,rfl,SqT.of ht1,rfl,y,q,S,L,nm,wt,rfl,Rd1,c1,c2,k1⟩⟩
   |bell b =>
     refine⟨_,rfl,rfl,_,rfl,cz (by rw[SH];exact sne (show ¬ (("bell":Str)="ask") by decide +kernel)) ?_⟩;refine⟨_,rfl,rfl,_,rfl,cz (by rw[SH];exact sne (show ¬ (("bell":Str)="collect") by decide +kernel)) ?_⟩;refine⟨_,rfl,rfl,_,rfl,cz (by rw[SH];exact sne (show ¬ (("bell":Str)="take") by decide +kernel)) ?_⟩;refine⟨_,rfl,rfl,_,rfl,cz (by rw[SH];exact sne (show ¬ (("bell":Str)="answer") by decide +kernel)) ?_⟩;refine⟨_,rfl,rfl,_,rfl,i9 (SI rfl) ?_⟩;exact⟨_,rfl,fc Rd1.y.ob (iu (by decide +kernel)) ⟨_,rfl,t,_,_,_,rfl,rfl,SqT.of ht1,rfl,y,q,S,L,b,rfl,Rd1,k1⟩⟩
   |lie b =>
     refine⟨_,rfl,rfl,_,rfl,cz (by rw[SH];exact sne (show ¬ (("lie":Str)="ask") by decide +kernel)) ?_⟩;refine⟨_,rfl,rfl,_,rfl,cz (by rw[SH];exact sne (show ¬ (("lie":Str)="collect") by decide +kernel)) ?_⟩;refine⟨_,rfl,rfl,_,rfl,cz (by rw[SH];exact sne (show ¬ (("lie":Str)="take") by decide +kernel)) ?_⟩;refine⟨_,rfl,rfl,_,rfl,cz (by rw[SH];exact sne (show ¬ (("lie":Str)="answer") by decide +kernel)) ?_⟩;refine⟨_,rfl,rfl,_,rfl,cz (by rw[SH];exact sne (show ¬ (("lie":Str)="bell") by decide +kernel)) ?_⟩;refine⟨_,rfl,rfl,_,rfl,i9 (SI rfl) ?_⟩;exact⟨_,rfl,fc Rd1.y.ob (iu (by decide +kernel)) ⟨_,rfl,t,_,_,_,rfl,rfl,SqT.of ht1,rfl,y,q,S,L,b,rfl,Rd1,k1⟩⟩
   |look b =>
     refine⟨_,rfl,rfl,_,rfl,cz (by rw[SH];exact sne (show ¬ (("look":Str)="ask") by decide +kernel)) ?_⟩;refine⟨_,rfl,rfl,_,rfl,cz (by rw[SH];exact sne (show ¬ (("look":Str)="collect") by decide +kernel)) ?_⟩;refine⟨_,rfl,rfl,_,rfl,cz (by rw[SH];exact sne (show ¬ (("look":Str)="take") by decide +kernel)) ?_⟩;refine⟨_,rfl,rfl,_,rfl,cz (by rw[SH];exact sne (show ¬ (("look":Str)="answer") by decide +kernel)) ?_⟩;refine⟨_,rfl,rfl,_,rfl,cz (by rw[SH];exact sne (show ¬ (("look":Str)="bell") by decide +kernel)) ?_⟩;refine⟨_,rfl,rfl,_,rfl,cz (by rw[SH];exact sne (show ¬ (("look":Str)="lie") by decide +kernel)) ?_⟩;refine⟨_,rfl,rfl,_,rfl,i9 (SI rfl) ?_⟩;exact⟨_,rfl,fc Rd1.y.ob (iu (by decide +kernel)) ⟨_,rfl,t,_,_,_,rfl,rfl,SqT.of ht1,rfl,y,q,S,L,b,rfl,Rd1,k1⟩⟩
   |drain b =>
     refine⟨_,rfl,rfl,_,rfl,cz (by rw[SH];exact sne (show ¬ (("drain":Str)="ask") by decide +kernel)) ?_⟩;refine⟨_,rfl,rfl,_,rfl,cz (by rw[SH];exact sne (show ¬ (("drain":Str)="collect") by decide +kernel)) ?_⟩;refine⟨_,rfl,rfl,_,rfl,cz (by rw[SH];exact sne (show ¬ (("drain":Str)="take") by decide +kernel)) ?_⟩;refine⟨_,rfl,rfl,_,rfl,cz (by rw[SH];exact sne (show ¬ (("drain":Str)="answer") by decide +kernel)) ?_⟩;refine⟨_,rfl,rfl,_,rfl,cz (by rw[SH];exact sne (show ¬ (("drain":Str)="bell") by decide +kernel)) ?_⟩;refine⟨_,rfl,rfl,_,rfl,cz (by rw[SH];exact sne (show ¬ (("drain":Str)="lie") by decide +kernel)) ?_⟩;refine⟨_,rfl,rfl,_,rfl,cz (by rw[SH];exact sne (show ¬ (("drain":Str)="look") by decide +kernel)) ?_⟩;obtain⟨x,cx,hb⟩:=Ba hc;have rl:=Rd1.i.len;have k2:Bh w a y q { S with m:=S.m.put x,rs:=setR S.rs b cx } L .none H1 Q:=by
      have e:(Dd.drain b).run q S=(.none,{ S with m:=S.m.put x,rs:=setR S.rs b cx }):=by
       show (match S.rs b with|x :: cx=>_|[]=>_)=_;rw[hb]
      rw[e]at k1;exact k1
     refine⟨_,rfl,gm Rd1.y.ob G.am G.aW gf (fc Rd1.y.x.st.ob (cK (by decide +kernel) (by decide +kernel)) ⟨_,rfl,t,_,_,_,rfl,rfl,SqT.of ht1,rfl,y.sa,S.m,S.rs,b,x,cx,rfl,Rd1.y.x.st,hb,λH2 st2 kp2=>?_⟩)⟩;refine k2 .non H2 (Rd1.y.parts (Rd1.y.x.store st2 kp2) kp2 vn) ⟨Rd1.i.und,Rd1.i.tkd,jO rl b (by have:=rl b;rw[hb,Mw]at this;omega),by have:=Rd1.i.hl;show S.hs.length <= _;omega⟩ rfl (JE kp2)
def CQ (CJ:D'):Sp:=λvs H Q _=>∃ (j dx:D'),vs=[.ref j]/\H j=f' (.ins CJ dx []) /\
 ∀ (z:JA) (H':Hp),z.j=j->H z.u=LJ->H z.h=LJ->H z.g=LJ->H z.d=LJ->Jn CJ H' z [] [] [] []->Kp [j] H H'->Q .non H'
def Gi (CJ:D'):Sp:=λvs H Q _=>∃ (z:JA) (un uh:List (Int × Int)) (go do':List Int) (h:Hap),vs=[.ref z.j,.str h.w.key,.int h.n,.int h.o]/\Jn CJ H z un uh go do'/\un.length < 1000/\uh.length < 1000/\∀ H',aZ H H'->Q (.bl (Ha un uh go do' h)) H'
def G5 (CJ:D'):Sp:=λvs H Q _=>∃ (z:JA) (ah:List Hap) (un uh:List (Int × Int)) (go do':List Int) (h:Hap),vs=[.ref z.j,.str h.w.key,.int h.n,.int h.o]/\Jn CJ H z un uh go do'/\JI ah un uh go do'/\vP ah h=l'/\ah.length < 1000 /\
 ∀ H' un' uh' go' do2,Jn CJ H' z un' uh' go' do2->JI (ah++[h]) un' uh' go' do2->KO z.own H H'->Kt H H'->Q .non H'
def Cp (G:Gs K mg a d):FnOk P w K mg base CX0 1 a.dO d.dO ["self"] (CQ a.gN):=by
 refine G.se.ok qM (λvs H Q E h=>?_) (λcdv A outer s H vs Q E hr h=>?_)
 . obtain⟨j,dx,rfl,_⟩:=h;rfl
 . obtain⟨j,dx,rfl,hj,k⟩:=h;refine⟨_,((bh (pv 0) (@bo _ _ _ _ aa) rfl)∪((bh (pv 0) (@bo _ _ _ _ aa) rfl)∪((bh (pv 0) kU rfl)∪(@ao _ _ _ (bh (pv 0) kU rfl))))),?_⟩;refine⟨Gn,λu hu=>?_⟩;obtain⟨a1,a2,a3,a4⟩:=tO (o:=.lst []) (f:="untaken") hj hu;refine⟨_,rfl,j,a.gN,dx,[],rfl,a3,G.bn,G.cf,by decide,?_⟩;generalize upd (upd H u (.lst [])) j (.ins a.gN dx (bj "untaken" (.ref u) []))=H1 at a1 a2 a4 |-;refine⟨Gn,λh hh=>?_⟩;obtain⟨b1,b2,b3,b4⟩:=tO (o:=.lst []) (f:="unhanded") a1 hh;refine⟨_,rfl,j,a.gN,dx,_,rfl,b3,G.bn,G.bR,by show 1 < 1000;decide,?_⟩;generalize upd (upd H1 h (.lst [])) j (.ins a.gN dx (bj "unhanded" (.ref h) (bj "untaken" (.ref u) [])))=H2 at b1 b2 b4 |-;intro g hg;obtain⟨c1,c2,c3,c4⟩:=tO (o:=.dK []) (f:="going") b1 hg;refine⟨_,rfl,j,a.gN,dx,_,rfl,c3,G.bn,G.fj,by show 2 < 1000;decide,?_⟩;generalize upd (upd H2 g (.dK [])) j (.ins a.gN dx (bj "going" (.ref g) (bj "unhanded" (.ref h) (bj "untaken" (.ref u) []))))=H3 at c1 c2 c4 |-;intro d' hd;obtain⟨d1,d2,d3,d4⟩:=tO (o:=.dK []) (f:="doing") c1 hd;refine⟨_,rfl,j,a.gN,dx,_,rfl,d3,G.bn,G.fw,by show 3 < 1000;decide,?_⟩;generalize upd (upd H3 d' (.dK [])) j (.ins a.gN dx (bj "doing" (.ref d') (bj "going" (.ref g) (bj "unhanded" (.ref h) (bj "untaken" (.ref u) [])))))=H4 at d1 d2 d4 |-;have nb:∀ {H' H'':Hp} {c:D'} {C fs},H' j=f' (.ins C dx fs)->(∀ c u,c≠j->H' c=f' u->H'' c=f' u)->H'' c=LJ->H'' j≠LJ->H' c=LJ:=λ{H' H'' c C fs} q1 q2 q3 q4=>by
    cases y:H' c with
   |none=>rfl
   |some o =>
     by_cases e:c=j
     . rw[e]at q3;exact absurd q3 q4
     . rw[q2 c o e y]at q3;cases q3
   have nn:∀ {H':Hp} {o:HO},H' j=f' o->H' j≠LJ:=λe z=>by rw[e]at z;cases z
   have uj:u≠j:=λy=>by rw[y,hj]at hu;cases hu
   have hj':h≠j:=λy=>by rw[y,a1]at hh;cases hh
   have gj:g≠j:=λy=>by rw[y,b1]at hg;cases hg
   have u2:=b4 _ _ uj a2;have u4:=d4 _ _ uj (c4 _ _ uj u2);have h4:=d4 _ _ hj' (c4 _ _ hj' b2);have g4:=d4 _ _ gj c2;have hhH:=nb hj a4 hh (nn a1);have hgH:=nb hj a4 (nb a1 b4 hg (nn b1)) (nn a1);have hdH:=nb hj a4 (nb a1 b4 (nb b1 c4 hd (nn c1)) (nn b1)) (nn a1);refine k ⟨j,u,h,g,d'⟩ H4 rfl hu hhH hgH hdH ⟨⟨dx,d1⟩,⟨[],u4,.nil⟩,⟨[],h4,.nil⟩,g4,d2,ae a2 hh,ae c2 hd⟩ λc o nc e=>?_
   have nc':c≠j:=λy=>nc (LM.mpr y)
   exact d4 _ _ nc' (c4 _ _ nc' (b4 _ _ nc' (a4 _ _ nc' e)))
def FV (G:Gs K mg a d):FnOk P w K mg base CX0 1 a.cP d.cP ["self","word","name","worth"] (Gi a.gN):=by
 refine G.nQ.ok lZ (λvs H Q E h=>?_) (λcdv A outer s H vs Q E hr h=>?_)
 . obtain⟨z,un,uh,go,do',h,rfl,_⟩:=h;rfl
 . obtain⟨z,un,uh,go,do',⟨wd,n,o⟩,rfl,J,lu,lh,k⟩:=h;have hu:=bP hr;refine⟨_,((aC (ap cw (pv 1) ag (av _)) ((xX (lX hu (pv 2) (ak (pv 0) rfl)))⁻¹) al)∪((aC (ap cw (pv 1) ag (av _)) ((bD (lf hr.units) (bB dN (ak (pv 0) rfl) dw (bK aj)) (@bo _ _ _ _ ((@bO _ _ _ _ _ ((pv 2)∣((pv 3)∣aa)))∣aa)) (av _))⁻¹) al)∪((aC (ap cw (pv 1) ag (av _)) ((xX (Fc hu (pv 2) (ak (pv 0) rfl)))⁻¹) al)∪((bD (lf hr.units) (bB dN (ak (pv 0) rfl) dw (bK aj)) (@bo _ _ _ _ ((@bO _ _ _ _ _ ((pv 2)∣((pv 3)∣aa)))∣aa)) (av _))⁻¹)))),?_⟩;obtain⟨dx,hx⟩:=J.ob;cases wd with
  |asked =>
    refine⟨_,rfl,rfl,_,rfl,oX rfl ?_⟩;refine⟨_,rfl,_,rfl,fld hx G.bn G.fj Jr ⟨z.g,_,rfl,Ch.k (k:=.inl n) J.g,?_⟩⟩;have q:=k H (aZ.refl _);rw[jS];show Q (.bl (!(if go.contains n=l' then f' (V.bl l') else LJ).isSome)) H;have e:(if go.contains n=l' then f' (V.bl l') else LJ).isSome=go.contains n:=by cases go.contains n<;>rfl
    rw[e];exact q
  |taken =>
    refine⟨_,rfl,rfl,_,rfl,ir (sne (show Wd.key .taken≠"asked" by decide +kernel)) ⟨_,rfl,rfl,_,rfl,oX rfl ?_⟩⟩;obtain⟨ts,e0,pr⟩:=J.u;refine⟨_,rfl,fld hx G.bn G.cf Jl ⟨_,rfl,z.u,ts,rfl,SqL.of e0,λq hq=>⟨_,rfl,_,rfl,l2,λt ht=>⟨DI,λc hc=>?_⟩⟩⟩⟩;have s1:=af (o:=.lst (gM ts LJ (f' 1))) hq;have s2:=af (o:=.tup [V.int n,V.int o]) ht;have s3:=af (o:=.lst [V.ref t]) hc;have cq:gM ts LJ (f' 1)=ts.take 1:=pi ts 1;have pr1:Mn (PV H) (un.take 1) (gM ts LJ (f' 1)):=by rw[cq];exact gy 1 pr
    refine⟨.list ((un.take 1).map pvD),.list ([(n,o)].map pvD),⟨q,_,rfl,s3 _ _ (s2 _ _ a8),?_⟩,⟨c,_,rfl,a8,oP (.cons ⟨t,rfl,s3 _ _ a8⟩ .nil)⟩,rg _,rg _,?_⟩
    . exact oP (Paired.mapP pr1 λ_ _ h=>h.keep (s1.trans (s2.trans s3)).kt)
    . rw[Bm];exact k _ (s1.trans (s2.trans s3))
  |answered =>
    refine⟨_,rfl,rfl,_,rfl,ir (sne (show Wd.key .answered≠"asked" by decide +kernel)) ⟨_,rfl,rfl,_,rfl,ir (sne (show Wd.key .answered≠"taken" by decide +kernel)) ⟨_,rfl,rfl,_,rfl,oX rfl ?_⟩⟩⟩;refine⟨_,rfl,_,rfl,fld hx G.bn G.fw K6 ⟨z.d,_,rfl,Ch.k (k:=.inl n) J.d,?_⟩⟩;have q:=k H (aZ.refl _);rw[jS];show Q (.bl ((if do'.contains n=l' then f' (V.bl l') else LJ).isSome)) H;have e:(if do'.contains n=l' then f' (V.bl l') else LJ).isSome=do'.contains n:=by cases do'.contains n<;>rfl
    rw[e];exact q
  |handed =>
    refine⟨_,rfl,rfl,_,rfl,ir (sne (show Wd.key .handed≠"asked" by decide +kernel)) ⟨_,rfl,rfl,_,rfl,ir (sne (show Wd.key .handed≠"taken" by decide +kernel)) ⟨_,rfl,rfl,_,rfl,ir (sne (show Wd.key .handed≠"answered" by decide +kernel)) ?_⟩⟩⟩;obtain⟨ts,e0,pr⟩:=J.h;refine⟨_,rfl,fld hx G.bn G.bR Ji ⟨_,rfl,z.h,ts,rfl,SqL.of e0,λq hq=>⟨_,rfl,_,rfl,l2,λt ht=>⟨DI,λc hc=>?_⟩⟩⟩⟩;have s1:=af (o:=.lst (gM ts LJ (f' 1))) hq;have s2:=af (o:=.tup [V.int n,V.int o]) ht;have s3:=af (o:=.lst [V.ref t]) hc;have cq:gM ts LJ (f' 1)=ts.take 1:=pi ts 1;have pr1:Mn (PV H) (uh.take 1) (gM ts LJ (f' 1)):=by rw[cq];exact gy 1 pr
    refine⟨.list ((uh.take 1).map pvD),.list ([(n,o)].map pvD),⟨q,_,rfl,s3 _ _ (s2 _ _ a8),?_⟩,⟨c,_,rfl,a8,oP (.cons ⟨t,rfl,s3 _ _ a8⟩ .nil)⟩,rg _,rg _,?_⟩
    . exact oP (Paired.mapP pr1 λ_ _ h=>h.keep (s1.trans (s2.trans s3)).kt)
    . rw[Bm];exact k _ (s1.trans (s2.trans s3))
def Gb (G:Gs K mg a d):FnOk P w K mg base CX0 1 a.dE d.dE ["self","word","name","worth"] (G5 a.gN):=by
 refine G.sw.ok qN (λvs H Q E h=>?_) (λcdv A outer s H vs Q E hr h=>?_)
 . obtain⟨z,ah,un,uh,go,do',h,rfl,_⟩:=h;rfl
 . obtain⟨z,ah,un,uh,go,do',⟨wd,n,o⟩,rfl,J,I,hf,hl,k⟩:=h;have hu:=bP hr;refine⟨_,(@ao _ _ _ (aC (ap cw (pv 1) ag (av _)) ((sY hu (ak (pv 0) rfl) (pv 2) cX rfl)∪(@ao _ _ _ (@aK _ _ _ _ (@mv _ _ _ _ _ _ _ _ _ _ _ _ MS Nt PySem.F.type_list_append fC (ak (pv 0) rfl) ((@bO _ _ _ _ _ ((pv 2)∣((pv 3)∣aa)))∣aa) (by rfl) (by rfl) (by rfl) (by rfl) (by rfl)) (by rfl)))) (@ao _ _ _ (aC (ap cw (pv 1) ag (av _)) ((@aK _ _ _ _ (@mv _ _ _ _ _ _ _ _ _ _ _ _ MS PySem.F.slot_list_pop PySem.F.type_list_pop sA (ak (pv 0) rfl) (aj∣aa) (by rfl) (by rfl) (by rfl) (by rfl) (by rfl)) (by rfl))∪(@ao _ _ _ (sY hu (ak (pv 0) rfl) (pv 2) cX rfl))) (@ao _ _ _ (aC (ap cw (pv 1) ag (av _)) ((@aK _ _ _ _ (tq (ak (pv 0) rfl) (pv 2) ⟨rfl,rfl,rfl,rfl⟩) (by rfl))∪(@ao _ _ _ (@aK _ _ _ _ (@mv _ _ _ _ _ _ _ _ _ _ _ _ MS Nt PySem.F.type_list_append fC (ak (pv 0) rfl) ((@bO _ _ _ _ _ ((pv 2)∣((pv 3)∣aa)))∣aa) (by rfl) (by rfl) (by rfl) (by rfl) (by rfl)) (by rfl)))) ((@aK _ _ _ _ (@mv _ _ _ _ _ _ _ _ _ _ _ _ MS PySem.F.slot_list_pop PySem.F.type_list_pop sA (ak (pv 0) rfl) (aj∣aa) (by rfl) (by rfl) (by rfl) (by rfl) (by rfl)) (by rfl))∪(@ao _ _ _ (@aK _ _ _ _ (tq (ak (pv 0) rfl) (pv 2) ⟨rfl,rfl,rfl,rfl⟩) (by rfl)))))))))),?_⟩;obtain⟨dx,hx⟩:=J.ob;rw[<-I.fits]at hf;obtain⟨l1,l2',l3,l4⟩:=I.lens;have ko1:∀ {H:Hp} {x:D'} {o:HO},z.own x->KO z.own H (upd H x o):=λhx=>KO.of_kp Kp.one λc hc=>by rw[LM.mp hc];exact hx
   have ou:z.own z.u:=.inr (.inl rfl);have oh:z.own z.h:=.inr (.inr (.inl rfl));have og:z.own z.g:=.inr (.inr (.inr (.inl rfl)));have od:z.own z.d:=.inr (.inr (.inr (.inr rfl)));have kot:∀ {H1 H2 H3:Hp},KO z.own H1 H2->KO z.own H2 H3->KO z.own H1 H3:=λh1 h2=>h1.trans h2 λ_ hc=>.inl hc
   cases wd with
  |asked =>
    have hn:go.contains n=K':=by
     have:(!go.contains n)=l':=hf;simpa using this
    have hn':n ∉ go:=by rw[Nv]at hn;exact of_decide_eq_false hn
    refine⟨_,rfl,rfl,_,rfl,oX rfl ?_⟩;refine⟨_,rfl,fld hx G.bn G.fj Jr ⟨_,rfl,z.g,_,rfl,EE.k (k:=.inl n) J.g (by rw[yg];exact LR (show _ < 10000 by omega) (by decide)),?_⟩⟩;have J1:=J.setG (xz n go hn);generalize hH1:upd H z.g (.dK (vx (gK go) (Nz n) (.bl l')))=H1 at J1;have k1:KO z.own H H1:=by rw[<-hH1];exact ko1 og
    have t1:Kt H H1:=by rw[<-hH1];exact iy J.g (λ_ z=>by cases z) _
    obtain⟨ts,e0,pr⟩:=J1.u;obtain⟨dx1,hx1⟩:=J1.ob;have lt:=b9 pr;refine⟨_,rfl,fld hx1 G.bn G.cf Jl ⟨.inl ⟨rfl,_,SqL.of e0⟩,_,rfl,_,rfl,l2,λt ht=>⟨z.u,ts,_,rfl,rfl,af ht _ _ e0,LR (show _ < 10000 by omega) (by decide),?_⟩⟩⟩;have s2:=af (o:=.tup [V.int n,V.int o]) ht;have J2:=(J1.same s2).setU (un':=un++[(n,o)]) (ts:=ts++[.ref t]) (Mn.snoc (Paired.mapP pr λ_ _ h=>h.keep s2.kt) ⟨t,rfl,a8⟩);exact k _ _ _ _ _ J2 (I.asked hn') (kot k1 (kot (KO.of_same s2) (ko1 ou))) λb vs e=>iy (s2 _ _ e0) (λ_ z=>by cases z) _ _ _ (s2 _ _ (t1 _ _ e))
  |taken =>
    have hn:un.take 1=[(n,o)]:=of_decide_eq_true hf;obtain⟨I2,hnd⟩:=I.taken hn;have e1:=DW hn;refine⟨_,rfl,rfl,_,rfl,ir (sne (show Wd.key .taken≠"asked" by decide +kernel)) ⟨_,rfl,rfl,_,rfl,oX rfl ?_⟩⟩;obtain⟨ts,e0,pr⟩:=J.u;have lt:=b9 pr;have hl0:0 < ts.length:=by rw[<-lt,e1];exact Nat.succ_pos _
    refine⟨_,rfl,fld hx G.bn G.cf Jl ⟨.inl ⟨rfl,_,SqL.of e0⟩,z.u,ts,0,0,ts[0],rfl,rfl,e0,by decide,by decide,KP hl0,LQ hl0,?_⟩⟩;rw[EA];have J1:=J.setU (iY 1 pr);have k1:KO z.own H (upd H z.u (.lst (ts.drop 1))):=ko1 ou;have t1:Kt H (upd H z.u (.lst (ts.drop 1))):=iy e0 (λ_ z=>by cases z) _;generalize upd H z.u (.lst (ts.drop 1))=H1 at J1 k1 t1 |-;obtain⟨dx1,hx1⟩:=J1.ob;refine⟨_,rfl,fld hx1 G.bn G.fw K6 ⟨_,rfl,z.d,_,rfl,EE.k (k:=.inl n) J1.d (by rw[yg];exact LR (show _ < 10000 by omega) (by decide)),?_⟩⟩;exact k _ _ _ _ _ (J1.setD (xz n do' (by rw[Nv];exact decide_eq_false hnd))) I2 (kot k1 (ko1 od)) λb vs e=>iy J1.d (λ_ z=>by cases z) _ _ _ (t1 _ _ e)
  |answered =>
    have hn:do'.contains n=l':=hf;have hn':n∈do':=by rw[Nv]at hn;exact of_decide_eq_true hn
    refine⟨_,rfl,rfl,_,rfl,ir (sne (show Wd.key .answered≠"asked" by decide +kernel)) ⟨_,rfl,rfl,_,rfl,ir (sne (show Wd.key .answered≠"taken" by decide +kernel)) ⟨_,rfl,rfl,_,rfl,oX rfl ?_⟩⟩⟩;have hv:pq (gK do') (.inl n)=f' (.bl l'):=by rw[jS,hn];rfl
    refine⟨_,rfl,fld hx G.bn G.fw K6 ⟨z.d,rfl,.inl ⟨_,.inl J.d⟩,_,rfl,_,.inl n,_,J.d,rfl,hv,?_⟩⟩;have I2:=I.answered (o:=o) hn';have ee:mX (gK do') (Nz n)=gK (do'.erase n):=by
     rw[pZ,I.ndo.erase_eq_filter];congr 1;refine List.filter_congr λy _=>?_
     by_cases e:y=n
     . subst e;simp
     . simp[e]
    have J1:=J.setD ee;have k1:KO z.own H (upd H z.d (.dK (mX (gK do') (Nz n)))):=ko1 od;have t1:Kt H (upd H z.d (.dK (mX (gK do') (Nz n)))):=iy J.d (λ_ z=>by cases z) _;generalize upd H z.d (.dK (mX (gK do') (Nz n)))=H1 at J1 k1 t1 |-;obtain⟨ts,e0,pr⟩:=J1.h;obtain⟨dx1,hx1⟩:=J1.ob;have lt:=b9 pr;refine⟨_,rfl,fld hx1 G.bn G.bR Ji ⟨.inl ⟨rfl,_,SqL.of e0⟩,_,rfl,_,rfl,l2,λt ht=>⟨z.h,ts,_,rfl,rfl,af ht _ _ e0,LR (show _ < 10000 by omega) (by decide),?_⟩⟩⟩;have s2:=af (o:=.tup [V.int n,V.int o]) ht;have J2:=(J1.same s2).setH (uh':=uh++[(n,o)]) (ts:=ts++[.ref t]) (Mn.snoc (Paired.mapP pr λ_ _ h=>h.keep s2.kt) ⟨t,rfl,a8⟩);exact k _ _ _ _ _ J2 I2 (kot k1 (kot (KO.of_same s2) (ko1 oh))) λb vs e=>iy (s2 _ _ e0) (λ_ z=>by cases z) _ _ _ (s2 _ _ (t1 _ _ e))
  |handed =>
    have hn:uh.take 1=[(n,o)]:=of_decide_eq_true hf;obtain⟨I2,hng⟩:=I.handed hn;have e1:=DW hn;refine⟨_,rfl,rfl,_,rfl,ir (sne (show Wd.key .handed≠"asked" by decide +kernel)) ⟨_,rfl,rfl,_,rfl,ir (sne (show Wd.key .handed≠"taken" by decide +kernel)) ⟨_,rfl,rfl,_,rfl,ir (sne (show Wd.key .handed≠"answered" by decide +kernel)) ?_⟩⟩⟩;obtain⟨ts,e0,pr⟩:=J.h;have lt:=b9 pr;have hl0:0 < ts.length:=by rw[<-lt,e1];exact Nat.succ_pos _
    refine⟨_,rfl,fld hx G.bn G.bR Ji ⟨.inl ⟨rfl,_,SqL.of e0⟩,z.h,ts,0,0,ts[0],rfl,rfl,e0,by decide,by decide,KP hl0,LQ hl0,?_⟩⟩;rw[EA];have J1:=J.setH (iY 1 pr);have k1:KO z.own H (upd H z.h (.lst (ts.drop 1))):=ko1 oh;have t1:Kt H (upd H z.h (.lst (ts.drop 1))):=iy e0 (λ_ z=>by cases z) _;generalize upd H z.h (.lst (ts.drop 1))=H1 at J1 k1 t1 |-;obtain⟨dx1,hx1⟩:=J1.ob;have hv:pq (gK go) (.inl n)=f' (.bl l'):=by rw[jS,Nv,SI hng];rfl
    have ee:mX (gK go) (Nz n)=gK (go.erase n):=by
     rw[pZ,I.nd.erase_eq_filter];congr 1;refine List.filter_congr λy _=>?_
     by_cases e:y=n
     . subst e;simp
     . simp[e]
    refine⟨_,rfl,fld hx1 G.bn G.fj Jr ⟨z.g,rfl,.inl ⟨_,.inl J1.g⟩,_,rfl,_,.inl n,_,J1.g,rfl,hv,?_⟩⟩;exact k _ _ _ _ _ (J1.setG ee) I2 (kot k1 (ko1 og)) λb vs e=>iy J1.g (λ_ z=>by cases z) _ _ _ (t1 _ _ e)
def Ep:LO:=.tuple [.none,.none]
def yj (ps:List (Int × Int)):Mc (.list (ps.map pvD)) (.list [Ep])=K':=by
 cases ps with
|nil=>rfl
|cons p ps =>
  show (Nl [.int p.1,.int p.2] [.none,.none] && Nl (ps.map pvD) [])=K';have:Nl [.int p.1,.int p.2] [.none,.none]=K':=by simp[Nl,Mc]
  rw[this];rfl
def yt:ue (.list [Ep]):=⟨rfl,by show 2 <= 16;decide⟩
def CC (CJ:D'):Sp:=λvs H Q _=>∃ (z:JA) (un uh:List (Int × Int)) (go do':List Int) (b:Bool),vs=[.ref z.j,.str (Hx.n b).w.key,.non,.non]/\Jn CJ H z un uh go do'/\un.length < 1000/\uh.length < 1000/\∀ H',aZ H H'->Q (.bl K') H'
def Ib:Sp:=λvs H Q _=>∃ (l:D') (hs:List Hx),vs=[.ref l]/\SX H l hs/\hs.length < 900/\∀ H',aZ H H'->Q (vO (jW [] hs)) H'
def CA (G:Gs K mg a d):FnOk P w K mg base CX0 1 a.cP d.cP ["self","word","name","worth"] (CC a.gN):=by
 refine G.nQ.ok lZ (λvs H Q E h=>?_) (λcdv A outer s H vs Q E hr h=>?_)
 . obtain⟨z,un,uh,go,do',h,rfl,_⟩:=h;rfl
 . obtain⟨z,un,uh,go,do',b,rfl,J,lu,lh,k⟩:=h;have hu:=bP hr;refine⟨_,((aC (ap cw (pv 1) ag (av _)) ((xX (lX hu (pv 2) (ak (pv 0) rfl)))⁻¹) al)∪((aC (ap cw (pv 1) ag (av _)) ((bD (lf hr.units) (bB dN (ak (pv 0) rfl) dw (bK aj)) (@bo _ _ _ _ ((@bO _ _ _ _ _ ((pv 2)∣((pv 3)∣aa)))∣aa)) (av _))⁻¹) al)∪((aC (ap cw (pv 1) ag (av _)) ((xX (Fc hu (pv 2) (ak (pv 0) rfl)))⁻¹) al)∪((bD (lf hr.units) (bB dN (ak (pv 0) rfl) dw (bK aj)) (@bo _ _ _ _ ((@bO _ _ _ _ _ ((pv 2)∣((pv 3)∣aa)))∣aa)) (av _))⁻¹)))),?_⟩;obtain⟨dx,hx⟩:=J.ob;cases b with
  |true =>
    refine⟨_,rfl,rfl,_,rfl,ir (sne (show Wd.key .taken≠"asked" by decide +kernel)) ⟨_,rfl,rfl,_,rfl,oX rfl ?_⟩⟩;obtain⟨ts,e0,pr⟩:=J.u;refine⟨_,rfl,fld hx G.bn G.cf Jl ⟨_,rfl,z.u,ts,rfl,SqL.of e0,λq hq=>⟨_,rfl,_,rfl,l2,λt ht=>⟨DI,λc hc=>?_⟩⟩⟩⟩;have s1:=af (o:=.lst (gM ts LJ (f' 1))) hq;have s2:=af (o:=.tup [V.non,V.non]) ht;have s3:=af (o:=.lst [V.ref t]) hc;have cq:gM ts LJ (f' 1)=ts.take 1:=pi ts 1;have pr1:Mn (PV H) (un.take 1) (gM ts LJ (f' 1)):=by rw[cq];exact gy 1 pr
    refine⟨.list ((un.take 1).map pvD),.list [Ep],⟨q,_,rfl,s3 _ _ (s2 _ _ a8),?_⟩,⟨c,_,rfl,a8,_,_,rfl,⟨t,_,rfl,s3 _ _ a8,_,_,rfl,rfl,_,_,rfl,rfl,rfl⟩,rfl⟩,rg _,yt,?_⟩
    . exact oP (Paired.mapP pr1 λ_ _ h=>h.keep (s1.trans (s2.trans s3)).kt)
    . rw[yj];exact k _ (s1.trans (s2.trans s3))
  |false =>
    refine⟨_,rfl,rfl,_,rfl,ir (sne (show Wd.key .handed≠"asked" by decide +kernel)) ⟨_,rfl,rfl,_,rfl,ir (sne (show Wd.key .handed≠"taken" by decide +kernel)) ⟨_,rfl,rfl,_,rfl,ir (sne (show Wd.key .handed≠"answered" by decide +kernel)) ?_⟩⟩⟩;obtain⟨ts,e0,pr⟩:=J.h;refine⟨_,rfl,fld hx G.bn G.bR Ji ⟨_,rfl,z.h,ts,rfl,SqL.of e0,λq hq=>⟨_,rfl,_,rfl,l2,λt ht=>⟨DI,λc hc=>?_⟩⟩⟩⟩;have s1:=af (o:=.lst (gM ts LJ (f' 1))) hq;have s2:=af (o:=.tup [V.non,V.non]) ht;have s3:=af (o:=.lst [V.ref t]) hc;have cq:gM ts LJ (f' 1)=ts.take 1:=pi ts 1;have pr1:Mn (PV H) (uh.take 1) (gM ts LJ (f' 1)):=by rw[cq];exact gy 1 pr
    refine⟨.list ((uh.take 1).map pvD),.list [Ep],⟨q,_,rfl,s3 _ _ (s2 _ _ a8),?_⟩,⟨c,_,rfl,a8,_,_,rfl,⟨t,_,rfl,s3 _ _ a8,_,_,rfl,rfl,_,_,rfl,rfl,rfl⟩,rfl⟩,rg _,yt,?_⟩
    . exact oP (Paired.mapP pr1 λ_ _ h=>h.keep (s1.trans (s2.trans s3)).kt)
    . rw[yj];exact k _ (s1.trans (s2.trans s3))
def Hw (G:Gs K mg a d):FnOk P w K mg base CX0 3 a.dl d.dl ["story"] Ib:=by
 have Rg:FnOk P w K mg base CX0 1 _ _ _ _:=Cp G;have Rh:FnOk P w K mg base CX0 1 _ _ _ _:=(FV G).or (CA G);have Ri:FnOk P w K mg base CX0 1 _ _ _ _:=Gb G;refine G.m3.ok fq (λvs H Q E h=>?_) (λcdv A outer s H vs Q E hr h=>?_)
 . obtain⟨l,hs,rfl,_⟩:=h;rfl
 . obtain⟨l,hs,rfl,S,hl,k⟩:=h;have hu:=bP hr;refine⟨_,((@aH _ _ 1 _ _ _ _ fq.nd rfl (Mx rfl) (sk G.Gy Rg (hr.mono (by decide)) (by rfl) G.Hc G.sU .nil aq) (by rfl) (by first|exact .inl rfl|exact .inr rfl|assumption))∪((nU NG rfl (GY (by rfl) G.wu ((pv 0)∣aa)) (EC rfl (oj (fV (i:=2) fq.nd rfl (Mx rfl)) (oj (fV (i:=3) fq.nd rfl (Mx rfl)) Bx))) ((aC (bN (bi (ar (pv 1) G.bn G.rY Rh (hr.mono (by decide)) G.ve .nil aq ((@aB _ _ _ _ _ _ _ aD (pv 3) aj (λ_ _=>rfl))∣((@aB _ _ _ _ _ _ _ aD (pv 3) aj (λ_ _=>rfl))∣((@aB _ _ _ _ _ _ _ aD (pv 3) aj (λ_ _=>rfl))∣aa)))))) ((pv 2)⁻¹) al)∪(@ao _ _ _ (@aK _ _ _ _ (ar (pv 1) G.bn G.qv Ri (hr.mono (by decide)) G.tR .nil aq ((@aB _ _ _ _ _ _ _ aD (pv 3) aj (λ_ _=>rfl))∣((@aB _ _ _ _ _ _ _ aD (pv 3) aj (λ_ _=>rfl))∣((@aB _ _ _ _ _ _ _ aD (pv 3) aj (λ_ _=>rfl))∣aa)))) (by rfl)))))∪(eE⁻¹))),?_⟩;intro j dx nj ndx nex;refine⟨j,dx,rfl,a8,λz H1 hz g1 g2 g3 g4 J1 kp1=>⟨rfl,?_⟩⟩;have e1:aZ H H1:=mf nj ndx kp1;have fz:∀ c,z.own c->H c=LJ:=λc hc=>by
    rcases hc with y|y|y|y|y
    . rw[y,hz];exact nj
    . rw[y];exact(up1 (up1 g1).2).2
    . rw[y];exact(up1 (up1 g2).2).2
    . rw[y];exact(up1 (up1 g3).2).2
    . rw[y];exact(up1 (up1 g4).2).2
   subst hz;clear kp1 g1 g2 g3 g4 nj ndx nex;obtain⟨ts,e0,pr⟩:=S;have lt:=b9 pr;refine⟨_,rfl,l,ts,rfl,SqL.of (e1 _ _ e0),?_⟩;refine Dh (K:=K) (a:=l) (xs:=ts) (λi σ H'=>∃ ah un uh go do',(∃ v2 v3,σ=[f' (.ref l),f' (.ref z.j),v2,v3])/\Jn a.gN H' z un uh go do'/\hs.take i=ah.map Hx.h/\JI ah un uh go do'/\aZ H H'/\jW ah (hs.drop i)=jW [] hs)
    ⟨[],[],[],[],[],⟨_,_,rfl⟩,J1,rfl,JI.zero,e1,rfl⟩ (λ_ _ _ _ uq18=>by(obtain⟨_,_,_,_,_,_,_,_,_,y,_⟩:=uq18;exact SqL.of (y _ _ e0))) ?_ ?_
   . rintro i y T σ H2 hi hT ⟨ah,un,uh,go,do',⟨v2,v3,rfl⟩,J,hta,I,e2,hf⟩;obtain⟨h,c,hh,rfl,vc⟩:=HL pr hi;have hil:i < hs.length:=(Mh.mp hh).1;have hal:=L3 (Nat.le_of_lt hil) hta;have e3:=af (o:=.tup [V.int (i:Int),V.ref c]) hT;have vT:upd H2 T (.tup [V.int (i:Int),V.ref c]) T=f' (.tup [V.int (i:Int),V.ref c]):=a8;have J3:=J.same e3;have E3:=e2.trans e3;generalize upd H2 T (.tup [V.int (i:Int),V.ref c])=H3 at J3 E3 vT |-;have v3:=E3 _ _ vc;refine⟨T,_,rfl,SqT.of vT,rfl,_,_,rfl,_,_,rfl,rfl,?_⟩;obtain⟨l1,l2',l3',l4⟩:=I.lens;cases h with
    |n b =>
      rw[zk hh]at hf;refine⟨_,rfl,fc J3.ob B6 ⟨_,rfl,c,_,_,_,rfl,rfl,SqT.of v3,rfl,_,rfl,c,_,_,_,rfl,rfl,SqT.of v3,rfl,_,rfl,c,_,_,_,rfl,rfl,SqT.of v3,rfl,.inr ⟨z,un,uh,go,do',b,rfl,J3,by omega,by omega,λH4 e4=>⟨_,rfl,?_⟩⟩⟩⟩;have q:=k H4 (E3.trans e4);rw[<-hf,hal]at q;exact fP ⟨_,rfl,q⟩
    |h h =>
      refine⟨_,rfl,fc J3.ob B6 ⟨_,rfl,c,_,_,_,rfl,rfl,SqT.of v3,rfl,_,rfl,c,_,_,_,rfl,rfl,SqT.of v3,rfl,_,rfl,c,_,_,_,rfl,rfl,SqT.of v3,rfl,.inl ⟨z,un,uh,go,do',h,rfl,J3,by omega,by omega,λH4 e4=>⟨_,rfl,?_⟩⟩⟩⟩;rw[I.fits];rw[Be hh]at hf;have J4:=J3.same e4;have E4:=E3.trans e4;have v4:=e4 _ _ v3;cases hb:vP ah h with
     |false =>
       rw[hb]at hf;have q:=k H4 E4;rw[<-hf,SG (by decide),hal]at q;exact fP ⟨_,rfl,q⟩
     |true =>
       rw[hb,SF rfl]at hf;refine cW ⟨_,rfl,fc J4.ob Kk ⟨_,rfl,c,_,_,_,rfl,rfl,SqT.of v4,rfl,_,rfl,c,_,_,_,rfl,rfl,SqT.of v4,rfl,_,rfl,c,_,_,_,rfl,rfl,SqT.of v4,rfl,z,ah,un,uh,go,do',h,rfl,J4,I,hb,by omega,λH5 un5 uh5 go5 do5 J5 I5 ko5 t5=>?_⟩⟩;refine⟨_,un5,uh5,go5,do5,⟨_,_,rfl⟩,J5,Kf hh hta,I5,λb o e=>?_,hf⟩;exact ko5 b o (λy=>by rw[fz b y]at e;cases e) (E4 b o e)
   . rintro σ H2 ⟨ah,un,uh,go,do',⟨v2,v3,rfl⟩,J,hta,I,e2,hf⟩;rw[drop_of_length_le (by omega)]at hf;have q:=k H2 e2;rw[<-hf]at q;exact q
def FM (w:LZ) (C:D'):Sp:=λvs H Q _=>∃ (sa:SA) (m:Mem) (rs:Bool->List Wr) (k:Cn),vs=[.ref sa.x,.str k.key]/\StT w C H sa m rs/\Q (.int (m.c k)) H
def Lm {w:LZ}{C:D'}{vs:List V}{H:Hp}{Q:VK}{E:XK}(h:FM w C vs H Q E):vb w C vs H Q E:=by
 obtain⟨sa,m,rs,k,rfl,⟨M,r,S,R,P⟩,q⟩:=h;refine⟨sa.x,sa.hd,sa.rl,sa.l,M,r,.str k.key,.str k.key,rfl,S,kS (zB k),?_⟩;rw[R.c k];exact q
def IX (w:LZ) (ad:Ad) (K:LN):Sp:=λvs H Q _=>∃ (a:YA) (q:YP) (S:YS) (wt:D') (w0:Str) (b:Bool),vs=[.ref a.y,.ref wt]/\Yn w ad.bf ad.dc ad.ba ad.ce ad.aG H a q S/\q.Ok /\
 (∀ H,SqT K H wt [.str w0,.str (lkA b).key,.str (lkB b).key])/\∀ H',aZ H H'->Q (.int (Hg q S b)) H'
def Fw (w:LZ) (ad:Ad):Sp:=λvs H Q _=>∃ (a:YA) (q:YP) (S:YS) (b:Bool),vs=[.ref a.y,.int (sdI b)]/\Yn w ad.bf ad.dc ad.ba ad.ce ad.aG H a q S/\q.Ok /\
 ∀ H',aZ H H'->Q (.bl (ovB q S b)) H'
def EW (G:Gs K mg a d):FnOk P w K mg base CX0 2 a.bp d.bp ["yard","words"] (IX w a K):=by
 have RK:FnOk P w K mg base CX0 1 _ _ _ _:=Gm G;have RO:FnOk P w K mg base CX0 1 _ _ _ _:=mt G;have RS:FnOk P w K mg base CX0 1 _ _ _ _:=y9 G;have Rx:FnOk P w K mg base CX0 1 _ _ _ _:=(tZ G).imp λvs H Q E=>Lm
 refine G.et.ok c9 (λvs H Q E h=>?_) (λcdv A' outer s' H vs Q E hr h=>?_)
 . obtain⟨y,q,S,wt,w0,b,rfl,_⟩:=h;rfl
 . obtain⟨y,q,S,wt,w0,b,rfl,Y,ok,ht,k⟩:=h;have hu:=bP hr;refine⟨_,((@aH _ _ 2 _ _ _ _ c9.nd rfl (Mx rfl) (aV (pv 0) G.am G.uk RK (hr.mono (by decide)) G.vY .nil aq) (by rfl) (by first|exact .inl rfl|exact .inr rfl|assumption))∪((@aH _ _ 3 _ _ _ _ c9.nd rfl (Mx rfl) (ar (aV (pv 0) G.am G.cR RO (hr.mono (by decide)) G.dW .nil aq) G.aF G.gG Rx (hr.mono (by decide)) G.ia .nil aq ((@aB _ _ _ _ _ _ _ aD (pv 1) aj (λ_ _=>rfl))∣aa)) (by rfl) (by first|exact .inl rfl|exact .inr rfl|assumption))∪((@aH _ _ 4 _ _ _ _ c9.nd rfl (Mx rfl) (ar (aV (pv 0) G.am G.cR RO (hr.mono (by decide)) G.dW .nil aq) G.aF G.gG Rx (hr.mono (by decide)) G.ia .nil aq ((@aB _ _ _ _ _ _ _ aD (pv 1) aj (λ_ _=>rfl))∣aa)) (by rfl) (by first|exact .inl rfl|exact .inr rfl|assumption))∪((ax RS (hr.mono (by decide)) (by rfl) G.rh G.mY.kp G.qY .nil aq ((pv 3)∣((pv 4)∣((@aB _ _ _ _ _ _ _ aD (pv 2) aj (λ_ _=>rfl))∣((@aB _ _ _ _ _ _ _ aD (pv 2) aj (λ_ _=>rfl))∣aa)))))⁻¹)))),?_⟩;refine⟨_,rfl,fc Y.ob (iu (by decide +kernel)) ⟨y,_,S,rfl,Y,λt nt=>?_⟩⟩;have e1:=af (o:=.tup [V.int q.p.s,V.int q.p.R]) nt;have g1:=a8 (H:=H) (a:=t) (o:=.tup [V.int q.p.s,V.int q.p.R]);generalize upd H t _=H1 at e1 g1 |-;have Y1:=Y.same e1;refine⟨_,rfl,fc Y1.ob (iu (by decide +kernel)) ⟨y,_,S,rfl,Y1,?_⟩⟩;refine fc Y1.x.st.ob (cK (by decide +kernel) (by decide +kernel)) ⟨_,rfl,wt,_,_,_,rfl,rfl,ht _,rfl,⟨_,_,_,_,rfl,Y1.x.st,?_⟩⟩;refine⟨_,rfl,fc Y1.ob (iu (by decide +kernel)) ⟨y,_,S,rfl,Y1,?_⟩⟩;refine fc Y1.x.st.ob (cK (by decide +kernel) (by decide +kernel)) ⟨_,rfl,wt,_,_,_,rfl,rfl,ht _,rfl,⟨_,_,_,_,rfl,Y1.x.st,?_⟩⟩;refine⟨_,rfl,_,rfl,_,rfl,t,_,_,_,rfl,rfl,SqT.of g1,rfl,_,rfl,t,_,_,_,rfl,rfl,SqT.of g1,rfl,?_⟩;exact⟨_,_,_,_,rfl,ok.ok.s0,ok.ok.s8,ok.ok.sR,k _ e1⟩
def Gr (G:Gs K mg a d):FnOk P w K mg base CX0 3 a.fg d.fg ["yard","side"] (Fw w a):=by
 have RL:FnOk P w K mg base CX0 1 _ _ _ _:=yH G;have RJ:FnOk P w K mg base CX0 1 _ _ _ _:=zw G;have RW:FnOk P w K mg base CX0 2 _ _ _ _:=EW G;refine G.jX.ok rV (λvs H Q E h=>?_) (λcdv A' outer s' H vs Q E hr h=>?_)
 . obtain⟨y,q,S,b,rfl,_⟩:=h;rfl
 . obtain⟨y,q,S,b,rfl,Y,ok,k⟩:=h;have hu:=bP hr;refine⟨_,((aC ((o6 (ap sJ (ar (pv 0) G.am G.p9 RL (hr.mono (by decide)) G.qy .nil aq ((pv 1)∣aa)) ag (av _)) (kN (bN (bi (ar (pv 0) G.am G.nZ RJ (hr.mono (by decide)) G.pI .nil aq ((@gs _ _ _ _ _ _ _ _ Bw aj (pv 1))∣aa))))))).pt (cX⁻¹) al)∪((bD sJ (ax RW (hr.mono (by decide)) (by rfl) G.gR G.et.kp G.gW .nil aq ((pv 0)∣((gc (ap cw (pv 1) aj (av _)) (bX (v:=.ref a.bG) (by rfl) G.mC rfl) (bX (v:=.ref a.gP) (by rfl) G.xP rfl))∣aa))) aj (av _))⁻¹)),?_⟩;refine⟨_,rfl,fc Y.ob (iu (by decide +kernel)) ⟨_,rfl,y,_,S,b,rfl,Y,?_⟩⟩;refine⟨rfl,_,rfl,?_⟩;unfold ovB at k;by_cases ha:S.bd b=.asleep
   . have e1:¬ (!decide (V.str (S.bd b).key=V.str "asleep"))=l':=by rw[ha];decide +kernel
     rw[SI ha,Bool.true_and]at k;refine cz e1 ?_;refine⟨_,rfl,fc Y.ob (iu (by decide +kernel)) ⟨_,rfl,_,_,rfl,rfl,⟨y,_,S,!b,by cases b<;>rfl,Y,_,rfl,?_⟩⟩⟩;cases hq:S.qt (!b) with
    |false =>
      rw[hq]at k;exact i9 rfl (k H (aZ.refl _))
    |true =>
      rw[hq,Bool.true_and]at k;refine cz (λz=>by cases z) ?_;have fin:∀ H',aZ H H'->Q (.bl (!decide (V.int (Hg q S b)=V.int 0))) H':=λH' e=>by
       have:=k H' e;by_cases z:Hg q S b=0
       . rw[z]at this |-;exact this
       . rw[SI z]at this;rw[decide_eq_false λy=>z (mG y)];exact this
      cases b with
     |false =>
       exact⟨_,rfl,_,rfl,rfl,_,rfl,i9 rfl ⟨y,_,S,a.bG,"answer",K',rfl,Y,ok,G.mh,λH' e=>⟨rfl,fin H' e⟩⟩⟩
     |true =>
       exact⟨_,rfl,_,rfl,rfl,_,rfl,cz (by decide) ⟨y,_,S,a.gP,"ask",l',rfl,Y,ok,G.x8,λH' e=>⟨rfl,fin H' e⟩⟩⟩
   . have e1:(!decide (V.str (S.bd b).key=V.str "asleep"))=l':=by cases hb:S.bd b<;>first|(rw[hb]at ha;exact absurd rfl ha)|decide +kernel
     rw[decide_eq_false ha,Bool.false_and]at k;refine i9 e1 (i9 rfl (k H (aZ.refl _)))
def BB (k:Wd) (es:List Hap):(thH k es).length <= es.length:=by unfold thH;rw[Md];exact List.length_filter_le ..
def xA {k:Wd}{es:List Hap}{i:Nat}(h:i < es.length):thH k (es.take (i+1))=if es[i].w=k then thH k (es.take i)++[(es[i].n,es[i].o)] else thH k (es.take i):=by
 rw[List.take_add_one,LQ h];exact sT k _ _
def C6 {a b:Wd}(h:V.str a.key=V.str b.key):a=b:=by
 cases a<;>cases b<;>first|rfl|exact absurd h (by decide +kernel)
def Ju:Sp:=λvs H Q _=>∃ (st:D') (es:List Hap) (k j:Wd),vs=[.ref st,.str k.key,.str j.key]/\SV H st es/\es.length < 1000 /\
 ∀ (p:D') (H':Hp),aZ H H'->TL H' p ((thH k es).drop (thH j es).length)->Q (.ref p) H'
def HE (w:LZ) (ad:Ad) (K:LN):Sp:=λvs H Q _=>∃ (a:YA) (q:YP) (S:YS) (st wt:D') (w0:Str) (b:Bool) (es:List Hap),vs=[.ref a.y,.ref st,.ref wt]/\Yn w ad.bf ad.dc ad.ba ad.ce ad.aG H a q S/\q.Ok /\
 (∀ H,SqT K H wt [.str w0,.str (lkA b).key,.str (lkB b).key])/\SV H st es/\es.length < 1000/\∀ H',aZ H H'->Q (.bl (DY q S es b)) H'
def JS (b:Bool):(lkA b).key=(lkW b).key:=by cases b<;>rfl
def K9 (b:Bool):(lkB b).key=(lkX b).key:=by cases b<;>rfl
def Jy (G:Gs K mg a d):FnOk P w K mg base CX0 1 a.dI d.dI ["story","laid","fetched"] Ju:=by
 refine G.mE.ok i4 (λvs H Q E h=>?_) (λcdv A' outer s' H vs Q E hr h=>?_)
 . obtain⟨st,es,k,j,rfl,_⟩:=h;rfl
 . obtain⟨st,es,k,j,rfl,⟨zs,hst,pr⟩,hl,kk⟩:=h;have hu:=bP hr;refine⟨_,((by exact zM (iN:=3) (tc:=z0 (tOp rEq (tOp (Fp K) (nJ 0) (tC (.int 0))) (nJ 1))) (te:=JY (io (tOp (Fp K) (nJ 0) (tC (.int 1))) (io (tOp (Fp K) (nJ 0) (tC (.int 2))) vQ))) (caps:=["laid"]) (js:=[1]) i4.nd rfl (Mx rfl) (by rfl) rfl (ky rfl rfl (by decide +kernel) (by decide +kernel) rfl ⟨rfl,trivial⟩ rfl rfl) (by decide +kernel) ⟨⟨⟨_,rfl⟩,rfl,.inl rfl,.inl rfl⟩,trivial⟩ (ii (pv 0)) (λC s₃ H₃ Oj ex E'=>by exact BE (ap cw (@aB _ _ _ _ _ _ _ aD (pv 0) aj (λ_ _=>rfl)) (pv 1) (av _))) (λC s₃ H₃ Oj ex E'=>by exact(@bO _ _ _ _ _ ((@aB _ _ _ _ _ _ _ aD (pv 0) aj (λ_ _=>rfl))∣((@aB _ _ _ _ _ _ _ aD (pv 0) aj (λ_ _=>rfl))∣aa)))))∪((@aH _ _ 4 _ _ _ _ i4.nd rfl (Mx rfl) (aA aN (by rfl) G.kJ fJ ((by exact lz (tc:=z0 (tOp rEq (tOp (Fp K) (nJ 0) (tC (.int 0))) (nJ 1))) (te:=nJ 0) (caps:=["fetched"]) (js:=[2]) rfl (ky rfl rfl (by decide +kernel) (by decide +kernel) rfl ⟨rfl,trivial⟩ rfl rfl) (by decide +kernel) ⟨⟨⟨_,rfl⟩,rfl,.inl rfl,.inl rfl⟩,trivial⟩ (ii (pv 0)) (λC s₃ H₃ Oj ex E'=>by exact BE (ap cw (@aB _ _ _ _ _ _ _ aD (pv 0) aj (λ_ _=>rfl)) (pv 1) (av _))) (λC s₃ H₃ Oj ex E'=>by exact(pv 0)))∣aa)) (by rfl) (by first|exact .inl rfl|exact .inr rfl|assumption))∪((bB dN (pv 3) (bK (pv 4)) dw)⁻¹))),?_⟩;refine⟨_,rfl,st,rfl,⟨_,SqL.of hst⟩,λD hD=>?_⟩;have pl:=b9 pr;refine⟨λi mm ys H'=>i <= es.length/\mm=es.length - i/\Mn (PV H') (thH k (es.take i)) ys/\H' D=f' (.lst ys)/\∀ c o,c≠D->H c=f' o->H' c=f' o,⟨_,Ny _,rfl,.nil,a8,λc o n e=>by rw[ac n];exact e⟩,?_⟩;rintro i mm ys H2 ⟨hi,rfl,py,hD2,k2⟩;have e2:aZ H H2:=λc o e=>k2 c o (λy=>by rw[y,hD]at e;cases e) e
   have yl:ys.length <= i:=by
    have h2:=BB k (es.take i);rw[NN]at h2;have h3:=b9 py;omega
   refine⟨hD2,LR (show _ < 1000 by omega) (by decide),?_⟩;by_cases hii:i=es.length
   . refine .inl ⟨⟨_,SqL.of (e2 _ _ hst),by omega⟩,?_⟩;rw[hii,take_length]at py;clear hii yl k2 hi;refine⟨_,rfl,st,rfl,⟨_,SqL.of (e2 _ _ hst)⟩,λD2 hD3=>?_⟩;refine⟨λi mm zs' H'=>i <= es.length/\mm=es.length - i/\zs'.length=(thH j (es.take i)).length/\H' D2=f' (.lst zs')/\∀ c o,c≠D2->H2 c=f' o->H' c=f' o,⟨_,Ny _,rfl,rfl,a8,λc o n e=>by rw[ac n];exact e⟩,?_⟩;rintro i mm zs' H3 ⟨hi,rfl,pz,hD4,k3⟩;have e3:aZ H2 H3:=λc o e=>k3 c o (λy=>by rw[y,hD3]at e;cases e) e
     have yl:zs'.length <= i:=by
      have h2:=BB j (es.take i);rw[NN]at h2;omega
     refine⟨hD4,LR (show _ < 1000 by omega) (by decide),?_⟩;by_cases hii:i=es.length
     . refine .inl ⟨⟨_,SqL.of (e3 _ _ (e2 _ _ hst)),by omega⟩,?_⟩;rw[hii,take_length]at pz;refine⟨D2,_,rfl,.inl (SqL.of hD4),?_⟩;refine⟨_,rfl,_,rfl,_,rfl,D,ys,rfl,SqL.of (e3 _ _ hD2),λp hp=>?_⟩;rw[dQ];have e4:=e3.trans (af (o:=.lst (ys.drop zs'.length)) hp);refine kk p _ (e2.trans e4) ⟨_,a8,?_⟩;rw[<-pz];exact iY _ (Paired.mapP py λ_ _ h=>h.keep e4.kt)
     . have hlt:i < es.length:=by omega
       obtain⟨z,hz,t,rfl,ht⟩:=Paired.at' pr (LQ hlt);refine .inr ⟨⟨_,_,SqL.of (e3 _ _ (e2 _ _ hst)),hz⟩,?_⟩;rintro v H4 ⟨rfl,hv⟩;have hv:=hv _ (SqL.of (e3 _ _ (e2 _ _ hst)));rw[hz]at hv;cases hv;refine⟨_,rfl,t,_,_,_,rfl,rfl,SqT.of (e3 _ _ (e2 _ _ ht)),rfl,_,rfl,rfl,_,rfl,?_⟩;have hth:=xA (k:=j) hlt;by_cases hk:es[i].w=j
       . refine i9 (SI (by rw[hk])) ?_;rw[SF hk]at hth;refine⟨_,rfl,hD4,_,?_,?_,rfl,?_,a8,λc o n e=>?_⟩
         . omega
         . omega
         . rw[hth,LU,LU,pz];rfl
         . rw[ac n];exact k3 c o n e
       . refine cz (by rw[SH];exact λz=>hk (C6 z)) ?_;rw[SG hk]at hth;exact⟨_,by omega,by omega,rfl,by rw[hth];exact pz,hD4,k3⟩
   . have hlt:i < es.length:=by omega
     obtain⟨z,hz,t,rfl,ht⟩:=Paired.at' pr (LQ hlt);refine .inr ⟨⟨_,_,SqL.of (e2 _ _ hst),hz⟩,?_⟩;rintro v H3 ⟨e3',hv⟩;have hv:=hv _ (SqL.of (e2 _ _ hst));subst H3;rw[hz]at hv;cases hv;refine⟨_,rfl,t,_,_,_,rfl,rfl,SqT.of (e2 _ _ ht),rfl,_,rfl,rfl,_,rfl,?_⟩;have hth:=xA (k:=k) hlt;by_cases hk:es[i].w=k
     . refine i9 (SI (by rw[hk])) ?_;rw[SF hk]at hth;refine⟨_,rfl,t,_,_,_,rfl,rfl,SqT.of (e2 _ _ ht),rfl,_,rfl,t,_,_,_,rfl,rfl,SqT.of (e2 _ _ ht),rfl,l2,λt2 ht2=>?_⟩;have e3:=af (o:=.tup [V.int es[i].n,V.int es[i].o]) ht2;have kt:Kt H2 (upd (upd H2 t2 (.tup [V.int es[i].n,V.int es[i].o])) D (.lst (ys++[.ref t2]))):=λb vs e=>iy (e3 _ _ hD2) (λ_ z=>by cases z) _ _ _ (e3 _ _ e)
       refine⟨e3 _ _ hD2,_,?_,?_,rfl,?_,a8,λc o n e=>?_⟩
       . omega
       . omega
       . rw[hth];exact Mn.snoc (Paired.mapP py λ_ _ h=>h.keep kt) ⟨t2,rfl,iy (e3 _ _ hD2) (λ_ z=>by cases z) _ _ _ a8⟩
       . rw[ac n];exact e3 _ _ (k2 c o n e)
     . refine cz (by rw[SH];exact λz=>hk (C6 z)) ?_;rw[SG hk]at hth;exact⟨_,by omega,by omega,rfl,by rw[hth];exact py,hD2,k2⟩
def Iv (G:Gs K mg a d):FnOk P w K mg base CX0 3 a.gq d.gq ["yard","story","words"] (HE w a K):=by
 have RW:FnOk P w K mg base CX0 2 _ _ _ _:=EW G;have Sb:FnOk P w K mg base CX0 1 _ _ _ _:=Jy G;refine G.lV.ok uB (λvs H Q E h=>?_) (λcdv A' outer s' H vs Q E hr h=>?_)
 . obtain⟨y,q,S,st,wt,w0,b,es,rfl,_⟩:=h;rfl
 . obtain⟨y,q,S,st,wt,w0,b,es,rfl,Y,ok,ht,hst,hl,k⟩:=h;have hu:=bP hr;refine⟨_,((bD sJ (ax RW (hr.mono (by decide)) (by rfl) G.gR G.et.kp G.gW .nil aq ((pv 0)∣((pv 2)∣aa))) (aA aN (by rfl) G.kJ fJ ((ax Sb (hr.mono (by decide)) (by rfl) G.sV G.mE.kp G.tE .nil aq ((pv 1)∣((@aB _ _ _ _ _ _ _ aD (pv 2) aj (λ_ _=>rfl))∣((@aB _ _ _ _ _ _ _ aD (pv 2) aj (λ_ _=>rfl))∣aa))))∣aa)) (av _))⁻¹),?_⟩;refine⟨_,rfl,_,rfl,y,_,S,wt,w0,b,rfl,Y,ok,ht,λH1 e1=>?_⟩;refine⟨_,rfl,_,rfl,wt,_,_,_,rfl,rfl,ht _,rfl,_,rfl,wt,_,_,_,rfl,rfl,ht _,rfl,st,es,lkW b,lkX b,by rw[<-JS,<-K9];rfl,hst.same e1,hl,λp H2 e2 hp=>?_⟩;obtain⟨ys,hp,pr⟩:=hp;refine⟨p,ys,rfl,.inl (SqL.of hp),rfl,?_⟩;have z:=k H2 (e1.trans e2);have le:=b9 pr;rw[length_drop]at le;unfold DY at z;by_cases y:Hg q S b=(((thH (lkW b) es).length - (thH (lkX b) es).length:Nat):Int)
   . rw[decide_eq_false λw=>w y]at z;rw[SI (by rw[y,<-le])];exact z
   . rw[SI y]at z;rw[decide_eq_false λw=>y (by rw[le];exact mG w)];exact z
def FB (w:LZ) (ad:Ad):Sp:=λvs H Q _=>∃ (a:YA) (q:YP) (S:YS) (hs:List Hx),vs=[.ref a.y]/\Yn w ad.bf ad.dc ad.ba ad.ce ad.aG H a q S/\q.Ok/\S.hs=hs.map Hx.d/\hs.length < 900/\∀ H',aZ H H'->Q (.bl (Kb q S hs)) H'
def Cf (G:Gs K mg a d):FnOk P w K mg base CX0 4 a.pK d.pK ["yard"] (FB w a):=by
 have RQ:FnOk P w K mg base CX0 1 _ _ _ _:=sg G;have RO:FnOk P w K mg base CX0 1 _ _ _ _:=mt G;have Rz:FnOk P w K mg base CX0 1 _ _ _ _:=(oF G).imp λvs H Q E=>xO
 have RY:FnOk P w K mg base CX0 3 _ _ _ _:=Hw G;have R':FnOk P w K mg base CX0 3 _ _ _ _:=Iv G;have Sf:FnOk P w K mg base CX0 3 _ _ _ _:=Gr G;refine G.Ce.ok AW (λvs H Q E h=>?_) (λcdv A' outer s' H vs Q E hr h=>?_)
 . obtain⟨y,q,S,hs,rfl,_⟩:=h;rfl
 . obtain⟨y,q,S,hs,rfl,Y,ok,hh,hl,k⟩:=h;have hu:=bP hr;refine⟨_,((@aH _ _ 1 _ _ _ _ AW.nd rfl (Mx rfl) (aV (pv 0) G.am G.iP RQ (hr.mono (by decide)) G.jK .nil aq) (by rfl) (by first|exact .inl rfl|exact .inr rfl|assumption))∪((aC (ap oN (ax RY (hr.mono (by decide)) (by rfl) G.sZ G.m3.kp G.sK .nil aq ((pv 1)∣aa)) eE (av _)) (cX⁻¹) al)∪((aC (oW ((o6 (mD (ar (aV (pv 0) G.am G.cR RO (hr.mono (by decide)) G.dW .nil aq) G.aF G.cY Rz (hr.mono (by decide)) G.eI .nil aq (aj∣aa)) (λ_=>rfl)) (kN (mD (ar (aV (pv 0) G.am G.cR RO (hr.mono (by decide)) G.dW .nil aq) G.aF G.cY Rz (hr.mono (by decide)) G.eI .nil aq (aj∣aa)) (λ_=>rfl))))).pt) (cX⁻¹) al)∪((aC (oW ((o6 (bi (ax R' (hr.mono (by decide)) (by rfl) G.pW G.lV.kp G.pG .nil aq ((pv 0)∣((pv 1)∣((bX (v:=.ref a.gP) (by rfl) G.xP rfl)∣aa))))) (kN (bi (ax R' (hr.mono (by decide)) (by rfl) G.pW G.lV.kp G.pG .nil aq ((pv 0)∣((pv 1)∣((bX (v:=.ref a.bG) (by rfl) G.mC rfl)∣aa)))))))).pt) (cX⁻¹) al)∪((Jx (ax Sf (hr.mono (by decide)) (by rfl) G.nB G.jX.kp G.nE .nil aq ((pv 0)∣(aj∣aa))) (uD (ax Sf (hr.mono (by decide)) (by rfl) G.nB G.jX.kp G.nE .nil aq ((pv 0)∣(aj∣aa)))))⁻¹))))),?_⟩;refine⟨_,rfl,fc Y.ob (iu (by decide +kernel)) ⟨y,_,S,rfl,Y,λl ts nl dv=>?_⟩⟩;have e1:=af (o:=.lst ts) nl;have dv':=DVs.fl (λb vs e=>e1 b _ e) Y.fl dv;have hl1:upd H l (.lst ts) l=f' (.lst ts):=a8;generalize upd H l (.lst ts)=H1 at e1 dv' hl1 |-;have Y1:=Y.same e1;rw[hh]at dv';have SX1:SX H1 l hs:=⟨ts,hl1,Ih dv'⟩
   clear dv dv' nl;refine⟨_,rfl,l,hs,rfl,SX1,hl,λH2 e2=>?_⟩;have Y2:=Y1.same e2;have SX2:=SX1.same e2;have E2:=e1.trans e2;clear SX1 Y1 e1 e2 hl1;unfold Kb at k;cases hf:jW [] hs with
  |some n =>
    rw[hf,SG (by intro z;cases z)]at k;exact⟨rfl,_,rfl,fP (k _ E2)⟩
  |none =>
    rw[hf,SF rfl]at k;refine⟨rfl,_,rfl,cW ?_⟩;have hr:=um hf;generalize rls hs=rs at k hr;subst hr;rw[Md]at hl;have S2:SV H2 l rs:=by
     obtain⟨ts,h1,h2⟩:=SX2;exact⟨ts,h1,Ht h2⟩
    clear SX2;refine⟨λb H'=>(b=l' ↔ ¬ (S.rs K'=[]/\S.rs l'=[]))/\aZ H2 H',?_,?_⟩
    . refine⟨_,rfl,fc Y2.ob (iu (by decide +kernel)) ⟨y,_,S,rfl,Y2,fc Y2.x.st.ob (cK (by decide +kernel) (by decide +kernel)) ⟨y.sa,S.m,S.rs,K',rfl,Y2.x.st,λp1 t1 hp1 dv1=>⟨_,.inl ⟨_,SqL.of a8,rfl⟩,?_⟩⟩⟩⟩;have l1:=iL dv1;rw[Md]at l1;have e3:=af (o:=.lst t1) hp1;generalize upd H2 p1 (.lst t1)=H3 at e3 |-;cases hr1:S.rs K' with
     |cons z zs =>
       rw[hr1]at l1;cases t1 with
      |nil=>cases l1
      |cons u us=>exact fP ⟨⟨λ_ w=>(by cases w.1),λ_=>rfl⟩,e3⟩
     |nil =>
       rw[hr1]at l1;cases t1 with
      |cons u us=>cases l1
      |nil =>
        refine cW ?_;have Y3:=Y2.same e3;refine⟨_,rfl,fc Y3.ob (iu (by decide +kernel)) ⟨y,_,S,rfl,Y3,fc Y3.x.st.ob (cK (by decide +kernel) (by decide +kernel)) ⟨y.sa,S.m,S.rs,l',rfl,Y3.x.st,λp2 t2 hp2 dv2=>⟨_,.inl ⟨_,SqL.of a8,rfl⟩,?_,e3.trans (af hp2)⟩⟩⟩⟩;have l2':=iL dv2;rw[Md]at l2';cases hr2:S.rs l' with
       |cons z zs =>
         rw[hr2]at l2';cases t2 with
        |nil=>cases l2'
        |cons u us=>exact⟨λ_ w=>(by cases w.2),λ_=>rfl⟩
       |nil =>
         rw[hr2]at l2';cases t2 with
        |cons u us=>cases l2'
        |nil=>exact⟨λz=>(by cases z),λz=>absurd ⟨rfl,rfl⟩ z⟩
    rintro b H3 ⟨hb,e3⟩;by_cases hz:S.rs K'=[]/\S.rs l'=[]
    rotate_left
    . rw[SG hz]at k;rw[hb.mpr hz];exact fP (k _ (E2.trans e3))
    . rw[SF hz]at k;have hbf:b=K':=by
       cases b with
      |false=>rfl
      |true=>exact absurd hz (hb.mp rfl)
      subst hbf;refine cW ?_;have Y3:=Y2.same e3;have S3:=S2.same e3;have E3:=E2.trans e3;clear Y2 S2 E2 e3 hb;refine⟨λb H'=>b=(DY q S rs l' || DY q S rs K')/\aZ H H',?_,?_⟩
      . refine⟨_,rfl,_,rfl,y,q,S,l,a.gP,"ask",l',rs,rfl,Y3,ok,G.x8,S3,by omega,λH4 e4=>⟨_,rfl,?_⟩⟩;cases DY q S rs l' with
       |true=>exact fP ⟨rfl,E3.trans e4⟩
       |false =>
         refine cW ⟨_,rfl,_,rfl,y,q,S,l,a.bG,"answer",K',rs,rfl,Y3.same e4,ok,G.mh,S3.same e4,by omega,λH5 e5=>⟨_,rfl,?_⟩⟩;exact⟨rfl,E3.trans (e4.trans e5)⟩
      rintro b H4 ⟨rfl,E4⟩;rw[<-Bool.or_assoc]at k;cases hm:(DY q S rs l' || DY q S rs K') with
     |true =>
       rw[hm]at k;exact fP (k _ E4)
     |false =>
       rw[hm,Bool.false_or]at k;refine cW ?_;refine⟨_,rfl,y,q,S,K',rfl,Y.same E4,ok,λH5 e5=>⟨_,rfl,?_⟩⟩;cases ho:ovB q S K' with
      |true =>
        rw[ho]at k;exact fP (k _ (E4.trans e5))
      |false =>
        rw[ho,Bool.false_or]at k;exact cW ⟨_,rfl,y,q,S,l',rfl,Y.same (E4.trans e5),ok,λH6 e6=>k _ (E4.trans (e5.trans e6))⟩
def Di:Sp:=λvs H Q _=>∃ i:Int,vs=[.str (cI i)]/\Bnd i/\∀ H',aZ H H'->Q (.bl l') H'
def Dr (G:Gs K mg a d):FnOk P w K mg base CX0 1 a.eK d.eK ["word"] Di:=by
 refine G.iZ.ok gZ (λvs H Q E h=>?_) (λcdv A' outer s' H vs Q E hr h=>?_)
 . obtain⟨i,rfl,_⟩:=h;rfl
 . obtain⟨i,rfl,hb,k⟩:=h;refine⟨_,(@gC _ _ _ _ _ (@aH _ _ 1 _ _ _ _ gZ.nd rfl (Mx rfl) (gc (bi (@mv _ _ _ _ _ _ _ _ _ _ _ _ NR PySem.F.slot_str_startswith PySem.F.type_str_startswith vf (pv 0) (ag∣aa) (by rfl) (by rfl) (by rfl) (by rfl) (by rfl))) (bB Fn (pv 0) (bK aj) dw) (pv 0)) (by rfl) (by first|exact .inl rfl|exact .inr rfl|assumption))
    ((@aC _ _ _ _ _ _ _ _ (oW ((o6 (bN (oq qz qz aj (aA nG (by rfl) G.kJ fJ ((pv 1)∣aa)) (gO (by rfl) G.lb))) (kN (bN (bi (aA (my rfl) (by rfl) G.BZ ui ((by exact lz (tc:=λ_ H Q=>Q l' H) (te:=tOp JN (nJ 0) (tC (.str "0123456789"))) (caps:=[]) (js:=[]) rfl (ky rfl rfl (by decide +kernel) (by decide +kernel) rfl trivial rfl rfl) (by decide +kernel) trivial (EY (pv 1)) (λC s₃ H₃ Oj ex E'=>by exact ge) (λC s₃ H₃ Oj ex E'=>by exact(bD EU (pv 0) (xT (by rfl) G.uZ) (by with_unfolding_all rfl))))∣aa))))))).pt) (cX⁻¹) al)∪((bD cw (b5 j9 (by rfl) G.qQ lv ((b5 mJ (by rfl) G.BK uo ((pv 0)∣aa))∣aa)) (pv 0) (av _))⁻¹))),?_⟩
   obtain⟨f1,f2,f3⟩:=I0 i hb;have nl:=mQ i hb;have hfig:(vC i).cps.all (· < 128)=l':=by
    rw[<-Array.all_toList,all_eq_true];intro c hc;have:=f1 c hc;exact SI (by omega)
   refine⟨λσ H'=>H'=H/\σ=[f' (.str (cI i)),f' (.str (vC i))],?_,?_⟩
   . refine⟨_,rfl,rfl,cI i,"-",rfl,rfl,_,rfl,?_⟩;have fs:vC i=if Txt.startswith (cI i) "-"=l' then DK (cI i) (f' 1) LJ else cI i:=rfl
     cases hs:Txt.startswith (cI i) "-" with
    |true =>
      rw[hs,SF rfl]at fs;exact fP ⟨_,rfl,_,rfl,cI i,rfl,by rw[<-fs];omega,rfl,by rw[fs];rfl⟩
    |false =>
      rw[hs,SG (by decide)]at fs;exact cW ⟨_,rfl,rfl,by rw[fs];rfl⟩
   rintro σ H' ⟨rfl,rfl⟩;refine⟨λb H1=>b=K'/\aZ H' H1,?_,?_⟩
   . refine⟨_,rfl,_,rfl,MG f3 (by decide),_,_,rfl,rfl,_,rfl,i9 (SI (by omega)) ⟨_,_,rfl,rfl,_,rfl,?_⟩⟩;rw[SI (by omega)];refine cW ?_;refine⟨_,rfl,vC i,rfl,hfig,λD hD=>?_⟩;have hsz:(vC i).cps.size=(vC i).length:=rfl;refine⟨λj mm ys H1=>j <= (vC i).cps.size/\mm=(vC i).cps.size - j/\ys=(replicate j l').map V.bl/\H1 D=f' (.lst ys)/\aZ H' H1,⟨_,Ny _,rfl,rfl,a8,af hD⟩,?_⟩;rintro j mm ys H1 ⟨hj,rfl,rfl,hD1,e1⟩;refine⟨hD1,LR (show _ < 100 by rw[Md,Nx];omega) (by decide),?_⟩;by_cases hjj:j=(vC i).cps.size
     . refine .inl ⟨by show (vC i).cps.size <= j;omega,?_⟩;refine⟨D,replicate j l',rfl,SqL.of hD1,_,rfl,?_,e1⟩;have:(replicate j l').all id=l':=by
        rw[all_eq_true];intro b hb;rw[List.eq_of_mem_replicate hb];rfl
       rw[this];rfl
     . refine .inr ⟨by show j < (vC i).cps.size;omega,?_⟩;rintro v H2 ⟨rfl,c,hc,rfl⟩;refine fP ?_;have hm:c∈(vC i).cps.toList:=by
        rw[<-MI]at hc;exact MF hc
       refine⟨_,rfl,_,_,rfl,rfl,?_⟩;rw[J0 (f1 c hm)];refine⟨hD1,(vC i).cps.size - (j+1),by omega,by omega,rfl,?_,a8,λc o e=>?_⟩
       . rw[List.replicate_succ',NV];rfl
       . by_cases z:c=D
         . rw[z,hD]at e;cases e
         . rw[ac z];exact e1 c o e
   rintro b H1 ⟨rfl,e1⟩;refine cW ?_;refine⟨_,rfl,cI i,i,rfl,tP i hb,by omega,.inl ⟨i,rfl,?_,_,rfl,rfl,?_⟩⟩
   . have:i.natAbs < 2 ^ 31:=by unfold Bnd at hb;omega
     by_cases z:i.natAbs=0
     . rw[z];decide
     . have:=(log2_lt z).mpr this;omega
   . rw[SI (show V.str (Na (toString i))=V.str (cI i) from rfl)];exact k _ e1
def D4:Sp:=λvs H Q _=>∃ (i:Int) (k:Str),vs=[.str (cI i),.str k]/\InB k i/\∀ H',aZ H H'->Q (.int i) H'
def uX (K:LN):Sp:=λvs H Q _=>∃ (l t:D') (is:List Int) (ks:List Str),vs=[.ref l,.ref t]/\SqL K H l ((is.map cI).map V.str)/\SqT K H t (ks.map V.str)/\Mn InB ks is/\is.length <= 60/\∀ D H',H D=LJ->aZ H H'->H' D=f' (.lst (is.map V.int))->Q (.ref D) H'
def Ga:Sp:=λvs H Q _=>∃ (l:D') (fs:List Str),vs=[.ref l]/\H l=f' (.lst (fs.map V.str))/\FOk fs/\∀ H',aZ H H'->Q .non H'
def Eh:Sp:=λvs H Q _=>∃ b:Bool,vs=[.bl b]/\Q (.str (ynS b)) H
def wT:Sp:=λvs H Q _=>(vs=[.non]/\Q (.str "none") H)\/∃ i:Int,vs=[.int i]/\Bnd i/\Q (.str (cI i)) H
def DN:Sp:=λvs H Q _=>∃ (x:Dd) (dd:LO) (v:V) (t:Str),vs=[.str x.word,v]/\DV H dd v/\Tl x dd t/\∀ H',aZ H H'->Q (.str t) H'
def vV {i:Int}(hb:Bnd i):i.natAbs.log2 < 1920:=by
 have:i.natAbs < 2 ^ 31:=by unfold Bnd at hb;omega
 by_cases z:i.natAbs=0
 . rw[z];decide
 . have:=(log2_lt z).mpr this;omega
def Cc (G:Gs K mg a d) {k:Str}{i:Int}(h:InB k i):∃ lo hi,lo <= i/\i <= hi/\((∃ b,PyProof.Rows.KTD.datumAt k [("size",a.cm),("rounds",a.cp),("names",a.ck),("name",a.cr),("side",a.cn)]=f' b/\∀ H:Hp,SqT K H b [.int lo,.int hi])\/(PyProof.Rows.KTD.datumAt k [("size",a.cm),("rounds",a.cp),("names",a.ck),("name",a.cr),("side",a.cn)]=LJ/\lo=-1000000000/\hi=1000000000)):=by
 rcases h with⟨rfl,h1,h2⟩|⟨rfl,h1,h2⟩|⟨rfl,h1,h2⟩|⟨rfl,h1,h2⟩|⟨rfl,h1,h2⟩|⟨rfl,h1,h2⟩
 . exact⟨1,8,h1,h2,.inl ⟨_,rfl,G.qS⟩⟩
 . exact⟨2,4,h1,h2,.inl ⟨_,rfl,G.rk⟩⟩
 . exact⟨1,9,h1,h2,.inl ⟨_,rfl,G.qR⟩⟩
 . exact⟨0,1000000000,h1,h2,.inl ⟨_,rfl,G.r8⟩⟩
 . exact⟨0,1,h1,h2,.inl ⟨_,rfl,G.rc⟩⟩
 . exact⟨-1000000000,1000000000,h1,h2,.inr ⟨rfl,rfl,rfl⟩⟩
def Es (G:Gs K mg a d):FnOk P w K mg base CX0 2 a.eJ d.eJ ["word","kind"] D4:=by
 have R0:FnOk P w K mg base CX0 1 _ _ _ _:=Dr G;refine G.j7.ok dS (λvs H Q E h=>?_) (λcdv A' outer s' H vs Q E hr h=>?_)
 . obtain⟨i,k,rfl,_⟩:=h;rfl
 . obtain⟨i,kk,rfl,hb,k⟩:=h;have hu:=bP hr;refine⟨_,((aC (bN (bi (ax R0 (hr.mono (by decide)) (by rfl) G.oJ G.iZ.kp G.pN .nil aq ((pv 0)∣aa)))) (@ao _ _ _ gg) al)∪((@aH _ _ 2 _ _ _ _ dS.nd rfl (Mx rfl) (r0 (by rfl) G.yD G.xm (pv 1) (@bO _ _ _ _ _ ((Gx AH (gO (by rfl) G.dP))∣((gO (by rfl) G.dP)∣aa))) ⟨rfl,rfl,rfl,rfl⟩) (by rfl) (by first|exact .inl rfl|exact .inr rfl|assumption))∪((@aH _ _ 3 _ _ _ _ dS.nd rfl (Mx rfl) (b5 mJ (by rfl) G.BK uo ((pv 0)∣aa)) (by rfl) (by first|exact .inl rfl|exact .inr rfl|assumption))∪((aC (bN (oq qz qz (@aB _ _ _ _ _ _ _ aD (pv 2) aj (λ_ _=>rfl)) (pv 3) (@aB _ _ _ _ _ _ _ aD (pv 2) aj (λ_ _=>rfl)))) (@ao _ _ _ gg) al)∪((pv 3)⁻¹))))),?_⟩;obtain⟨lo,hi,h1,h2,hat⟩:=Cc G hb;have nl:=mQ i hb.bnd;refine⟨_,rfl,i,rfl,hb.bnd,λH1 e1=>⟨_,rfl,cW ?_⟩⟩;refine⟨_,rfl,_,rfl,l2,λt nt=>⟨kk,rfl,?_⟩⟩;have v2:upd H1 t (.tup [.int (-1000000000),.int 1000000000]) t=f' (.tup [.int (-1000000000),.int 1000000000]):=a8;have e2:=e1.trans (af (o:=.tup [.int (-1000000000),.int 1000000000]) nt);rcases hat with⟨b,hd,hs⟩|⟨hd,rfl,rfl⟩
   . rw[hd];refine⟨_,rfl,cI i,i,rfl,tP i hb.bnd,by omega,?_⟩;refine⟨_,rfl,b,_,_,_,rfl,rfl,hs _,rfl,_,rfl,_,_,rfl,rfl,_,rfl,i9 (SI h1) ⟨_,rfl,b,_,_,_,rfl,rfl,hs _,rfl,_,_,rfl,rfl,_,rfl,?_⟩⟩;rw[SI h2];exact cW ⟨_,rfl,k _ e2⟩
   . rw[hd];refine⟨_,rfl,cI i,i,rfl,tP i hb.bnd,by omega,?_⟩;refine⟨_,rfl,t,_,_,_,rfl,rfl,SqT.of v2,rfl,_,rfl,_,_,rfl,rfl,_,rfl,i9 (SI h1) ⟨_,rfl,t,_,_,_,rfl,rfl,SqT.of v2,rfl,_,_,rfl,rfl,_,rfl,?_⟩⟩;rw[SI h2];exact cW ⟨_,rfl,k _ e2⟩
def mz (G:Gs K mg a d):FnOk P w K mg base CX0 3 a.bQ d.bQ ["words","kinds"] (uX K):=by
 have Sd:FnOk P w K mg base CX0 2 _ _ _ _:=Es G;refine G.bW.ok mw (λvs H Q E h=>?_) (λcdv A' outer s' H vs Q E hr h=>?_)
 . obtain⟨l,t,is,ks,rfl,_⟩:=h;rfl
 . obtain⟨l,t,is,ks,rfl,hl,ht,hp,hn,k⟩:=h;have hu:=bP hr;refine⟨_,((aC (ap sJ (aA aN (by rfl) G.kJ fJ ((pv 0)∣aa)) (aA aN (by rfl) G.kJ fJ ((pv 1)∣aa)) (av _)) (@ao _ _ _ gg) al)∪((by exact yx (x:="word") (x2:="kind") (g:=Ir K 2 (sI (jP 0) (sI (jP 1) IB))) (caps:=[]) (js:=[]) rfl (ky rfl rfl (by decide +kernel) (by decide +kernel) rfl trivial rfl rfl) (λC s₃ H₃ Oj ex E'=>by exact AF rfl (show (["word","kind"]:List Str).Nodup from by decide +kernel) rfl rfl (.inl (lookup_relabel_local rfl)) (.inl (lookup_relabel_local rfl)) rfl rfl) trivial (Ae (by rfl) G.FJ ((pv 0)∣((pv 1)∣aa))) (λC s₃ H₃ Oj ex E'=>by exact ge) (λC s₃ H₃ Oj ex E'=>by exact(ax Sd (hr.mono (by decide)) (by rfl) G.pM G.j7.kp G.pP .nil aq ((pv 0)∣((pv 1)∣aa)))))⁻¹)),?_⟩;have pl:=b9 hp;refine⟨_,rfl,l,_,rfl,.inl hl,_,rfl,t,_,rfl,.inr ht,?_⟩;refine⟨rfl,_,rfl,cz ?_ ?_⟩
   . rw[NL,decide_eq_false_iff_not,Decidable.not_not];refine congrArg V.int ?_;rw[Md,Md,Md,pl]
   refine⟨_,rfl,_,rfl,l,t,_,_,rfl,hl,ht,λD hD=>?_⟩;refine⟨λi mm ys H'=>i <= is.length/\mm=is.length - i/\ys=(is.take i).map V.int/\H' D=f' (.lst ys)/\aZ H H',⟨_,Ny _,rfl,rfl,a8,af hD⟩,?_⟩;rintro i mm ys H2 ⟨hi,rfl,rfl,hD2,e2⟩;refine⟨hD2,LR (show _ < 1000 by rw[Md,NN];omega) (by decide),?_⟩;by_cases hii:i=is.length
   . refine .inl ⟨⟨_,e2.seq hl,by rw[Md,Md];omega⟩,?_⟩;rw[hii,take_length]at hD2;exact k D _ hD e2 hD2
   . have hlt:i < is.length:=by omega
     have hlt2:i < ks.length:=by omega
     refine .inr ⟨⟨_,_,_,_,e2.seq hl,e2.seqT ht,by rw[Mp,Mp,LQ hlt];rfl,by rw[Mp,LQ hlt2];rfl⟩,?_⟩;rintro v H3 ⟨T,xv,yv,hT,rfl,rfl,hxv,hyv⟩ v0 v1';have hxv:=hxv _ (e2.seq hl);have hyv:=hyv _ (e2.seqT ht);rw[Mp,Mp,LQ hlt]at hxv;rw[Mp,LQ hlt2]at hyv;cases hxv;cases hyv;refine⟨T,_,rfl,SqT.of a8,rfl,_,_,rfl,_,_,rfl,rfl,_,_,rfl,?_⟩;have hb:InB ks[i] is[i]:=by
      obtain⟨x,h1,h2⟩:=tY hp (LQ hlt);rw[LQ hlt2]at h1;cases h1;exact h2
     have nD:D≠T:=λy=>by rw[<-y,hD2]at hT;cases hT
     refine fP ⟨_,rfl,_,rfl,is[i],ks[i],rfl,hb,λH4 e4=>?_⟩;have e24:aZ H2 H4:=(af hT).trans e4;refine⟨e24 _ _ hD2,is.length - (i+1),by omega,by omega,rfl,?_,a8,λc o e=>?_⟩
     . rw[<-List.take_append_getElem hlt,NV];rfl
     . rw[ac (λz=>by rw[z,hD]at e;cases e)];exact e24 _ _ (e2 c o e)
def Gz (G:Gs K mg a d):FnOk P w K mg base CX0 1 a.bH d.bH ["faults"] Ga:=by
 refine G.fu.ok k9 (λvs H Q E h=>?_) (λcdv A' outer s' H vs Q E hr h=>?_)
 . obtain⟨l,fs,rfl,_⟩:=h;rfl
 . obtain⟨l,fs,rfl,hl,hf,k⟩:=h;have hu:=bP hr;refine⟨_,((@aC _ _ _ _ _ _ _ _ (bN (bi (aA (my rfl) (by rfl) G.BZ ui ((by exact lz (tc:=λ_ H Q=>Q l' H) (te:=tOp (rIn K K') (nJ 0) (tC (.ref a.de))) (caps:=[]) (js:=[]) rfl (ky rfl rfl (by decide +kernel) (by decide +kernel) rfl trivial rfl rfl) (by decide +kernel) trivial (@ii _ _ _ _ (pv 0)) (λC s₃ H₃ Oj ex E'=>by exact ge) (λC s₃ H₃ Oj ex E'=>by exact(bD fT (pv 0) (bX (v:=.ref a.de) (by rfl) G.wZ rfl) (by with_unfolding_all rfl))))∣aa)))) (@ao _ _ _ gg) al)∪(@ao _ _ _ (@aC _ _ _ _ _ _ _ _ (ap (rH hr.units) (pv 0) (aA (nR rfl) (by rfl) G.xC vi ((b5 (vy rfl) (by rfl) G.Ij Fl ((pv 0)∣aa))∣aa)) (av _)) (@ao _ _ _ gg) al))),?_⟩;have fl:=hf.len;refine⟨_,rfl,l,rfl,⟨_,SqL.of hl⟩,λD hD=>oV (ys:=(fs.map λ_=>l').map V.bl) (SqL.of hl) hD (by simp) (by simp;omega) (λH1 e1 hD1=>?_) (λi x y H3 R hx hy e3 kR=>?_)⟩;rotate_left
   . rw[Mp]at hx;cases hf':fs[i]? with
    |none=>rw[hf']at hx;cases hx
    |some f =>
      rw[hf']at hx;cases hx;rw[Mp,Mp,hf']at hy;cases hy;have hm:=hf.fa f (MF hf');refine⟨_,rfl,a.de,_,rfl,.inr (G.xQ H3),rfl,eG FA,?_⟩;simp only[Mz,if_false];rw[show inV (V.str f) [V.str "bell",V.str "counter",V.str "lie",V.str "look",V.str "round"]=l' from (lS f FA).trans (contains_iff_mem.mpr hm)];exact kR _ (aZ.refl _)
   refine⟨D,fs.map λ_=>l',rfl,SqL.of hD1,_,rfl,?_⟩;rw[show (fs.map λ_=>l').all id=l' by simp];refine cW ?_;have hl1:=e1 _ _ hl;refine⟨_,rfl,_,rfl,l,fs,rfl,SqL.of hl1,by omega,λq nq=>⟨q,_,rfl,a8,by have:=AC fs;omega,λl1 fs1 nl1 pf so=>?_⟩⟩;have e2:=af (o:=GE w q (Bv fs)) nq;have e3:=af (o:=.lst (fs1.map V.str)) nl1;have E3:=e2.trans e3;have v3:upd (upd H1 q (GE w q (Bv fs))) l1 (.lst (fs1.map V.str)) l1=f' (.lst (fs1.map V.str)):=a8;have hl3:=E3 _ _ hl1;cases hf.one pf so;refine⟨.list (fs.map Mo),.list (fs.map Mo),⟨l,_,rfl,hl3,bu fs⟩,⟨l1,_,rfl,v3,bu fs⟩,hf.lay,hf.lay,_,rfl,?_⟩;rw[SF rfl,wL hf.lay];exact cW (k _ (e1.trans E3))
def sC (G:Gs K mg a d):FnOk P w K mg base CX0 1 a.gD d.gD ["truth"] Eh:=by
 refine G.iD.ok u9 (λvs H Q E h=>?_) (λcdv A' outer s' H vs Q E hr h=>?_)
 . obtain⟨b,rfl,_⟩:=h;rfl
 . obtain⟨b,rfl,k⟩:=h;refine⟨_,((gc (bi (pv 0)) ag ag)⁻¹),?_⟩;refine⟨_,rfl,b,rfl,?_⟩;cases b
   . exact cW k
   . exact fP k
def Eo (G:Gs K mg a d):FnOk P w K mg base CX0 1 a.gE d.gE ["part"] wT:=by
 refine G.lC.ok vk (λvs H Q E h=>?_) (λcdv A' outer s' H vs Q E hr h=>?_)
 . rcases h with⟨rfl,_⟩|⟨i,rfl,_⟩<;>rfl
 . refine⟨_,((gc (ap vm (pv 0) eE (av _)) ag (b5 j9 (by rfl) G.qQ lv ((pv 0)∣aa)))⁻¹),?_⟩;rcases h with⟨rfl,k⟩|⟨i,rfl,hb,k⟩
   . exact⟨_,rfl,rfl,_,rfl,i9 (SI rfl) k⟩
   . exact⟨_,rfl,rfl,_,rfl,cz (by rw[SH];intro z;cases z) ⟨_,rfl,.inl ⟨i,rfl,vV hb,k⟩⟩⟩
def xi (G:Gs K mg a d):FnOk P w K mg base CX0 2 a.gI d.gI ["word","told"] DN:=by
 have Sl:FnOk P w K mg base CX0 1 _ _ _ _:=sC G;have Sg:FnOk P w K mg base CX0 1 _ _ _ _:=Eo G;refine G.lP.ok vv (λvs H Q E h=>?_) (λcdv A' outer s' H vs Q E hr h=>?_)
 . obtain⟨x,dd,v,t,rfl,_⟩:=h;rfl
 . obtain⟨x,dd,v,t,rfl,hd,ht,k⟩:=h;have hu:=bP hr;refine⟨_,((aC (ap fT (pv 0) (@bO _ _ _ _ _ (ag∣(ag∣(ag∣aa)))) (by with_unfolding_all rfl)) (ag⁻¹) al)∪((aC (bi (aA cb (by rfl) G.bb aX ((pv 1)∣((ie (v:=.ty "bool") (by rfl) G.F5 Am rfl)∣aa)))) ((ax Sl (hr.mono (by decide)) (by rfl) G.ly G.iD.kp G.lT .nil aq ((pv 1)∣aa))⁻¹) al)∪((aC (bi (aA cb (by rfl) G.bb aX ((pv 1)∣((ie (v:=.ty "tuple") (by rfl) G.k8 gS rfl)∣aa)))) ((@mv _ _ _ _ _ _ _ _ _ _ _ _ NR PySem.F.slot_str_join PySem.F.type_str_join Fv ag ((by exact lz (tc:=λ_ H Q=>Q l' H) (te:=zf wT [] E0 (io (nJ 0) vQ)) (caps:=[]) (js:=[]) rfl (ky rfl rfl (by decide +kernel) (by decide +kernel) rfl trivial rfl rfl) (by decide +kernel) trivial (HI (pv 1)) (λC s₃ H₃ Oj ex E'=>by exact ge) (λC s₃ H₃ Oj ex E'=>by exact(ax Sg (hr.mono (by decide)) (by rfl) G.pp G.lC.kp G.p7 .nil aq ((pv 0)∣aa))))∣aa) (by rfl) (by rfl) (by rfl) (by rfl) (by rfl))⁻¹) al)∪((ax Sg (hr.mono (by decide)) (by rfl) G.pp G.lC.kp G.p7 .nil aq ((pv 1)∣aa))⁻¹)))),?_⟩;refine⟨_,rfl,(by show 3 <= LP;decide),λq nq=>⟨q,_,rfl,.inr (SqT.of a8),rfl,eG ["answer","lie","drain"],_,rfl,?_⟩⟩;simp only[Mz,if_false];rw[show inV (V.str x.word) [V.str "answer",V.str "lie",V.str "drain"]=_ from lS x.word ["answer","lie","drain"]];have e1:=af (o:=.tup [V.str "answer",V.str "lie",V.str "drain"]) nq;generalize upd H q (.tup [V.str "answer",V.str "lie",V.str "drain"])=H1 at e1 |-;cases ht with
  |ans n wt=>exact i9 rfl (k _ e1)
  |lie b=>exact i9 rfl (k _ e1)
  |drn b=>exact i9 rfl (k _ e1)
  |bell b c =>
    cases hd;exact cz (show ¬ (["answer","lie","drain"]:List Str).contains "bell"=l' by decide +kernel) ⟨_,rfl,_,_,.type "bool",l',rfl,.bl _,by rfl,_,rfl,fP ⟨_,rfl,c,rfl,k _ e1⟩⟩
  |look b c =>
    cases hd;exact cz (show ¬ (["answer","lie","drain"]:List Str).contains "look"=l' by decide +kernel) ⟨_,rfl,_,_,.type "bool",l',rfl,.bl _,by rfl,_,rfl,fP ⟨_,rfl,c,rfl,k _ e1⟩⟩
  |ask wt i hb =>
    cases hd;refine cz (show ¬ (["answer","lie","drain"]:List Str).contains "ask"=l' by decide +kernel) ⟨_,rfl,_,_,.type "int",K',rfl,.int _,Hk,_,rfl,cW ?_⟩;exact⟨_,rfl,_,_,.type "int",K',rfl,.int _,IL,_,rfl,cW ⟨_,rfl,.inr ⟨i,rfl,hb,k _ e1⟩⟩⟩
  |non _ hx =>
    cases hd;refine cz (by rcases hx with rfl|rfl<;>decide +kernel) ⟨_,rfl,_,_,.type "NoneType",K',rfl,.non,by rfl,_,rfl,cW ?_⟩;exact⟨_,rfl,_,_,.type "NoneType",K',rfl,.non,by rfl,_,rfl,cW ⟨_,rfl,.inl ⟨rfl,k _ e1⟩⟩⟩
  |two _ i j hx h1 h2 =>
    obtain⟨p,ts,rfl,hp,_,_,rfl,rfl,_,_,rfl,rfl,rfl⟩:=hd;have hp1:=e1 _ _ hp;refine cz (by rcases hx with rfl|rfl<;>decide +kernel) ⟨_,rfl,_,_,.type "tuple",K',rfl,.tup hp1,by rfl,_,rfl,cW ?_⟩;refine⟨_,rfl,_,_,.type "tuple",l',rfl,.tup hp1,Ck,_,rfl,fP ?_⟩;have n1:=mQ i h1;have n2:=mQ j h2;refine⟨rfl,_,rfl,_,rfl,⟨_,SqT.of hp1⟩,λD hD=>y3 (ys:=[V.str (cI i),V.str (cI j)]) (SqT.of hp1) hD rfl (by show 2 < 1000;decide) (λH2 e2 hD2=>⟨_,D,[cI i,cI j],rfl,rfl,SqL.of hD2,?_,k _ (e1.trans e2)⟩) (λn x y H3 R hx hy e3 kR=>?_)⟩
    . show ((cI i).length+((cI j).length+0))+2 * 1 <= 16777216;omega
    . match n,hx,hy with
     |0,hx,hy=>cases hx;cases hy;exact⟨_,rfl,.inr ⟨i,rfl,h1,kR _ (aZ.refl _)⟩⟩
     |1,hx,hy=>cases hx;cases hy;exact⟨_,rfl,.inr ⟨j,rfl,h2,kR _ (aZ.refl _)⟩⟩
     |_+2,hx,hy=>cases hx
  |nn _ hx =>
    obtain⟨p,ts,rfl,hp,_,_,rfl,rfl,_,_,rfl,rfl,rfl⟩:=hd;have hp1:=e1 _ _ hp;refine cz (by rcases hx with rfl|rfl<;>decide +kernel) ⟨_,rfl,_,_,.type "tuple",K',rfl,.tup hp1,by rfl,_,rfl,cW ?_⟩;refine⟨_,rfl,_,_,.type "tuple",l',rfl,.tup hp1,Ck,_,rfl,fP ?_⟩;refine⟨rfl,_,rfl,_,rfl,⟨_,SqT.of hp1⟩,λD hD=>y3 (ys:=[V.str "none",V.str "none"]) (SqT.of hp1) hD rfl (by show 2 < 1000;decide) (λH2 e2 hD2=>⟨_,D,["none","none"],rfl,rfl,SqL.of hD2,(by decide +kernel),k _ (e1.trans e2)⟩) (λn x y H3 R hx hy e3 kR=>?_)⟩
    match n,hx,hy with
   |0,hx,hy=>cases hx;cases hy;exact⟨_,rfl,.inl ⟨rfl,kR _ (aZ.refl _)⟩⟩
   |1,hx,hy=>cases hx;cases hy;exact⟨_,rfl,.inl ⟨rfl,kR _ (aZ.refl _)⟩⟩
   |_+2,hx,hy=>cases hx
def Cq (C:D'):Sp:=λvs H Q _=>∃ dk dx:D',vs=[.ref dk]/\H dk=f' (.ins C dx [])/\Q .non (upd H dk (.ins C dx [("yard",.non)]))
def zP (w:LZ) (ad:Ad):Sp:=λvs H Q _=>∃ (dk dx wl:D') (v:V) (s R:Int) (n:Nat) (fs:List Str),vs=[.ref dk,.ref wl]/\H dk=f' (.ins ad.jH dx [("yard",v)])/\H wl=f' (.lst ((lL s R n fs).map V.str))/\(1 <= s/\s <= 8)/\(2 <= R/\R <= 4)/\(1 <= (n:Int)/\(n:Int) <= 9)/\FOk fs /\
 ∀ (a:YA) (H':Hp),Yn w ad.bf ad.dc ad.ba ad.ce ad.aG H' a (Jk s R n fs) YS.zero->H' dk=f' (.ins ad.jH dx [("yard",.ref a.y)])->(∀ c,a.own c->H c=LJ)->(∀ c o,c≠dk->H c=f' o->H' c=f' o)->Q (.str "ok") H'
def ze (w:LZ) (ad:Ad):Sp:=λvs H Q E=>∃ (dk dx wl:D') (a:YA) (q:YP) (S:YS) (L:Nat) (x:Dd),vs=[.ref dk,.ref wl]/\H dk=f' (.ins ad.jH dx [("yard",.ref a.y)])/\H wl=f' (.lst (x.ws.map V.str))/\¬ a.own wl/\Rdy w ad H a q S L/\x.Ok/\x.NB /\
 match x.chk q S with
|none=>∃ t,Tl x (x.run q S).1 t/\∀ H',Yn w ad.bf ad.dc ad.ba ad.ce ad.aG H' a q (x.run q S).2->YI q (x.run q S).2 (L+2)->KO a.own H H'->Q (.str t) H'
|some r=>∀ H',aZ H H'->E (.ref (rfC ad r)) LJ H'
def yV (w:LZ) (ad:Ad):Sp:=λvs H Q _=>∃ (dk dx wl:D') (a:YA) (q:YP) (S:YS) (hs:List Hx) (k:Lk),vs=[.ref dk,.ref wl]/\H dk=f' (.ins ad.jH dx [("yard",.ref a.y)])/\H wl=f' (.lst (k.ws.map V.str))/\Yn w ad.bf ad.dc ad.ba ad.ce ad.aG H a q S/\q.Ok/\S.hs=hs.map Hx.d/\hs.length < 900/\(∀ b,(S.rs b).length < 100000)/\∀ H',aZ H H'->Q (.str (k.ans q S hs)) H'
def Eg (G:Gs K mg a d):FnOk P w K mg base CX0 1 a.eR d.eR ["self"] (Cq a.jH):=by
 refine G.uJ.ok sj (λvs H Q E h=>?_) (λcdv A' outer s' H vs Q E hr h=>?_)
 . obtain⟨dk,dx,rfl,_⟩:=h;rfl
 . obtain⟨dk,dx,rfl,hd,k⟩:=h;have hu:=bP hr;refine⟨_,(@ao _ _ _ (bh (pv 0) eE rfl)),?_⟩;exact⟨_,rfl,dk,a.jH,dx,[],rfl,hd,G.bS,G.bx,by decide,k⟩
def zU (G:Gs K mg a d):FnOk P w K mg base CX0 8 a.bw d.bw ["self","words"] (zP w a):=by
 have Se:FnOk P w K mg base CX0 3 _ _ _ _:=mz G;have RU:FnOk P w K mg base CX0 1 _ _ _ _:=Gz G;have RC:FnOk P w K mg base CX0 6 _ _ _ _:=xU G;refine G.jR.ok bE (λvs H Q E h=>?_) (λcdv A' outer s' H vs Q E hr h=>?_)
 . obtain⟨dk,dx,wl,v,s,R,n,fs,rfl,_⟩:=h;rfl
 . obtain⟨dk,dx,wl,v,s,R,n,fs,rfl,hd,hw,hs,hR,hn,hf,k⟩:=h;have hu:=bP hr;refine⟨_,((@aH _ _ 2 _ _ _ _ bE.nd rfl (Mx rfl) (ax Se (hr.mono (by decide)) (by rfl) G.dX G.bW.kp G.dU .nil aq ((bB dN (pv 1) (bK aj) (bK aj))∣((@bO _ _ _ _ _ (ag∣(ag∣(ag∣aa))))∣aa))) (by rfl) (by first|exact .inl rfl|exact .inr rfl|assumption))∪((@aH _ _ 3 _ _ _ _ bE.nd rfl (Mx rfl) (bB dN (pv 1) (bK aj) dw) (by rfl) (by first|exact .inl rfl|exact .inr rfl|assumption))∪((@aK _ _ _ _ (ax RU (hr.mono (by decide)) (by rfl) G.lw G.fu.kp G.lj .nil aq ((pv 3)∣aa)) (by rfl))∪((bh (pv 0) (kB G.Fa RC (hr.mono (by decide)) (by rfl) G.Ez G.nK .nil aq ((@aB _ _ _ _ _ _ _ aS (pv 2) aj (λ_ _=>rfl))∣((@aB _ _ _ _ _ _ _ aS (pv 2) aj (λ_ _=>rfl))∣((@aB _ _ _ _ _ _ _ aS (pv 2) aj (λ_ _=>rfl))∣((b5 eB (by rfl) G.k8 gS ((pv 3)∣aa))∣aa))))) rfl)∪(ag⁻¹))))),?_⟩;refine⟨_,rfl,_,rfl,_,rfl,wl,_,rfl,SqL.of hw,λp np=>⟨(by show 3 <= LP;decide),λt nt=>?_⟩⟩;have c1:gM ((lL s R n fs).map V.str) (f' 1) (f' 4)=([s,R,n].map cI).map V.str:=by
    rw[show (f' (1:Int))=f' ((1:Nat):Int) from rfl,show (f' (4:Int))=f' ((4:Nat):Int) from rfl,oB];rfl
   have c2:gM ((lL s R n fs).map V.str) (f' 4) LJ=fs.map V.str:=by
    rw[show (f' (4:Int))=f' ((4:Nat):Int) from rfl,dQ];rfl
   rw[c1]at nt |-;have e1:=af (o:=.lst (([s,R,n].map cI).map V.str)) np;have v1:=a8 (H:=H) (a:=p) (o:=.lst (([s,R,n].map cI).map V.str));generalize upd H p (.lst (([s,R,n].map cI).map V.str))=H1 at e1 v1 nt |-;have e2:=af (o:=.tup [V.str "size",V.str "rounds",V.str "names"]) nt;have v2:=a8 (H:=H1) (a:=t) (o:=.tup [V.str "size",V.str "rounds",V.str "names"]);have v1':=e2 _ _ v1;have E2:=e1.trans e2;generalize upd H1 t (.tup [V.str "size",V.str "rounds",V.str "names"])=H2 at e2 v2 v1' E2 |-;refine⟨p,t,[s,R,n],["size","rounds","names"],rfl,SqL.of v1',SqT.of v2,o7 hs hR hn,(by show 3 <= 60;decide),λD H3 hD e3 hD3=>?_⟩;have E3:=E2.trans e3;refine⟨_,rfl,_,rfl,wl,_,rfl,SqL.of (E3 _ _ hw),λp2 np2=>?_⟩;rw[c2];have e4:=af (o:=.lst (fs.map V.str)) np2;have v4:=a8 (H:=H3) (a:=p2) (o:=.lst (fs.map V.str));generalize upd H3 p2 (.lst (fs.map V.str))=H4 at e4 v4 |-;refine⟨_,rfl,p2,fs,rfl,v4,hf,λH5 e5=>?_⟩;have E5:=E3.trans (e4.trans e5);have hD5:=e5 _ _ (e4 _ _ hD3);have hp5:=e5 _ _ v4;clear e1 v1 np nt e2 v2 v1' E2 e3 hD3 E3 np2 e4 v4 e5 c1 c2;refine⟨_,rfl,D,_,_,_,rfl,rfl,SqL.of hD5,rfl,_,rfl,D,_,_,_,rfl,rfl,SqL.of hD5,rfl,_,rfl,D,_,_,_,rfl,rfl,SqL.of hD5,rfl,_,rfl,p2,_,rfl,.inl ⟨SqL.of hp5,λft nft=>?_⟩⟩;have e6:=af (o:=.tup (fs.map V.str)) nft;have v6:=a8 (H:=H5) (a:=ft) (o:=.tup (fs.map V.str));generalize upd H5 ft (.tup (fs.map V.str))=H6 at e6 v6 |-;have E6:=E5.trans e6;clear E5 e6 hD5 hp5 nft;intro y dy ny ndy nedy;refine⟨y,dy,ft,s,R,n,fs,rfl,a8,by rw[ac (ae v6 ny),ac (ae v6 ndy)];exact v6,λa1 H7 ha fa Y7 kp7=>⟨rfl,?_⟩⟩;have e7:=E6.trans (mf ny ndy kp7);have hd7:=e7 _ _ hd;have fo:∀ c,a1.own c->H c=LJ:=λc hc=>by
    cases h:H c with
   |none=>rfl
   |some o =>
     have h6:=E6 _ _ h;have n1:c≠y:=ae h6 ny;have:=fa c hc n1;rw[ac n1,ac (ae h6 ndy),h6]at this;cases this
   have nd:¬ a1.own dk:=λz=>by rw[fo dk z]at hd;cases hd
   subst ha;refine⟨_,rfl,dk,a.jH,dx,_,rfl,hd7,G.bS,G.bx,(by show 1 < 1000;decide),?_⟩;have ko:KO (·=dk) H7 (upd H7 dk (.ins a.jH dx (bj "yard" (.ref a1.y) [("yard",v)]))):=λc o n e=>by rw[ac n];exact e
   have Y8:=Y7.ko ko (λc z=>by rw[z];exact nd) (λc z vs e=>by rw[z,hd7]at e;cases e);exact k a1 _ Y8 a8 fo λc o n e=>by rw[ac n];exact e7 c o e
def zv (G:Gs K mg a d):FnOk P w K mg base (CXv P w) 11 a.bt d.bt ["self","words"] (ze w a):=by
 have Se:FnOk P w K mg base CX0 3 _ _ _ _:=mz G;have Sk:FnOk P w K mg base CX0 2 _ _ _ _:=xi G;have Sy:FnOk P w K mg base (CXv P w) 10 _ _ _ _:=B5 G;refine G.jU.okX (k:=10) bF (λvs H Q E h=>?_) (λcdv A' outer s' H vs Q E hr hR h=>?_)
 . obtain⟨dk,dx,wl,y,q,S,L,x,rfl,_⟩:=h;rfl
 . obtain⟨dk,dx,wl,y,q,S,L,x,rfl,hd,hw,hwn,Y,xo,nb,k⟩:=h;have hu:=bP hr;refine⟨_,((@aH _ _ 2 _ _ _ _ bF.nd rfl (Mx rfl) (ax Se (hr.mono (by decide)) (by rfl) G.dX G.bW.kp G.dU .nil aq ((bB dN (pv 1) (bK aj) dw)∣((xc (by rfl) G.pH G.oS (@aB _ _ _ _ _ _ _ aS (pv 1) aj (λ_ _=>rfl)) (λ_ _=>rfl))∣aa))) (by rfl) (by first|exact .inl rfl|exact .inr rfl|assumption))∪((@aH _ _ 3 _ _ _ _ bF.nd rfl (Mx rfl) (ar (ak (pv 0) rfl) G.am G.nM Sy (hr.mono (by decide)) G.pT .nil hR.passes ((b5 eB (by rfl) G.k8 gS ((@gs _ _ _ _ _ _ _ _ lp (@bo _ _ _ _ ((@aB _ _ _ _ _ _ _ aS (pv 1) aj (λ_ _=>rfl))∣aa)) (pv 2))∣aa))∣aa)) (by rfl) (by first|exact .inl rfl|exact .inr rfl|assumption))∪((ax Sk (hr.mono (by decide)) (by rfl) G.pd G.lP.kp G.oU .nil aq ((@aB _ _ _ _ _ _ _ aS (pv 1) aj (λ_ _=>rfl))∣((pv 3)∣aa)))⁻¹))),?_⟩;obtain⟨b,hb,hs⟩:=tj (K:=K) (mg:=mg) (d:=d) (a:=a) x;have hs:=hs G;have c1:gM (x.ws.map V.str) (f' 1) LJ=(x.args.map cI).map V.str:=by
    rw[show (f' (1:Int))=f' ((1:Nat):Int) from rfl,dQ];rfl
   refine⟨_,rfl,_,rfl,wl,_,rfl,SqL.of hw,λp np=>?_⟩;rw[c1];have e1:=af (o:=.lst ((x.args.map cI).map V.str)) np;have v1:=a8 (H:=H) (a:=p) (o:=.lst ((x.args.map cI).map V.str));generalize upd H p (.lst ((x.args.map cI).map V.str))=H1 at e1 v1 |-;refine⟨_,rfl,wl,_,_,_,rfl,rfl,SqL.of (e1 _ _ hw),aU,x.word,b,rfl,hb,?_⟩;refine⟨p,b,x.args,x.ks,rfl,SqL.of v1,hs _,x.inB xo nb,by obtain⟨l1,l2'⟩:=x.len;omega,λD H2 hD e2 hD2=>?_⟩;have E2:=e1.trans e2;have hw2:=E2 _ _ hw;refine⟨_,rfl,gm ⟨_,E2 _ _ hd⟩ G.bS G.bx rfl (fc (Y.y.same E2).ob (iu (by decide +kernel)) ⟨_,rfl,wl,_,_,_,rfl,rfl,SqL.of hw2,aU,(by show 1 <= LP;decide),λp3 np3=>?_⟩)⟩;have e3:=af (o:=.lst [V.str x.word]) np3;have v3:upd H2 p3 (.lst [V.str x.word]) p3=f' (.lst [V.str x.word]):=a8;have hD3:=e3 _ _ hD2;have hw3:=e3 _ _ hw2;have E3:=E2.trans e3;obtain⟨l1,l2'⟩:=x.len;refine⟨_,rfl,p3,D,[V.str x.word],x.args.map V.int,rfl,rfl,v3,hD3,MG (show _ <= 100 by rw[Md];show 1+_ <= 100;omega) (by decide),λp4 np4=>?_⟩;have e4:=af (o:=.lst ([V.str x.word]++x.args.map V.int)) np4;have v4:upd (upd H2 p3 (.lst [V.str x.word])) p4 (.lst ([V.str x.word]++x.args.map V.int)) p4=_:=a8;refine⟨p4,_,rfl,.inl ⟨SqL.of v4,λt nt=>?_⟩⟩;have e5:=af (o:=.tup ([V.str x.word]++x.args.map V.int)) nt;have v5:upd (upd (upd H2 p3 (.lst [V.str x.word])) p4 (.lst ([V.str x.word]++x.args.map V.int))) t (.tup ([V.str x.word]++x.args.map V.int)) t=f' (.tup x.vs):=by rw[x.vs_eq];exact a8
   have hw5:=e5 _ _ (e4 _ _ hw3);have E5:=E3.trans (e4.trans e5);refine⟨y,q,S,L,x,t,rfl,⟨Y.y.same E5,Y.ok,Y.i,Y.l⟩,v5,xo,?_⟩;cases hc:x.chk q S with
  |some r =>
    rw[hc]at k;exact λH6 e6=>k H6 (E5.trans e6)
  |none =>
    rw[hc]at k;obtain⟨tt,htl,k⟩:=k;intro v H6 Y6 i6 dv ko6;have hw6:=ko6 _ _ hwn hw5;refine⟨_,rfl,wl,_,_,_,rfl,rfl,SqL.of hw6,aU,_,rfl,x,_,v,tt,rfl,dv,htl,λH7 e7=>k H7 (Y6.same e7) i6 λc o n e=>e7 _ _ (ko6 _ _ n (E5 _ _ e))⟩
def zS (G:Gs K mg a d):FnOk P w K mg base CX0 5 a.bv d.bv ["self","words"] (yV w a):=by
 have Se:FnOk P w K mg base CX0 3 _ _ _ _:=mz G;have Sl:FnOk P w K mg base CX0 1 _ _ _ _:=sC G;have RV:FnOk P w K mg base CX0 4 _ _ _ _:=Cf G;have RQ:FnOk P w K mg base CX0 1 _ _ _ _:=sg G;have RO:FnOk P w K mg base CX0 1 _ _ _ _:=mt G;have Rz:FnOk P w K mg base CX0 1 _ _ _ _:=(oF G).imp λvs H Q E=>xO
 refine G.kq.ok dg (λvs H Q E h=>?_) (λcdv A' outer s' H vs Q E hr h=>?_)
 . obtain⟨dk,dx,wl,y,q,S,hs,k,rfl,_⟩:=h;rfl
 . obtain⟨dk,dx,wl,y,q,S,hs,lk,rfl,hd,hw,Y,ok,hh,hl,hr',k⟩:=h;have hu:=bP hr;refine⟨_,((aC (ap (lf hr.units) (pv 1) (@bo _ _ _ _ (ag∣aa)) (av _)) ((b5 j9 (by rfl) G.qQ lv ((aA aN (by rfl) G.kJ fJ ((aV (ak (pv 0) rfl) G.am G.iP RQ (hr.mono (by decide)) G.jK .nil aq)∣aa))∣aa))⁻¹) al)∪((aC (ap (lf hr.units) (pv 1) (@bo _ _ _ _ (ag∣aa)) (av _)) ((ax Sl (hr.mono (by decide)) (by rfl) G.ly G.iD.kp G.lT .nil aq ((ax RV (hr.mono (by decide)) (by rfl) G.EX G.Ce.kp G.EZ .nil aq ((ak (pv 0) rfl)∣aa))∣aa))⁻¹) al)∪((aC (ap cw (@aB _ _ _ _ _ _ _ aS (pv 1) aj (λ_ _=>rfl)) ag (av _)) ((@aH _ _ 2 _ _ _ _ dg.nd rfl (Mx rfl) (@aB _ _ _ _ _ _ _ aS (ax Se (hr.mono (by decide)) (by rfl) G.dX G.bW.kp G.dU .nil aq ((bB dN (pv 1) (bK aj) dw)∣((@bO _ _ _ _ _ (ag∣aa))∣aa))) aj (λ_ _=>rfl)) (by rfl) (by first|exact .inl rfl|exact .inr rfl|assumption))∪((b5 j9 (by rfl) G.qQ lv ((aA aN (by rfl) G.kJ fJ ((ar (aV (ak (pv 0) rfl) G.am G.cR RO (hr.mono (by decide)) G.dW .nil aq) G.aF G.cY Rz (hr.mono (by decide)) G.eI .nil aq ((pv 2)∣aa))∣aa))∣aa))⁻¹)) al)∪(@ao _ _ _ gg)))),?_⟩;refine⟨_,rfl,(by show 1 <= LP;decide),λp1 np1=>?_⟩;have e1:=af (o:=.lst [V.str "story"]) np1;have v1:=a8 (H:=H) (a:=p1) (o:=.lst [V.str "story"]);generalize upd H p1 (.lst [V.str "story"])=H1 at e1 v1 |-;have Y1:=Y.same e1;have hd1:=e1 _ _ hd;have hw1:=e1 _ _ hw;refine⟨.list (lk.ws.map Mo),.list (Lk.story.ws.map Mo),⟨wl,_,rfl,hw1,bu _⟩,⟨p1,_,rfl,v1,bu _⟩,lk.lay,Lk.lay _,_,rfl,?_⟩;clear Y hd hw np1 v1;rw[SG (show ¬ (K'=l') by decide)];cases lk with
  |story =>
    rw[show (N2 (Lk.story.ws.map Mo)).eqv (N2 (Lk.story.ws.map Mo))=l' from by decide +kernel];refine fP ⟨_,rfl,gm ⟨_,hd1⟩ G.bS G.bx rfl (fc Y1.ob (iu (by decide +kernel)) ⟨y,q,S,rfl,Y1,λl ts nl dv=>⟨l,ts,rfl,.inl (SqL.of a8),?_⟩⟩)⟩;have hlen:=iL dv;rw[hlen];refine .inl ⟨_,rfl,vV ?_,k _ (e1.trans (af nl))⟩;rw[hh,Md];unfold Bnd;omega
  |pK =>
    rw[show (N2 (Lk.pK.ws.map Mo)).eqv (N2 (Lk.story.ws.map Mo))=K' from by decide +kernel];refine cW ?_;refine⟨_,rfl,(by show 1 <= LP;decide),λp2 np2=>?_⟩;have e2:=af (o:=.lst [V.str "errs"]) np2;have v2:=a8 (H:=H1) (a:=p2) (o:=.lst [V.str "errs"]);generalize upd H1 p2 (.lst [V.str "errs"])=H2 at e2 v2 |-;refine⟨.list (Lk.pK.ws.map Mo),.list (Lk.pK.ws.map Mo),⟨wl,_,rfl,e2 _ _ hw1,bu _⟩,⟨p2,_,rfl,v2,bu _⟩,Lk.lay _,Lk.lay _,_,rfl,?_⟩;rw[SG (show ¬ (K'=l') by decide),show (N2 (Lk.pK.ws.map Mo)).eqv (N2 (Lk.pK.ws.map Mo))=l' from by decide +kernel];exact fP ⟨_,rfl,gm ⟨_,e2 _ _ hd1⟩ G.bS G.bx rfl ⟨y,q,S,hs,rfl,Y1.same e2,ok,hh,hl,λH3 e3=>⟨_,rfl,k _ (e1.trans (e2.trans e3))⟩⟩⟩
  |waits b =>
    rw[show (N2 ((Lk.waits b).ws.map Mo)).eqv (N2 (Lk.story.ws.map Mo))=K' from by cases b<;>decide +kernel];refine cW ?_;refine⟨_,rfl,(by show 1 <= LP;decide),λp2 np2=>?_⟩;have e2:=af (o:=.lst [V.str "errs"]) np2;have v2:=a8 (H:=H1) (a:=p2) (o:=.lst [V.str "errs"]);generalize upd H1 p2 (.lst [V.str "errs"])=H2 at e2 v2 |-;refine⟨.list ((Lk.waits b).ws.map Mo),.list (Lk.pK.ws.map Mo),⟨wl,_,rfl,e2 _ _ hw1,bu _⟩,⟨p2,_,rfl,v2,bu _⟩,Lk.lay _,Lk.lay _,_,rfl,?_⟩;rw[SG (show ¬ (K'=l') by decide),show (N2 ((Lk.waits b).ws.map Mo)).eqv (N2 (Lk.pK.ws.map Mo))=K' from by cases b<;>decide +kernel];refine cW ?_;have hw2:=e2 _ _ hw1;refine⟨_,rfl,wl,_,_,_,rfl,rfl,SqL.of hw2,rfl,rfl,_,rfl,i9 (SI rfl) ?_⟩;have c1:gM ((Lk.waits b).ws.map V.str) (f' 1) LJ=([sdI b].map cI).map V.str:=by
     rw[show (f' (1:Int))=f' ((1:Nat):Int) from rfl,dQ];rfl
    refine⟨_,rfl,_,rfl,wl,_,rfl,SqL.of hw2,λp np=>⟨(by show 1 <= LP;decide),λt nt=>?_⟩⟩;rw[c1]at nt |-;have e3:=af (o:=.lst (([sdI b].map cI).map V.str)) np;have v3:=a8 (H:=H2) (a:=p) (o:=.lst (([sdI b].map cI).map V.str));generalize upd H2 p (.lst (([sdI b].map cI).map V.str))=H3 at e3 v3 nt |-;have e4:=af (o:=.tup [V.str "side"]) nt;have v4:=a8 (H:=H3) (a:=t) (o:=.tup [V.str "side"]);have v3':=e4 _ _ v3;generalize upd H3 t (.tup [V.str "side"])=H4 at e4 v4 v3' |-;refine⟨p,t,[sdI b],["side"],rfl,SqL.of v3',SqT.of v4,(Dd.inB (x:=.bell b) trivial trivial),(by show 1 <= 60;decide),λD H5 hD e5 hD5=>?_⟩;have E5:=e1.trans (e2.trans (e3.trans (e4.trans e5)));have Y5:=Y1.same (e2.trans (e3.trans (e4.trans e5)));have hd5:=(e2.trans (e3.trans (e4.trans e5))) _ _ hd1;refine⟨D,_,_,_,rfl,rfl,SqL.of hD5,rfl,?_⟩;refine⟨_,rfl,gm ⟨_,hd5⟩ G.bS G.bx rfl (fc Y5.ob (iu (by decide +kernel)) ⟨y,q,S,rfl,Y5,fc Y5.x.st.ob (cK (by decide +kernel) (by decide +kernel)) ⟨_,rfl,y.sa,S.m,S.rs,b,rfl,Y5.x.st,λp1 t1 hp1 dv1=>⟨p1,t1,rfl,.inl (SqL.of a8),?_⟩⟩⟩)⟩;have l1:=iL dv1;rw[Md]at l1;rw[l1];refine .inl ⟨_,rfl,vV ?_,k _ (E5.trans (af hp1))⟩;have:=hr' b;unfold Bnd;omega
def Fe (w:LZ) (ad:Ad):Sp:=λvs H Q E =>
 (∃ (dk dx:D') (v:V) (s R:Int) (n:Nat) (fs:List Str),vs=[.ref dk,.str (MP " " (lL s R n fs))]/\H dk=f' (.ins ad.jH dx [("yard",v)])/\(1 <= s/\s <= 8)/\(2 <= R/\R <= 4)/\(1 <= (n:Int)/\(n:Int) <= 9)/\FOk fs /\
  ∀ (a:YA) (H':Hp),Yn w ad.bf ad.dc ad.ba ad.ce ad.aG H' a (Jk s R n fs) YS.zero->H' dk=f' (.ins ad.jH dx [("yard",.ref a.y)])->(∀ c,a.own c->H c=LJ)->(∀ c o,c≠dk->H c=f' o->H' c=f' o)->Q (.str "ok") H') \/
 (∃ (dk dx:D') (a:YA) (q:YP) (S:YS) (L:Nat) (x:Dd),vs=[.ref dk,.str (MP " " x.ws)]/\H dk=f' (.ins ad.jH dx [("yard",.ref a.y)])/\Rdy w ad H a q S L/\x.Ok/\x.NB /\
  match x.chk q S with
 |none=>∃ t,Tl x (x.run q S).1 t/\∀ H',Yn w ad.bf ad.dc ad.ba ad.ce ad.aG H' a q (x.run q S).2->YI q (x.run q S).2 (L+2)->KO a.own H H'->Q (.str t) H'
 |some r=>∀ H',aZ H H'->E (.ref (rfC ad r)) LJ H') \/
 (∃ (dk dx:D') (a:YA) (q:YP) (S:YS) (hs:List Hx) (k:Lk),vs=[.ref dk,.str (MP " " k.ws)]/\H dk=f' (.ins ad.jH dx [("yard",.ref a.y)])/\Yn w ad.bf ad.dc ad.ba ad.ce ad.aG H a q S/\q.Ok/\S.hs=hs.map Hx.d/\hs.length < 900/\(∀ b,(S.rs b).length < 100000)/\∀ H',aZ H H'->Q (.str (k.ans q S hs)) H')
def EK (G:Gs K mg a d):FnOk P w K mg base (CXv P w) 12 a.gb d.gb ["self","row"] (Fe w a):=by
 have Q5:FnOk P w K mg base CX0 8 _ _ _ _:=zU G;have Q4:FnOk P w K mg base CX0 5 _ _ _ _:=zS G;have Sn:FnOk P w K mg base (CXv P w) 11 _ _ _ _:=zv G;refine G.qX.okX (k:=11) je (λvs H Q E h=>?_) (λcdv A' outer s' H vs Q E hr hR h=>?_)
 . rcases h with⟨dk,dx,v,s,R,n,fs,rfl,_⟩|⟨dk,dx,y,q,S,L,x,rfl,_⟩|⟨dk,dx,y,q,S,hs,k,rfl,_⟩<;>rfl
 . have hu:=bP hr;refine⟨_,((aC (bN (bi (aA cb (by rfl) G.bb aX ((pv 1)∣((ie (v:=.ty "str") (by rfl) G.qQ lv rfl)∣aa))))) (@ao _ _ _ gg) al)∪((@aH _ _ 2 _ _ _ _ je.nd rfl (Mx rfl) (@mv _ _ _ _ _ _ _ _ _ _ _ _ NR PySem.F.slot_str_split PySem.F.type_str_split yd (pv 1) (ag∣aa) (by rfl) (by rfl) (by rfl) (by rfl) (by rfl)) (by rfl) (by first|exact .inl rfl|exact .inr rfl|assumption))∪((aC (ap cw (@aB _ _ _ _ _ _ _ aS (pv 2) aj (λ_ _=>rfl)) ag (av _)) ((ar (pv 0) G.bS G.jv Q5 (hr.mono (by decide)) G.kf .nil aq ((pv 2)∣aa))⁻¹) al)∪((aC (ap vm (ak (pv 0) rfl) eE (av _)) (@ao _ _ _ gg) al)∪((aC (xk (yo (by rfl) G.pH G.oS (@aB _ _ _ _ _ _ _ aS (pv 2) aj (λ_ _=>rfl)))) ((ar (pv 0) G.bS G.jB Sn (hr.mono (by decide)) G.kA .nil hR.passes ((pv 2)∣aa))⁻¹) al)∪((ar (pv 0) G.bS G.jw Q4 (hr.mono (by decide)) G.kE .nil aq ((pv 2)∣aa))⁻¹)))))),?_⟩;rcases h with⟨dk,dx,v,s,R,n,fs,rfl,hd,hs,hR',hn,hf,k⟩|⟨dk,dx,y,q,S,L,x,rfl,hd,Y,xo,nb,k⟩|⟨dk,dx,y,q,S,hs,lk,rfl,hd,Y,ok,hh,hl,hr',k⟩
   . refine⟨_,rfl,_,_,.type "str",l',rfl,.str _,AT,_,rfl,cW ?_⟩;have jl:=oH _ (DZ hs hR' hn hf);have fl:=hf.len;have rl:(lL s R n fs).length=4+fs.length:=by show (("ring":Str) :: [s,R,(n:Int)].map cI++fs).length=_;rw[LU];rfl
     refine⟨_,rfl,rfl,_,_,rfl,rfl,(by decide +kernel),by omega,λl nl=>?_⟩;rw[kX (ws:=lL s R n fs) (NU _ _) (DD hs hR' hn hf)];have e1:=af (o:=.lst ((lL s R n fs).map V.str)) nl;have v1:=a8 (H:=H) (a:=l) (o:=.lst ((lL s R n fs).map V.str));generalize upd H l (.lst ((lL s R n fs).map V.str))=H1 at e1 v1 |-;have hd1:=e1 _ _ hd;refine⟨_,rfl,l,_,_,_,rfl,rfl,SqL.of v1,aU,rfl,_,rfl,i9 (SI rfl) ?_⟩;refine⟨_,rfl,fc ⟨_,hd1⟩ rfl ⟨_,rfl,dk,dx,l,v,s,R,n,fs,rfl,hd1,v1,hs,hR',hn,hf,λy H2 Y2 hd2 fo k2=>k y H2 Y2 hd2 (λc hc=>?_) λc o nc e=>k2 c o nc (e1 c o e)⟩⟩;cases h:H c with
    |none=>rfl
    |some o =>
      have:=fo c hc;rw[e1 _ _ h]at this;cases this
   . refine⟨_,rfl,_,_,.type "str",l',rfl,.str _,AT,_,rfl,cW ?_⟩;have jl:=oH _ (x.ws_len xo nb);obtain⟨l1,l2'⟩:=x.len;have wlen:x.ws.length=1+x.args.length:=by unfold Dd.ws;rw[Mw,Md];omega
     refine⟨_,rfl,rfl,_,_,rfl,rfl,(by decide +kernel),by omega,λl nl=>?_⟩;rw[kX (ws:=x.ws) (NU _ _) (x.ws_noB xo nb)];have nl':¬ y.own l:=Y.y.fresh nl;have e1:=af (o:=.lst (x.ws.map V.str)) nl;have v1:=a8 (H:=H) (a:=l) (o:=.lst (x.ws.map V.str));generalize upd H l (.lst (x.ws.map V.str))=H1 at e1 v1 |-;have hd1:=e1 _ _ hd;obtain⟨b,hb,hs⟩:=tj (K:=K) (mg:=mg) (d:=d) (a:=a) x;refine⟨_,rfl,l,_,_,_,rfl,rfl,SqL.of v1,aU,rfl,_,rfl,cz (by rw[SH];exact sne (wM _ (wq x))) ?_⟩;refine⟨_,rfl,gm ⟨_,hd1⟩ G.bS G.bx rfl ⟨rfl,_,rfl,cz (by rw[SH];intro z;cases z) ?_⟩⟩;refine⟨_,rfl,l,_,_,_,rfl,rfl,SqL.of v1,aU,x.word,rfl,_,rfl,?_⟩;rw[hb];refine fP ⟨_,rfl,fc ⟨_,hd1⟩ rfl ⟨_,rfl,dk,dx,l,y,q,S,L,x,rfl,hd1,v1,nl',⟨Y.y.same e1,Y.ok,Y.i,Y.l⟩,xo,nb,?_⟩⟩;cases hc:x.chk q S with
    |some r =>
      rw[hc]at k;exact λH2 e2=>k H2 (e1.trans e2)
    |none =>
      rw[hc]at k;obtain⟨t,ht,k⟩:=k;exact⟨t,ht,λH2 Y2 i2 ko=>k H2 Y2 i2 λc o n e=>ko c o n (e1 c o e)⟩
   . refine⟨_,rfl,_,_,.type "str",l',rfl,.str _,AT,_,rfl,cW ?_⟩;have jl:=oH _ (Db lk lk.mem);have wl:lk.ws.length <= 2:=by cases lk<;>simp[Lk.ws]
     refine⟨_,rfl,rfl,_,_,rfl,rfl,(by decide +kernel),by omega,λl nl=>?_⟩;rw[kX lk.ne (D5 lk lk.mem)];have e1:=af (o:=.lst (lk.ws.map V.str)) nl;have v1:=a8 (H:=H) (a:=l) (o:=.lst (lk.ws.map V.str));generalize upd H l (.lst (lk.ws.map V.str))=H1 at e1 v1 |-;have hd1:=e1 _ _ hd;refine⟨_,rfl,l,_,_,_,rfl,rfl,SqL.of v1,lk.at0,rfl,_,rfl,cz (by rw[SH];exact sne lk.noring) ?_⟩;refine⟨_,rfl,gm ⟨_,hd1⟩ G.bS G.bx rfl ⟨rfl,_,rfl,cz (by rw[SH];intro z;cases z) ?_⟩⟩;refine⟨_,rfl,l,_,_,_,rfl,rfl,SqL.of v1,lk.at0,lk.w0,rfl,_,rfl,?_⟩;rw[lk.noform];refine cW ⟨_,rfl,fc ⟨_,hd1⟩ rfl ⟨_,rfl,dk,dx,l,y,q,S,hs,lk,rfl,hd1,v1,Y.same e1,ok,hh,hl,hr',λH2 e2=>k H2 (e1.trans e2)⟩⟩
def Bt:Sp:=λvs H Q _=>∃ t:Str,vs=[.str t]/\wdB t=l'/\∀ H',aZ H H'->Q (.bl (EN t)) H'
def AK (N:D'):Sp:=λvs H Q E=>∃ t k:Str,vs=[.str t,.str k]/\wdB t=l'/\k∈KS/\(∀ i,DS t k=f' i->∀ H',aZ H H'->Q (.int i) H')/\(DS t k=LJ->∀ H',aZ H H'->E (.ref N) LJ H')
def rD (K:LN) (N:D'):Sp:=λvs H _ E=>∃ (l t:D') (ws ks:List Str),vs=[.ref l,.ref t]/\SqL K H l (ws.map V.str)/\SqT K H t (ks.map V.str)/\(∀ x∈ws,wdB x=l')/\(∀ k∈ks,k∈KS)/\ws.length <= 60/\kM ws ks=l'/\∀ H',aZ H H'->E (.ref N) LJ H'
def Dx (N:D'):Sp:=λvs H _ E=>∃ (l:D') (fs:List Str),vs=[.ref l]/\H l=f' (.lst (fs.map V.str))/\Jp fs=l'/\fs.length <= 60/\∀ H',aZ H H'->E (.ref N) LJ H'
def AJ (G:Gs K mg a d):FnOk P w K mg base CX0 1 a.eK d.eK ["word"] Bt:=by
 refine G.iZ.ok gZ (λvs H Q E h=>?_) (λcdv A' outer s' H vs Q E hr h=>?_)
 . obtain⟨i,rfl,_⟩:=h;rfl
 . obtain⟨t,rfl,hw,k⟩:=h;refine⟨_,(@gC _ _ _ _ _ (@aH _ _ 1 _ _ _ _ gZ.nd rfl (Mx rfl) (gc (bi (@mv _ _ _ _ _ _ _ _ _ _ _ _ NR PySem.F.slot_str_startswith PySem.F.type_str_startswith vf (pv 0) (ag∣aa) (by rfl) (by rfl) (by rfl) (by rfl) (by rfl))) (bB Fn (pv 0) (bK aj) dw) (pv 0)) (by rfl) (by first|exact .inl rfl|exact .inr rfl|assumption))
    ((@aC _ _ _ _ _ _ _ _ (oW ((o6 (bN (oq qz qz aj (aA nG (by rfl) G.kJ fJ ((pv 1)∣aa)) (gO (by rfl) G.lb))) (kN (bN (bi (aA (my rfl) (by rfl) G.BZ ui ((by exact lz (tc:=λ_ H Q=>Q l' H) (te:=tOp JN (nJ 0) (tC (.str "0123456789"))) (caps:=[]) (js:=[]) rfl (ky rfl rfl (by decide +kernel) (by decide +kernel) rfl trivial rfl rfl) (by decide +kernel) trivial (EY (pv 1)) (λC s₃ H₃ Oj ex E'=>by exact ge) (λC s₃ H₃ Oj ex E'=>by exact(bD EU (pv 0) (xT (by rfl) G.uZ) (by with_unfolding_all rfl))))∣aa))))))).pt) (cX⁻¹) al)∪((bD cw (b5 j9 (by rfl) G.qQ lv ((b5 mJ (by rfl) G.BK uo ((pv 0)∣aa))∣aa)) (pv 0) (av _))⁻¹))),?_⟩
   unfold wdB at hw;rw[MC,MC,MC,SH,SH]at hw;obtain⟨⟨⟨asc,tl⟩,fl⟩,rd⟩:=hw;refine⟨λσ H'=>H'=H/\σ=[f' (.str t),f' (.str (o3 t))],?_,?_⟩
   . refine⟨_,rfl,rfl,t,"-",rfl,rfl,_,rfl,?_⟩;have fs:o3 t=if Txt.startswith t "-"=l' then DK t (f' 1) LJ else t:=rfl
     cases hs:Txt.startswith t "-" with
    |true =>
      rw[hs,SF rfl]at fs;exact fP ⟨_,rfl,_,rfl,t,rfl,by rw[<-fs];omega,rfl,by rw[fs];rfl⟩
    |false =>
      rw[hs,SG (by decide)]at fs;exact cW ⟨_,rfl,rfl,by rw[fs];rfl⟩
   rintro σ H' ⟨rfl,rfl⟩;refine⟨λb H1=>b=(!Ia t)/\aZ H' H1,?_,?_⟩
   . have fb:Ia t=(decide (1 <= (o3 t).length) && decide ((o3 t).length <= 12) && (o3 t).cps.toList.all inF):=rfl;have hsz:(o3 t).cps.toList.length=(o3 t).length:=by rw[Mq];rfl
     refine⟨_,rfl,_,rfl,MG fl (by decide),_,_,rfl,rfl,_,rfl,?_⟩;by_cases c1:1 <= (o3 t).length
     . refine i9 (SI (by omega)) ⟨_,_,rfl,rfl,_,rfl,?_⟩;by_cases c2:(o3 t).length <= 12
       . rw[SI (show (((o3 t).length:Nat):Int) <= 12 by omega)];refine cW ⟨_,rfl,o3 t,rfl,asc,λD hD=>?_⟩;refine⟨λj mm ys H1=>j <= (o3 t).cps.size/\mm=(o3 t).cps.size - j/\ys=(((o3 t).cps.toList.take j).map inF).map V.bl/\H1 D=f' (.lst ys)/\aZ H' H1,⟨_,Ny _,rfl,rfl,a8,af hD⟩,?_⟩;rintro j mm ys H1 ⟨hj,rfl,rfl,hD1,e1⟩;refine⟨hD1,LR (show _ < 1000 by rw[Md,Md,NN];omega) (by decide),?_⟩;by_cases hjj:j=(o3 t).cps.size
         . refine .inl ⟨by show (o3 t).cps.size <= j;omega,?_⟩;refine⟨D,((o3 t).cps.toList.take j).map inF,rfl,SqL.of hD1,_,rfl,?_,e1⟩;rw[fb,SI c1,SI c2,NO (by rw[Mq];omega),List.all_map];rfl
         . refine .inr ⟨by show j < (o3 t).cps.size;omega,?_⟩;rintro v H2 ⟨rfl,c,hc,rfl⟩;refine fP ⟨_,rfl,_,_,rfl,rfl,hD1,(o3 t).cps.size - (j+1),by omega,by omega,rfl,?_,a8,λc o e=>?_⟩
           . rw[<-MI]at hc;rw[List.take_add_one,hc,NV,NV];rfl
           . by_cases z:c=D
             . rw[z,hD]at e;cases e
             . rw[ac z];exact e1 c o e
       . rw[decide_eq_false (show ¬ (((o3 t).length:Nat):Int) <= 12 by omega)];exact fP ⟨by rw[fb,decide_eq_false c2,Bool.and_false];rfl,aZ.refl _⟩
     . refine cz (by rw[SH];omega) ⟨K',rfl,fP ⟨by rw[fb,decide_eq_false c1];rfl,aZ.refl _⟩⟩
   rintro b H1 ⟨rfl,e1⟩;cases hf:Ia t with
  |false =>
    have:EN t=K':=by unfold EN;rw[hf];rfl
    rw[this]at k;exact fP (k _ e1)
  |true =>
    refine cW ?_;rw[hf]at rd;cases hi:PySem.intText? t with
   |none=>rw[hi]at rd;cases rd
   |some i =>
     rw[hi]at rd;have:EN t=decide (cI i=t):=by unfold EN;rw[hf,hi];rfl
     rw[this]at k;refine⟨_,rfl,t,i,rfl,hi,by omega,.inl ⟨i,rfl,by simpa using rd,_,rfl,rfl,?_⟩⟩;show Q (V.bl (decide (V.str (cI i)=V.str t))) H1;have:decide (V.str (cI i)=V.str t)=decide (cI i=t):=by
      by_cases z:cI i=t
      . rw[SI z,SI (congrArg V.str z)]
      . rw[decide_eq_false z,decide_eq_false λy=>z (V.str.inj y)]
     rw[this];exact k _ e1
def yS (G:Gs K mg a d) {k:Str}(h:k∈KS):(∃ b,PyProof.Rows.KTD.datumAt k [("size",a.cm),("rounds",a.cp),("names",a.ck),("name",a.cr),("side",a.cn)]=f' b/\∀ H:Hp,SqT K H b [.int (bds k).1,.int (bds k).2])\/(PyProof.Rows.KTD.datumAt k [("size",a.cm),("rounds",a.cp),("names",a.ck),("name",a.cr),("side",a.cn)]=LJ/\bds k=(-1000000000,1000000000)):=by
 have h:k="size"\/k="rounds"\/k="names"\/k="name"\/k="side"\/k="worth":=by simpa [KS] using h
 rcases h with rfl|rfl|rfl|rfl|rfl|rfl
 . exact .inl ⟨_,rfl,G.qS⟩
 . exact .inl ⟨_,rfl,G.rk⟩
 . exact .inl ⟨_,rfl,G.qR⟩
 . exact .inl ⟨_,rfl,G.r8⟩
 . exact .inl ⟨_,rfl,G.rc⟩
 . exact .inr ⟨rfl,rfl⟩
def Bc (G:Gs K mg a d):FnOk P w K mg base (CXv P w) 2 a.eJ d.eJ ["word","kind"] (AK a.eQ):=by
 have R0:FnOk P w K mg base CX0 1 _ _ _ _:=AJ G;refine G.j7.okX (k:=1) dS (λvs H Q E h=>?_) (λcdv A' outer s' H vs Q E hr hR h=>?_)
 . obtain⟨i,k,rfl,_⟩:=h;rfl
 . obtain⟨t,kk,rfl,hw,hk,k1,k2⟩:=h;have hu:=bP hr;refine⟨_,((aC (bN (bi (ax R0 (hr.mono (by decide)) (by rfl) G.oJ G.iZ.kp G.pN .nil aq ((pv 0)∣aa)))) (@ao _ _ _ (c6 hR hr.hd (by rfl) G.jh G.xc_NoRow (ag∣aa))) al)∪((@aH _ _ 2 _ _ _ _ dS.nd rfl (Mx rfl) (r0 (by rfl) G.yD G.xm (pv 1) (@bO _ _ _ _ _ ((Gx AH (gO (by rfl) G.dP))∣((gO (by rfl) G.dP)∣aa))) ⟨rfl,rfl,rfl,rfl⟩) (by rfl) (by first|exact .inl rfl|exact .inr rfl|assumption))∪((@aH _ _ 3 _ _ _ _ dS.nd rfl (Mx rfl) (b5 mJ (by rfl) G.BK uo ((pv 0)∣aa)) (by rfl) (by first|exact .inl rfl|exact .inr rfl|assumption))∪((aC (bN (oq qz qz (@aB _ _ _ _ _ _ _ aD (pv 2) aj (λ_ _=>rfl)) (pv 3) (@aB _ _ _ _ _ _ _ aD (pv 2) aj (λ_ _=>rfl)))) (@ao _ _ _ (c6 hR hr.hd (by rfl) G.jh G.xc_NoRow (ag∣aa))) al)∪((pv 3)⁻¹))))),?_⟩;refine⟨_,rfl,t,rfl,hw,λH1 e1=>⟨_,rfl,?_⟩⟩;cases hn:EN t with
  |false =>
    have:DS t kk=LJ:=by unfold DS;rw[hn];rfl
    exact fP ⟨by show 1 <= LP;decide,k2 this _ e1⟩
  |true =>
    refine cW ?_;have hi:∃ i,PySem.intText? t=f' i:=by
     unfold EN at hn;cases hi:PySem.intText? t with
    |none=>rw[hi,Bool.and_false]at hn;cases hn
    |some i=>exact⟨i,rfl⟩
    obtain⟨i,hi⟩:=hi;have hr0:DS t kk=if (bds kk).1 <= i/\i <= (bds kk).2 then f' i else LJ:=by unfold DS;rw[SF hn,hi];rfl
    have tl:t.length <= 100:=by
     unfold wdB at hw;rw[MC,MC,MC,SH,SH]at hw;exact hw.1.1.2
    refine⟨_,rfl,_,rfl,l2,λu nu=>⟨kk,rfl,?_⟩⟩;have v2:upd H1 u (.tup [.int (-1000000000),.int 1000000000]) u=f' (.tup [.int (-1000000000),.int 1000000000]):=a8;have e2:=e1.trans (af (o:=.tup [.int (-1000000000),.int 1000000000]) nu);generalize upd H1 u (.tup [.int (-1000000000),.int 1000000000])=H2 at v2 e2 |-;have fin:∀ b,SqT K H2 b [.int (bds kk).1,.int (bds kk).2]->K5 (Jj (tCB (λxs H Q=>∃ x n,xs=[V.str x]/\PySem.intText? x=f' n/\x.length <= 640/\Q (V.int n) H) (io (nJ 0) vQ)) (jP 3)) (K5 (Ky (K3 (z0 (C9 (rI0 λi j=>V.bl (decide (i <= j))) (rI0 λi j=>V.bl (decide (i <= j))) (tOp (Fp K) (nJ 2) (tC (V.int 0))) (nJ 3) (tOp (Fp K) (nJ 2) (tC (V.int 1)))))) (Fk E a.eQ (io (tC (V.str "the number is out of bounds")) vQ)) IN) (KY (nJ 3))) { nx:=λ_ H'=>Q V.non H',rt:=Q } [f' (.str t),f' (.str kk),f' (.ref b),LJ] H2:=λb hs=>by
     refine⟨_,rfl,t,i,rfl,hi,by omega,?_⟩;refine⟨_,rfl,b,_,_,_,rfl,rfl,hs,rfl,_,rfl,_,_,rfl,rfl,_,rfl,?_⟩;by_cases c1:(bds kk).1 <= i
     . refine i9 (SI c1) ⟨_,rfl,b,_,_,_,rfl,rfl,hs,rfl,_,_,rfl,rfl,_,rfl,?_⟩;by_cases c2:i <= (bds kk).2
       . rw[SI c2];rw[SF ⟨c1,c2⟩]at hr0;exact cW ⟨_,rfl,k1 i hr0 _ e2⟩
       . rw[decide_eq_false c2];rw[SG λz=>c2 z.2]at hr0;exact fP ⟨by show 1 <= LP;decide,k2 hr0 _ e2⟩
     . rw[SG λz=>c1 z.1]at hr0;exact cz (by rw[SH];exact c1) ⟨K',rfl,fP ⟨by show 1 <= LP;decide,k2 hr0 _ e2⟩⟩
    rcases yS G hk with⟨b,hd,hs⟩|⟨hd,hb⟩
    . rw[hd];exact fin b (hs _)
    . rw[hd];refine fin u ?_;rw[hb];exact SqT.of v2
def z9 (G:Gs K mg a d):FnOk P w K mg base (CXv P w) 3 a.bQ d.bQ ["words","kinds"] (rD K a.eQ):=by
 have SD:FnOk P w K mg base (CXv P w) 2 _ _ _ _:=Bc G;refine G.bW.okX (k:=2) mw (λvs H Q E h=>?_) (λcdv A' outer s' H vs Q E hr hR h=>?_)
 . obtain⟨l,t,ws,ks,rfl,_⟩:=h;rfl
 . obtain⟨l,t,ws,ks,rfl,hl,ht,hw,hk,hn,hb,k⟩:=h;have hu:=bP hr;refine⟨_,((aC (ap sJ (aA aN (by rfl) G.kJ fJ ((pv 0)∣aa)) (aA aN (by rfl) G.kJ fJ ((pv 1)∣aa)) (av _)) (@ao _ _ _ (c6 hR hr.hd (by rfl) G.jh G.xc_NoRow (ag∣aa))) al)∪((by exact Bz (x:="word") (x2:="kind") (g:=Ir K 2 (sI (jP 0) (sI (jP 1) IB))) (caps:=[]) (js:=[]) hR rfl (ky rfl rfl (by decide +kernel) (by decide +kernel) rfl trivial rfl rfl) (λC s₃ H₃ Oj ex E'=>by exact AF rfl (show (["word","kind"]:List Str).Nodup from by decide +kernel) rfl rfl (.inl (lookup_relabel_local rfl)) (.inl (lookup_relabel_local rfl)) rfl rfl) trivial (Ae (by rfl) G.FJ ((pv 0)∣((pv 1)∣aa))) (λC s₃ H₃ Oj ex E'=>by exact ge) (λC s₃ H₃ Oj ex E' ps=>by exact(ax SD (hr.mono (by decide)) (by rfl) G.pM G.j7.kp G.pP .nil ps ((pv 0)∣((pv 1)∣aa)))))⁻¹)),?_⟩;refine⟨_,rfl,l,_,rfl,.inl hl,_,rfl,t,_,rfl,.inr ht,?_⟩;refine⟨rfl,_,rfl,?_⟩;by_cases hln:ws.length=ks.length
   . refine cz ?_ ?_
     . rw[NL,decide_eq_false_iff_not,Decidable.not_not];refine congrArg V.int ?_;rw[Md,Md,hln]
     have hz:(ws.zip ks).any (λp=>(DS p.1 p.2).isNone)=l':=by
      unfold kM at hb;rwa [decide_eq_false (λz=>z hln),Bool.false_or]at hb
     refine⟨_,rfl,_,rfl,l,t,_,_,rfl,hl,ht,λD hD=>?_⟩;refine⟨λi mm ys H'=>i <= ws.length/\mm=ws.length - i/\ys.length=i/\H' D=f' (.lst ys)/\aZ H H'/\∀ j,j < i->∀ x c,ws[j]?=f' x->ks[j]?=f' c->DS x c≠LJ,⟨_,Ny _,rfl,rfl,a8,af hD,λj hj=>by omega⟩,?_⟩;rintro i mm ys H2 ⟨hi,rfl,hy,hD2,e2,hg⟩;refine⟨hD2,LR (show _ < 1000 by omega) (by decide),?_⟩;by_cases hii:i=ws.length
     . exfalso;obtain⟨p,hp,hq⟩:=any_eq_true.mp hz;obtain⟨j,hj⟩:=mem_iff_getElem?.mp hp;obtain⟨x1,x2⟩:=List.getElem?_zip_eq_some.mp hj;have hjl:j < ws.length:=(Mh.mp x1).1;exact hg j (by omega) p.1 p.2 x1 x2 (Option.isNone_iff_eq_none.mp hq)
     . have hlt:i < ws.length:=by omega
       have hlt2:i < ks.length:=by omega
       refine .inr ⟨⟨_,_,_,_,e2.seq hl,e2.seqT ht,by rw[Mp,LQ hlt];rfl,by rw[Mp,LQ hlt2];rfl⟩,?_⟩;rintro v H3 ⟨T,xv,yv,hT,rfl,rfl,hxv,hyv⟩ v0 v1';have hxv:=hxv _ (e2.seq hl);have hyv:=hyv _ (e2.seqT ht);rw[Mp,LQ hlt]at hxv;rw[Mp,LQ hlt2]at hyv;cases hxv;cases hyv;refine⟨T,_,rfl,SqT.of a8,rfl,_,_,rfl,_,_,rfl,rfl,_,_,rfl,?_⟩;have nD:D≠T:=λy=>by rw[<-y,hD2]at hT;cases hT
       refine fP ⟨_,rfl,_,rfl,ws[i],ks[i],rfl,hw _ (getElem_mem hlt),hk _ (getElem_mem hlt2),λn hn4 H4 e4=>?_,λhn4 H4 e4=>k _ (e2.trans ((af hT).trans e4))⟩;have e24:aZ H2 H4:=(af hT).trans e4;refine⟨e24 _ _ hD2,ws.length - (i+1),by omega,by omega,rfl,by rw[LU,hy];rfl,a8,λc o e=>?_,λj hj x c hx hc=>?_⟩
       . rw[ac (λz=>by rw[z,hD]at e;cases e)];exact e24 _ _ (e2 c o e)
       . by_cases z:j=i
         . rw[z,LQ hlt]at hx;rw[z,LQ hlt2]at hc;cases hx;cases hc;rw[hn4];exact λy=>by cases y
         . exact hg j (by omega) x c hx hc
   . refine i9 ?_ ⟨by show 1 <= LP;decide,k _ (aZ.refl _)⟩;rw[NL,decide_eq_false_iff_not,Md,Md];exact λz=>hln (Int.ofNat.inj (V.int.inj z))
def CK (G:Gs K mg a d):FnOk P w K mg base (CXv P w) 2 a.bH d.bH ["faults"] (Dx a.eQ):=by
 refine G.fu.okX (k:=1) k9 (λvs H Q E h=>?_) (λcdv A' outer s' H vs Q E hr hR h=>?_)
 . obtain⟨l,fs,rfl,_⟩:=h;rfl
 . obtain⟨l,fs,rfl,hl,hf,fl,k⟩:=h;have hu:=bP hr;refine⟨_,((@aC _ _ _ _ _ _ _ _ (bN (bi (aA (my rfl) (by rfl) G.BZ ui ((by exact lz (tc:=λ_ H Q=>Q l' H) (te:=tOp (rIn K K') (nJ 0) (tC (.ref a.de))) (caps:=[]) (js:=[]) rfl (ky rfl rfl (by decide +kernel) (by decide +kernel) rfl trivial rfl rfl) (by decide +kernel) trivial (@ii _ _ _ _ (pv 0)) (λC s₃ H₃ Oj ex E'=>by exact ge) (λC s₃ H₃ Oj ex E'=>by exact(bD fT (pv 0) (bX (v:=.ref a.de) (by rfl) G.wZ rfl) (by with_unfolding_all rfl))))∣aa)))) (@ao _ _ _ (c6 hR hr.hd (by rfl) G.jh G.xc_NoRow (ag∣aa))) al)∪(@ao _ _ _ (@aC _ _ _ _ _ _ _ _ (ap (rH hr.units) (pv 0) (aA (nR rfl) (by rfl) G.xC vi ((b5 (vy rfl) (by rfl) G.Ij Fl ((pv 0)∣aa))∣aa)) (av _)) (@ao _ _ _ (c6 hR hr.hd (by rfl) G.jh G.xc_NoRow (ag∣aa))) al))),?_⟩;refine⟨_,rfl,l,rfl,⟨_,SqL.of hl⟩,λD hD=>oV (ys:=(fs.map λf=>FA.contains f).map V.bl) (SqL.of hl) hD (by simp) (by simp;omega) (λH1 e1 hD1=>?_) (λi x y H3 R hx hy e3 kR=>?_)⟩;rotate_left
   . rw[Mp]at hx;cases hf':fs[i]? with
    |none=>rw[hf']at hx;cases hx
    |some f =>
      rw[hf']at hx;cases hx;rw[Mp,Mp,hf']at hy;cases hy;refine⟨_,rfl,a.de,_,rfl,.inr (G.xQ H3),rfl,eG FA,?_⟩;simp only[Mz,if_false];rw[show inV (V.str f) [V.str "bell",V.str "counter",V.str "lie",V.str "look",V.str "round"]=FA.contains f from lS f FA];exact kR _ (aZ.refl _)
   refine⟨D,fs.map λf=>FA.contains f,rfl,SqL.of hD1,_,rfl,?_⟩;cases ha:(fs.map λf=>FA.contains f).all id with
  |false=>exact fP ⟨by show 1 <= LP;decide,k _ e1⟩
  |true =>
    refine cW ?_;have fa:∀ x∈fs,x∈FA:=λx hx=>by
     have:=all_eq_true.mp ha _ (NK.mpr ⟨x,hx,rfl⟩);exact contains_iff_mem.mp this
    have hl1:=e1 _ _ hl;refine⟨_,rfl,_,rfl,l,fs,rfl,SqL.of hl1,by omega,λq nq=>⟨q,_,rfl,a8,by have:=AC fs;omega,λl1 fs1 nl1 pf so=>?_⟩⟩;have e2:=af (o:=GE w q (Bv fs)) nq;have e3:=af (o:=.lst (fs1.map V.str)) nl1;have E3:=e2.trans e3;have v3:upd (upd H1 q (GE w q (Bv fs))) l1 (.lst (fs1.map V.str)) l1=f' (.lst (fs1.map V.str)):=a8;have hl3:=E3 _ _ hl1;have fa1:∀ x∈fs1,x∈FA:=λx hx=>(Ex fs [] nodup_nil (λx hx=>by cases hx) fa).2 x (pf.subset hx)
    have ne:fs≠fs1:=λz=>by
     subst z;have h1:fs.any (λf=>!FA.contains f)=K':=by
      rw[List.any_eq_false];intro x hx;rw[contains_iff_mem.mpr (fa x hx)];exact λy=>by cases y
     unfold Jp at hf;rw[h1,so,decide_eq_false λy=>y pf.length_eq.symm]at hf;cases hf
    refine⟨.list (fs.map Mo),.list (fs1.map Mo),⟨l,_,rfl,hl3,bu fs⟩,⟨l1,_,rfl,v3,bu fs1⟩,kQ λx hx=>GA x (fa x hx),kQ λx hx=>GA x (fa1 x hx),_,rfl,?_⟩;rw[SF rfl,sG,decide_eq_false ne];exact fP ⟨by show 1 <= LP;decide,k _ (e1.trans E3)⟩
def wB (ad:Ad):Sp:=λvs H _ E=>∃ (dk dx wl:D') (v:V) (ws:List Str),vs=[.ref dk,.ref wl]/\H dk=f' (.ins ad.jH dx [("yard",v)])/\H wl=f' (.lst ((("ring":Str) :: ws).map V.str))/\(∀ x∈ws,wdB x=l')/\ws.length <= 60/\(kM (ws.take 3) ["size","rounds","names"]=l'\/(ws.take 3=[1,2,1].map cI/\Jp (ws.drop 3)=l'))/\∀ H',aZ H H'->E (.ref ad.eQ) LJ H'
def wz (ad:Ad):Sp:=λvs H _ E=>∃ (dk dx wl y:D') (x:Str) (ws:List Str),vs=[.ref dk,.ref wl]/\H dk=f' (.ins ad.jH dx [("yard",.ref y)])/\H wl=f' (.lst ((x :: ws).map V.str))/\x∈jA/\(∀ x∈ws,wdB x=l')/\ws.length <= 60/\kM ws (ksW x)=l'/\∀ H',aZ H H'->E (.ref ad.eQ) LJ H'
def w5 (ad:Ad):Sp:=λvs H _ E=>∃ (dk dx wl y:D') (x:Str) (ws:List Str),vs=[.ref dk,.ref wl]/\H dk=f' (.ins ad.jH dx [("yard",.ref y)])/\H wl=f' (.lst ((x :: ws).map V.str))/\(∀ y∈x :: ws,MX.kd (.str y)=l')/\(∀ x∈ws,wdB x=l')/\ws.length <= 60/\x :: ws≠[("story":Str)]/\x :: ws≠[("errs":Str)]/\(x≠"waits"\/kM ws ["side"]=l')/\∀ H',aZ H H'->E (.ref ad.eQ) LJ H'
def wC (G:Gs K mg a d):FnOk P w K mg base (CXv P w) 3 a.bQ d.bQ ["words","kinds"] (λvs H Q E=>uX K vs H Q E\/rD K a.eQ vs H Q E):=(mz G).calmX.or (z9 G)
def wg (G:Gs K mg a d):FnOk P w K mg base (CXv P w) 9 a.bw d.bw ["self","words"] (wB a):=by
 have SE:FnOk P w K mg base (CXv P w) 3 _ _ _ _:=wC G;have Sz:FnOk P w K mg base (CXv P w) 2 _ _ _ _:=CK G;have RC:FnOk P w K mg base CX0 6 _ _ _ _:=xU G;refine G.jR.okX (k:=8) bE (λvs H Q E h=>?_) (λcdv A' outer s' H vs Q E hr hR h=>?_)
 . obtain⟨dk,dx,wl,v,ws,rfl,_⟩:=h;rfl
 . obtain⟨dk,dx,wl,v,ws,rfl,hd,hw,wd,wn,bad,k⟩:=h;have hu:=bP hr;refine⟨_,((@aH _ _ 2 _ _ _ _ bE.nd rfl (Mx rfl) (ax SE (hr.mono (by decide)) (by rfl) G.dX G.bW.kp G.dU .nil hR.passes ((bB dN (pv 1) (bK aj) (bK aj))∣((@bO _ _ _ _ _ (ag∣(ag∣(ag∣aa))))∣aa))) (by rfl) (by first|exact .inl rfl|exact .inr rfl|assumption))∪((@aH _ _ 3 _ _ _ _ bE.nd rfl (Mx rfl) (bB dN (pv 1) (bK aj) dw) (by rfl) (by first|exact .inl rfl|exact .inr rfl|assumption))∪((@aK _ _ _ _ (ax Sz (hr.mono (by decide)) (by rfl) G.lw G.fu.kp G.lj .nil hR.passes ((pv 3)∣aa)) (by rfl))∪((bh (pv 0) (kB G.Fa RC (hr.mono (by decide)) (by rfl) G.Ez G.nK .nil aq ((@aB _ _ _ _ _ _ _ aS (pv 2) aj (λ_ _=>rfl))∣((@aB _ _ _ _ _ _ _ aS (pv 2) aj (λ_ _=>rfl))∣((@aB _ _ _ _ _ _ _ aS (pv 2) aj (λ_ _=>rfl))∣((b5 eB (by rfl) G.k8 gS ((pv 3)∣aa))∣aa))))) rfl)∪(ag⁻¹))))),?_⟩;refine⟨_,rfl,_,rfl,_,rfl,wl,_,rfl,SqL.of hw,λp np=>⟨(by show 3 <= LP;decide),λt nt=>?_⟩⟩;have c1:gM ((("ring":Str) :: ws).map V.str) (f' 1) (f' 4)=(ws.take 3).map V.str:=by
    rw[show (f' (1:Int))=f' ((1:Nat):Int) from rfl,show (f' (4:Int))=f' ((4:Nat):Int) from rfl,oB,map_take];rfl
   have c2:gM ((("ring":Str) :: ws).map V.str) (f' 4) LJ=(ws.drop 3).map V.str:=by
    rw[show (f' (4:Int))=f' ((4:Nat):Int) from rfl,dQ,List.map_drop];rfl
   rw[c1]at nt |-;have e1:=af (o:=.lst ((ws.take 3).map V.str)) np;have v1:=a8 (H:=H) (a:=p) (o:=.lst ((ws.take 3).map V.str));generalize upd H p (.lst ((ws.take 3).map V.str))=H1 at e1 v1 nt |-;have e2:=af (o:=.tup [V.str "size",V.str "rounds",V.str "names"]) nt;have v2:=a8 (H:=H1) (a:=t) (o:=.tup [V.str "size",V.str "rounds",V.str "names"]);have v1':=e2 _ _ v1;have E2:=e1.trans e2;generalize upd H1 t (.tup [V.str "size",V.str "rounds",V.str "names"])=H2 at e2 v2 v1' E2 |-;rcases bad with bad|⟨hg,bad⟩
   . exact .inr ⟨p,t,ws.take 3,["size","rounds","names"],rfl,SqL.of v1',SqT.of v2,λx hx=>wd x (List.mem_of_mem_take hx),by decide +kernel,by rw[NN];omega,bad,λH3 e3=>k _ (E2.trans e3)⟩
   . rw[hg]at v1';refine .inl ⟨p,t,[1,2,1],["size","rounds","names"],rfl,SqL.of v1',SqT.of v2,o7 (by decide) (by decide) (by decide),(by show 3 <= 60;decide),λD H3 hD e3 hD3=>?_⟩;have E3:=E2.trans e3;refine⟨_,rfl,_,rfl,wl,_,rfl,SqL.of (E3 _ _ hw),λp2 np2=>?_⟩;rw[c2];have e4:=af (o:=.lst ((ws.drop 3).map V.str)) np2;have v4:=a8 (H:=H3) (a:=p2) (o:=.lst ((ws.drop 3).map V.str));generalize upd H3 p2 (.lst ((ws.drop 3).map V.str))=H4 at e4 v4 |-;exact⟨_,rfl,p2,ws.drop 3,rfl,v4,bad,by rw[length_drop];omega,λH5 e5=>k _ (E3.trans (e4.trans e5))⟩
def xg (G:Gs K mg a d) {x:Str}(h:x∈jA):∃ b,PyProof.Rows.KTD.datumAt x [("ask",a.fI),("collect",a.fF),("take",a.fO),("answer",a.fN),("bell",a.fQ),("lie",a.fK),("look",a.fB),("drain",a.fL)]=f' b/\(∀ H:Hp,SqT K H b ((ksW x).map V.str))/\∀ k∈ksW x,k∈KS:=by
 have h:x="ask"\/x="collect"\/x="take"\/x="answer"\/x="bell"\/x="lie"\/x="look"\/x="drain":=by simpa [jA] using h
 rcases h with rfl|rfl|rfl|rfl|rfl|rfl|rfl|rfl
 . exact⟨_,rfl,G.uA,by decide +kernel⟩
 . exact⟨_,rfl,G.uc,by decide +kernel⟩
 . exact⟨_,rfl,G.uV,by decide +kernel⟩
 . exact⟨_,rfl,G.uI,by decide +kernel⟩
 . exact⟨_,rfl,G.va,by decide +kernel⟩
 . exact⟨_,rfl,G.vh,by decide +kernel⟩
 . exact⟨_,rfl,G.vo,by decide +kernel⟩
 . exact⟨_,rfl,G.u8,by decide +kernel⟩
def DC {x:Str}(h:x ∉ jA) {a0 a1 a2 a3 a4 a5 a6 a7:D'}:PyProof.Rows.KTD.datumAt x [("ask",a0),("collect",a1),("take",a2),("answer",a3),("bell",a4),("lie",a5),("look",a6),("drain",a7)]=LJ:=by
 simp only[jA,Mf,MZ,or_false,not_or]at h;obtain⟨h0,h1,h2,h3,h4,h5,h6,h7⟩:=h;simp[PyProof.Rows.KTD.datumAt,h0,h1,h2,h3,h4,h5,h6,h7]
def wj (G:Gs K mg a d):FnOk P w K mg base (CXv P w) 11 a.bt d.bt ["self","words"] (wz a):=by
 have SE:FnOk P w K mg base (CXv P w) 3 _ _ _ _:=wC G;have Sk:FnOk P w K mg base CX0 2 _ _ _ _:=xi G;have Sy:FnOk P w K mg base (CXv P w) 10 _ _ _ _:=B5 G;refine G.jU.okX (k:=10) bF (λvs H Q E h=>?_) (λcdv A' outer s' H vs Q E hr hR h=>?_)
 . obtain⟨dk,dx,wl,y,x,ws,rfl,_⟩:=h;rfl
 . obtain⟨dk,dx,wl,y,x,ws,rfl,hd,hw,hx,wd,wn,bad,k⟩:=h;have hu:=bP hr;refine⟨_,((@aH _ _ 2 _ _ _ _ bF.nd rfl (Mx rfl) (ax SE (hr.mono (by decide)) (by rfl) G.dX G.bW.kp G.dU .nil hR.passes ((bB dN (pv 1) (bK aj) dw)∣((xc (by rfl) G.pH G.oS (@aB _ _ _ _ _ _ _ aS (pv 1) aj (λ_ _=>rfl)) (λ_ _=>rfl))∣aa))) (by rfl) (by first|exact .inl rfl|exact .inr rfl|assumption))∪((@aH _ _ 3 _ _ _ _ bF.nd rfl (Mx rfl) (ar (ak (pv 0) rfl) G.am G.nM Sy (hr.mono (by decide)) G.pT .nil hR.passes ((b5 eB (by rfl) G.k8 gS ((@gs _ _ _ _ _ _ _ _ lp (@bo _ _ _ _ ((@aB _ _ _ _ _ _ _ aS (pv 1) aj (λ_ _=>rfl))∣aa)) (pv 2))∣aa))∣aa)) (by rfl) (by first|exact .inl rfl|exact .inr rfl|assumption))∪((ax Sk (hr.mono (by decide)) (by rfl) G.pd G.lP.kp G.oU .nil aq ((@aB _ _ _ _ _ _ _ aS (pv 1) aj (λ_ _=>rfl))∣((pv 3)∣aa)))⁻¹))),?_⟩;obtain⟨b,hb,hs,hks⟩:=xg G hx;have c1:gM ((x :: ws).map V.str) (f' 1) LJ=ws.map V.str:=by
    rw[show (f' (1:Int))=f' ((1:Nat):Int) from rfl,dQ];rfl
   refine⟨_,rfl,_,rfl,wl,_,rfl,SqL.of hw,λp np=>?_⟩;rw[c1];have e1:=af (o:=.lst (ws.map V.str)) np;have v1:=a8 (H:=H) (a:=p) (o:=.lst (ws.map V.str));generalize upd H p (.lst (ws.map V.str))=H1 at e1 v1 |-;refine⟨_,rfl,wl,_,_,_,rfl,rfl,SqL.of (e1 _ _ hw),aU,x,b,rfl,hb,?_⟩;exact .inr ⟨p,b,ws,ksW x,rfl,SqL.of v1,hs _,wd,hks,wn,bad,λH3 e3=>k _ (e1.trans e3)⟩
def wN (G:Gs K mg a d):FnOk P w K mg base (CXv P w) 6 a.bv d.bv ["self","words"] (w5 a):=by
 have SE:FnOk P w K mg base (CXv P w) 3 _ _ _ _:=wC G;have Sl:FnOk P w K mg base CX0 1 _ _ _ _:=sC G;have RV:FnOk P w K mg base CX0 4 _ _ _ _:=Cf G;have RQ:FnOk P w K mg base CX0 1 _ _ _ _:=sg G;have RO:FnOk P w K mg base CX0 1 _ _ _ _:=mt G;have Rz:FnOk P w K mg base CX0 1 _ _ _ _:=(oF G).imp λvs H Q E=>xO
 refine G.kq.okX (k:=5) dg (λvs H Q E h=>?_) (λcdv A' outer s' H vs Q E hr hR h=>?_)
 . obtain⟨dk,dx,wl,y,x,ws,rfl,_⟩:=h;rfl
 . obtain⟨dk,dx,wl,y,x,ws,rfl,hd,hw,kd,wd,wn,n1,n2,bad,k⟩:=h;have hu:=bP hr;refine⟨_,((aC (ap (lf hr.units) (pv 1) (@bo _ _ _ _ (ag∣aa)) (av _)) ((b5 j9 (by rfl) G.qQ lv ((aA aN (by rfl) G.kJ fJ ((aV (ak (pv 0) rfl) G.am G.iP RQ (hr.mono (by decide)) G.jK .nil aq)∣aa))∣aa))⁻¹) al)∪((aC (ap (lf hr.units) (pv 1) (@bo _ _ _ _ (ag∣aa)) (av _)) ((ax Sl (hr.mono (by decide)) (by rfl) G.ly G.iD.kp G.lT .nil aq ((ax RV (hr.mono (by decide)) (by rfl) G.EX G.Ce.kp G.EZ .nil aq ((ak (pv 0) rfl)∣aa))∣aa))⁻¹) al)∪((aC (ap cw (@aB _ _ _ _ _ _ _ aS (pv 1) aj (λ_ _=>rfl)) ag (av _)) ((@aH _ _ 2 _ _ _ _ dg.nd rfl (Mx rfl) (@aB _ _ _ _ _ _ _ aS (ax SE (hr.mono (by decide)) (by rfl) G.dX G.bW.kp G.dU .nil hR.passes ((bB dN (pv 1) (bK aj) dw)∣((@bO _ _ _ _ _ (ag∣aa))∣aa))) aj (λ_ _=>rfl)) (by rfl) (by first|exact .inl rfl|exact .inr rfl|assumption))∪((b5 j9 (by rfl) G.qQ lv ((aA aN (by rfl) G.kJ fJ ((ar (aV (ak (pv 0) rfl) G.am G.cR RO (hr.mono (by decide)) G.dW .nil aq) G.aF G.cY Rz (hr.mono (by decide)) G.eI .nil aq ((pv 2)∣aa))∣aa))∣aa))⁻¹)) al)∪(@ao _ _ _ (c6 hR hr.hd (by rfl) G.jh G.xc_NoRow (ag∣aa)))))),?_⟩;refine⟨_,rfl,(by show 1 <= LP;decide),λp1 np1=>?_⟩;have e1:=af (o:=.lst [V.str "story"]) np1;have v1:=a8 (H:=H) (a:=p1) (o:=.lst [V.str "story"]);generalize upd H p1 (.lst [V.str "story"])=H1 at e1 v1 |-;have hw1:=e1 _ _ hw;refine⟨.list ((x :: ws).map Mo),.list (Lk.story.ws.map Mo),⟨wl,_,rfl,hw1,bu _⟩,⟨p1,_,rfl,v1,bu _⟩,kQ kd,Lk.lay _,_,rfl,?_⟩;rw[SG (show ¬ (K'=l') by decide),sG,decide_eq_false (show ¬ x :: ws=Lk.story.ws from n1)];refine cW ⟨_,rfl,(by show 1 <= LP;decide),λp2 np2=>?_⟩;have e2:=af (o:=.lst [V.str "errs"]) np2;have v2:=a8 (H:=H1) (a:=p2) (o:=.lst [V.str "errs"]);generalize upd H1 p2 (.lst [V.str "errs"])=H2 at e2 v2 |-;have hw2:=e2 _ _ hw1;refine⟨.list ((x :: ws).map Mo),.list (Lk.pK.ws.map Mo),⟨wl,_,rfl,hw2,bu _⟩,⟨p2,_,rfl,v2,bu _⟩,kQ kd,Lk.lay _,_,rfl,?_⟩;rw[SG (show ¬ (K'=l') by decide),sG,decide_eq_false (show ¬ x :: ws=Lk.pK.ws from n2)];refine cW ⟨_,rfl,wl,_,_,_,rfl,rfl,SqL.of hw2,aU,rfl,_,rfl,?_⟩;by_cases hx:x="waits"
   . rcases bad with bad|bad
     . exact absurd hx bad
     subst hx;refine i9 (SI rfl) ?_;have c1:gM ((("waits":Str) :: ws).map V.str) (f' 1) LJ=ws.map V.str:=by
      rw[show (f' (1:Int))=f' ((1:Nat):Int) from rfl,dQ];rfl
     refine⟨_,rfl,_,rfl,wl,_,rfl,SqL.of hw2,λp np=>⟨(by show 1 <= LP;decide),λt nt=>?_⟩⟩;rw[c1]at nt |-;have e3:=af (o:=.lst (ws.map V.str)) np;have v3:=a8 (H:=H2) (a:=p) (o:=.lst (ws.map V.str));generalize upd H2 p (.lst (ws.map V.str))=H3 at e3 v3 nt |-;have e4:=af (o:=.tup [V.str "side"]) nt;have v4:=a8 (H:=H3) (a:=t) (o:=.tup [V.str "side"]);exact .inr ⟨p,t,ws,["side"],rfl,SqL.of (e4 _ _ v3),SqT.of v4,wd,by decide +kernel,wn,bad,λH5 e5=>k _ (e1.trans (e2.trans (e3.trans (e4.trans e5))))⟩
   . exact cz (by rw[SH];exact sne hx) ⟨by show 1 <= LP;decide,k _ (e1.trans e2)⟩
def EV (K:LN) (H:Hp) (v:V) (x:V):Prop:=(∃ t,TyOf K H x t/\Og K t (.type "str")=f' K')\/∃ ws:List Str,x=.str (MP " " ws)/\WOk ws/\((v=.non/\ws.head?≠f' "ring")\/((∃ y,v=.ref y)/\Jo ws=l'))
def Fr (ad:Ad) (K:LN):Sp:=λvs H _ E=>∃ (dk dx:D') (v x:V),vs=[.ref dk,x]/\H dk=f' (.ins ad.jH dx [("yard",v)])/\EV K H v x/\∀ H',aZ H H'->E (.ref ad.eQ) LJ H'
def Gv (G:Gs K mg a d):FnOk P w K mg base (CXv P w) 12 a.gb d.gb ["self","row"] (Fr a K):=by
 have Sr:FnOk P w K mg base (CXv P w) 9 _ _ _ _:=wg G;have So:FnOk P w K mg base (CXv P w) 6 _ _ _ _:=wN G;have Sn:FnOk P w K mg base (CXv P w) 11 _ _ _ _:=wj G;refine G.qX.okX (k:=11) je (λvs H Q E h=>?_) (λcdv A' outer s' H vs Q E hr hR h=>?_)
 . obtain⟨dk,dx,v,x,rfl,_⟩:=h;rfl
 . have hu:=bP hr;obtain⟨dk,dx,v,x,rfl,hd,bad,k⟩:=h;refine⟨_,((aC (bN (bi (aA cb (by rfl) G.bb aX ((pv 1)∣((ie (v:=.ty "str") (by rfl) G.qQ lv rfl)∣aa))))) (@ao _ _ _ (c6 hR hr.hd (by rfl) G.jh G.xc_NoRow (ag∣aa))) al)∪((@aH _ _ 2 _ _ _ _ je.nd rfl (Mx rfl) (@mv _ _ _ _ _ _ _ _ _ _ _ _ NR PySem.F.slot_str_split PySem.F.type_str_split yd (pv 1) (ag∣aa) (by rfl) (by rfl) (by rfl) (by rfl) (by rfl)) (by rfl) (by first|exact .inl rfl|exact .inr rfl|assumption))∪((aC (ap cw (@aB _ _ _ _ _ _ _ aS (pv 2) aj (λ_ _=>rfl)) ag (av _)) ((ar (pv 0) G.bS G.jv Sr (hr.mono (by decide)) G.kf .nil hR.passes ((pv 2)∣aa))⁻¹) al)∪((aC (ap vm (ak (pv 0) rfl) eE (av _)) (@ao _ _ _ (c6 hR hr.hd (by rfl) G.jh G.xc_NoRow (ag∣aa))) al)∪((aC (xk (yo (by rfl) G.pH G.oS (@aB _ _ _ _ _ _ _ aS (pv 2) aj (λ_ _=>rfl)))) ((ar (pv 0) G.bS G.jB Sn (hr.mono (by decide)) G.kA .nil hR.passes ((pv 2)∣aa))⁻¹) al)∪((ar (pv 0) G.bS G.jw So (hr.mono (by decide)) G.kE .nil hR.passes ((pv 2)∣aa))⁻¹)))))),?_⟩;rcases bad with⟨t,ty,kt⟩|⟨ws,rfl,W,bad⟩
   . exact⟨_,rfl,_,_,t,K',rfl,ty,kt,_,rfl,fP ⟨by show 1 <= LP;decide,k _ (aZ.refl _)⟩⟩
   . refine⟨_,rfl,_,_,.type "str",l',rfl,.str _,AT,_,rfl,cW ?_⟩;refine⟨_,rfl,rfl,_,_,rfl,rfl,(by decide +kernel),W.jl,λl nl=>?_⟩;rw[kX W.ne W.noB];have e1:=af (o:=.lst (ws.map V.str)) nl;have v1:=a8 (H:=H) (a:=l) (o:=.lst (ws.map V.str));generalize upd H l (.lst (ws.map V.str))=H1 at e1 v1 |-;have hd1:=e1 _ _ hd;cases ws with
    |nil=>exact absurd rfl W.ne
    |cons x r =>
      have wl:=W.len;rw[Mw]at wl;have wdr:∀ y∈r,wdB y=l':=λy hy=>W.wd y (Ma _ hy)
      refine⟨_,rfl,l,_,_,_,rfl,rfl,SqL.of v1,aU,rfl,_,rfl,?_⟩;by_cases hx:x="ring"
      . subst hx;rcases bad with⟨_,bad⟩|⟨_,bad⟩
        . exact absurd rfl bad
        refine i9 (SI rfl) ⟨_,rfl,fc ⟨_,hd1⟩ rfl ⟨_,rfl,dk,dx,l,v,r,rfl,hd1,v1,wdr,by omega,?_,λH2 e2=>k _ (e1.trans e2)⟩⟩;dsimp only[Jo]at bad;rw[SF rfl,or_eq_true,MC,SH]at bad;exact bad
      . refine cz (by rw[SH];exact sne hx) ?_;rcases bad with⟨rfl,_⟩|⟨⟨y,rfl⟩,bad⟩
        . exact⟨_,rfl,gm ⟨_,hd1⟩ G.bS G.bx rfl ⟨rfl,_,rfl,i9 (SI rfl) ⟨by show 1 <= LP;decide,k _ e1⟩⟩⟩
        refine⟨_,rfl,gm ⟨_,hd1⟩ G.bS G.bx rfl ⟨rfl,_,rfl,cz (by rw[SH];intro z;cases z) ?_⟩⟩;refine⟨_,rfl,l,_,_,_,rfl,rfl,SqL.of v1,aU,x,rfl,_,rfl,?_⟩;dsimp only[Jo]at bad;rw[SG hx]at bad;by_cases hw:x∈jA
        . rw[SF hw]at bad;obtain⟨b,hb,_⟩:=xg G hw;rw[hb];exact fP ⟨_,rfl,fc ⟨_,hd1⟩ rfl ⟨_,rfl,dk,dx,l,y,x,r,rfl,hd1,v1,hw,wdr,by omega,bad,λH2 e2=>k _ (e1.trans e2)⟩⟩
        . rw[SG hw]at bad;simp only[MC,or_eq_true,SH]at bad;rw[DC hw];exact cW ⟨_,rfl,fc ⟨_,hd1⟩ rfl ⟨_,rfl,dk,dx,l,y,x,r,rfl,hd1,v1,W.kd,wdr,by omega,bad.1.1,bad.1.2,bad.2,λH2 e2=>k _ (e1.trans e2)⟩⟩
def RT0:List Str:=[""," ","ring","ring 1 2","ring 0 2 1","ring 9 2 1","ring 1 1 1","ring 1 5 1","ring 1 2 0"]
def RT1:List Str:=["ring 1 2 10","ring 1 2 1 bells","ring 1 2 1 look bell","ring 1 2 1 bell bell","ring 01 2 1"]
def RT2:List Str:=["ring 1 2 1 ","ring  1 2 1","Ring 1 2 1","ask","ask x","ask 05","ask -0","ask +5","ask 5 5"]
def RT3:List Str:=["ask -05","ask 1_0","ask -","ask --5","ask 5.0","answer 0 -00"]
def RT4:List Str:=["ask 1000000001","ask -1000000001","ask 1234567890123","ask  5"," ask 5","ask 5 ","ask 5\n"]
def RT5:List Str:=["collect 0","take 1","answer 0","answer -1 5","answer 0 5 6","answer 1000000001 5","bell"]
def RT6:List Str:=["bell 2","bell -1","lie 0 0","look x","drain","story 1","errs no","waits","waits 2","full"]
def RT:List Str:=RT0++RT1++RT2++RT3++RT4++RT5++RT6
def K2:RT=WS.map (MP " "):=by decide +kernel
def Jt:(["ask 5","story","errs","waits 0","bell 0","collect"]:List Str)=(W0.take 6).map (MP " "):=by decide +kernel
def JR:RT.take 2=(W0.drop 6).map (MP " "):=by decide +kernel
section
variable {K:LN}{H:Hp}
def Kx {ws:List Str}(h:ws∈W0):EV K H .non (.str (MP " " ws)):=.inr ⟨ws,rfl,.of (Jb ws h).1,.inl ⟨rfl,(Jb ws h).2⟩⟩
def KJ {ws:List Str}{y:D'}(h:ws∈WS):EV K H (.ref y) (.str (MP " " ws)):=.inr ⟨ws,rfl,.of (Jv ws h),.inr ⟨⟨y,rfl⟩,IT ws h⟩⟩
def KB {l1 t1 d1:D'}{v x:V}{xs ys:List V}{kvs:List (Key × V)}(hl:H l1=f' (.lst xs)) (ht:H t1=f' (.tup ys)) (hd:H d1=f' (.dK kvs)) (hx:x∈[.non,.bl l',.int 5,.ref l1,.ref t1,.ref d1]):EV K H v x:=by
 simp only[Mf,MZ,or_false]at hx;rcases hx with rfl|rfl|rfl|rfl|rfl|rfl
 . exact .inl ⟨_,.non,rfl⟩
 . exact .inl ⟨_,.bl _,rfl⟩
 . exact .inl ⟨_,.int _,rfl⟩
 . exact .inl ⟨_,.lst hl,rfl⟩
 . exact .inl ⟨_,.tup ht,rfl⟩
 . exact .inl ⟨_,.dK hd,rfl⟩
end
def EI {H:Hp}{σ:St}{Q:VK}(k:∀ p l1 t1 d1 H',aZ H H'->H p=LJ->H' p=f' (.lst [.non,.bl l',.int 5,.ref l1,.ref t1,.ref d1])->H' l1=f' (.lst [.str "story"])->H' t1=f' (.tup [.str "story"])->H' d1=f' (.dK [])->Q (.ref p) H') :
 K4 (io (tC V.non) (io (tC (V.bl l')) (io (tC (V.int 5)) (io (K4 (io (tC (V.str "story")) vQ)) (io (JY (io (tC (V.str "story")) vQ)) (io EJ vQ)))))) σ H Q:=by
 refine⟨(by show 1 <= LP;decide),λl1 n1=>⟨(by show 1 <= LP;decide),λt1 nt=>λd1 nd=>⟨(by show 6 <= LP;decide),λp np=>?_⟩⟩⟩;have e1:=af (o:=.lst [V.str "story"]) n1;have e2:=af (o:=.tup [V.str "story"]) nt;have e3:=af (o:=.dK []) nd;have e4:=af (o:=.lst [.non,.bl l',.int 5,.ref l1,.ref t1,.ref d1]) np;have E3:=e1.trans (e2.trans e3);refine k p l1 t1 d1 _ (E3.trans e4) ?_ a8 ((e2.trans (e3.trans e4)) _ _ a8) ((e3.trans e4) _ _ a8) (e4 _ _ a8);cases h:H p with
|none=>rfl
|some o=>rw[E3 _ _ h]at np;cases np
def uO {H H':Hp}(e:aZ H H') {c:D'}(h:H' c=LJ):H c=LJ:=by
 cases q:H c with
|none=>rfl
|some o=>rw[e _ _ q]at h;cases h
def HJ (c:Int):∃ ws,ws∈WS/\atI (RT.map V.str) (c % 53)=f' (V.str (MP " " ws)):=by
 have h0:0 <= c % 53:=Int.emod_nonneg _ (by decide);have h1:c % 53 < 53:=Int.emod_lt_of_pos _ (by decide);obtain⟨m,hm⟩:=Int.eq_ofNat_of_zero_le h0;have hw:WS.length=53:=by decide +kernel
 have hl:m < WS.length:=by omega
 refine⟨WS[m],getElem_mem hl,?_⟩;rw[hm];refine GL ?_;rw[K2,map_map,Mp,LQ hl];rfl
def C7:Sp:=λvs H Q _=>vs=[]/\∀ l H',H l=LJ->aZ H H'->H' l=f' (.lst (RT.map V.str))->Q (.ref l) H'
def BF (ad:Ad) (K:LN):Sp:=λvs H Q _=>∃ (dk dx:D') (v x:V),vs=[.ref dk,x]/\H dk=f' (.ins ad.jH dx [("yard",v)])/\EV K H v x/\∀ H',aZ H H'->Q (.bl l') H'
def shL:List Lk:=[.story,.waits K',.waits l',.pK]
def K0:[V.str "story",V.str "waits 0",V.str "waits 1",V.str "errs"]=shL.map (λk=>V.str (MP " " k.ws)):=by
 have h:(["story","waits 0","waits 1","errs"]:List Str)=shL.map (λk=>MP " " k.ws):=by decide +kernel
 have h2:=congrArg (List.map V.str) h;rwa [map_map]at h2
def xJ (w:LZ) (ad:Ad):Sp:=λvs H Q _=>∃ (dk dx:D') (A:YA) (q:YP) (S:YS) (hs:List Hx),vs=[.ref dk]/\H dk=f' (.ins ad.jH dx [("yard",.ref A.y)])/\Yn w ad.bf ad.dc ad.ba ad.ce ad.aG H A q S/\q.Ok/\S.hs=hs.map Hx.d/\hs.length < 900/\(∀ b,(S.rs b).length < 100000) /\
 ∀ D H',H D=LJ->aZ H H'->H' D=f' (.lst (shL.map λk=>V.str (k.ans q S hs)))->Q (.ref D) H'
def Hh {H1:Hp}{l:D'}{xs ys:List V}{Q:VK}(v:H1 l=f' (.lst xs)) (hz:xs.length+ys.length <= LP) (k:∀ q H2,aZ H1 H2->H1 q=LJ->H2 q=f' (.lst (xs++ys))->Q (.ref q) H2) (p:D') (np:H1 p=LJ):KG (.ref l) (.ref p) (upd H1 p (.lst ys)) Q:=by
 have f:=af (o:=.lst ys) np;refine⟨l,p,xs,ys,rfl,rfl,f _ _ v,a8,hz,λq nq=>k q _ (f.trans (af nq)) ?_ a8⟩;cases h:H1 q with
|none=>rfl
|some o=>rw[f _ _ h]at nq;cases nq
def A9 (G:Gs K mg a d):FnOk P w K mg base CX0 1 a.jn d.jn [] C7:=by
 refine G.rq.ok dG (λvs H Q E h=>?_) (λcdv A' outer s' H vs Q E hr h=>?_)
 . obtain⟨rfl,_⟩:=h;rfl
 . obtain⟨rfl,k⟩:=h;have hu:=bP hr;refine⟨_,((@aH _ _ 0 _ _ _ _ dG.nd rfl (Mx rfl) (@bo _ _ _ _ (ag∣(ag∣(ag∣(ag∣(ag∣(ag∣(ag∣(ag∣(ag∣aa)))))))))) (by rfl) (by first|exact .inl rfl|exact .inr rfl|assumption))∪((@aH _ _ 0 _ _ _ _ dG.nd rfl (Mx rfl) (@gs _ _ _ _ _ _ _ _ lp (pv 0) (@bo _ _ _ _ (ag∣(ag∣(ag∣(ag∣(ag∣aa))))))) (by rfl) (by first|exact .inl rfl|exact .inr rfl|assumption))∪((@aH _ _ 0 _ _ _ _ dG.nd rfl (Mx rfl) (@gs _ _ _ _ _ _ _ _ lp (pv 0) (@bo _ _ _ _ (ag∣(ag∣(ag∣(ag∣(ag∣(ag∣(ag∣(ag∣(ag∣aa))))))))))) (by rfl) (by first|exact .inl rfl|exact .inr rfl|assumption))∪((@aH _ _ 0 _ _ _ _ dG.nd rfl (Mx rfl) (@gs _ _ _ _ _ _ _ _ lp (pv 0) (@bo _ _ _ _ (ag∣(ag∣(ag∣(ag∣(ag∣(ag∣aa)))))))) (by rfl) (by first|exact .inl rfl|exact .inr rfl|assumption))∪((@aH _ _ 0 _ _ _ _ dG.nd rfl (Mx rfl) (@gs _ _ _ _ _ _ _ _ lp (pv 0) (@bo _ _ _ _ (ag∣(ag∣(ag∣(ag∣(ag∣(ag∣(ag∣aa))))))))) (by rfl) (by first|exact .inl rfl|exact .inr rfl|assumption))∪((@aH _ _ 0 _ _ _ _ dG.nd rfl (Mx rfl) (@gs _ _ _ _ _ _ _ _ lp (pv 0) (@bo _ _ _ _ (ag∣(ag∣(ag∣(ag∣(ag∣(ag∣(ag∣aa))))))))) (by rfl) (by first|exact .inl rfl|exact .inr rfl|assumption))∪((@gs _ _ _ _ _ _ _ _ lp (pv 0) (@bo _ _ _ _ (ag∣(ag∣(ag∣(ag∣(ag∣(ag∣(ag∣(ag∣(ag∣(ag∣aa))))))))))))⁻¹))))))),?_⟩;refine⟨(by show 9 <= LP;decide),λl0 n0=>?_⟩;have e0:aZ H (upd H l0 (.lst [V.str "",V.str " ",V.str "ring",V.str "ring 1 2",V.str "ring 0 2 1",V.str "ring 9 2 1",V.str "ring 1 1 1",V.str "ring 1 5 1",V.str "ring 1 2 0"])):=af n0;have v0:upd H l0 (.lst [V.str "",V.str " ",V.str "ring",V.str "ring 1 2",V.str "ring 0 2 1",V.str "ring 9 2 1",V.str "ring 1 1 1",V.str "ring 1 5 1",V.str "ring 1 2 0"]) l0=f' (.lst (RT0.map V.str)):=a8;generalize upd H l0 (.lst [V.str "",V.str " ",V.str "ring",V.str "ring 1 2",V.str "ring 0 2 1",V.str "ring 9 2 1",V.str "ring 1 1 1",V.str "ring 1 5 1",V.str "ring 1 2 0"])=H0 at e0 v0 |-;refine⟨_,rfl,(by show 5 <= LP;decide),Hh (ys:=RT1.map V.str) v0 (by show 14 <= LP;decide) λl1 H1 e1 n1 v1=>?_⟩;refine⟨_,rfl,(by show 9 <= LP;decide),Hh (ys:=RT2.map V.str) v1 (by show 23 <= LP;decide) λl2 H2 e2 n2 v2=>?_⟩;refine⟨_,rfl,(by show 6 <= LP;decide),Hh (ys:=RT3.map V.str) v2 (by show 29 <= LP;decide) λl3 H3 e3 n3 v3=>?_⟩;refine⟨_,rfl,(by show 7 <= LP;decide),Hh (ys:=RT4.map V.str) v3 (by show 36 <= LP;decide) λl4 H4 e4 n4 v4=>?_⟩;refine⟨_,rfl,(by show 7 <= LP;decide),Hh (ys:=RT5.map V.str) v4 (by show 43 <= LP;decide) λl5 H5 e5 n5 v5=>?_⟩;refine⟨_,rfl,(by show 10 <= LP;decide),Hh (ys:=RT6.map V.str) v5 (by show 53 <= LP;decide) λl6 H6 e6 n6 v6=>?_⟩;have E:=e0.trans (e1.trans (e2.trans (e3.trans (e4.trans (e5.trans e6)))));have n6':H l6=LJ:=by
    cases h:H l6 with
   |none=>rfl
   |some o=>rw[(e0.trans (e1.trans (e2.trans (e3.trans (e4.trans e5))))) _ _ h]at n6;cases n6
   refine k l6 H6 n6' E ?_;rw[v6];rfl
def FT (G:Gs K mg a d):FnOk P w K mg base CX0 13 a.dn d.dn ["desk","row"] (BF a K):=by
 have Sm:FnOk P w K mg base (CXv P w) 12 _ _ _ _:=Gv G;refine G.cO.ok cj (λvs H Q E h=>?_) (λcdv A' outer s' H vs Q E hr h=>?_)
 . obtain⟨dk,dx,v,x,rfl,_⟩:=h;rfl
 . obtain⟨dk,dx,v,x,rfl,hd,bad,k⟩:=h;have hu:=bP hr;refine⟨_,((@aH _ _ 2 _ _ _ _ cj.nd rfl (Mx rfl) cX (by rfl) (by first|exact .inl rfl|exact .inr rfl|assumption))∪((@aH _ _ 3 _ _ _ _ cj.nd rfl (Mx rfl) cX (by rfl) (by first|exact .inl rfl|exact .inr rfl|assumption))∪((IH ⟨rfl,rfl,rfl⟩ (λOj R=>by exact(@ao _ _ _ (@aK _ _ _ _ (Ee rfl (pv 0) G.bS G.iQ Sm (hr.mono (by decide)) G.kP .nil ((pv 1)∣aa)) (by rfl)))) (Jz (i:=4) ⟨rfl,rfl,rfl⟩ cj.nd rfl rfl (Mx rfl) (by rfl) G.wD (λe=>by exact((@aH _ _ 2 _ _ _ _ cj.nd rfl (Mx rfl) (xu (aA (mM (K:=K) rfl) (by rfl) G.bb aX ((pv 4)∣((bX (v:=.ref a.eQ) (by rfl) G.jh rfl)∣aa))) (uD (aA (mM (K:=K) rfl) (by rfl) G.bb aX ((pv 4)∣((ie (v:=.ty "ValueError") (by rfl) G.uq sF rfl)∣aa))))) (by rfl) (by first|exact .inl rfl|exact .inr rfl|assumption))∪(@ao _ _ _ (@aH _ _ 3 _ _ _ _ cj.nd rfl (Mx rfl) (aA (qL (K:=K) rfl) (by rfl) G.bb aX ((pv 4)∣((@bO _ _ _ _ _ ((bX (v:=.ref a.B0) (by rfl) G.Aa rfl)∣((bX (v:=.ref a.nP) (by rfl) G.oA rfl)∣((bX (v:=.ref a.mO) (by rfl) G.yn rfl)∣((bX (v:=.ref a.mH) (by rfl) G.xl rfl)∣aa)))))∣aa))) (by rfl) (by first|exact .inl rfl|exact .inr rfl|assumption))))) IE))∪((xu (pv 2) (uD (EM (pv 3))))⁻¹)))),?_⟩;refine⟨λσ' cls H'=>σ'=[f' (.ref dk),f' x,f' (.bl K'),f' (.bl l'),LJ]/\cls=.ref a.eQ/\aZ H H',?_,?_⟩
   . exact⟨_,rfl,fc ⟨_,hd⟩ rfl ⟨_,rfl,dk,dx,v,x,rfl,hd,bad,λH' e=>⟨rfl,rfl,e⟩⟩⟩
   . rintro σ' cls H' ⟨rfl,rfl,e0⟩;refine⟨l',G.Le,a.eQ,rfl,λex hex=>⟨_,rfl,?_⟩⟩;have e1:=af (o:=zZ ex a.eQ) hex;have x1:upd H' ex (zZ ex a.eQ) ex=f' (zZ ex a.eQ):=a8;generalize upd H' ex (zZ ex a.eQ)=H1 at e1 x1 |-;refine⟨ex,_,a.eQ,l',rfl,x1,G.tD,rfl,G.Ly,_,rfl,fP ?_⟩;refine⟨_,rfl,ex,_,a.eQ,l',rfl,x1,G.tD,rfl,G.L7,?_⟩;refine⟨_,rfl,by show 4 <= LP;decide,λtp htp=>?_⟩;have e2:=af (o:=.tup [.ref a.B0,.ref a.nP,.ref a.mO,.ref a.mH]) htp;refine⟨ex,tp,_,a.eQ,K',rfl,a8,rfl,e2 _ _ x1,G.tD,G.Lx,?_⟩;exact⟨_,rfl,_,rfl,fP ⟨_,rfl,_,rfl,k _ (e0.trans (e1.trans e2))⟩⟩
def D9 (G:Gs K mg a d):FnOk P w K mg base CX0 13 a.gn d.gn ["desk"] (xJ w a):=by
 have Sm:FnOk P w K mg base (CXv P w) 12 _ _ _ _:=EK G;refine G.dA.ok uR (λvs H Q E h=>?_) (λcdv A' outer s' H vs Q E hr h=>?_)
 . obtain⟨dk,dx,A,q,S,hs,rfl,_⟩:=h;rfl
 . obtain⟨dk,dx,A,q,S,hs,rfl,hd,Y,ok,hh,hl,hr',k⟩:=h;have hu:=bP hr;refine⟨_,((by exact lz (tc:=λ_ H Q=>Q l' H) (te:=GN a.jH "say" (Fe w a) [] E0 (nJ 1) (io (nJ 0) vQ)) (caps:=["desk"]) (js:=[0]) rfl (ky rfl rfl (by decide +kernel) (by decide +kernel) rfl ⟨rfl,trivial⟩ rfl rfl) (by decide +kernel) ⟨⟨⟨_,rfl⟩,rfl,.inl rfl,.inl rfl⟩,trivial⟩ (ii (@bo _ _ _ _ (ag∣(ag∣(ag∣(ag∣aa)))))) (λC s₃ H₃ Oj ex E'=>by exact ge) (λC s₃ H₃ Oj ex E'=>by exact(ar (pv 1) G.bS G.iQ Sm (hr.mono (by decide)) G.kP .nil Ar ((pv 0)∣aa))))⁻¹),?_⟩;refine⟨(by show 4 <= LP;decide),λp np=>⟨p,rfl,⟨_,SqL.of a8⟩,λD hD=>?_⟩⟩;have e1:=af (o:=.lst [V.str "story",V.str "waits 0",V.str "waits 1",V.str "errs"]) np;have v1:=a8 (H:=H) (a:=p) (o:=.lst [V.str "story",V.str "waits 0",V.str "waits 1",V.str "errs"]);generalize upd H p (.lst [V.str "story",V.str "waits 0",V.str "waits 1",V.str "errs"])=H1 at e1 v1 hD |-;rw[K0]at v1;refine oV (ys:=shL.map λk=>V.str (k.ans q S hs)) (SqL.of v1) hD rfl (by show 4 < 1000;decide) (λH2 e2 hD2=>k D H2 ?_ (e1.trans e2) hD2) (λi x y H3 R hx hy e3 kR=>?_)
   . cases h:H D with
    |none=>rfl
    |some o=>rw[e1 _ _ h]at hD;cases hD
   . have E3:=e1.trans e3;rw[Mp]at hx hy;cases hlk:shL[i]? with
    |none=>rw[hlk]at hx;cases hx
    |some lk =>
      rw[hlk]at hx hy;cases hx;cases hy;exact⟨_,rfl,fc ⟨_,E3 _ _ hd⟩ rfl ⟨_,rfl,.inr (.inr ⟨dk,dx,A,q,S,hs,lk,rfl,E3 _ _ hd,Y.same E3,ok,hh,hl,hr',λH4 e4=>kR _ e4⟩)⟩⟩
def q38:YP:=Jk 2 2 3 []
def dds:List Dd:=[.ask 5,.bell K',.take,.ask (-7)]
def xG (l:List Dd):YS:=l.foldl (λS x=>(x.run q38 S).2) YS.zero
def S38:YS:=xG dds
def Kj:[V.str "ring 2 2 3",V.str "ask 5",V.str "bell 0",V.str "take",V.str "ask -7"]=(MP " " (lL 2 2 3 []) :: dds.map λx=>MP " " x.ws).map V.str:=by
 have h:(["ring 2 2 3","ask 5","bell 0","take","ask -7"]:List Str)=(MP " " (lL 2 2 3 []) :: dds.map λx=>MP " " x.ws):=by decide +kernel
 exact congrArg (List.map V.str) h
def FH:FOk []:=⟨λx hx=>(by cases hx),nodup_nil,rfl⟩
def xV:q38.Ok:=by
 exact⟨⟨by decide,by decide,by decide⟩,by decide⟩
def HR (j:Nat) (x:Dd) (h:dds[j]?=f' x):x.Ok/\x.NB/\x.chk q38 (xG (dds.take j))=LJ/\(∃ t,Tl x (x.run q38 (xG (dds.take j))).1 t)/\xG (dds.take (j+1))=(x.run q38 (xG (dds.take j))).2:=by
 have w0:WB (xG (dds.take 0)):=GM;have w1:WB (xG (dds.take 1)):=w0.run (x:=.ask 5) xV (by show (-1000000000:Int) <= 5/\(5:Int) <= 1000000000;decide) trivial;have w2:WB (xG (dds.take 2)):=w1.run (x:=.bell K') xV trivial trivial;have w3:WB (xG (dds.take 3)):=w2.run (x:=.take) xV trivial trivial
 match j,h with
|0,h=>cases h;have hc:(Dd.ask 5).chk q38 (xG (dds.take 0))=LJ:=rfl;exact⟨(by show (-1000000000:Int) <= 5/\(5:Int) <= 1000000000;decide),trivial,hc,oz w0 xV hc,rfl⟩
|1,h=>cases h;have hc:(Dd.bell K').chk q38 (xG (dds.take 1))=LJ:=rfl;exact⟨trivial,trivial,hc,oz w1 xV hc,rfl⟩
|2,h=>cases h;have hc:Dd.take.chk q38 (xG (dds.take 2))=LJ:=rfl;exact⟨trivial,trivial,hc,oz w2 xV hc,rfl⟩
|3,h=>cases h;have hc:(Dd.ask (-7)).chk q38 (xG (dds.take 3))=LJ:=rfl;exact⟨(by show (-1000000000:Int) <= -7/\(-7:Int) <= 1000000000;decide),trivial,hc,oz w3 xV hc,rfl⟩
|_+4,h=>cases h
def h38:List Hx:=[.h ⟨.asked,0,5⟩,.h ⟨.taken,0,5⟩,.h ⟨.asked,1,-7⟩]
def JX:S38.hs=h38.map Hx.d:=rfl
def JM (b:Bool):(S38.rs b).length < 100000:=by
 have:=(show (S38.rs K').length < 100000 from by decide +kernel)
 have:=(show (S38.rs l').length < 100000 from by decide +kernel)
 cases b<;>assumption
def Hl:List Str:=shL.map λk=>k.ans q38 S38 h38
def GZ:∀ x∈Hl,MX.kd (.str x)=l':=by decide +kernel
def JK {w:LZ}{ad:Ad}{K:LN}{te:TE}{σ:St}{H:Hp}{dk dx D:D'}{A:YA}{y:V}{Q:Bool->Hp->Prop}(s2:σ[2]?=f' (f' (.ref dk))) (s5:σ[5]?=f' (f' (.ref D))) (hd:H dk=f' (.ins ad.jH dx [("yard",.ref A.y)])) (Y:Yn w ad.bf ad.dc ad.ba ad.ce ad.aG H A q38 S38)
 (hD:H D=f' (.lst (shL.map λk=>V.str (k.ans q38 S38 h38)))) (bad:EV K H (.ref A.y) y) (hte:∀ Q:VK,Q y H->te σ H Q) (k:∀ H',aZ H H'->Q K' H') :
 tOr (K3 (tB (zf (BF ad K) [] E0 (io (nJ 2) (io te vQ))))) (z0 (tOp (Kd l') (zf (xJ w ad) [] E0 (io (nJ 2) vQ)) (nJ 5))) σ H Q:=by
 refine⟨_,s2,hte _ ⟨dk,dx,.ref A.y,y,rfl,hd,bad,λH9 e9=>⟨_,rfl,cW ?_⟩⟩⟩;refine⟨_,s2,dk,dx,A,q38,S38,h38,rfl,e9 _ _ hd,Y.same e9,xV,JX,by decide,JM,λD2 H10 nD2 e10 v10=>?_⟩;have hl:=kQ GZ;refine⟨_,s5,.list (Hl.map Mo),.list (Hl.map Mo),⟨D2,_,rfl,v10,?_⟩,⟨D,_,rfl,e10 _ _ (e9 _ _ hD),?_⟩,hl,hl,_,rfl,?_⟩
 . exact(map_map (f:=λk=>Lk.ans q38 S38 h38 k) (g:=V.str) (l:=shL)) ▸ bu Hl
 . exact(map_map (f:=λk=>Lk.ans q38 S38 h38 k) (g:=V.str) (l:=shL)) ▸ bu Hl
 . rw[SF rfl,wL hl];exact k _ (e9.trans e10)
def JU {dk:D'}:[V.ref dk,V.str "drain 0"]=[V.ref dk,V.str (MP " " (Dd.drain K').ws)]:=by
 have h:("drain 0":Str)=MP " " (Dd.drain K').ws:=by decide +kernel
 rw[h]
def S39:YS:=((Dd.drain K').run q38 S38).2
def LB:S39.hs=h38.map Hx.d:=rfl
def Ls (b:Bool):(S39.rs b).length < 100000:=by
 have:=(show (S39.rs K').length < 100000 from by decide +kernel)
 have:=(show (S39.rs l').length < 100000 from by decide +kernel)
 cases b<;>assumption
def KZ:(shL.map λk=>V.str (k.ans q38 S39 h38))=(["3","1","1","no"]:List Str).map V.str:=by
 have h:(shL.map λk=>k.ans q38 S39 h38)=(["3","1","1","no"]:List Str):=by decide +kernel
 rw[<-h,map_map];rfl
def xY (K:LN):Sp:=λvs H Q _=>∃ (b:D') (ns:List Int),vs=[.ref b]/\SqL K H b (ns.map V.int)/\ns.length <= 63/\∀ H',Q (.bl l') H'
def HG (G:Gs K mg a d):FnOk P w K mg base CX0 17 a.law d.law ["script"] (xY K):=by
 have R8:FnOk P w K mg base CX0 1 _ _ _ _:=A9 G;have R4:FnOk P w K mg base CX0 13 _ _ _ _:=FT G;have R9:FnOk P w K mg base CX0 13 _ _ _ _:=D9 G;have Q3:FnOk P w K mg base CX0 1 _ _ _ _:=Eg G;have Sm:FnOk P w K mg base (CXv P w) 12 _ _ _ _:=EK G;refine G.Kh.ok lq (λvs H Q E h=>?_) (λcdv A' outer s' H vs Q E hr h=>?_)
 . obtain⟨l,ns,rfl,_⟩:=h;rfl
 . obtain⟨l,ns,rfl,hS,hlen,k⟩:=h;have hu:=bP hr;refine⟨_,((@aH _ _ 1 _ _ _ _ lq.nd rfl (Mx rfl) (D0 R8 (hr.mono (by decide)) (by rfl) G.zp G.rq.kp G.zX .nil aq) (by rfl) (by first|exact .inl rfl|exact .inr rfl|assumption))∪((@aH _ _ 2 _ _ _ _ lq.nd rfl (Mx rfl) (sk G.HU Q3 (hr.mono (by decide)) (by rfl) G.HN G.uE .nil aq) (by rfl) (by first|exact .inl rfl|exact .inr rfl|assumption))∪(@gC _ _ _ _ _ (@nU _ _ _ _ _ _ _ _ NG rfl (@ii _ _ _ _ (@bo _ _ _ _ (ag∣(ag∣(ag∣(ag∣(ag∣(ag∣aa)))))))) (fV (i:=3) lq.nd rfl (Mx rfl)) (@ao _ _ _ (@aC _ _ _ _ _ _ _ _ (bN (bi (ax R4 (hr.mono (by decide)) (by rfl) G.eF G.cO.kp G.eA .nil aq ((pv 2)∣((pv 3)∣aa))))) (cX⁻¹) al)) (by intro _;rfl))
    (@gC _ _ _ _ _ (@nU _ _ _ _ _ _ _ _ NG rfl (@ii _ _ _ _ (@gs _ _ _ _ _ _ _ _ lp (bB dN (pv 1) dw (bK aj)) (@bo _ _ _ _ (eE∣(cX∣(aj∣((@bo _ _ _ _ (ag∣aa))∣((@bO _ _ _ _ _ (ag∣aa))∣(kU∣aa))))))))) (fV (i:=4) lq.nd rfl (Mx rfl)) (@ao _ _ _ (@aC _ _ _ _ _ _ _ _ (bN (bi (ax R4 (hr.mono (by decide)) (by rfl) G.eF G.cO.kp G.eA .nil aq ((pv 2)∣((pv 4)∣aa))))) (cX⁻¹) al)) (by intro _;rfl))
    (@gC _ _ _ _ _ (@nU _ _ _ _ _ _ _ _ NG rfl (@ii _ _ _ _ (@bo _ _ _ _ (ag∣(ag∣(ag∣(ag∣(ag∣aa))))))) (fV (i:=3) lq.nd rfl (Mx rfl)) (@ao _ _ _ (@aK _ _ _ _ (ar (pv 2) G.bS G.iQ Sm (hr.mono (by decide)) G.kP .nil Ar ((pv 3)∣aa)) (by rfl))) (by intro _;rfl))
    (@gC _ _ _ _ _ (@nU _ _ _ _ _ _ _ _ NG rfl (@ii _ _ _ _ (@bo _ _ _ _ (eE∣(cX∣(aj∣((@bo _ _ _ _ (ag∣aa))∣((@bO _ _ _ _ _ (ag∣aa))∣(kU∣aa)))))))) (fV (i:=4) lq.nd rfl (Mx rfl)) ((@aH _ _ 5 _ _ _ _ lq.nd rfl (Mx rfl) (ax R9 (hr.mono (by decide)) (by rfl) G.eM G.dA.kp G.fe .nil aq ((pv 2)∣aa)) (by rfl) (by first|exact .inl rfl|exact .inr rfl|assumption))∪(@ao _ _ _ (@aC _ _ _ _ _ _ _ _ (oW ((o6 (bN (bi (ax R4 (hr.mono (by decide)) (by rfl) G.eF G.cO.kp G.eA .nil aq ((pv 2)∣((pv 4)∣aa))))) (kN (ap (rH hr.units) (ax R9 (hr.mono (by decide)) (by rfl) G.eM G.dA.kp G.fe .nil aq ((pv 2)∣aa)) (pv 5) (av _))))).pt) (cX⁻¹) al))) (by intro _;rfl))
    (@gC _ _ _ _ _ (@nU _ _ _ _ _ _ _ _ NG rfl (@ii _ _ _ _ (@gs _ _ _ _ _ _ _ _ lp (bB dN (pv 0) (bK aj) (bK aj)) (@bo _ _ _ _ (aj∣aa)))) (fV (i:=6) lq.nd rfl (Mx rfl)) ((@aH _ _ 5 _ _ _ _ lq.nd rfl (Mx rfl) (ax R9 (hr.mono (by decide)) (by rfl) G.eM G.dA.kp G.fe .nil aq ((pv 2)∣aa)) (by rfl) (by first|exact .inl rfl|exact .inr rfl|assumption))∪((@aC _ _ _ _ _ _ _ _ (oW ((o6 (bN (bi (ax R4 (hr.mono (by decide)) (by rfl) G.eF G.cO.kp G.eA .nil aq ((pv 2)∣((@aB _ _ _ _ _ _ _ aS (pv 1) (@gs _ _ _ _ _ _ _ _ vg (pv 6) (aA aN (by rfl) G.kJ fJ ((pv 1)∣aa))) (λ_ _=>rfl))∣aa))))) (kN (ap (rH hr.units) (ax R9 (hr.mono (by decide)) (by rfl) G.eM G.dA.kp G.fe .nil aq ((pv 2)∣aa)) (pv 5) (av _))))).pt) (cX⁻¹) al)∪(@ao _ _ _ (@aC _ _ _ _ _ _ _ _ (oW ((o6 (bN (bi (ax R4 (hr.mono (by decide)) (by rfl) G.eF G.cO.kp G.eA .nil aq ((pv 2)∣((@aB _ _ _ _ _ _ _ aS (pv 1) (@gs _ _ _ _ _ _ _ _ vg (@gs _ _ _ _ _ _ _ _ Ci (pv 6) aj) (aA aN (by rfl) G.kJ fJ ((pv 1)∣aa))) (λ_ _=>rfl))∣aa))))) (kN (ap (rH hr.units) (ax R9 (hr.mono (by decide)) (by rfl) G.eM G.dA.kp G.fe .nil aq ((pv 2)∣aa)) (pv 5) (av _))))).pt) (cX⁻¹) al)))) (by intro _;rfl))
    ((xu (bD cw (ar (pv 2) G.bS G.iQ Sm (hr.mono (by decide)) G.kP .nil Ar (ag∣aa)) ag (av _)) (uD (bD (lf hr.units) (ax R9 (hr.mono (by decide)) (by rfl) G.eM G.dA.kp G.fe .nil aq ((pv 2)∣aa)) (@bo _ _ _ _ (ag∣(ag∣(ag∣(ag∣aa))))) (av _))))⁻¹)))))))),?_⟩
   refine⟨rfl,λrl H1 nrl E1 v1=>?_⟩;intro dk dx ndk ndx nedx;refine⟨dk,dx,rfl,a8,rfl,?_⟩;have f2:aZ H1 (upd (upd (upd H1 dx (.own dk)) dk (.ins a.jH dx [])) dk (.ins a.jH dx [("yard",.non)])):=λc o e=>by
    rw[ac (ae e ndk),ac (ae e ndk),ac (ae e ndx)];exact e
   have d2:=a8 (H:=upd (upd H1 dx (.own dk)) dk (.ins a.jH dx [])) (a:=dk) (o:=.ins a.jH dx [("yard",.non)]);generalize upd (upd (upd H1 dx (.own dk)) dk (.ins a.jH dx [])) dk (.ins a.jH dx [("yard",.non)])=H2 at f2 d2 |-;have r2:=f2 _ _ v1;have E2:=E1.trans f2;refine⟨λσ H'=>∃ x,σ=[f' (.ref l),f' (.ref rl),f' (.ref dk),x,LJ,LJ,LJ]/\aZ H2 H',?_,?_⟩
   . refine⟨(by show 6 <= LP;decide),λp np=>⟨p,rfl,⟨_,SqL.of a8⟩,?_⟩⟩;have g1:=af (o:=.lst [V.str "ask 5",V.str "story",V.str "errs",V.str "waits 0",V.str "bell 0",V.str "collect"]) np;have vp:=a8 (H:=H2) (a:=p) (o:=.lst [V.str "ask 5",V.str "story",V.str "errs",V.str "waits 0",V.str "bell 0",V.str "collect"]);generalize upd H2 p (.lst [V.str "ask 5",V.str "story",V.str "errs",V.str "waits 0",V.str "bell 0",V.str "collect"])=H3 at g1 vp |-;refine ma (K:=K) (a:=p) (xs:=((["ask 5","story","errs","waits 0","bell 0","collect"]:List Str)).map V.str) (λi σ H'=>(∃ x,σ=[f' (.ref l),f' (.ref rl),f' (.ref dk),x,LJ,LJ,LJ])/\aZ H3 H') ⟨⟨_,rfl⟩,aZ.refl _⟩ (λ_ _ _ _ y=>SqL.of (y.2 _ _ vp)) ?_ ?_
     . rintro i y σ H4 hi ⟨⟨x,rfl⟩,e4⟩;have hd4:=e4 _ _ (g1 _ _ d2);rw[Jt,map_map]at hi;obtain⟨ws,hws,rfl⟩:=NK.mp (MF hi);refine⟨_,rfl,_,rfl,dk,dx,.non,_,rfl,hd4,Kx (List.mem_of_mem_take hws),λH5 e5=>⟨_,rfl,cW ?_⟩⟩;exact⟨⟨_,rfl⟩,e4.trans e5⟩
     . rintro σ H4 ⟨⟨x,rfl⟩,e4⟩;exact⟨x,rfl,g1.trans e4⟩
   rintro σ H3 ⟨x3,rfl,E3⟩;refine⟨λσ H'=>∃ x y,σ=[f' (.ref l),f' (.ref rl),f' (.ref dk),x,y,LJ,LJ]/\aZ H2 H',?_,?_⟩
   . have r3:=E3 _ _ r2;have d3:=E3 _ _ d2;refine⟨_,rfl,_,rfl,rl,_,rfl,SqL.of r3,λp np=>EI λp2 l1 t1 d1 H5 e5 np2 v5 hl1 ht1 hd1=>?_⟩;have g1:=af (o:=.lst (gM (RT.map V.str) LJ (f' 2))) np;have vp:=e5 _ _ (a8 (H:=H3) (a:=p) (o:=.lst (gM (RT.map V.str) LJ (f' 2))));have c1:gM (RT.map V.str) LJ (f' 2)=(RT.take 2).map V.str:=by rw[show (f' (2:Int))=f' ((2:Nat):Int) from rfl,pi,map_take]
     rw[c1]at vp;refine⟨p,p2,_,_,rfl,rfl,vp,v5,(by show 8 <= LP;decide),λp3 np3=>⟨p3,rfl,⟨_,SqL.of a8⟩,?_⟩⟩;have g2:=af (o:=.lst ((RT.take 2).map V.str++[.non,.bl l',.int 5,.ref l1,.ref t1,.ref d1])) np3;have v6:=a8 (H:=H5) (a:=p3) (o:=.lst ((RT.take 2).map V.str++[.non,.bl l',.int 5,.ref l1,.ref t1,.ref d1]));generalize upd H5 p3 (.lst ((RT.take 2).map V.str++[.non,.bl l',.int 5,.ref l1,.ref t1,.ref d1]))=H6 at g2 v6 |-;have E6:aZ H3 H6:=g1.trans (e5.trans g2);refine ma (K:=K) (a:=p3) (xs:=(RT.take 2).map V.str++[.non,.bl l',.int 5,.ref l1,.ref t1,.ref d1]) (λi σ H'=>(∃ x,σ=[f' (.ref l),f' (.ref rl),f' (.ref dk),x3,x,LJ,LJ])/\aZ H6 H') ⟨⟨_,rfl⟩,aZ.refl _⟩ (λ_ _ _ _ y=>SqL.of (y.2 _ _ v6)) ?_ ?_
     . rintro i y σ H7 hi ⟨⟨x,rfl⟩,e7⟩;have hd7:=e7 _ _ (E6 _ _ d3);have bad:EV K H7 .non y:=by
        rcases Np.mp (MF hi) with z|z
        . rw[JR,map_map]at z;obtain⟨ws,hws,rfl⟩:=NK.mp z;exact Kx (List.mem_of_mem_drop hws)
        . exact KB (e7 _ _ (g2 _ _ hl1)) (e7 _ _ (g2 _ _ ht1)) (e7 _ _ (g2 _ _ hd1)) z
       refine⟨_,rfl,_,rfl,dk,dx,.non,_,rfl,hd7,bad,λH8 e8=>⟨_,rfl,cW ?_⟩⟩;exact⟨⟨_,rfl⟩,e7.trans e8⟩
     . rintro σ H7 ⟨⟨x,rfl⟩,e7⟩;exact⟨x3,x,rfl,E3.trans (E6.trans e7)⟩
   rintro σ H4 ⟨x4,y4,rfl,E4⟩;refine⟨λσ H'=>∃ x y A,σ=[f' (.ref l),f' (.ref rl),f' (.ref dk),x,y,LJ,LJ]/\H' dk=f' (.ins a.jH dx [("yard",.ref A.y)])/\Rdy w a H' A q38 S38 8/\(∀ c,A.own c->H2 c=LJ)/\(∀ c o,c≠dk->H2 c=f' o->H' c=f' o),?_,?_⟩
   . refine⟨(by show 5 <= LP;decide),λp np=>⟨p,rfl,⟨_,SqL.of a8⟩,?_⟩⟩;have g1:=af (o:=.lst [V.str "ring 2 2 3",V.str "ask 5",V.str "bell 0",V.str "take",V.str "ask -7"]) np;have vp:=a8 (H:=H4) (a:=p) (o:=.lst [V.str "ring 2 2 3",V.str "ask 5",V.str "bell 0",V.str "take",V.str "ask -7"]);generalize upd H4 p (.lst [V.str "ring 2 2 3",V.str "ask 5",V.str "bell 0",V.str "take",V.str "ask -7"])=H5 at g1 vp |-;have E5:=E4.trans g1;have ndp:dk≠p:=ae (E4 _ _ d2) np;refine ma (K:=K) (a:=p) (xs:=(MP " " (lL 2 2 3 []) :: dds.map λx=>MP " " x.ws).map V.str) (λi σ H'=>(∃ x,σ=[f' (.ref l),f' (.ref rl),f' (.ref dk),x,y4,LJ,LJ])/\H' p=f' (.lst ((MP " " (lL 2 2 3 []) :: dds.map λx=>MP " " x.ws).map V.str)) /\
      ((i=0/\aZ H5 H')\/∃ j A,i=j+1/\H' dk=f' (.ins a.jH dx [("yard",.ref A.y)])/\Rdy w a H' A q38 (xG (dds.take j)) (2 * j)/\(∀ c,A.own c->H5 c=LJ)/\(∀ c o,c≠dk->H5 c=f' o->H' c=f' o))) ⟨⟨_,rfl⟩,?_,.inl ⟨rfl,aZ.refl _⟩⟩ (λ_ _ _ _ y=>SqL.of y.2.1) ?_ ?_
     . rw[vp,Kj]
     . rintro i y σ H6 hi ⟨⟨x,rfl⟩,vp6,h6⟩;rcases h6 with⟨rfl,e6⟩|⟨j,A,rfl,d6,R6,fo6,k6⟩
       . cases hi;have d6:=e6 _ _ (E5 _ _ d2);refine⟨_,rfl,fc ⟨_,d6⟩ rfl ⟨_,rfl,.inl ⟨dk,dx,.non,2,2,3,[],rfl,d6,by decide,by decide,by decide,FH,λA H7 Y7 hd7 fo7 k7=>?_⟩⟩⟩;exact⟨⟨_,rfl⟩,k7 _ _ ndp.symm vp6,.inr ⟨0,A,rfl,hd7,⟨Y7,xV,YI.zero _,by decide⟩,λc hc=>uO e6 (fo7 c hc),λc o n e=>k7 c o n (e6 c o e)⟩⟩
       . have hj:dds[j]?=f' (dds[j]?.getD .take)/\y=.str (MP " " (dds[j]?.getD .take).ws):=by
          rw[Mp,List.getElem?_cons_succ,Mp]at hi;cases hx:dds[j]? with
         |none=>rw[hx]at hi;cases hi
         |some x=>rw[hx]at hi;cases hi;exact⟨rfl,rfl⟩
         obtain⟨hj,rfl⟩:=hj;generalize dds[j]?.getD .take=xx at hj |-;obtain⟨xo,nb,hc,⟨t,ht⟩,hs⟩:=HR j xx hj;refine⟨_,rfl,fc ⟨_,d6⟩ rfl ⟨_,rfl,.inr (.inl ⟨dk,dx,A,q38,_,_,xx,rfl,d6,R6,xo,nb,?_⟩)⟩⟩;rw[hc];refine⟨t,ht,λH7 Y7 i7 ko=>⟨⟨_,rfl⟩,?_,.inr ⟨j+1,A,rfl,?_,⟨by rw[hs];exact Y7,xV,by rw[hs];exact i7,?_⟩,fo6,λc o n e=>ko c o (λz=>by rw[fo6 c z]at e;cases e) (k6 c o n e)⟩⟩⟩
         . exact ko _ _ (λz=>by rw[fo6 _ z]at vp;cases vp) vp6
         . exact ko _ _ (λz=>by have:=E5 _ _ d2;rw[fo6 _ z]at this;cases this) d6
         . have:=(Mh.mp hj).1;have:dds.length=4:=rfl;omega
     . rintro σ H6 ⟨⟨x,rfl⟩,_,h6⟩;rcases h6 with⟨z,_⟩|⟨j,A,hj,d6,R6,fo6,k6⟩
       . cases z
       . have:j=4:=Nat.succ.inj (hj.symm.trans rfl);subst this;exact⟨x,y4,A,rfl,d6,R6,λc hc=>uO E5 (fo6 c hc),λc o n e=>k6 c o n (E5 c o e)⟩
   rintro σ H5 ⟨x5,y5,A,rfl,d5,R5,fo5,k5⟩;refine⟨λσ H'=>∃ x y z,σ=[f' (.ref l),f' (.ref rl),f' (.ref dk),x,y,z,LJ]/\aZ H5 H',?_,?_⟩
   . unfold KI ID;refine EI λp l1 t1 d1 H6 e6 np v6 hl1 ht1 hd1=>⟨p,rfl,⟨_,SqL.of v6⟩,?_⟩
     refine ma (K:=K) (a:=p) (xs:=[.non,.bl l',.int 5,.ref l1,.ref t1,.ref d1]) (λi σ H'=>(∃ x z,σ=[f' (.ref l),f' (.ref rl),f' (.ref dk),x5,x,z,LJ])/\aZ H6 H') ⟨⟨_,_,rfl⟩,aZ.refl _⟩ (λ_ _ _ _ y=>SqL.of (y.2 _ _ v6)) ?_ ?_
     . rintro i y σ H7 hi ⟨⟨x,z,rfl⟩,e7⟩;have d7:=e7 _ _ (e6 _ _ d5);have bad:∀ H8,aZ H7 H8->EV K H8 (.ref A.y) y:=λH8 e8=>KB (e8 _ _ (e7 _ _ hl1)) (e8 _ _ (e7 _ _ ht1)) (e8 _ _ (e7 _ _ hd1)) (MF hi)
       refine⟨_,rfl,dk,dx,A,q38,S38,h38,rfl,d7,R5.y.same (e6.trans e7),xV,JX,by decide,JM,λD H8 nD e8 v8=>?_⟩;refine⟨λb H9=>b=K'/\aZ H8 H9,JK rfl rfl (e8 _ _ d7) (R5.y.same (e6.trans (e7.trans e8))) v8 (bad H8 e8) (λQ h=>⟨_,rfl,h⟩) λH9 e9=>⟨rfl,e9⟩,?_⟩;rintro b H9 ⟨rfl,e9⟩;exact cW ⟨⟨_,_,rfl⟩,e7.trans (e8.trans e9)⟩
     . rintro σ H7 ⟨⟨x,z,rfl⟩,e7⟩;exact⟨x5,x,z,rfl,e6.trans e7⟩
   rintro σ H6 ⟨x6,y6,z6,rfl,E6⟩;refine⟨λσ H'=>∃ x y z u,σ=[f' (.ref l),f' (.ref rl),f' (.ref dk),x,y,z,u]/\aZ H5 H',?_,?_⟩
   . have d6:=E6 _ _ d5;have nrd:rl≠dk:=λz=>by rw[z,d2]at r2;cases r2
     have r6:=E6 _ _ (k5 _ _ nrd r2);have S6:SqL K H6 l (ns.map V.int):=by
      have hh:aZ H H5:=λc o e=>k5 c o (λz=>by rw[z]at e;rw[E1 _ _ e]at ndk;cases ndk) (E2 c o e)
      exact(hh.trans E6).seq hS
     refine⟨_,rfl,_,rfl,_,rfl,l,_,rfl,S6,λp np=>⟨(by show 1 <= LP;decide),λp2 np2=>?_⟩⟩;have g1:=af (o:=.lst (gM (ns.map V.int) (f' 1) (f' 63))) np;have g2:=af (o:=.lst [V.int 0]) np2;have vp:=g2 _ _ (a8 (H:=H6) (a:=p) (o:=.lst (gM (ns.map V.int) (f' 1) (f' 63))));refine⟨p,p2,_,_,rfl,rfl,vp,a8,?_,λp3 np3=>⟨p3,rfl,⟨_,SqL.of a8⟩,?_⟩⟩
     . have:(gM (ns.map V.int) (f' 1) (f' 63)).length <= 63:=by
        rw[show (f' (1:Int))=f' ((1:Nat):Int) from rfl,show (f' (63:Int))=f' ((63:Nat):Int) from rfl,oB,NN];omega
       exact MG (show _ <= 64 from Nat.succ_le_succ this) (by decide)
     have g3:=af (o:=.lst (gM (ns.map V.int) (f' 1) (f' 63)++[V.int 0])) np3;have E8:aZ H6 _:=g1.trans (g2.trans g3);have v8:=a8 (H:=upd (upd H6 p (.lst (gM (ns.map V.int) (f' 1) (f' 63)))) p2 (.lst [V.int 0])) (a:=p3) (o:=.lst (gM (ns.map V.int) (f' 1) (f' 63)++[V.int 0]));generalize upd (upd (upd H6 p (.lst (gM (ns.map V.int) (f' 1) (f' 63)))) p2 (.lst [V.int 0])) p3 (.lst (gM (ns.map V.int) (f' 1) (f' 63)++[V.int 0]))=H8 at E8 v8 g3 |-;refine ma (K:=K) (a:=p3) (xs:=gM (ns.map V.int) (f' 1) (f' 63)++[V.int 0]) (λi σ H'=>(∃ z u,σ=[f' (.ref l),f' (.ref rl),f' (.ref dk),x6,y6,z,u])/\aZ H8 H') ⟨⟨_,_,rfl⟩,aZ.refl _⟩ (λ_ _ _ _ y=>SqL.of (y.2 _ _ v8)) ?_ ?_
     . rintro i y σ H9 hi ⟨⟨z,u,rfl⟩,e9⟩;have hc:∃ c:Int,y=.int c:=by
        rcases Np.mp (MF hi) with z|z
        . rw[show (f' (1:Int))=f' ((1:Nat):Int) from rfl,show (f' (63:Int))=f' ((63:Nat):Int) from rfl,oB]at z;obtain⟨c,_,rfl⟩:=NK.mp (List.mem_of_mem_drop (List.mem_of_mem_take z));exact⟨c,rfl⟩
        . exact⟨0,LM.mp z⟩
       obtain⟨c,rfl⟩:=hc;have E9:=E8.trans e9;have d9:=E9 _ _ d6;have Y9:=R5.y.same (E6.trans E9);have r9:=E9 _ _ r6;refine⟨_,rfl,dk,dx,A,q38,S38,h38,rfl,d9,Y9,xV,JX,by decide,JM,λD H10 nD e10 v10=>?_⟩;obtain⟨w1,hw1,at1⟩:=HJ c;obtain⟨w2,hw2,at2⟩:=HJ (c / 50);refine⟨λb H11=>b=K'/\aZ H10 H11,JK rfl rfl (e10 _ _ d9) (Y9.same e10) v10 (KJ hw1) (λQ h=>⟨_,rfl,_,rfl,_,rfl,rl,_,rfl,.inl (SqL.of (e10 _ _ r9)),c,53,rfl,rfl,(by show (0:Int) < 53;decide),rl,_,_,_,rfl,rfl,SqL.of (e10 _ _ r9),at1,h⟩) λH11 e11=>⟨rfl,e11⟩,?_⟩;rintro b H11 ⟨rfl,e11⟩;refine cW ?_;have e10':=e10.trans e11;refine⟨λb H12=>b=K'/\aZ H11 H12,JK rfl rfl (e10' _ _ d9) (Y9.same e10') (e11 _ _ v10) (KJ hw2) (λQ h=>⟨_,rfl,_,rfl,c,50,rfl,rfl,⟨by decide,by decide⟩,_,rfl,rl,_,rfl,.inl (SqL.of (e10' _ _ r9)),c / 50,53,rfl,rfl,(by show (0:Int) < 53;decide),rl,_,_,_,rfl,rfl,SqL.of (e10' _ _ r9),at2,h⟩) λH12 e12=>⟨rfl,e12⟩,?_⟩;rintro b H12 ⟨rfl,e12⟩;exact cW ⟨⟨_,_,rfl⟩,e9.trans (e10'.trans e12)⟩
     . rintro σ H9 ⟨⟨z,u,rfl⟩,e9⟩;exact⟨x6,y6,z,u,rfl,E6.trans (E8.trans e9)⟩
   rintro σ H7 ⟨x7,y7,z7,u7,rfl,E7⟩;have R7:=R5.y.same E7;refine⟨_,rfl,fc ⟨_,E7 _ _ d5⟩ rfl (.inr (.inl ⟨dk,dx,A,q38,S38,8,.drain K',JU,E7 _ _ d5,⟨R7,xV,R5.i,by decide⟩,trivial,trivial,?_⟩))⟩;rw[show (Dd.drain K').chk q38 S38=LJ from rfl];refine⟨"ok",.drn _ _,λH8 Y8 i8 ko=>?_⟩;have d8:=ko _ _ (λz=>by rw[fo5 _ z]at d2;cases d2) (E7 _ _ d5);refine⟨rfl,_,rfl,i9 (SI rfl) ?_⟩;refine⟨_,rfl,dk,dx,A,q38,S39,h38,rfl,d8,Y8,xV,LB,by decide,Ls,λD H9 nD e9 v9=>?_⟩;refine⟨(by show 4 <= LP;decide),λp np=>?_⟩;have g1:=af (o:=.lst [V.str "3",V.str "1",V.str "1",V.str "no"]) np;have hl:=kQ (fs:=["3","1","1","no"]) (by decide +kernel);rw[KZ]at v9;refine⟨.list ((["3","1","1","no"]:List Str).map Mo),.list ((["3","1","1","no"]:List Str).map Mo),⟨D,_,rfl,g1 _ _ v9,bu _⟩,⟨p,_,rfl,a8,bu _⟩,hl,hl,?_⟩;rw[SG (by decide),wL hl];exact k _
def FnA (K:LN) (f:D') (x q:Str) (st:MJ):Prop:=∃ fd,Fun K x q st f fd
def NsA (K:LN) (f:D') (x:Str) (st:MJ):Prop:=nsIn K Mt x=f' (f' (.ref f))/\FnA K f x x st
def MtA (K:LN) (C f:D') (x q:Str) (st:MJ):Prop:=M5 K (.ref C) x=f' (f' (.ref f))/\isFn K (.ref f)=l'/\FnA K f x q st
def ClA (K:LN) (C:D') (x:Str):Prop:=nsIn K Mt x=f' (f' (.ref C))/\Cls K C/\makesIn K C=l'/\keepIn K (.ref C)=l'
def F8 (K:LN) (C:D'):List Str->Prop
|[]=>True
|f :: r=>aP K C f/\F8 K C r
def Kw (K:LN):List Str->Prop
|[]=>True
|f :: r=>nsIn K Mt f=f' LJ/\Kw K r
section
variable {K:LN}{h:Mi}{mg:Str->Option G'}{f C:D'}{x q:Str}{st:MJ}
def ci (X:K.In h) (G:h.Ns Mt mg) (l:NsA K f x st):mg x=f' (.ref f)/\∃ fd,Fun K x x st f fd:=⟨mg_of X G l.1,l.2⟩
def aM (l:MtA K C f x q st):Meth K C x f/\∃ fd,Fun K x q st f fd:=by
 obtain⟨a,i,fd,F⟩:=l;exact⟨⟨a,i,F.kp⟩,fd,F⟩
def pL (X:K.In h) (G:h.Ns Mt mg) (l:ClA K C x) (m:MtA K C f "__init__" q st):mg x=f' (.ref C)/\Cls K C/\Mk K C f:=⟨mg_of X G l.1,l.2.1,l.2.2.1,m.1,m.2.1,l.2.2.2⟩
end
def bnc {n:Nat}{us:List G'}(h:us.length=n+1):∃ u vs,us=u :: vs/\vs.length=n:=by
 cases us
 . cases h
 . exact⟨_,_,rfl,Nat.succ.inj h⟩
def bn0 {K:LN}{f:D'}{x q:Str}{st:MJ}{fd:LX}(F:Fun K x q st f fd) (h:∀ (kV doc pm:G') (an:Option D') (cdv ct:G'),bindArgs (fnOf x q (fY st) (dZ st) (ai st) .none kV doc pm an cdv ct) ⟨[],[]⟩=pure ([].zip [])):az K fd [] []:=F.binds λa b c d e g us hl=>by (obtain rfl:=MW.mp hl;exact h a b c d e g )
def bn1 {K:LN}{f:D'}{x q:Str}{st:MJ}{fd:LX}(F:Fun K x q st f fd) (p0:Str) (h:∀ (kV doc pm:G') (an:Option D') (cdv ct:G') (u0:G'),bindArgs (fnOf x q (fY st) (dZ st) (ai st) .none kV doc pm an cdv ct) ⟨[u0],[]⟩=pure ([p0].zip [u0])):az K fd [p0] []:=F.binds λa b c d e g us hl=>by (obtain⟨u0,t0,rfl,j0⟩:=bnc hl;obtain rfl:=MW.mp j0;exact h a b c d e g u0)
def bn2 {K:LN}{f:D'}{x q:Str}{st:MJ}{fd:LX}(F:Fun K x q st f fd) (p0 p1:Str) (h:∀ (kV doc pm:G') (an:Option D') (cdv ct:G') (u0 u1:G'),bindArgs (fnOf x q (fY st) (dZ st) (ai st) .none kV doc pm an cdv ct) ⟨[u0,u1],[]⟩=pure ([p0,p1].zip [u0,u1])):az K fd [p0,p1] []:=F.binds λa b c d e g us hl=>by (obtain⟨u0,t0,rfl,j0⟩:=bnc hl;obtain⟨u1,t1,rfl,j1⟩:=bnc j0;obtain rfl:=MW.mp j1;exact h a b c d e g u0 u1)
def bn3 {K:LN}{f:D'}{x q:Str}{st:MJ}{fd:LX}(F:Fun K x q st f fd) (p0 p1 p2:Str) (h:∀ (kV doc pm:G') (an:Option D') (cdv ct:G') (u0 u1 u2:G'),bindArgs (fnOf x q (fY st) (dZ st) (ai st) .none kV doc pm an cdv ct) ⟨[u0,u1,u2],[]⟩=pure ([p0,p1,p2].zip [u0,u1,u2])):az K fd [p0,p1,p2] []:=F.binds λa b c d e g us hl=>by (obtain⟨u0,t0,rfl,j0⟩:=bnc hl;obtain⟨u1,t1,rfl,j1⟩:=bnc j0;obtain⟨u2,t2,rfl,j2⟩:=bnc j1;obtain rfl:=MW.mp j2;exact h a b c d e g u0 u1 u2)
def bn4 {K:LN}{f:D'}{x q:Str}{st:MJ}{fd:LX}(F:Fun K x q st f fd) (p0 p1 p2 p3:Str) (h:∀ (kV doc pm:G') (an:Option D') (cdv ct:G') (u0 u1 u2 u3:G'),bindArgs (fnOf x q (fY st) (dZ st) (ai st) .none kV doc pm an cdv ct) ⟨[u0,u1,u2,u3],[]⟩=pure ([p0,p1,p2,p3].zip [u0,u1,u2,u3])):az K fd [p0,p1,p2,p3] []:=F.binds λa b c d e g us hl=>by (obtain⟨u0,t0,rfl,j0⟩:=bnc hl;obtain⟨u1,t1,rfl,j1⟩:=bnc j0;obtain⟨u2,t2,rfl,j2⟩:=bnc j1;obtain⟨u3,t3,rfl,j3⟩:=bnc j2;obtain rfl:=MW.mp j3;exact h a b c d e g u0 u1 u2 u3)
def bn5 {K:LN}{f:D'}{x q:Str}{st:MJ}{fd:LX}(F:Fun K x q st f fd) (p0 p1 p2 p3 p4:Str) (h:∀ (kV doc pm:G') (an:Option D') (cdv ct:G') (u0 u1 u2 u3 u4:G'),bindArgs (fnOf x q (fY st) (dZ st) (ai st) .none kV doc pm an cdv ct) ⟨[u0,u1,u2,u3,u4],[]⟩=pure ([p0,p1,p2,p3,p4].zip [u0,u1,u2,u3,u4])):az K fd [p0,p1,p2,p3,p4] []:=F.binds λa b c d e g us hl=>by (obtain⟨u0,t0,rfl,j0⟩:=bnc hl;obtain⟨u1,t1,rfl,j1⟩:=bnc j0;obtain⟨u2,t2,rfl,j2⟩:=bnc j1;obtain⟨u3,t3,rfl,j3⟩:=bnc j2;obtain⟨u4,t4,rfl,j4⟩:=bnc j3;obtain rfl:=MW.mp j4;exact h a b c d e g u0 u1 u2 u3 u4)
def bn6 {K:LN}{f:D'}{x q:Str}{st:MJ}{fd:LX}(F:Fun K x q st f fd) (p0 p1 p2 p3 p4 p5:Str) (h:∀ (kV doc pm:G') (an:Option D') (cdv ct:G') (u0 u1 u2 u3 u4 u5:G'),bindArgs (fnOf x q (fY st) (dZ st) (ai st) .none kV doc pm an cdv ct) ⟨[u0,u1,u2,u3,u4,u5],[]⟩=pure ([p0,p1,p2,p3,p4,p5].zip [u0,u1,u2,u3,u4,u5])):az K fd [p0,p1,p2,p3,p4,p5] []:=F.binds λa b c d e g us hl=>by (obtain⟨u0,t0,rfl,j0⟩:=bnc hl;obtain⟨u1,t1,rfl,j1⟩:=bnc j0;obtain⟨u2,t2,rfl,j2⟩:=bnc j1;obtain⟨u3,t3,rfl,j3⟩:=bnc j2;obtain⟨u4,t4,rfl,j4⟩:=bnc j3;obtain⟨u5,t5,rfl,j5⟩:=bnc j4;obtain rfl:=MW.mp j5;exact h a b c d e g u0 u1 u2 u3 u4 u5)
def bn7 {K:LN}{f:D'}{x q:Str}{st:MJ}{fd:LX}(F:Fun K x q st f fd) (p0 p1 p2 p3 p4 p5 p6:Str) (h:∀ (kV doc pm:G') (an:Option D') (cdv ct:G') (u0 u1 u2 u3 u4 u5 u6:G'),bindArgs (fnOf x q (fY st) (dZ st) (ai st) .none kV doc pm an cdv ct) ⟨[u0,u1,u2,u3,u4,u5,u6],[]⟩=pure ([p0,p1,p2,p3,p4,p5,p6].zip [u0,u1,u2,u3,u4,u5,u6])):az K fd [p0,p1,p2,p3,p4,p5,p6] []:=F.binds λa b c d e g us hl=>by (obtain⟨u0,t0,rfl,j0⟩:=bnc hl;obtain⟨u1,t1,rfl,j1⟩:=bnc j0;obtain⟨u2,t2,rfl,j2⟩:=bnc j1;obtain⟨u3,t3,rfl,j3⟩:=bnc j2;obtain⟨u4,t4,rfl,j4⟩:=bnc j3;obtain⟨u5,t5,rfl,j5⟩:=bnc j4;obtain⟨u6,t6,rfl,j6⟩:=bnc j5;obtain rfl:=MW.mp j6;exact h a b c d e g u0 u1 u2 u3 u4 u5 u6)
def all_mk {l:PySem.W.OpenLaw}{w:LZ}{K:LN}{h:Mi}{mg:Str->Option G'}{fa:D'}(X:K.In h) (G:h.Ns Mt mg) (hfa:mg "law"=f' (.ref fa))
 {f_z0 f_z1 f_z2 f_z3 f_z4 f_z5 f_z6 f_z7 f_z8 f_z9 f_z10 f_z11 f_z12 f_z13 f_z14 f_z15 f_z16 f_z17 f_z18 f_z19 f_z20 f_z21 f_z22 f_z23 f_z24 f_z25 f_z26 f_z27 f_z28 f_z29 f_z30 f_z31 f_z32 f_z33 f_z34 f_z35 f_z36 f_z37 f_z38 f_z39 f_z40 f_z41 f_z42 f_z43 f_z44 f_z45 f_z46 f_z47 f_z48 f_z49 f_z50 f_z51 f_z52 f_z53 f_z54 f_z55 f_z56 f_z57 f_z58 f_z59 f_z60 f_z61 f_z62 f_z63 f_z64 f_z65 f_z66 f_z67 f_z68 f_z69 f_z70 f_z71 f_z72 C_Ring C_Judge C_Hand C_Heart C_Store C_Yard C_Desk C_RingError C_Full C_NoName C_NoTask C_NoDeed C_NoRow gP bG aI de lE iC fI fF fO fN fQ fK fB fL cm cp ck cr cn:D'}
 {tod_ASKS:Option D'} {tsl_ASKS:Array (Option G')} {tn_ASKS:Nat} {tt0_ASKS tt1_ASKS tt2_ASKS:Tok}
 {tod_ANSWERS:Option D'} {tsl_ANSWERS:Array (Option G')} {tn_ANSWERS:Nat} {tt0_ANSWERS tt1_ANSWERS tt2_ANSWERS:Tok}
 {tod_SLEEP_CELLS:Option D'} {tsl_SLEEP_CELLS:Array (Option G')} {tn_SLEEP_CELLS:Nat} {tt0_SLEEP_CELLS tt1_SLEEP_CELLS:Tok}
 {tod_FAULTS:Option D'} {tsl_FAULTS:Array (Option G')} {tn_FAULTS:Nat} {tt0_FAULTS tt1_FAULTS tt2_FAULTS tt3_FAULTS tt4_FAULTS:Tok}
 {ti_MOST_WORTH:Tok}
 {ti_MOST_FIGURES:Tok}
 {ti_FIGURES:Tok}
 {tep_FORMS:Nat} {th0_FORMS th1_FORMS th2_FORMS th3_FORMS th4_FORMS th5_FORMS th6_FORMS th7_FORMS:Int} {tk0_FORMS tk1_FORMS tk2_FORMS tk3_FORMS tk4_FORMS tk5_FORMS tk6_FORMS tk7_FORMS:Tok}
 {vod0_FORMS:Option D'} {vsl0_FORMS:Array (Option G')} {vn0_FORMS:Nat} {vt0_0_FORMS:Tok}
 {vod1_FORMS:Option D'} {vsl1_FORMS:Array (Option G')} {vn1_FORMS:Nat}
 {vod2_FORMS:Option D'} {vsl2_FORMS:Array (Option G')} {vn2_FORMS:Nat}
 {vod3_FORMS:Option D'} {vsl3_FORMS:Array (Option G')} {vn3_FORMS:Nat} {vt3_0_FORMS vt3_1_FORMS:Tok}
 {vod4_FORMS:Option D'} {vsl4_FORMS:Array (Option G')} {vn4_FORMS:Nat} {vt4_0_FORMS:Tok}
 {vod5_FORMS:Option D'} {vsl5_FORMS:Array (Option G')} {vn5_FORMS:Nat} {vt5_0_FORMS:Tok}
 {vod6_FORMS:Option D'} {vsl6_FORMS:Array (Option G')} {vn6_FORMS:Nat} {vt6_0_FORMS:Tok}
 {vod7_FORMS:Option D'} {vsl7_FORMS:Array (Option G')} {vn7_FORMS:Nat} {vt7_0_FORMS:Tok}
 {tep_BOUNDS:Nat} {th0_BOUNDS th1_BOUNDS th2_BOUNDS th3_BOUNDS th4_BOUNDS:Int} {tk0_BOUNDS tk1_BOUNDS tk2_BOUNDS tk3_BOUNDS tk4_BOUNDS:Tok}
 {vod0_BOUNDS:Option D'} {vsl0_BOUNDS:Array (Option G')} {vn0_BOUNDS:Nat} {vt0_0_BOUNDS vt0_1_BOUNDS:Tok}
 {vod1_BOUNDS:Option D'} {vsl1_BOUNDS:Array (Option G')} {vn1_BOUNDS:Nat} {vt1_0_BOUNDS vt1_1_BOUNDS:Tok}
 {vod2_BOUNDS:Option D'} {vsl2_BOUNDS:Array (Option G')} {vn2_BOUNDS:Nat} {vt2_0_BOUNDS vt2_1_BOUNDS:Tok}
 {vod3_BOUNDS:Option D'} {vsl3_BOUNDS:Array (Option G')} {vn3_BOUNDS:Nat} {vt3_0_BOUNDS vt3_1_BOUNDS:Tok}
 {vod4_BOUNDS:Option D'} {vsl4_BOUNDS:Array (Option G')} {vn4_BOUNDS:Nat} {vt4_0_BOUNDS vt4_1_BOUNDS:Tok}
 (aC_Ring:ClA K C_Ring "Ring")
 (aC_Judge:ClA K C_Judge "Judge")
 (aC_Hand:ClA K C_Hand "Hand")
 (aC_Heart:ClA K C_Heart "Heart")
 (aC_Store:ClA K C_Store "Store")
 (aC_Yard:ClA K C_Yard "Yard")
 (aC_Desk:ClA K C_Desk "Desk")
 (l_z0:NsA K f_z0 "next_counter" hV)
 (l_z1:NsA K f_z1 "place_of" nz)
 (l_z2:NsA K f_z2 "ahead_by" nv)
 (l_z3:NsA K f_z3 "rounds_with" jk)
 (l_z4:MtA K C_Ring f_z4 "__init__" "Ring.__init__" kH)
 (l_z5:MtA K C_Ring f_z5 "filled" "Ring.filled" iJ)
 (l_z6:MtA K C_Ring f_z6 "is_full" "Ring.is_full" hW)
 (l_z7:MtA K C_Ring f_z7 "place_at" "Ring.place_at" gz)
 (l_z8:MtA K C_Ring f_z8 "write_further" "Ring.write_further" cV)
 (l_z9:MtA K C_Ring f_z9 "lay" "Ring.lay" no)
 (l_z10:MtA K C_Ring f_z10 "fetch" "Ring.fetch" kI)
 (l_z11:MtA K C_Judge f_z11 "__init__" "Judge.__init__" ju)
 (l_z12:MtA K C_Judge f_z12 "fits" "Judge.fits" kj)
 (l_z13:MtA K C_Judge f_z13 "go_on" "Judge.go_on" jp)
 (l_z14:NsA K f_z14 "first_wrong" iS)
 (l_z15:NsA K f_z15 "not_fetched" iX)
 (l_z16:MtA K C_Hand f_z16 "__init__" "Hand.__init__" jQ)
 (l_z17:MtA K C_Hand f_z17 "least_free" "Hand.least_free" fh)
 (l_z18:MtA K C_Hand f_z18 "check_ask" "Hand.check_ask" fW)
 (l_z19:MtA K C_Hand f_z19 "ask" "Hand.ask" mV)
 (l_z20:MtA K C_Hand f_z20 "collect" "Hand.collect" i0)
 (l_z21:MtA K C_Hand f_z21 "something_waits" "Hand.something_waits" cu)
 (l_z22:MtA K C_Heart f_z22 "__init__" "Heart.__init__" iO)
 (l_z23:MtA K C_Heart f_z23 "take" "Heart.take" jI)
 (l_z24:MtA K C_Heart f_z24 "check_answer" "Heart.check_answer" cT)
 (l_z25:MtA K C_Heart f_z25 "answer" "Heart.answer" hU)
 (l_z26:MtA K C_Heart f_z26 "something_waits" "Heart.something_waits" c8)
 (l_z27:MtA K C_Store f_z27 "__init__" "Store.__init__" iU)
 (l_z28:MtA K C_Store f_z28 "write" "Store.write" iE)
 (l_z29:MtA K C_Store f_z29 "drain" "Store.drain" iB)
 (l_z30:MtA K C_Store f_z30 "fence" "Store.fence" jf)
 (l_z31:MtA K C_Store f_z31 "read" "Store.read" kO)
 (l_z32:MtA K C_Store f_z32 "memory" "Store.memory" ib)
 (l_z33:MtA K C_Store f_z33 "waits" "Store.waits" jr)
 (l_z34:NsA K f_z34 "is_whole" nA)
 (l_z35:NsA K f_z35 "is_part" pF)
 (l_z36:NsA K f_z36 "is_deed" q9)
 (l_z37:NsA K f_z37 "side_of" oR)
 (l_z38:MtA K C_Yard f_z38 "__init__" "Yard.__init__" kz)
 (l_z39:MtA K C_Yard f_z39 "deed" "Yard.deed" lO)
 (l_z40:MtA K C_Yard f_z40 "story" "Yard.story" km)
 (l_z41:MtA K C_Yard f_z41 "sleeper" "Yard.sleeper" i3)
 (l_z42:MtA K C_Yard f_z42 "is_quiet" "Yard.is_quiet" gu)
 (l_z43:MtA K C_Yard f_z43 "made" "Yard.made" lR)
 (l_z44:MtA K C_Yard f_z44 "store" "Yard.store" kL)
 (l_z45:MtA K C_Yard f_z45 "check" "Yard.check" kG)
 (l_z46:MtA K C_Yard f_z46 "do_ask" "Yard.do_ask" iM)
 (l_z47:MtA K C_Yard f_z47 "do_answer" "Yard.do_answer" fU)
 (l_z48:MtA K C_Yard f_z48 "tell_fetched" "Yard.tell_fetched" dq)
 (l_z49:MtA K C_Yard f_z49 "do_bell" "Yard.do_bell" ig)
 (l_z50:MtA K C_Yard f_z50 "do_lie" "Yard.do_lie" iR)
 (l_z51:MtA K C_Yard f_z51 "do_look" "Yard.do_look" i5)
 (l_z52:MtA K C_Yard f_z52 "something_waits" "Yard.something_waits" cs)
 (l_z53:NsA K f_z53 "errs" Af)
 (l_z54:NsA K f_z54 "filled_in_memory" el)
 (l_z55:NsA K f_z55 "miscounts" lG)
 (l_z56:NsA K f_z56 "oversleeps" kK)
 (l_z57:NsA K f_z57 "is_number" lI)
 (l_z58:NsA K f_z58 "number_of" lK)
 (l_z59:NsA K f_z59 "numbers_of" ki)
 (l_z60:NsA K f_z60 "check_faults" ij)
 (l_z61:NsA K f_z61 "yes_or_no" lA)
 (l_z62:NsA K f_z62 "part_text" lD)
 (l_z63:NsA K f_z63 "told_text" lQ)
 (l_z64:MtA K C_Desk f_z64 "__init__" "Desk.__init__" jY)
 (l_z65:MtA K C_Desk f_z65 "say" "Desk.say" mS)
 (l_z66:MtA K C_Desk f_z66 "say_ring" "Desk.say_ring" gr)
 (l_z67:MtA K C_Desk f_z67 "say_deed" "Desk.say_deed" gx)
 (l_z68:MtA K C_Desk f_z68 "say_look" "Desk.say_look" gA)
 (l_z69:NsA K f_z69 "_law_rows" mW)
 (l_z70:NsA K f_z70 "_law_refused" iV)
 (l_z71:NsA K f_z71 "_law_shown" lU)
 (l_z72:NsA K f_z72 "law" Gp)
 (na_Ring:F8 K C_Ring ["shelf","side","word","laid","fetched","size","rounds","counter_first"])
 (na_Judge:F8 K C_Judge ["untaken","unhanded","going","doing"])
 (na_Hand:F8 K C_Hand ["asks","answers","names","going"])
 (na_Heart:F8 K C_Heart ["asks","answers","doing"])
 (na_Store:F8 K C_Store ["held","rows"])
 (na_Yard:F8 K C_Yard ["size","rounds","faults","shelf","hand","heart","bell_fences","lie_fences","look_sees","sleepers","quiet","happened"])
 (na_Desk:F8 K C_Desk ["yard"])
 (nn:Kw K ["ValueError","all","bool","enumerate","int","isinstance","len","list","range","reversed","set","sorted","str","tuple","zip"])
 (aX_RingError:nsIn K Mt "RingError"=f' (f' (.ref C_RingError)))
 (aX_Full:nsIn K Mt "Full"=f' (f' (.ref C_Full)))
 (aX_NoName:nsIn K Mt "NoName"=f' (f' (.ref C_NoName)))
 (aX_NoTask:nsIn K Mt "NoTask"=f' (f' (.ref C_NoTask)))
 (aX_NoDeed:nsIn K Mt "NoDeed"=f' (f' (.ref C_NoDeed)))
 (aX_NoRow:nsIn K Mt "NoRow"=f' (f' (.ref C_NoRow)))
 (aT_ASKS:nsIn K Mt "ASKS"=f' (f' (.ref gP)))
 (kT_ASKS:K.lookup gP=f' ⟨.type "tuple",tod_ASKS,.seq #[.str "ask" tt0_ASKS,.str "asked" tt1_ASKS,.str "taken" tt2_ASKS] tn_ASKS,tsl_ASKS⟩)
 (aT_ANSWERS:nsIn K Mt "ANSWERS"=f' (f' (.ref bG)))
 (kT_ANSWERS:K.lookup bG=f' ⟨.type "tuple",tod_ANSWERS,.seq #[.str "answer" tt0_ANSWERS,.str "answered" tt1_ANSWERS,.str "handed" tt2_ANSWERS] tn_ANSWERS,tsl_ANSWERS⟩)
 (aT_SLEEP_CELLS:nsIn K Mt "SLEEP_CELLS"=f' (f' (.ref aI)))
 (kT_SLEEP_CELLS:K.lookup aI=f' ⟨.type "tuple",tod_SLEEP_CELLS,.seq #[.str "hand sleeps" tt0_SLEEP_CELLS,.str "heart sleeps" tt1_SLEEP_CELLS] tn_SLEEP_CELLS,tsl_SLEEP_CELLS⟩)
 (aT_FAULTS:nsIn K Mt "FAULTS"=f' (f' (.ref de)))
 (kT_FAULTS:K.lookup de=f' ⟨.type "tuple",tod_FAULTS,.seq #[.str "bell" tt0_FAULTS,.str "counter" tt1_FAULTS,.str "lie" tt2_FAULTS,.str "look" tt3_FAULTS,.str "round" tt4_FAULTS] tn_FAULTS,tsl_FAULTS⟩)
 (aI_MOST_WORTH:nsIn K Mt "MOST_WORTH"=f' (f' (.int 1000000000 ti_MOST_WORTH)))
 (aI_MOST_FIGURES:nsIn K Mt "MOST_FIGURES"=f' (f' (.int 12 ti_MOST_FIGURES)))
 (aI_FIGURES:nsIn K Mt "FIGURES"=f' (f' (.str "0123456789" ti_FIGURES)))
 (aT_FORMS:nsIn K Mt "FORMS"=f' (f' (.ref lE)))
 (kT_FORMS:K.lookup lE=f' ⟨.type "dict",LJ,.dict #[⟨th0_FORMS,.str "ask" tk0_FORMS,.ref fI⟩,⟨th1_FORMS,.str "collect" tk1_FORMS,.ref fF⟩,⟨th2_FORMS,.str "take" tk2_FORMS,.ref fO⟩,⟨th3_FORMS,.str "answer" tk3_FORMS,.ref fN⟩,⟨th4_FORMS,.str "bell" tk4_FORMS,.ref fQ⟩,⟨th5_FORMS,.str "lie" tk5_FORMS,.ref fK⟩,⟨th6_FORMS,.str "look" tk6_FORMS,.ref fB⟩,⟨th7_FORMS,.str "drain" tk7_FORMS,.ref fL⟩] tep_FORMS,#[]⟩)
 (kN_FORMS:(lE == Ng)=K')
 (kV0_FORMS:K.lookup fI=f' ⟨.type "tuple",vod0_FORMS,.seq #[.str "worth" vt0_0_FORMS] vn0_FORMS,vsl0_FORMS⟩)
 (kV1_FORMS:K.lookup fF=f' ⟨.type "tuple",vod1_FORMS,.seq #[] vn1_FORMS,vsl1_FORMS⟩)
 (kV2_FORMS:K.lookup fO=f' ⟨.type "tuple",vod2_FORMS,.seq #[] vn2_FORMS,vsl2_FORMS⟩)
 (kV3_FORMS:K.lookup fN=f' ⟨.type "tuple",vod3_FORMS,.seq #[.str "name" vt3_0_FORMS,.str "worth" vt3_1_FORMS] vn3_FORMS,vsl3_FORMS⟩)
 (kV4_FORMS:K.lookup fQ=f' ⟨.type "tuple",vod4_FORMS,.seq #[.str "side" vt4_0_FORMS] vn4_FORMS,vsl4_FORMS⟩)
 (kV5_FORMS:K.lookup fK=f' ⟨.type "tuple",vod5_FORMS,.seq #[.str "side" vt5_0_FORMS] vn5_FORMS,vsl5_FORMS⟩)
 (kV6_FORMS:K.lookup fB=f' ⟨.type "tuple",vod6_FORMS,.seq #[.str "side" vt6_0_FORMS] vn6_FORMS,vsl6_FORMS⟩)
 (kV7_FORMS:K.lookup fL=f' ⟨.type "tuple",vod7_FORMS,.seq #[.str "side" vt7_0_FORMS] vn7_FORMS,vsl7_FORMS⟩)
 (aT_BOUNDS:nsIn K Mt "BOUNDS"=f' (f' (.ref iC)))
 (kT_BOUNDS:K.lookup iC=f' ⟨.type "dict",LJ,.dict #[⟨th0_BOUNDS,.str "size" tk0_BOUNDS,.ref cm⟩,⟨th1_BOUNDS,.str "rounds" tk1_BOUNDS,.ref cp⟩,⟨th2_BOUNDS,.str "names" tk2_BOUNDS,.ref ck⟩,⟨th3_BOUNDS,.str "name" tk3_BOUNDS,.ref cr⟩,⟨th4_BOUNDS,.str "side" tk4_BOUNDS,.ref cn⟩] tep_BOUNDS,#[]⟩)
 (kN_BOUNDS:(iC == Ng)=K')
 (kV0_BOUNDS:K.lookup cm=f' ⟨.type "tuple",vod0_BOUNDS,.seq #[.int 1 vt0_0_BOUNDS,.int 8 vt0_1_BOUNDS] vn0_BOUNDS,vsl0_BOUNDS⟩)
 (kV1_BOUNDS:K.lookup cp=f' ⟨.type "tuple",vod1_BOUNDS,.seq #[.int 2 vt1_0_BOUNDS,.int 4 vt1_1_BOUNDS] vn1_BOUNDS,vsl1_BOUNDS⟩)
 (kV2_BOUNDS:K.lookup ck=f' ⟨.type "tuple",vod2_BOUNDS,.seq #[.int 1 vt2_0_BOUNDS,.int 9 vt2_1_BOUNDS] vn2_BOUNDS,vsl2_BOUNDS⟩)
 (kV3_BOUNDS:K.lookup cr=f' ⟨.type "tuple",vod3_BOUNDS,.seq #[.int 0 vt3_0_BOUNDS,.int 1000000000 vt3_1_BOUNDS] vn3_BOUNDS,vsl3_BOUNDS⟩)
 (kV4_BOUNDS:K.lookup cn=f' ⟨.type "tuple",vod4_BOUNDS,.seq #[.int 0 vt4_0_BOUNDS,.int 1 vt4_1_BOUNDS] vn4_BOUNDS,vsl4_BOUNDS⟩)
 (xc_Full:excIn K C_Full veB "ValueError.__new__"=l')
 (xc_NoName:excIn K C_NoName veB "ValueError.__new__"=l')
 (xc_NoTask:excIn K C_NoTask veB "ValueError.__new__"=l')
 (xc_NoDeed:excIn K C_NoDeed veB "ValueError.__new__"=l')
 (xc_NoRow:excIn K C_NoRow veB "ValueError.__new__"=l')
 (xk_ga_NoRow:M5 K (.ref C_NoRow) "__getattribute__"=f' (f' (.builtin "BaseException.__getattribute__")))
 (xk_gt_NoRow:M5 K (.ref C_NoRow) "__getattr__"=f' LJ)
 (xk_cl_NoRow:M5 K (.ref C_NoRow) "__class__"=f' (f' (.builtin "object.__class__")))
 (xk_ob_NoRow:PySem.W.mroIn K C_NoRow (.type "object")=f' l')
 (xk_be_NoRow:PySem.W.subIn K (.ref C_NoRow) (.type "BaseException")=f' l')
 (xk_is_NoRow:PySem.W.isClsIn K C_NoRow=l')
 (mo_em_f:Oi K (.ref C_Full) (.ref C_RingError)=f' l')
 (mo_em_n:Oi K (.ref C_NoName) (.ref C_RingError)=f' l')
 (mo_em_t:Oi K (.ref C_NoTask) (.ref C_RingError)=f' l')
 (mo_em_d:Oi K (.ref C_NoDeed) (.ref C_RingError)=f' l')
 (mo_em_r:Oi K (.ref C_NoRow) (.ref C_RingError)=f' l')
 (mo_ki_1:Og K (.ref C_NoRow) (.ref C_NoRow)=f' l')
 (mo_ki_2:Og K (.ref C_NoRow) (.type "ValueError")=f' l')
 (mo_ki_3:kitAny K (.ref C_NoRow) [.ref C_Full,.ref C_NoDeed,.ref C_NoName,.ref C_NoTask]=f' K') :
 ∃ fd:LX,(∀ (s:LK) (v:G'),BindsTo s fd ⟨[v],[]⟩ [("script",v)])/\∀ base:Mi,K.In base->base.Ns Mt mg->FnOk l.prog w K mg base CX0 17 fa fd ["script"] (xY K):=by
 have e:=hfa.symm.trans (mg_of X G l_z72.1);cases e;obtain⟨p_Ring,q_Ring,r_Ring⟩:=pL X G aC_Ring l_z4;obtain⟨p_Judge,q_Judge,r_Judge⟩:=pL X G aC_Judge l_z11;obtain⟨p_Hand,q_Hand,r_Hand⟩:=pL X G aC_Hand l_z16;obtain⟨p_Heart,q_Heart,r_Heart⟩:=pL X G aC_Heart l_z22;obtain⟨p_Store,q_Store,r_Store⟩:=pL X G aC_Store l_z27;obtain⟨p_Yard,q_Yard,r_Yard⟩:=pL X G aC_Yard l_z38;obtain⟨p_Desk,q_Desk,r_Desk⟩:=pL X G aC_Desk l_z64;obtain⟨m_z0,d_z0,PL⟩:=ci X G l_z0;have Ol:=bn3 PL "counter" "size" "rounds" λ_ _ _ _ _ _ _ _ _=>rfl
 obtain⟨m_z1,d_z1,PM⟩:=ci X G l_z1;have Om:=bn2 PM "counter" "size" λ_ _ _ _ _ _ _ _=>rfl
 obtain⟨m_z2,d_z2,P4⟩:=ci X G l_z2;have OB:=bn4 P4 "one" "other" "size" "rounds" λ_ _ _ _ _ _ _ _ _ _=>rfl
 obtain⟨m_z3,d_z3,Qe⟩:=ci X G l_z3;have OM:=bn2 Qe "rounds" "faults" λ_ _ _ _ _ _ _ _=>rfl
 obtain⟨m_z4,d_z4,Qp⟩:=aM l_z4;have OX:=bn7 Qp "self" "store" "side" "words" "size" "rounds" "faults" λ_ _ _ _ _ _ _ _ _ _ _ _ _=>rfl
 obtain⟨m_z5,d_z5,QA⟩:=aM l_z5;have O8:=bn1 QA "self" λ_ _ _ _ _ _ _=>rfl
 obtain⟨m_z6,d_z6,QL⟩:=aM l_z6;have Pl:=bn1 QL "self" λ_ _ _ _ _ _ _=>rfl
 obtain⟨m_z7,d_z7,QX⟩:=aM l_z7;have Pz:=bn2 QX "self" "counter" λ_ _ _ _ _ _ _ _=>rfl
 obtain⟨m_z8,d_z8,Q1⟩:=aM l_z8;have PJ:=bn3 Q1 "self" "cell" "counter" λ_ _ _ _ _ _ _ _ _=>rfl
 obtain⟨m_z9,d_z9,Q2⟩:=aM l_z9;have PK:=bn3 Q2 "self" "name" "worth" λ_ _ _ _ _ _ _ _ _=>rfl
 obtain⟨m_z10,d_z10,PN⟩:=aM l_z10;have Oo:=bn1 PN "self" λ_ _ _ _ _ _ _=>rfl
 obtain⟨m_z11,d_z11,PQ⟩:=aM l_z11;have Oq:=bn1 PQ "self" λ_ _ _ _ _ _ _=>rfl
 obtain⟨m_z12,d_z12,PR⟩:=aM l_z12;have Ot:=bn4 PR "self" "word" "name" "worth" λ_ _ _ _ _ _ _ _ _ _=>rfl
 obtain⟨m_z13,d_z13,PU⟩:=aM l_z13;have Ou:=bn4 PU "self" "word" "name" "worth" λ_ _ _ _ _ _ _ _ _ _=>rfl
 obtain⟨m_z14,d_z14,PX⟩:=ci X G l_z14;have Ov:=bn1 PX "story" λ_ _ _ _ _ _ _=>rfl
 obtain⟨m_z15,d_z15,PY⟩:=ci X G l_z15;have Ow:=bn3 PY "story" "laid" "fetched" λ_ _ _ _ _ _ _ _ _=>rfl
 obtain⟨m_z16,d_z16,PZ⟩:=aM l_z16;have Ox:=bn6 PZ "self" "store" "size" "rounds" "names" "faults" λ_ _ _ _ _ _ _ _ _ _ _ _=>rfl
 obtain⟨m_z17,d_z17,P0⟩:=aM l_z17;have Oy:=bn1 P0 "self" λ_ _ _ _ _ _ _=>rfl
 obtain⟨m_z18,d_z18,P1⟩:=aM l_z18;have Oz:=bn1 P1 "self" λ_ _ _ _ _ _ _=>rfl
 obtain⟨m_z19,d_z19,P2⟩:=aM l_z19;have OA:=bn2 P2 "self" "worth" λ_ _ _ _ _ _ _ _=>rfl
 obtain⟨m_z20,d_z20,P5⟩:=aM l_z20;have OC:=bn1 P5 "self" λ_ _ _ _ _ _ _=>rfl
 obtain⟨m_z21,d_z21,P6⟩:=aM l_z21;have OD:=bn1 P6 "self" λ_ _ _ _ _ _ _=>rfl
 obtain⟨m_z22,d_z22,P7⟩:=aM l_z22;have OE:=bn5 P7 "self" "store" "size" "rounds" "faults" λ_ _ _ _ _ _ _ _ _ _ _=>rfl
 obtain⟨m_z23,d_z23,P8⟩:=aM l_z23;have OF:=bn1 P8 "self" λ_ _ _ _ _ _ _=>rfl
 obtain⟨m_z24,d_z24,P9⟩:=aM l_z24;have OG:=bn2 P9 "self" "name" λ_ _ _ _ _ _ _ _=>rfl
 obtain⟨m_z25,d_z25,P'⟩:=aM l_z25;have OH:=bn3 P' "self" "name" "worth" λ_ _ _ _ _ _ _ _ _=>rfl
 obtain⟨m_z26,d_z26,Qa⟩:=aM l_z26;have OI:=bn1 Qa "self" λ_ _ _ _ _ _ _=>rfl
 obtain⟨m_z27,d_z27,Qb⟩:=aM l_z27;have OJ:=bn1 Qb "self" λ_ _ _ _ _ _ _=>rfl
 obtain⟨m_z28,d_z28,Qc⟩:=aM l_z28;have OK:=bn4 Qc "self" "side" "cell" "worth" λ_ _ _ _ _ _ _ _ _ _=>rfl
 obtain⟨m_z29,d_z29,Qd⟩:=aM l_z29;have OL:=bn2 Qd "self" "side" λ_ _ _ _ _ _ _ _=>rfl
 obtain⟨m_z30,d_z30,Qf⟩:=aM l_z30;have ON:=bn2 Qf "self" "side" λ_ _ _ _ _ _ _ _=>rfl
 obtain⟨m_z31,d_z31,Qg⟩:=aM l_z31;have OO:=bn3 Qg "self" "side" "cell" λ_ _ _ _ _ _ _ _ _=>rfl
 obtain⟨m_z32,d_z32,Qh⟩:=aM l_z32;have OP:=bn2 Qh "self" "cell" λ_ _ _ _ _ _ _ _=>rfl
 obtain⟨m_z33,d_z33,Qi⟩:=aM l_z33;have OQ:=bn2 Qi "self" "side" λ_ _ _ _ _ _ _ _=>rfl
 obtain⟨m_z34,d_z34,Qj⟩:=ci X G l_z34;have OR:=bn1 Qj "value" λ_ _ _ _ _ _ _=>rfl
 obtain⟨m_z35,d_z35,Qk⟩:=ci X G l_z35;have OS:=bn2 Qk "value" "kind" λ_ _ _ _ _ _ _ _=>rfl
 obtain⟨m_z36,d_z36,Ql⟩:=ci X G l_z36;have OT:=bn1 Ql "some" λ_ _ _ _ _ _ _=>rfl
 obtain⟨m_z37,d_z37,Qm⟩:=ci X G l_z37;have OU:=bn1 Qm "some" λ_ _ _ _ _ _ _=>rfl
 obtain⟨m_z38,d_z38,Qn⟩:=aM l_z38;have OV:=bn5 Qn "self" "size" "rounds" "names" "faults" λ_ _ _ _ _ _ _ _ _ _ _=>rfl
 obtain⟨m_z39,d_z39,Qo⟩:=aM l_z39;have OW:=bn2 Qo "self" "some" λ_ _ _ _ _ _ _ _=>rfl
 obtain⟨m_z40,d_z40,Qq⟩:=aM l_z40;have OY:=bn1 Qq "self" λ_ _ _ _ _ _ _=>rfl
 obtain⟨m_z41,d_z41,Qr⟩:=aM l_z41;have OZ:=bn2 Qr "self" "side" λ_ _ _ _ _ _ _ _=>rfl
 obtain⟨m_z42,d_z42,Qs⟩:=aM l_z42;have O0:=bn2 Qs "self" "side" λ_ _ _ _ _ _ _ _=>rfl
 obtain⟨m_z43,d_z43,Qt⟩:=aM l_z43;have O1:=bn1 Qt "self" λ_ _ _ _ _ _ _=>rfl
 obtain⟨m_z44,d_z44,Qu⟩:=aM l_z44;have O2:=bn1 Qu "self" λ_ _ _ _ _ _ _=>rfl
 obtain⟨m_z45,d_z45,Qv⟩:=aM l_z45;have O3:=bn2 Qv "self" "some" λ_ _ _ _ _ _ _ _=>rfl
 obtain⟨m_z46,d_z46,Qw⟩:=aM l_z46;have O4:=bn2 Qw "self" "worth" λ_ _ _ _ _ _ _ _=>rfl
 obtain⟨m_z47,d_z47,Qx⟩:=aM l_z47;have O5:=bn3 Qx "self" "name" "worth" λ_ _ _ _ _ _ _ _ _=>rfl
 obtain⟨m_z48,d_z48,Qy⟩:=aM l_z48;have O6:=bn3 Qy "self" "word" "told" λ_ _ _ _ _ _ _ _ _=>rfl
 obtain⟨m_z49,d_z49,Qz⟩:=aM l_z49;have O7:=bn2 Qz "self" "side" λ_ _ _ _ _ _ _ _=>rfl
 obtain⟨m_z50,d_z50,QB⟩:=aM l_z50;have O9:=bn2 QB "self" "side" λ_ _ _ _ _ _ _ _=>rfl
 obtain⟨m_z51,d_z51,QC⟩:=aM l_z51;have Pa:=bn2 QC "self" "side" λ_ _ _ _ _ _ _ _=>rfl
 obtain⟨m_z52,d_z52,QD⟩:=aM l_z52;have Pb:=bn2 QD "self" "side" λ_ _ _ _ _ _ _ _=>rfl
 obtain⟨m_z53,d_z53,QE⟩:=ci X G l_z53;have Pc:=bn1 QE "yard" λ_ _ _ _ _ _ _=>rfl
 obtain⟨m_z54,d_z54,QF⟩:=ci X G l_z54;have Pd:=bn2 QF "yard" "words" λ_ _ _ _ _ _ _ _=>rfl
 obtain⟨m_z55,d_z55,QG⟩:=ci X G l_z55;have Pe:=bn3 QG "yard" "story" "words" λ_ _ _ _ _ _ _ _ _=>rfl
 obtain⟨m_z56,d_z56,QH⟩:=ci X G l_z56;have Pf:=bn2 QH "yard" "side" λ_ _ _ _ _ _ _ _=>rfl
 obtain⟨m_z57,d_z57,QI⟩:=ci X G l_z57;have Pg:=bn1 QI "word" λ_ _ _ _ _ _ _=>rfl
 obtain⟨m_z58,d_z58,QJ⟩:=ci X G l_z58;have Ph:=bn2 QJ "word" "kind" λ_ _ _ _ _ _ _ _=>rfl
 obtain⟨m_z59,d_z59,QK⟩:=ci X G l_z59;have Pj:=bn2 QK "words" "kinds" λ_ _ _ _ _ _ _ _=>rfl
 obtain⟨m_z60,d_z60,QM⟩:=ci X G l_z60;have Pm:=bn1 QM "faults" λ_ _ _ _ _ _ _=>rfl
 obtain⟨m_z61,d_z61,QN⟩:=ci X G l_z61;have Pn:=bn1 QN "truth" λ_ _ _ _ _ _ _=>rfl
 obtain⟨m_z62,d_z62,QO⟩:=ci X G l_z62;have Po:=bn1 QO "part" λ_ _ _ _ _ _ _=>rfl
 obtain⟨m_z63,d_z63,QP⟩:=ci X G l_z63;have Pp:=bn2 QP "word" "told" λ_ _ _ _ _ _ _ _=>rfl
 obtain⟨m_z64,d_z64,QR⟩:=aM l_z64;have Pq:=bn1 QR "self" λ_ _ _ _ _ _ _=>rfl
 obtain⟨m_z65,d_z65,QS⟩:=aM l_z65;have Pt:=bn2 QS "self" "row" λ_ _ _ _ _ _ _ _=>rfl
 obtain⟨m_z66,d_z66,QT⟩:=aM l_z66;have Pu:=bn2 QT "self" "words" λ_ _ _ _ _ _ _ _=>rfl
 obtain⟨m_z67,d_z67,QU⟩:=aM l_z67;have Pw:=bn2 QU "self" "words" λ_ _ _ _ _ _ _ _=>rfl
 obtain⟨m_z68,d_z68,QV⟩:=aM l_z68;have Px:=bn2 QV "self" "words" λ_ _ _ _ _ _ _ _=>rfl
 obtain⟨m_z69,d_z69,QW⟩:=ci X G l_z69;have Py:=bn0 QW  λ_ _ _ _ _ _=>rfl
 obtain⟨m_z70,d_z70,QY⟩:=ci X G l_z70;have PB:=bn2 QY "desk" "row" λ_ _ _ _ _ _ _ _=>rfl
 obtain⟨m_z71,d_z71,QZ⟩:=ci X G l_z71;have PD:=bn1 QZ "desk" λ_ _ _ _ _ _ _=>rfl
 obtain⟨m_z72,d_z72,Q0⟩:=ci X G l_z72;have PF:=bn1 Q0 "script" λ_ _ _ _ _ _ _=>rfl
 let ad:Ad:=⟨f_z0,f_z1,f_z2,f_z3,f_z4,f_z5,f_z6,f_z7,f_z8,f_z9,f_z10,f_z11,f_z12,f_z13,f_z14,f_z15,f_z16,f_z17,f_z18,f_z19,f_z20,f_z21,f_z22,f_z23,f_z24,f_z25,f_z26,f_z27,f_z28,f_z29,f_z30,f_z31,f_z32,f_z33,f_z34,f_z35,f_z36,f_z37,f_z38,f_z39,f_z40,f_z41,f_z42,f_z43,f_z44,f_z45,f_z46,f_z47,f_z48,f_z49,f_z50,f_z51,f_z52,f_z53,f_z54,f_z55,f_z56,f_z57,f_z58,f_z59,f_z60,f_z61,f_z62,f_z63,f_z64,f_z65,f_z66,f_z67,f_z68,f_z69,f_z70,f_z71,fa,C_Ring,C_Judge,C_Hand,C_Heart,C_Store,C_Yard,C_Desk,C_RingError,C_Full,C_NoName,C_NoTask,C_NoDeed,C_NoRow,gP,bG,aI,de,lE,iC,fI,fF,fO,fN,fQ,fK,fB,fL,cm,cp,ck,cr,cn⟩
 let dd:Fd:=⟨d_z0,d_z1,d_z2,d_z3,d_z4,d_z5,d_z6,d_z7,d_z8,d_z9,d_z10,d_z11,d_z12,d_z13,d_z14,d_z15,d_z16,d_z17,d_z18,d_z19,d_z20,d_z21,d_z22,d_z23,d_z24,d_z25,d_z26,d_z27,d_z28,d_z29,d_z30,d_z31,d_z32,d_z33,d_z34,d_z35,d_z36,d_z37,d_z38,d_z39,d_z40,d_z41,d_z42,d_z43,d_z44,d_z45,d_z46,d_z47,d_z48,d_z49,d_z50,d_z51,d_z52,d_z53,d_z54,d_z55,d_z56,d_z57,d_z58,d_z59,d_z60,d_z61,d_z62,d_z63,d_z64,d_z65,d_z66,d_z67,d_z68,d_z69,d_z70,d_z71,d_z72⟩
 have GG:Gs K mg ad dd:=⟨PL,Ol,m_z0,PM,Om,m_z1,P4,OB,m_z2,Qe,OM,m_z3,Qp,OX,QA,O8,m_z5,QL,Pl,m_z6,QX,Pz,m_z7,Q1,PJ,m_z8,Q2,PK,m_z9,PN,Oo,m_z10,PQ,Oq,PR,Ot,m_z12,PU,Ou,m_z13,PX,Ov,m_z14,PY,Ow,m_z15,PZ,Ox,P0,Oy,m_z17,P1,Oz,m_z18,P2,OA,m_z19,P5,OC,m_z20,P6,OD,m_z21,P7,OE,P8,OF,m_z23,P9,OG,m_z24,P',OH,m_z25,Qa,OI,m_z26,Qb,OJ,Qc,OK,m_z28,Qd,OL,m_z29,Qf,ON,m_z30,Qg,OO,m_z31,Qh,OP,m_z32,Qi,OQ,m_z33,Qj,OR,m_z34,Qk,OS,m_z35,Ql,OT,m_z36,Qm,OU,m_z37,Qn,OV,Qo,OW,m_z39,Qq,OY,m_z40,Qr,OZ,m_z41,Qs,O0,m_z42,Qt,O1,m_z43,Qu,O2,m_z44,Qv,O3,m_z45,Qw,O4,m_z46,Qx,O5,m_z47,Qy,O6,m_z48,Qz,O7,m_z49,QB,O9,m_z50,QC,Pa,m_z51,QD,Pb,m_z52,QE,Pc,m_z53,QF,Pd,m_z54,QG,Pe,m_z55,QH,Pf,m_z56,QI,Pg,m_z57,QJ,Ph,m_z58,QK,Pj,m_z59,QM,Pm,m_z60,QN,Pn,m_z61,QO,Po,m_z62,QP,Pp,m_z63,QR,Pq,QS,Pt,m_z65,QT,Pu,m_z66,QU,Pw,m_z67,QV,Px,m_z68,QW,Py,m_z69,QY,PB,m_z70,QZ,PD,m_z71,Q0,PF,m_z72,q_Ring,p_Ring,r_Ring,na_Ring.1,na_Ring.2.1,na_Ring.2.2.1,na_Ring.2.2.2.1,na_Ring.2.2.2.2.1,na_Ring.2.2.2.2.2.1,na_Ring.2.2.2.2.2.2.1,na_Ring.2.2.2.2.2.2.2.1,q_Judge,p_Judge,r_Judge,na_Judge.1,na_Judge.2.1,na_Judge.2.2.1,na_Judge.2.2.2.1,q_Hand,p_Hand,r_Hand,na_Hand.1,na_Hand.2.1,na_Hand.2.2.1,na_Hand.2.2.2.1,q_Heart,p_Heart,r_Heart,na_Heart.1,na_Heart.2.1,na_Heart.2.2.1,q_Store,p_Store,r_Store,na_Store.1,na_Store.2.1,q_Yard,p_Yard,r_Yard,na_Yard.1,na_Yard.2.1,na_Yard.2.2.1,na_Yard.2.2.2.1,na_Yard.2.2.2.2.1,na_Yard.2.2.2.2.2.1,na_Yard.2.2.2.2.2.2.1,na_Yard.2.2.2.2.2.2.2.1,na_Yard.2.2.2.2.2.2.2.2.1,na_Yard.2.2.2.2.2.2.2.2.2.1,na_Yard.2.2.2.2.2.2.2.2.2.2.1,na_Yard.2.2.2.2.2.2.2.2.2.2.2.1,q_Desk,p_Desk,r_Desk,na_Desk.1,NC X G nn.1,NC X G nn.2.1,NC X G nn.2.2.1,NC X G nn.2.2.2.1,NC X G nn.2.2.2.2.1,NC X G nn.2.2.2.2.2.1,NC X G nn.2.2.2.2.2.2.1,NC X G nn.2.2.2.2.2.2.2.1,NC X G nn.2.2.2.2.2.2.2.2.1,NC X G nn.2.2.2.2.2.2.2.2.2.1,NC X G nn.2.2.2.2.2.2.2.2.2.2.1,NC X G nn.2.2.2.2.2.2.2.2.2.2.2.1,NC X G nn.2.2.2.2.2.2.2.2.2.2.2.2.1,NC X G nn.2.2.2.2.2.2.2.2.2.2.2.2.2.1,NC X G nn.2.2.2.2.2.2.2.2.2.2.2.2.2.2.1,mg_of X G aX_RingError,mg_of X G aX_Full,mg_of X G aX_NoName,mg_of X G aX_NoTask,mg_of X G aX_NoDeed,mg_of X G aX_NoRow,mg_of X G aT_ASKS,λ_=>.inr ⟨_,_,_,kT_ASKS,rfl,rfl,by show 3 <= LP;decide,(.cons ⟨_,rfl⟩ (.cons ⟨_,rfl⟩ (.cons ⟨_,rfl⟩ .nil)))⟩,mg_of X G aT_ANSWERS,λ_=>.inr ⟨_,_,_,kT_ANSWERS,rfl,rfl,by show 3 <= LP;decide,(.cons ⟨_,rfl⟩ (.cons ⟨_,rfl⟩ (.cons ⟨_,rfl⟩ .nil)))⟩,mg_of X G aT_SLEEP_CELLS,λ_=>.inr ⟨_,_,_,kT_SLEEP_CELLS,rfl,rfl,by show 2 <= LP;decide,(.cons ⟨_,rfl⟩ (.cons ⟨_,rfl⟩ .nil))⟩,mg_of X G aT_FAULTS,λ_=>.inr ⟨_,_,_,kT_FAULTS,rfl,rfl,by show 5 <= LP;decide,(.cons ⟨_,rfl⟩ (.cons ⟨_,rfl⟩ (.cons ⟨_,rfl⟩ (.cons ⟨_,rfl⟩ (.cons ⟨_,rfl⟩ .nil)))))⟩,⟨_,mg_of X G aI_MOST_WORTH⟩,⟨_,mg_of X G aI_MOST_FIGURES⟩,⟨_,mg_of X G aI_FIGURES⟩,mg_of X G aT_FORMS,⟨kN_FORMS,_,_,_,kT_FORMS,⟨rfl,rfl,rfl⟩,rfl,(.cons rfl rfl (.cons rfl rfl (.cons rfl rfl (.cons rfl rfl (.cons rfl rfl (.cons rfl rfl (.cons rfl rfl (.cons rfl rfl .nil))))))))⟩,λ_=>.inr ⟨_,_,_,kV0_FORMS,rfl,rfl,by show 1 <= LP;decide,(.cons ⟨_,rfl⟩ .nil)⟩,λ_=>.inr ⟨_,_,_,kV1_FORMS,rfl,rfl,by show 0 <= LP;decide,.nil⟩,λ_=>.inr ⟨_,_,_,kV2_FORMS,rfl,rfl,by show 0 <= LP;decide,.nil⟩,λ_=>.inr ⟨_,_,_,kV3_FORMS,rfl,rfl,by show 2 <= LP;decide,(.cons ⟨_,rfl⟩ (.cons ⟨_,rfl⟩ .nil))⟩,λ_=>.inr ⟨_,_,_,kV4_FORMS,rfl,rfl,by show 1 <= LP;decide,(.cons ⟨_,rfl⟩ .nil)⟩,λ_=>.inr ⟨_,_,_,kV5_FORMS,rfl,rfl,by show 1 <= LP;decide,(.cons ⟨_,rfl⟩ .nil)⟩,λ_=>.inr ⟨_,_,_,kV6_FORMS,rfl,rfl,by show 1 <= LP;decide,(.cons ⟨_,rfl⟩ .nil)⟩,λ_=>.inr ⟨_,_,_,kV7_FORMS,rfl,rfl,by show 1 <= LP;decide,(.cons ⟨_,rfl⟩ .nil)⟩,mg_of X G aT_BOUNDS,⟨kN_BOUNDS,_,_,_,kT_BOUNDS,⟨rfl,rfl,rfl⟩,rfl,(.cons rfl rfl (.cons rfl rfl (.cons rfl rfl (.cons rfl rfl (.cons rfl rfl .nil)))))⟩,λ_=>.inr ⟨_,_,_,kV0_BOUNDS,rfl,rfl,by show 2 <= LP;decide,(.cons ⟨_,rfl⟩ (.cons ⟨_,rfl⟩ .nil))⟩,λ_=>.inr ⟨_,_,_,kV1_BOUNDS,rfl,rfl,by show 2 <= LP;decide,(.cons ⟨_,rfl⟩ (.cons ⟨_,rfl⟩ .nil))⟩,λ_=>.inr ⟨_,_,_,kV2_BOUNDS,rfl,rfl,by show 2 <= LP;decide,(.cons ⟨_,rfl⟩ (.cons ⟨_,rfl⟩ .nil))⟩,λ_=>.inr ⟨_,_,_,kV3_BOUNDS,rfl,rfl,by show 2 <= LP;decide,(.cons ⟨_,rfl⟩ (.cons ⟨_,rfl⟩ .nil))⟩,λ_=>.inr ⟨_,_,_,kV4_BOUNDS,rfl,rfl,by show 2 <= LP;decide,(.cons ⟨_,rfl⟩ (.cons ⟨_,rfl⟩ .nil))⟩,xc_Full,xc_NoName,xc_NoTask,xc_NoDeed,xc_NoRow,⟨xk_ga_NoRow,xk_gt_NoRow,xk_cl_NoRow,xk_ob_NoRow,xk_be_NoRow,xk_is_NoRow⟩,mo_em_f,mo_em_n,mo_em_t,mo_em_d,mo_em_r,mo_ki_1,mo_ki_2,mo_ki_3⟩
 refine⟨dd.law,?_,λbase _ _=>HG GG⟩;obtain⟨_,_,_,_,_,_,_,_,_,e,_⟩:=Q0.ex;intro s v;show BindsTo s d_z72 _ _;rw[e];exact .of_eq rfl
def walk {l:PySem.W.OpenLaw}{q:Mg}{loose:List Str}{XP:(Str->Option G')->Mi->Prop}{YP:LZ->Mi->Prop}{d:DefRec}{K:Params->LN}(hn:l.most=f' 63) (hdf:d.params.defaults=[])
 (hY:∀ (w:LZ) (h:Mi),YP w h->(K w.params).In h)
 (F:∀ (w:LZ) (mg:Str->Option G') (fa:D') (h:Mi),(K w.params).In h->h.Ns Mt mg->mg d.name=f' (.ref fa) ->
  ∃ fd:LX,(∀ (s:LK) (u:G'),BindsTo s fd ⟨[u],[]⟩ [("script",u)])/\∀ base:Mi,(K w.params).In base->base.Ns Mt mg->FnOk l.prog w (K w.params) mg base CX0 17 fa fd ["script"] (xY (K w.params))) :
 PySem.W.WalkO q loose XP YP l.row.toRowW d [] (λf vs=>PySem.call f vs) :=
 L2.walk_of (n:=63) (k:=17) (x:="script") (CX:=λ_=>CX0) (sp:=λw=>xY (K w.params)) hn (by decide) hdf ⟨rfl,by decide,by decide⟩ hY F (λ_ _ a ns hl _ hS=>⟨a,ns,rfl,hS,hl,λ_=>rfl⟩) λ_ _ _ _ _ z=>z
end
end My
open PySem PySem.W PyProof.Rows
set_option maxRecDepth 100000 in
set_option maxHeartbeats 0 in
theorem PySem.Challenge.cw_askring_k38_rows_refused_holds : PySem.Challenge.rw_askring_k38_rows_refused.Holds := by
  w_on; o_law; k_head; (case hw => w_witness2)
  k_fill
  refine My.walk (l := PySem.Challenge.rw_askring_k38_rows_refused) rfl rfl (fun w h Y => PySem.W.kIn_of Y) ?F
  case F =>
    intro w mg fa h KX G hmg;refine' My.all_mk KX G hmg ?aC_Ring ?aC_Judge ?aC_Hand ?aC_Heart ?aC_Store ?aC_Yard ?aC_Desk ?l_z0 ?l_z1 ?l_z2 ?l_z3 ?l_z4 ?l_z5 ?l_z6 ?l_z7 ?l_z8 ?l_z9 ?l_z10 ?l_z11 ?l_z12 ?l_z13 ?l_z14 ?l_z15 ?l_z16 ?l_z17 ?l_z18 ?l_z19 ?l_z20 ?l_z21 ?l_z22 ?l_z23 ?l_z24 ?l_z25 ?l_z26 ?l_z27 ?l_z28 ?l_z29 ?l_z30 ?l_z31 ?l_z32 ?l_z33 ?l_z34 ?l_z35 ?l_z36 ?l_z37 ?l_z38 ?l_z39 ?l_z40 ?l_z41 ?l_z42 ?l_z43 ?l_z44 ?l_z45 ?l_z46 ?l_z47 ?l_z48 ?l_z49 ?l_z50 ?l_z51 ?l_z52 ?l_z53 ?l_z54 ?l_z55 ?l_z56 ?l_z57 ?l_z58 ?l_z59 ?l_z60 ?l_z61 ?l_z62 ?l_z63 ?l_z64 ?l_z65 ?l_z66 ?l_z67 ?l_z68 ?l_z69 ?l_z70 ?l_z71 ?l_z72 ?na_Ring ?na_Judge ?na_Hand ?na_Heart ?na_Store ?na_Yard ?na_Desk ?nn ?aX_RingError ?aX_Full ?aX_NoName ?aX_NoTask ?aX_NoDeed ?aX_NoRow ?aT_ASKS ?kT_ASKS ?aT_ANSWERS ?kT_ANSWERS ?aT_SLEEP_CELLS ?kT_SLEEP_CELLS ?aT_FAULTS ?kT_FAULTS ?aI_MOST_WORTH ?aI_MOST_FIGURES ?aI_FIGURES ?aT_FORMS ?kT_FORMS ?kN_FORMS ?kV0_FORMS ?kV1_FORMS ?kV2_FORMS ?kV3_FORMS ?kV4_FORMS ?kV5_FORMS ?kV6_FORMS ?kV7_FORMS ?aT_BOUNDS ?kT_BOUNDS ?kN_BOUNDS ?kV0_BOUNDS ?kV1_BOUNDS ?kV2_BOUNDS ?kV3_BOUNDS ?kV4_BOUNDS ?xc_Full ?xc_NoName ?xc_NoTask ?xc_NoDeed ?xc_NoRow ?xk_ga_NoRow ?xk_gt_NoRow ?xk_cl_NoRow ?xk_ob_NoRow ?xk_be_NoRow ?xk_is_NoRow ?mo_em_f ?mo_em_n ?mo_em_t ?mo_em_d ?mo_em_r ?mo_ki_1 ?mo_ki_2 ?mo_ki_3
    (case aC_Ring | aC_Judge | aC_Hand | aC_Heart | aC_Store | aC_Yard | aC_Desk => refine' ⟨?ka, ⟨?kb, ?kc, ?kd, ?ke⟩, ?kg, ?kh⟩; (case ka => k_is); (case kb => k_is); (case kc => k_is); (case kd => k_is); (case ke => k_is); (case kg => k_is); (case kh => k_is))
    (case l_z0 | l_z1 | l_z2 | l_z3 => refine' ⟨?ka, _, L2.fun_mk ?kb ?kc ?kd⟩; (case ka => k_is); (case kb => k_is); (case kc => k_is); (case kd => k_is))
    (case l_z4 | l_z5 | l_z6 | l_z7 | l_z8 | l_z9 | l_z10 | l_z11 | l_z12 | l_z13 => refine' ⟨?ka, ?ke, _, L2.fun_mk ?kb ?kc ?kd⟩; (case ka => k_is); (case ke => k_is); (case kb => k_is); (case kc => k_is); (case kd => k_is))
    (case l_z14 | l_z15 => refine' ⟨?ka, _, L2.fun_mk ?kb ?kc ?kd⟩; (case ka => k_is); (case kb => k_is); (case kc => k_is); (case kd => k_is))
    (case l_z16 | l_z17 | l_z18 | l_z19 | l_z20 | l_z21 | l_z22 | l_z23 | l_z24 | l_z25 | l_z26 | l_z27 | l_z28 | l_z29 | l_z30 | l_z31 | l_z32 | l_z33 => refine' ⟨?ka, ?ke, _, L2.fun_mk ?kb ?kc ?kd⟩; (case ka => k_is); (case ke => k_is); (case kb => k_is); (case kc => k_is); (case kd => k_is))
    (case l_z34 | l_z35 | l_z36 | l_z37 => refine' ⟨?ka, _, L2.fun_mk ?kb ?kc ?kd⟩; (case ka => k_is); (case kb => k_is); (case kc => k_is); (case kd => k_is))
    (case l_z38 | l_z39 | l_z40 | l_z41 | l_z42 | l_z43 | l_z44 | l_z45 | l_z46 | l_z47 | l_z48 | l_z49 | l_z50 | l_z51 | l_z52 => refine' ⟨?ka, ?ke, _, L2.fun_mk ?kb ?kc ?kd⟩; (case ka => k_is); (case ke => k_is); (case kb => k_is); (case kc => k_is); (case kd => k_is))
    (case l_z53 | l_z54 | l_z55 | l_z56 | l_z57 | l_z58 | l_z59 | l_z60 | l_z61 | l_z62 | l_z63 => refine' ⟨?ka, _, L2.fun_mk ?kb ?kc ?kd⟩; (case ka => k_is); (case kb => k_is); (case kc => k_is); (case kd => k_is))
    (case l_z64 | l_z65 | l_z66 | l_z67 | l_z68 => refine' ⟨?ka, ?ke, _, L2.fun_mk ?kb ?kc ?kd⟩; (case ka => k_is); (case ke => k_is); (case kb => k_is); (case kc => k_is); (case kd => k_is))
    (case l_z69 | l_z70 | l_z71 | l_z72 => refine' ⟨?ka, _, L2.fun_mk ?kb ?kc ?kd⟩; (case ka => k_is); (case kb => k_is); (case kc => k_is); (case kd => k_is))
    (case na_Ring | na_Judge | na_Hand | na_Heart | na_Store | na_Yard | na_Desk => repeat (first | exact trivial | (refine' And.intro ?ka ?_; (case ka => (show PySem.W.findIn _ _ _ = _); k_is))))
    (case nn => repeat (first | exact trivial | (refine' And.intro ?ka ?_; (case ka => k_is))))
    (case aX_RingError | aX_Full | aX_NoName | aX_NoTask | aX_NoDeed | aX_NoRow | aT_ASKS | kT_ASKS | aT_ANSWERS | kT_ANSWERS | aT_SLEEP_CELLS | kT_SLEEP_CELLS | aT_FAULTS | kT_FAULTS | aI_MOST_WORTH | aI_MOST_FIGURES | aI_FIGURES | aT_FORMS | kT_FORMS => k_is)
    (case kN_FORMS => first | rfl | decide)
    (case kV0_FORMS | kV1_FORMS | kV2_FORMS | kV3_FORMS | kV4_FORMS | kV5_FORMS | kV6_FORMS | kV7_FORMS | aT_BOUNDS | kT_BOUNDS => k_is)
    (case kN_BOUNDS => first | rfl | decide)
    (case kV0_BOUNDS | kV1_BOUNDS | kV2_BOUNDS | kV3_BOUNDS | kV4_BOUNDS => k_is)
    (case xc_Full | xc_NoName | xc_NoTask | xc_NoDeed | xc_NoRow => k_exc)
    (case xk_ga_NoRow | xk_gt_NoRow | xk_cl_NoRow | xk_ob_NoRow | xk_be_NoRow | xk_is_NoRow => k_is)
    (case mo_em_f | mo_em_n | mo_em_t | mo_em_d | mo_em_r => kts_exm)
    (case mo_ki_1 | mo_ki_2 | mo_ki_3 => kit_is)
#print axioms PySem.Challenge.cw_askring_k38_rows_refused_holds

